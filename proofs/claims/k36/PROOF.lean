import PyProof.Rows.All
import Wide.All
import OpenK.AllK
import Wide.FinOn
import Lean
import PyProof.EqAt
import PyProof.EqKinds
import PyProof.TupleCall
import KE.KLam
import KE.KNest
import KE.KNestM
import PySem.Challenge.RW_wholeowners_k36_whole_least_shut_lots
open PySem.W renaming Frag→aa,findIn→ar,nsIn→aw,keepIn→az,codeIn→aG,mg_of→aK,mg_none_of→bB,mroIn→bK,tabIn→bW,isFn→b9,emptyDict→cx,excIn→cK,kla_obj→cV,instObj→cW,fnOf→dQ,plainGet→eU,specialIn→fI,hasDictIn→fJ,OpenLaw→fY,hideAll→ge,tabObj→gA,lookIn→gB,plainGet_of→gJ,callWith_K→gN,plainOver→gS,methodObj→gT,codeHdIn→g9,takesIn→im,takerIn→io,makesIn→ip,cellsFrom_some→iW,methodCall_KW→i5,hideAll_get→jj,callWith_K0→jk,of_hideAll→jx,handedIn→jP,WalkO→jQ
open PySem renaming Addr→ae,Value→af,Shared→al,mainGlobals→aq,wpAny_bind→aF,starEach→aP,sizeLine→aQ,Program→aU,wpAny_pure→aX,wpAny→bj,Expr→bo,World→bw,Around→bL,Heap→bM,bootBuiltins→bR,mem_of_lookup→bS,compareOp→bT,FuncData→bV,Stmt→bX,wpAny_mono→cr,backTo→cA,wpAny_Call_Name_kw→cG,assignEach→cH,behindInMarks→cI,foldedSetIterable→cN,binaryOp→cY,wpAny_truthy_bool→de,keywordEach→dg,cLine→dq,builtinsNs→dL,wpAny_passesOwn→dP,Scope→dR,NameKind→dS,wpAny_holding→dU,rawInt→dX,wpAny_newObj_type→d6,sysModules→eA,attributeBase→eM,tupleKind_room_in1→eT,wpAny_pyIter_list→e8,codeAny_mono→e9,backToKw→fb,swapsWith→fA,Paired→fB,sliceBounds→fF,Spec→fG,codeAny→fT,Keyword→fU,getMethod→fX,standAt→gs,swapsWithSole→gw,swappedStores→gz,scanBound→gH,reprText→gI,wpAny_execs_nil→gQ,strIterType→g8,valueAt→ia,tupleKind→ib,getItem→ie,codeAmong→ig,TriplesOk→ii,Arguments→ik,wpAny_standAt→iy,CmpOp→iz,callerA→iK,callWith→iL,BindsTo→iO,IsPart→iY,sizeLine_eq→i4,letOwnedTupleGo→je,codeAny_builtin→jf,Within→jg,wpAny_call→jv,atKey→jw,wpAny_comprehension_free→jL,call→jM,assignInOrder→jN,bindL→j3,bindC→j4
open List renaming mem_cons_of_mem→ag,mem_cons→ai,length_map→aj,mem_map→ak,mem_cons_self→am,getElem?_cons_zero→ao,getElem?_cons_succ→ap,map_cons→au,mem_singleton→ax,length_cons→aB,length_append→aC,mem_append_right→aI,nodup_cons→aN,mem_append→aO,map_map→aS,size_toArray→aT,replicate→aV,getElem?_eq_some_iff→aW,map_append→aY,length_nil→a8,mem_filter→bg,getElem?_eq_getElem→bh,getElem?_map→bi,nodup_append→br,find?_cons→bA,lookup_cons→bE,mem_append_left→bH,append_assoc→bI,append_nil→bO,flatten_cons→bQ,map_congr_left→bU,nil_append→bY,length_filter_le→ca,mem_range→ce,length_take→cg,cons_append→ci,find?_eq_none→cj,mem_of_getElem?→ck,getElem_mem→cm,all_eq_true→cn,range→cy,lookup→cB,replicate_succ→cM,map_nil→cO,filter_cons→cQ,any_eq_true→cR,pairwise_cons→cS,nodup_nil→cT,take_add_one→cZ,length→dC,drop_eq_nil_of_le→dD,filter_map→dG,length_singleton→dJ,reverse_cons→dN,take_length→d7,mem_of_find?_eq_some→d8,filter_eq_self→eg,filterMap_cons→en,map_take→eB,any_cons→eC,take_sublist→eR,length_range→eS,not_mem_nil→eY,reverse_reverse→fm,map_id→ft,length_pos_iff→fC,all_map→fE,nodup_iff_pairwise_ne→fM,getElem?_append_right→fN,find?_map→fO,getElem?_append_left→fR,drop_eq_getElem_cons→fS,find?_append→fW,length_drop→gi,any_map→gv,foldl_cons→gD,find?_some→gE,length_reverse→gR,all_cons→gW,set_cons_zero→gY,set_cons_succ→gZ,mem_filterMap→g6,map_fst_zip→iB,eq_nil_of_length_eq_zero→iE,of_mem_zip→iH,perm_ext_iff_of_nodup→iU,getElem?_replicate→jh,take_of_length_le→jq,range_succ_eq_map→jr,getElem?_set_self→js,take_append_drop→jA,getElem?_eq_none→jB,cons_lt_cons_iff→jC,mem_iff_getElem→jG,getElem?_set_ne→jH,getElem?_of_mem→jI,drop_eq_nil_iff→jJ,getElem?_range→jW,flatten_append→jX,getElem?_take→j8,foldl→j9,filter_filter→ka
open And renaming intro→ah
open PySem.Heap renaming get?_push_of_some→av,lt_size→aH,get?_push_size→ba,SameBut→ij,get?_update_other→jm
open Nat renaming lt_of_lt_of_le→ay,le_refl→aA,le_trans→aJ,ne_of_lt→aR,lt_of_le_of_lt→bc,zero_le→bD,pow_le_pow_right→cq,lt_irrefl→cE,le_of_lt→cF,lt_succ_self→di,two_pow_pos→eI,le_succ→eL,lt_trans→fH,eq_of_mul_eq_mul_left→fV,le_of_not_lt→gr,lt_succ_of_lt→ir,le_antisymm→iP,le_of_eq→jz,mul_le_mul_left→j6,add_le_add_left→j7
open PySem.Str renaming ofString→aD,empty→fc,join→iX
open Sum renaming inr→aE,inl→il
open Int renaming mul_le_mul_of_nonneg_right→aL,gcd→aM,mul_assoc→a9,le_of_lt→bu,mul_comm→bz,mul_pos→bF,gcd_pos_of_ne_zero_right→bZ,gcd_dvd_right→cJ,emod_lt_of_pos→cU,mul_right_comm→dE,emod_nonneg→dI,le_of_mul_le_mul_right→dZ,le_trans→d9,mul_ediv_cancel_left→eE,mul_nonpos_of_nonpos_of_nonneg→eJ,mul_nonpos_of_nonneg_of_nonpos→eK,mul_nonneg→eV,mul_left_comm→eW,natAbs_dvd_natAbs→eZ,gcd_dvd_left→fk,eq_of_mul_eq_mul_right→fP,natAbs_neg→gO,natAbs_mul→gP,toNat_natCast→iu,ofNat_le→iw,gcd_mul_left→iF,neg_mul→iI,ediv_eq_of_eq_mul_right→iV,fdiv_eq_ediv_of_nonneg→i0,mul_neg_of_neg_of_pos→jb,mul_one→jY,add_mul→jZ
open Option.some renaming inj→aZ
open Bool renaming false_ne_true→a7,and_eq_true→bJ,eq_iff_iff→bP,eq_false_iff→cz,true_and→cP,or_eq_true→dH,false_and→dW,false_or→gb,false_eq_true→ke
open Or renaming inl→bv,inr→dO
open PySem.NameKind renaming free→bC,cell→fK
open False renaming elim→bG
open PySem.Value renaming ref→bN,str→gK,int→iq,type→iM,none→jR,bool→jS
open PySem.F renaming called_set→cC,slot_dict_get→gk,excBase_ValueError→iC,slot_dict_getitem→iG,plainAttrs_dict→iR,args_dict_get_3→iS,entry_dict_get→iZ,slot_dict_pop→i9,slot_list_append→jy
open PySem.Builtin renaming bitAnd→cD
open PySem.PyData renaming strOk→cL,eqv→du,eqvAll→fQ,str→gf,canLay0→gF,depth→gX,canLayAll0→jU
open Option renaming isSome_map→cX,map_eq_some_iff→dz,isSome_iff_exists→ee,isSome_eq_false_iff→fD,isNone_iff_eq_none→fL,map_eq_none_iff→gh,getD_none→j5
open Classical renaming propDecidable→db,choose_spec→gd,choose→jD
open PyProof.Rows renaming slot_tuple_getitem→dw,envOfC→dY,callWith_type1→eX,AllBare→gu,callWith_builtin1→gM,subscriptTail→iA,assignInOrder_cons→iD
open PySem.Calls renaming spliced_cons→dA,spliced_nil→eO,evalArgs_plain→fg,callWith_builtin→gn,Name_function_global→iN,Constant_str→jV
open PySem.Builtin.Slice renaming slicePlaces→dF,sliceAdjust→fj,sliceApplied→gU
open PySem.Builtin.Tuple renaming tupleExact→dM
open True renaming intro→eG
open PySem.Spec renaming ltCps→fe
open PySem.Builtin.List renaming listTooLong→fu
open Array renaming length_toList→fw,toList_append→jK,append_assoc→j0
open ForInStep renaming yield→fZ
open Rat renaming add_assoc→gc,divInt_nonneg_iff_of_pos_right→g7,zero_divInt→iJ,divInt_eq_divInt_iff→jd,zero_add→jt,add_zero→ju,divInt_add_divInt→jE
open PySem.Txt renaming join→gj
open PyProof.Rows.F renaming plain_set_update_loop→gC,entry_set_update_loop→jF
open Ne renaming symm→gG
open PySem.Expr renaming Subscript→gL
open PySem.PassesOwn renaming never→hJ
open PySem.Obj renaming mapSeq→hZ
open PySem.Paired renaming length→iQ,snoc→jl
open PySem.Builtin.Int renaming intBits→iT
open PySem.SeqAt.EqAt renaming str_int→i7,int_str→i8
open PySem.Around renaming under→ja,under_plainId→jo,frames_deeper→jp
open Sum.inr renaming inj→jc
open PySem.Code renaming isFrame→jn
open PySem.Walks renaming list→jO
open PySem.SeqAt renaming EqAt→jT
noncomputable section
set_option Elab.async false
set_option linter.all false
set_option maxRecDepth 100000
namespace L2
open PySem PySem.Spec PyProof.Rows
abbrev Key:=Sum Int Str
def v6:Key→af→Bool
 | .inl k,v=>Value.isInt k v
 | .inr x,v=>Value.isStrOf x v
def keyH (w:bw):Key→Int
 | .inl k=>hashInt k
 | .inr x=>hashStr w x
theorem k6:∀ {k:Key}{v:af},v6 k v=true→(∃ i t,k=il i∧v=iq i t)∨(∃ x t,k=aE x∧v=gK x t)
 | .inl i,v,h=>by
  obtain ⟨t,e⟩:=Value.isInt_shape (k:=i) (v:=v) h
  exact .inl ⟨i,t,rfl,e⟩
 | .inr x,v,h=>by
  obtain ⟨t,e⟩:=Value.isStrOf_shape (x:=x) (v:=v) h
  exact .inr ⟨x,t,rfl,e⟩
theorem BL (i:Int) (t:Tok):v6 (.inl i) (.int i t)=true:=by simp [v6,Value.isInt]
theorem BJ (x:Str) (t:Tok):v6 (.inr x) (.str x t)=true:=by simp [v6,Value.isStrOf]
theorem Hr (a b:Int):decide ((il a:Key)=il b)=(a == b):=by
 by_cases e:a=b
 ·subst e;simp
 ·have h:¬ (il a:Key)=il b:=fun q=>e (Sum.inl.inj q)
  rw [decide_eq_false h]
  exact (beq_eq_false_iff_ne.mpr e).symm
theorem vT (a b:Str):decide ((aE a:Key)=aE b)=decide (a=b):=by
 by_cases e:a=b
 ·subst e;simp
 ·have h:¬ (aE a:Key)=aE b:=fun q=>e (jc q)
  rw [decide_eq_false h,decide_eq_false e]
theorem Hq (a:Int) (b:Str):decide ((il a:Key)=aE b)=false:=decide_eq_false (fun q=>nomatch q)
theorem Ho (a:Str) (b:Int):decide ((aE a:Key)=il b)=false:=decide_eq_false (fun q=>nomatch q)
def k8 (prog:aU) (w:bw):PySem.KeyKind prog w Key where
 is:=v6
 hash:=keyH w
 inj:=fun v a b ha hb=>by
  rcases k6 ha with ⟨i,t,rfl,rfl⟩ | ⟨x,t,rfl,rfl⟩
  ·rcases k6 hb with ⟨j,u,rfl,e⟩ | ⟨y,u,rfl,e⟩
   ·injection e with e1 _;rw [e1]
   ·exact nomatch e
  ·rcases k6 hb with ⟨j,u,rfl,e⟩ | ⟨y,u,rfl,e⟩
   ·exact nomatch e
   ·injection e with e1 _;rw [e1]
 byValue:=fun k v h=>by
  rcases k6 h with ⟨i,t,rfl,rfl⟩ | ⟨x,t,rfl,rfl⟩ <;> rfl
 pyHash:=fun hv h=>by
  rcases k6 hv with ⟨i,t,rfl,rfl⟩ | ⟨x,t,rfl,rfl⟩
  ·exact wpAny_pyHash_int h
  ·exact wpAny_pyHash_str h
 eqBool:=fun hu hv h=>by
  rcases k6 hu with ⟨i,t,rfl,rfl⟩ | ⟨x,t,rfl,rfl⟩
  ·rcases k6 hv with ⟨j,u,rfl,rfl⟩ | ⟨y,u,rfl,rfl⟩
   ·rw [Hr] at h;exact wpAny_eqBool_int h
   ·rw [Hq] at h;exact i8 i t y u _ _ _ _ h
  ·rcases k6 hv with ⟨j,u,rfl,rfl⟩ | ⟨y,u,rfl,rfl⟩
   ·rw [Ho] at h;exact i7 x t j u _ _ _ _ h
   ·rw [vT] at h;exact wpAny_eqBool_str h
 «strs»:=fun k x t v h=>by
  rcases k6 h with ⟨i,u,rfl,e⟩ | ⟨y,u,rfl,e⟩
  ·exact nomatch e
  ·injection e with e1 _
   subst e1
   cases v <;> rfl
theorem yw (prog:aU) (w:bw) (i:Int) (t:Tok):(k8 prog w).is (.inl i) (.int i t)=true:=BL i t
theorem yv (prog:aU) (w:bw) (x:Str) (t:Tok):(k8 prog w).is (.inr x) (.str x t)=true:=BJ x t
inductive V where
 | non | bl (b:Bool) | int (i:Int) | str (x:Str) | byt (b:Array UInt8) | flt (b:UInt64) | ref (a:ae) | ty (n:String)
 deriving DecidableEq
def RelV:V→af→Prop
 | .non,u=>u=jR
 | .bl b,u=>u=jS b
 | .int i,u=>∃ t,u=iq i t
 | .str x,u=>∃ t,u=gK x t
 | .byt b,u=>∃ t,u=Value.bytes b t
 | .flt b,u=>∃ t,u=Value.float b t
 | .ref a,u=>u=bN a
 | .ty n,u=>u=iM n
abbrev Vals:List V→List af→Prop:=fB RelV
theorem Vals.length {xs:List V}{us:List af} (r:Vals xs us):xs.length=us.length:=iQ r
theorem Vals.get:∀ {xs:List V}{us:List af}{i:Nat}{x:V},Vals xs us→xs[i]?=some x→∃ u,us[i]?=some u∧RelV x u
 | _,_,_,_,.nil,e=>by simp at e
 | _,_,0,_,.cons r _,e=>by simp at e;subst e;exact ⟨_,rfl,r⟩
 | _,_,i+1,x,.cons _ t,e=>by
  obtain ⟨u,h1,h2⟩:=Vals.get (i:=i) (x:=x) t (by simpa using e)
  exact ⟨u,by simpa using h1,h2⟩
theorem Vals.set {x:V}{u:af} (r:RelV x u):∀ {xs:List V}{us:List af} (i:Nat),Vals xs us→Vals (xs.set i x) (us.set i u)
 | _,_,_,.nil=>.nil
 | _,_,0,.cons _ t=>.cons r t
 | _,_,i+1,.cons q t=>.cons q (Vals.set r i t)
theorem Vals.append:∀ {xs ys:List V}{us ws:List af},Vals xs us→Vals ys ws→Vals (xs++ys) (us++ws)
 | _,_,_,_,.nil,s=>s
 | _,_,_,_,.cons r t,s=>.cons r (Vals.append t s)
theorem Vals.take:∀ {xs:List V}{us:List af} (n:Nat),Vals xs us→Vals (xs.take n) (us.take n)
 | _,_,0,_=>.nil
 | _,_,_+1,.nil=>.nil
 | _,_,n+1,.cons r t=>.cons r (Vals.take n t)
theorem Vals.drop:∀ {xs:List V}{us:List af} (n:Nat),Vals xs us→Vals (xs.drop n) (us.drop n)
 | _,_,0,r=>r
 | _,_,_+1,.nil=>.nil
 | _,_,n+1,.cons _ t=>Vals.drop n t
def RelO:Option V→Option af→Prop
 | some v,some u=>RelV v u
 | none,none=>True
 | _,_=>False
def KV {κ:Type}:List (κ×V)→List (κ×af)→Prop:=fB fun (p:κ×V) (q:κ×af)=>p.1=q.1∧RelV p.2 q.2
def kV:Key→V
 | .inl i=>.int i
 | .inr x=>.str x
inductive HO where
 /-- a list -/
 | lst (xs:List V)
 /-- a tuple (never changes) -/
 | tup (xs:List V)
 /-- a dict whose keys are ints and texts;one whose keys are tuples of ints and texts (the empty one is both) -/
 | dK (kvs:List (Key×V)) | dT (kvs:List (List Key×V))
 /-- a set of ints: its members,its size -/
 | set (S:Int→Bool) (n:Nat)
 /-- an instance of the class at C,its dict at dx,its attributes -/
 | ins (C dx:ae) (fs:List (Str×V))
 /-- the dict of the instance at x -/
 | own (x:ae)
 /-- the dict of an exception -/
 | xd (fs:List (Str×V))
 /-- a bound method,f of x -/
 | met (f x:ae)
 /-- a range object lo,lo+1,.. below hi -/
 | rng (lo hi:Int)
 /-- a thing that is known to the object (the script;a dict while a loop walks it): read,never written while it is so -/
 | frz (o:Obj) (u:HO)
 /-- a code object's table -/
 | tbl (ps:Array af)
 /-- any other thing,by what is true of its one object (a def of one's own: SetO a S n:=HO.ext fun h=>..) -/
 | ext (φ:bM→Prop)
abbrev Hp:=ae→Option HO
def upd (H:Hp) (a:ae) (o:HO):Hp:=fun b=>if b=a then some o else H b
theorem km {H:Hp}{a:ae}{o:HO}:upd H a o a=some o:=by unfold upd;rw [if_pos rfl]
theorem ki {H:Hp}{a b:ae}{o:HO} (h:b≠a):upd H a o b=H b:=by unfold upd;rw [if_neg h]
theorem EK {H:Hp}{a:ae}{o u:HO}:upd (upd H a o) a u=upd H a u:=by
 funext b;unfold upd;split <;> rfl
theorem zX {H:Hp}{a b:ae}{o u:HO} (h:H a=some o) (h':H b=some u) (d:o≠u):a≠b:=by
 intro e;subst e;rw [h] at h';exact d (aZ h')
theorem ky {H:Hp}{a b:ae}{o:HO} (h:H a=some o) (h':H b=none):a≠b:=by
 intro e;subst e;rw [h] at h';cases h'
section
variable (P:aU) (w:bw)
def ObjOk (H:Hp) (h:bM) (a:ae):HO→Prop
 | .lst xs=>xs.length≤aQ∧∃ (its:List af) (n:Nat),Vals xs its∧h.get? a=some { cls:=.type "list",data:=.seq its.toArray n }
 | .tup xs=>xs.length≤aQ∧∃ its:List af,Vals xs its∧IsTup h a its.toArray
 | .dK kvs=>kvs.length≤aQ∧(a == eA)=false∧∃ vs,KV kvs vs∧h.DictOf (k8 P w) a vs
 | .dT kvs=>kvs.length≤aQ∧(a == eA)=false∧∃ xs:List (List Key×ae×af),
   fB (fun (p:List Key×V) (q:List Key×ae×af)=>p.1=q.1∧H q.2.1=some (.tup (p.1.map kV))∧RelV p.2 q.2.2) kvs xs ∧
   ∃ o es ep,h.get? a=some o∧o.ExactDict∧o.data=.dict es ep∧es.toList=xs.map (entryOfKey (ib (k8 P w)))∧(xs.map (·.1)).Nodup
 | .set S n=>h.SetOf (intKind P w) a S n
 | .ins C dx fs=>H dx=some (.own a)∧fs.length≤1000∧dx≠a∧h.get? a=some (cW C dx) ∧
   ∃ mA,h.Ns1 dx mA∧(∀ f,RelO (fs.lookup f) (mA f))∧jg mA (fs.map (·.1))
 | .own _=>∃ o,h.get? a=some o
 | .xd fs=>∃ mA,h.Ns1 a mA∧∀ f,RelO (fs.lookup f) (mA f)
 | .rng lo hi=>∃ t u v,h.get? a=some { cls:=.type "range",data:=.fields #[.int lo t,.int hi u,.int 1 v] }
 | .frz o u=>h.get? a=some o∧ObjOk H h a u
 | .tbl ps=>h.get? a=some { cls:=.none,data:=.fields ps }
 | .met f x=>h.get? a=some (gT (.ref f) (.ref x))
 | .ext φ=>φ h∧(∃ o,h.get? a=some o)∧∀ h1 h2:bM,φ h1→(∀ o,h1.get? a=some o→h2.get? a=some o)→φ h2
def HOk (H:Hp) (h:bM):Prop:=∀ a o,H a=some o→ObjOk P w H h a o
end
section
variable {P:aU}{w:bw}{H H':Hp}{h h':bM}{a:ae}{o:HO}
theorem ObjOk.lt (x:ObjOk P w H h a o):a < h.objs.size:=by
 cases o with
 | lst xs=>obtain ⟨_,_,_,_,e⟩:=x;exact aH e
 | tup xs=>obtain ⟨_,_,_,p⟩:=x;exact p.lt
 | dK kvs=>obtain ⟨_,_,_,_,o,_,_,e,_⟩:=x;exact aH e
 | dT kvs=>obtain ⟨_,_,_,_,o,_,_,e,_⟩:=x;exact aH e
 | set S n=>obtain ⟨o,_,_,_,e,_⟩:=x;exact aH e
 | ins C dx fs=>obtain ⟨_,_,_,e,_⟩:=x;exact aH e
 | own y=>obtain ⟨_,e⟩:=x;exact aH e
 | xd fs=>obtain ⟨_,⟨_,_,_,e,_⟩,_⟩:=x;exact aH e
 | rng lo hi=>obtain ⟨_,_,_,e⟩:=x;exact aH e
 | frz ob u=>obtain ⟨e,_⟩:=x;exact aH e
 | tbl ps=>exact aH (show h.get? a=some _ from x)
 | met f y=>exact aH (show h.get? a=some _ from x)
 | ext φ=>obtain ⟨_,⟨_,e⟩,_⟩:=x;exact aH e
theorem fB.mapP {α β:Type}{F G:α→β→Prop}:∀ {l₁:List α}{l₂:List β},fB F l₁ l₂→(∀ a b,F a b→G a b)→fB G l₁ l₂
 | _,_,.nil,_=>.nil
 | _,_,.cons r t,f=>.cons (f _ _ r) (fB.mapP t f)
theorem ObjOk.stay (x:ObjOk P w H h a o) (k:∀ b u,(b=a∨H b=some (.own a))→h.get? b=some u→h'.get? b=some u)
  (ho:∀ b,H b=some (.own a)→H' b=some (.own a)) (ht:∀ b xs,H b=some (.tup xs)→H' b=some (.tup xs)):ObjOk P w H' h' a o:=by
 induction o with
 | lst xs=>obtain ⟨z,its,n,r,e⟩:=x;exact ⟨z,its,n,r,k _ _ (.inl rfl) e⟩
 | tup xs=>obtain ⟨z,its,r,ob,e,c⟩:=x;exact ⟨z,its,r,ob,k _ _ (.inl rfl) e,c⟩
 | dK kvs=>obtain ⟨z,y,vs,r,ob,es,ep,e,c⟩:=x;exact ⟨z,y,vs,r,ob,es,ep,k _ _ (.inl rfl) e,c⟩
 | dT kvs =>
  obtain ⟨z,y,xs,r,ob,es,ep,e,c⟩:=x
  exact ⟨z,y,xs,fB.mapP r fun p q z=>⟨z.1,ht _ _ z.2.1,z.2.2⟩,ob,es,ep,k _ _ (.inl rfl) e,c⟩
 | set S n=>obtain ⟨ob,es,ep,t,e,c⟩:=x;exact ⟨ob,es,ep,t,k _ _ (.inl rfl) e,c⟩
 | ins C dx fs =>
  obtain ⟨d,z,ne,e,mA,⟨od,es,ep,e2,c⟩,r⟩:=x
  exact ⟨ho _ d,z,ne,k _ _ (.inl rfl) e,mA,⟨od,es,ep,k _ _ (.inr d) e2,c⟩,r⟩
 | own y=>obtain ⟨ob,e⟩:=x;exact ⟨ob,k _ _ (.inl rfl) e⟩
 | xd fs=>obtain ⟨mA,⟨od,es,ep,e,c⟩,r⟩:=x;exact ⟨mA,⟨od,es,ep,k _ _ (.inl rfl) e,c⟩,r⟩
 | rng lo hi=>obtain ⟨t,u,v,e⟩:=x;exact ⟨t,u,v,k _ _ (.inl rfl) e⟩
 | frz ob u ih=>obtain ⟨e,q⟩:=x;exact ⟨k _ _ (.inl rfl) e,ih q⟩
 | tbl ps =>
  have e:h.get? a=some { cls:=.none,data:=.fields ps }:=x
  show h'.get? a=some { cls:=.none,data:=.fields ps }
  exact k a _ (.inl rfl) e
 | met f y =>
  have e:h.get? a=some (gT (.ref f) (.ref y)):=x
  show h'.get? a=some (gT (.ref f) (.ref y))
  exact k a _ (.inl rfl) e
 | ext φ=>obtain ⟨p,⟨o,e⟩,st⟩:=x;exact ⟨st _ _ p fun o q=>k _ _ (.inl rfl) q,⟨o,k _ _ (.inl rfl) e⟩,st⟩
theorem HOk.lt (x:HOk P w H h) (e:H a=some o):a < h.objs.size:=(x a o e).lt
theorem HOk.fresh (x:HOk P w H h) (e:h.objs.size≤a):H a=none:=by
 cases q:H a with
 | none=>rfl
 | some u=>exact absurd (ay (x.lt q) e) (cE _)
theorem HOk.kept (x:HOk P w H h) (k:∀ b u,h.get? b=some u→h'.get? b=some u):HOk P w H h':=fun a o e =>
 (x a o e).stay (fun b u _ q=>k b u q) (fun _ q=>q) fun _ _ q=>q
theorem HOk.laid (x:HOk P w H h) (k:∀ b u,h.get? b=some u→h'.get? b=some u) (hp:h.objs.size≤a) (new:ObjOk P w (upd H a o) h' a o):HOk P w (upd H a o) h':=fun b u e=>by
 have hn:=x.fresh hp
 by_cases hb:b=a
 ·subst hb;rw [km] at e;cases e;exact new
 ·rw [ki hb] at e
  exact (x b u e).stay (fun c v _ q=>k c v q) (fun c q=>by rw [ki (ky q hn)];exact q) fun c xs q=>by rw [ki (ky q hn)];exact q
end
def Rd (H:Hp) (a:ae) (u:HO):Prop:=H a=some u∨∃ o,H a=some (.frz o u)
theorem Rd.ok {P:aU}{w:bw}{H:Hp}{h:bM}{a:ae}{u:HO} (r:Rd H a u) (x:HOk P w H h):ObjOk P w H h a u:=by
 rcases r with r | ⟨o,r⟩
 ·exact x a u r
 ·obtain ⟨_,q⟩:=x a _ r
  exact q
def Mut:Option HO→Prop
 | some (.lst _)=>True
 | some (.dK _)=>True
 | some (.dT _)=>True
 | some (.set _ _)=>True
 | some (.ins _ _ _)=>True
 | some (.ext _)=>True
 | _=>False
section
variable {P:aU}{w:bw}{H:Hp}{h h':bM}{x e:ae}{o':HO}
theorem HOk.write (ok:HOk P w H h) (mu:Mut (H x)) (he:e=x∨H e=some (.own x)) (k:∀ b u,b≠e→h.get? b=some u→h'.get? b=some u) (heo:∃ u,h'.get? e=some u)
  (new:ObjOk P w (upd H x o') h' x o'):HOk P w (upd H x o') h':=fun b u q=>by
 have nown:∀ c y,H c=some (.own y)→c≠x:=fun c y r z=>by subst z;rw [r] at mu;exact mu
 have ntup:∀ c xs,H c=some (.tup xs)→c≠x:=fun c xs r z=>by subst z;rw [r] at mu;exact mu
 by_cases hb:b=x
 ·subst hb;rw [km] at q;cases q;exact new
 ·rw [ki hb] at q
  by_cases hbe:b=e
  ·have q':H b=some (.own x):=by
    rcases he with z | z
    ·exact absurd (hbe.trans z) hb
    ·rw [hbe];exact z
   rw [q] at q';cases q'
   obtain ⟨v,hv⟩:=heo
   exact ⟨v,by rw [hbe];exact hv⟩
  ·refine (ok b u q).stay (fun c v hc r=>k c v ?_ r) (fun c r=>by rw [ki (nown c b r)];exact r) fun c xs r=>by rw [ki (ntup c xs r)];exact r
   rcases hc with rfl | hc
   ·exact hbe
   ·rintro rfl
    rcases he with z | z
    ·exact nown c b hc z
    ·rw [hc] at z;cases z;exact hb rfl
end
structure Un (fs ex:List ae) (H H':Hp) (h h':bM):Prop where
 keep:∀ b o,h.get? b=some o→H b=none→b∉fs→b∉ex→h'.get? b=some o
 slot:∀ b o,h.get? b=some o→H b=none→b∈fs→b∉ex→∃ sl,h'.get? b=some { o with slots:=sl }
 free:∀ b o,h.get? b=some o→H b=none→b∉ex→H' b=none
 there:∀ b o,h.get? b=some o→b∉ex→∃ o',h'.get? b=some o'
 tups:∀ b xs,H b=some (.tup xs)→H' b=some (.tup xs)
 frzs:∀ b o u,H b=some (.frz o u)→H' b=some (.frz o u)
 tbls:∀ b ps,H b=some (.tbl ps)→∃ more,H' b=some (.tbl (ps++more))
section
variable {fs fs' ex ex':List ae}{H H1 H2:Hp}{h h1 h2 h':bM}{a x e:ae}{o:HO}
theorem Un.any (u:Un fs ex H H1 h h1) {b:ae}{ob:Obj} (q:h.get? b=some ob) (n:H b=none) (hx:b∉ex):∃ sl,h1.get? b=some { ob with slots:=sl }:=by
 by_cases hb:b∈fs
 ·exact u.slot b ob q n hb hx
 ·exact ⟨ob.slots,u.keep b ob q n hb hx⟩
theorem Un.kept (k:∀ b u,h.get? b=some u→h'.get? b=some u):Un fs ex H H h h' :=
 ⟨fun b ob q _ _ _=>k b ob q,fun b ob q _ _ _=>⟨ob.slots,k b ob q⟩,fun _ _ _ n _=>n,fun b ob q _=>⟨ob,k b ob q⟩,fun _ _ q=>q,fun _ _ _ q=>q,fun _ ps q=>⟨#[],by rw [q];simp⟩⟩
theorem Un.refl:Un fs ex H H h h:=Un.kept fun _ _ q=>q
theorem Un.laid (k:∀ b u,h.get? b=some u→h'.get? b=some u) (hp:h.objs.size≤a) (hn:H a=none):Un fs ex H (upd H a o) h h' where
 keep:=fun b u q _ _ _=>k b u q
 slot:=fun b u q _ _ _=>⟨u.slots,k b u q⟩
 free:=fun b u q n _=>by rw [ki (aR (ay (aH q) hp))];exact n
 there:=fun b u q _=>⟨u,k b u q⟩
 tups:=fun b xs q=>by rw [ki (ky q hn)];exact q
 frzs:=fun b u xs q=>by rw [ki (ky q hn)];exact q
 tbls:=fun b ps q=>⟨#[],by rw [ki (ky q hn),q];simp⟩
theorem Un.write (mu:Mut (H x)) (he:e=x∨H e=some (.own x)) (k:∀ b u,b≠e→h.get? b=some u→h'.get? b=some u) (heo:∃ u,h'.get? e=some u):Un fs ex H (upd H x o) h h':=by
 have hx:∀ b,H b=none→b≠x:=fun b n z=>by subst z;rw [n] at mu;exact mu
 have hb:∀ b,H b=none→b≠e:=fun b n z=>by
  subst z
  rcases he with r | r
  ·exact hx b n r
  ·rw [n] at r;cases r
 have hm:∀ b u,H b=some u→¬ Mut (some u)→b≠x:=fun b u q nm z=>by subst z;rw [q] at mu;exact nm mu
 refine ⟨fun b u q n _ _=>k b u (hb b n) q,fun b u q n _ _=>⟨u.slots,k b u (hb b n) q⟩,fun b u q n _=>by rw [ki (hx b n)];exact n,fun b u q _=>?_,
  fun b xs q=>by rw [ki (hm b _ q fun z=>z)];exact q,fun b u xs q=>by rw [ki (hm b _ q fun z=>z)];exact q,fun b ps q=>⟨#[],by rw [ki (hm b _ q fun z=>z),q];simp⟩⟩
 by_cases hbe:b=e
 ·subst hbe;exact heo
 ·exact ⟨u,k b u hbe q⟩
end
def trk (h:bM) (H:Hp):List ae:=(cy h.objs.size).filter fun a=>(H a).isSome
def xP (h:bM) (H:Hp):bM:=ge h (trk h H)
theorem BP (h:bM) (H:Hp):(xP h H).objs.size=h.objs.size:=PySem.W.hideAll_size _ _
theorem y3 {h:bM}{H:Hp}{b:ae}{o:Obj} (e:h.get? b=some o) (n:H b=none):(xP h H).get? b=some o :=
 jj _ e fun hm=>by
  have q:(H b).isSome=true:=(bg.mp hm).2
  rw [n] at q;simp at q
theorem Fi {h:bM}{H:Hp}{b:ae}{o:Obj} (e:(xP h H).get? b=some o):h.get? b=some o∧H b=none:=by
 have e':h.get? b=some o:=jx (trk h H) e
 refine ⟨e',?_⟩
 cases q:H b with
 | none=>rfl
 | some x =>
  have hm:b∈trk h H:=bg.mpr ⟨ce.mpr (aH e'),by simp [q]⟩
  have z:(xP h H).get? b=none:=PySem.W.hideAll_none (trk h H) hm
  rw [z] at e;cases e
def F2 (g h:bM) (L:ae):List (ae×Obj):=(cy h.objs.size).filterMap fun a=>if a=L∨(g.get? a).isSome=true then none else (h.get? a).map fun o=>(a,o)
def lC (g h:bM) (L d:ae):List (ae×Obj):=(F2 g h L).filter fun p=>decide (p.1≠d)
structure Mod (K:aa) (mg:Str→Option af) (base:bM):Prop where
 kin:K.In base
 glob:base.Ns aq mg
 blt:∃ mb,base.Ns dL mb∧∀ x:Str,x≠"__name__"→mb x=bR x
 nolimit:base.NoLimit
structure Cx where
 prog:aU
 w:bw
 K:aa
 mg:Str→Option af
 base:bM
 A:bL
 N:List Str
 s₀:al
 H₀:Hp
 env:Env
 outer:List Env
 stack:List Env
 ex:List ae
 fn:Str→Bool
 calm:Bool
 pn:List (ae×Obj)
 xe:af→al→Prop
def frs (l:List Env):List ae:=l.filterMap (·.frame)
abbrev Cx.fs (X:Cx):List ae:=frs X.outer
def Vis (sc:dR) (x:Str):Prop:=sc.names.lookup x=some .local∨sc.names.lookup x=some .cell∨sc.names.lookup x=some .free
def Loc (sc:dR) (x:Str):Prop:=sc.names.lookup x=some .local∨sc.names.lookup x=some .cell
def Look (env:Env) (h:bM) (m:Str→Option af) (x:Str) (u:af):Prop :=
 (env.kindOf x=some .local∧m x=some u)∨((env.kindOf x=some .cell∨env.kindOf x=some .free)∧∃ c,env.cells.lookup x=some c∧h.IsCell c (some u))
structure Cx.Ok (X:Cx):Prop where
 mod:Mod X.K X.mg X.base
 kind:X.env.scope.kind=.function
 glob:X.env.globals=aq
 blt:X.env.builtins=dL
 above:X.s₀.heap.objs.size≤X.env.locals
 inj:∀ x y c,X.env.cells.lookup x=some c→X.env.cells.lookup y=some c→x=y
 has:∀ x,(X.env.kindOf x=some .cell∨X.env.kindOf x=some .free)→∃ c,X.env.cells.lookup x=some c
 cab:∀ x c,X.fn x=true→X.env.cells.lookup x=some c→X.s₀.heap.objs.size≤c
 hd:X.calm=true→X.A.handled=none
 frames:X.A.frames=some X.stack
 stk:X.stack=X.outer∨(X.stack=X.env::X.outer∧X.env.frame=some X.env.locals)
 exf:∀ b∈X.ex,b≠X.env.locals∧∀ x c,X.env.cells.lookup x=some c→c≠b
 bs:∀ b o,X.base.get? b=some o→X.s₀.heap.get? b=some o∧X.H₀ b=none
 bsz:X.base.objs.size≤X.s₀.heap.objs.size
 noex:∀ b o,X.base.get? b=some o→b∉X.ex
 exfs:∀ b∈X.ex,b∉X.fs
 funs:X.s₀.heap.FunFrames X.base X.outer
 frf:∀ b∈X.fs,X.H₀ b=none
structure Inv (X:Cx) (pins:List (ae×Obj)) (σ:List (Option V)) (H:Hp) (s:al):Prop where
 ok:X.Ok
 os:s.os=X.s₀.os
 bare:gu s.gens
 base:Un X.fs X.ex X.H₀ H X.s₀.heap s.heap
 loc:∃ m,s.heap.Ns X.env.locals m∧∀ (i:Nat) (x:Str) (v:V),X.N[i]?=some x→σ[i]?=some (some v)→Vis X.env.scope x→∃ u,RelV v u∧Look X.env s.heap m x u
 cell:∀ x c,X.env.cells.lookup x=some c→∃ v,s.heap.IsCell c v
 free:H X.env.locals=none
 freeC:∀ x c,X.env.cells.lookup x=some c→H c=none
 pin:∀ p∈X.pn++pins,s.heap.get? p.1=some p.2∧H p.1=none∧p.1≠X.env.locals∧p.1∉X.fs∧∀ v,p.2.data≠.cell v
 hok:HOk X.prog X.w H s.heap
 len:σ.length=X.N.length
section
variable {X:Cx}{pins:List (ae×Obj)}{σ:List (Option V)}{H H':Hp}{s:al}{h':bM}
theorem Cx.Ok.nofr (ok:X.Ok) {b:ae}{o:Obj} (e:X.base.get? b=some o):b∉X.fs:=fun hb=>by
 have:=(ok.funs.mem hb).1
 rw [e] at this;cases this
theorem Inv.bs (I:Inv X pins σ H s):∀ b o,X.base.get? b=some o→s.heap.get? b=some o∧H b=none:=fun b o e =>
 ⟨I.base.keep b o (I.ok.bs b o e).1 (I.ok.bs b o e).2 (I.ok.nofr e) (I.ok.noex b o e),I.base.free b o (I.ok.bs b o e).1 (I.ok.bs b o e).2 (I.ok.noex b o e)⟩
theorem Inv.bk (I:Inv X pins σ H s):∀ b o,X.base.get? b=some o→s.heap.get? b=some o:=fun b o e=>(I.bs b o e).1
theorem Inv.mod (I:Inv X pins σ H s):Mod X.K X.mg X.base:=I.ok.mod
theorem Inv.kIn (I:Inv X pins σ H s):X.K.In s.heap:=I.ok.mod.kin.keeps I.bk
theorem Inv.lt (I:Inv X pins σ H s):X.env.locals < s.heap.objs.size:=let ⟨_,hn,_⟩:=I.loc;hn.lt
theorem Inv.sz (I:Inv X pins σ H s):X.s₀.heap.objs.size≤s.heap.objs.size:=aJ I.ok.above (cF I.lt)
theorem Inv.nofs (I:Inv X pins σ H s) {a:ae} (h:s.heap.objs.size≤a):a∉X.fs:=fun hb=>by
 obtain ⟨_,o,ho,_⟩:=I.ok.funs.mem hb
 exact absurd (ay (aH ho) (aJ I.sz h)) (cE _)
theorem Inv.cne (I:Inv X pins σ H s):∀ x c,X.env.cells.lookup x=some c→c≠X.env.locals:=fun x c e z=>by
 obtain ⟨v,o,ho,hd⟩:=I.cell x c e
 obtain ⟨m,⟨o',es,ep,ho',hd',_⟩,_⟩:=I.loc
 rw [z,ho'] at ho;cases ho;rw [hd'] at hd;cases hd
theorem Inv.funs (I:Inv X pins σ H s):s.heap.FunFrames X.base X.outer:=by
 have all:∀ (l:List Env),(∀ b∈frs l,b∈X.fs)→X.s₀.heap.FunFrames X.base l→s.heap.FunFrames X.base l:=by
  intro l
  induction l with
  | nil=>intro _ _;trivial
  | cons env r ih =>
   intro hs hl
   obtain ⟨hk,⟨L,o,hf,hn,ho,hd⟩,hr⟩:=hl
   have hL:L∈X.fs:=hs L (by unfold frs;rw [en,hf];exact am)
   obtain ⟨sl,e⟩:=I.base.slot L o ho (I.ok.frf L hL) hL fun z=>I.ok.exfs L z hL
   exact ⟨hk,⟨L,_,hf,hn,e,hd⟩,ih (fun b hb=>hs b (by unfold frs;rw [en,hf];exact ag _ hb)) hr⟩
 exact all X.outer (fun _ hb=>hb) I.ok.funs
theorem Inv.stack (I:Inv X pins σ H s):s.heap.FunFrames X.base X.stack:=by
 rcases I.ok.stk with e | ⟨e,hf⟩
 ·rw [e];exact I.funs
 ·rw [e]
  obtain ⟨m,hn,_⟩:=I.loc
  refine .cons (by rw [I.ok.kind];decide) hf hn ?_ I.funs
  exact Heap.get?_none_of_le (aJ I.ok.bsz I.ok.above)
theorem Inv.stkSub (I:Inv X pins σ H s):∀ b∈frs X.stack,b∈X.env.locals::X.fs:=fun b hb=>by
 rcases I.ok.stk with e | ⟨e,hf⟩
 ·rw [e] at hb;exact ag _ hb
 ·rw [e] at hb
  unfold frs at hb
  rw [en,hf] at hb
  exact hb
theorem Inv.stkFree (I:Inv X pins σ H s):∀ b∈frs X.stack,H b=none:=fun b hb=>by
 rcases ai.mp (I.stkSub b hb) with e | hb
 ·rw [e];exact I.free
 ·obtain ⟨_,o,ho,_⟩:=I.ok.funs.mem hb
  exact I.base.free b o ho (I.ok.frf b hb) fun z=>I.ok.exfs b z hb
theorem Inv.step {g':Array GenState}{t':Nat}{d':Drawn}{ch:List ae} (I:Inv X pins σ H s)
  (hch:∀ b∈ch,(b∈X.ex∨X.s₀.heap.objs.size≤b)∧b≠X.env.locals∧(∀ x c,X.env.cells.lookup x=some c→c≠b)∧∀ p∈X.pn++pins,p.1≠b)
  (keep:∀ b o,b≠X.env.locals→b∉X.fs→b∉ch→s.heap.get? b=some o→H b=none→h'.get? b=some o)
  (slot:∀ b o,b≠X.env.locals→b∈X.fs→b∉ch→s.heap.get? b=some o→H b=none→∃ sl,h'.get? b=some { o with slots:=sl }) (free:∀ b o,b∉ch→s.heap.get? b=some o→H b=none→H' b=none)
  (there:∀ b o,b∉ch→s.heap.get? b=some o→∃ o',h'.get? b=some o')
  (tups:∀ b xs,H b=some (.tup xs)→H' b=some (.tup xs)) (frzs:∀ b o u,H b=some (.frz o u)→H' b=some (.frz o u)) (tbls:∀ b ps,H b=some (.tbl ps)→∃ more,H' b=some (.tbl (ps++more)))
  (ns:∀ m,s.heap.Ns X.env.locals m→h'.Ns X.env.locals m) (hok:HOk X.prog X.w H' h') (hg:gu g') :
  Inv X pins σ H' { s with heap:=h',gens:=g',drawn:=d',toks:=t' }:=by
 have neL:∀ b o,X.s₀.heap.get? b=some o→b≠X.env.locals:=fun b o e=>aR (ay (aH e) I.ok.above)
 have neC:∀ b o,X.s₀.heap.get? b=some o→b∉X.ex→b∉ch:=fun b o e hx hb=>by
  rcases (hch b hb).1 with z | z
  ·exact hx z
  ·exact absurd (ay (aH e) z) (cE _)
 have cellK:∀ x c,X.env.cells.lookup x=some c→∀ v,s.heap.IsCell c v→h'.IsCell c v:=fun x c e v ⟨o,ho,hd⟩=>by
  have nch:c∉ch:=fun z=>(hch c z).2.2.1 x c e rfl
  by_cases hc:c∈X.fs
  ·obtain ⟨sl,q⟩:=slot c o (I.cne x c e) hc nch ho (I.freeC x c e)
   exact ⟨_,q,hd⟩
  ·exact ⟨o,keep c o (I.cne x c e) hc nch ho (I.freeC x c e),hd⟩
 refine ⟨I.ok,I.os,hg,⟨fun b o e n hb hx=>?_,fun b o e n hb hx=>?_,fun b o e n hx=>?_,fun b o e hx=>?_,fun b xs e=>tups b xs (I.base.tups b xs e),fun b o xs e=>frzs b o xs (I.base.frzs b o xs e),fun b ps e=>?_⟩,?_,fun x c e=>?_,?_,fun x c e=>?_,fun p hp=>?_,hok,I.len⟩
 ·exact keep b o (neL b o e) hb (neC b o e hx) (I.base.keep b o e n hb hx) (I.base.free b o e n hx)
 ·obtain ⟨sl,e1⟩:=I.base.slot b o e n hb hx
  obtain ⟨sl',e2⟩:=slot b _ (neL b o e) hb (neC b o e hx) e1 (I.base.free b o e n hx)
  exact ⟨sl',e2⟩
 ·obtain ⟨o',e1⟩:=I.base.there b o e hx
  exact free b o' (neC b o e hx) e1 (I.base.free b o e n hx)
 ·obtain ⟨o',e1⟩:=I.base.there b o e hx
  exact there b o' (neC b o e hx) e1
 ·obtain ⟨m1,e1⟩:=I.base.tbls b ps e
  obtain ⟨m2,e2⟩:=tbls b _ e1
  exact ⟨m1++m2,by rw [e2,j0]⟩
 ·obtain ⟨m,hn,hl⟩:=I.loc
  refine ⟨m,ns m hn,fun i x v e1 e2 e3=>?_⟩
  obtain ⟨u,r,l⟩:=hl i x v e1 e2 e3
  refine ⟨u,r,?_⟩
  rcases l with l | ⟨k,c,e,z⟩
  ·exact .inl l
  ·exact .inr ⟨k,c,e,cellK x c e _ z⟩
 ·obtain ⟨v,z⟩:=I.cell x c e
  exact ⟨v,cellK x c e v z⟩
 ·obtain ⟨m,⟨o,_,_,ho,_⟩,_⟩:=I.loc
  exact free _ o (fun z=>(hch _ z).2.1 rfl) ho I.free
 ·obtain ⟨v,o,ho,hd⟩:=I.cell x c e
  exact free c o (fun z=>(hch c z).2.2.1 x c e rfl) ho (I.freeC x c e)
 ·obtain ⟨e,n,ne,nf,d⟩:=I.pin p hp
  have nch:p.1∉ch:=fun z=>(hch p.1 z).2.2.2 p hp rfl
  exact ⟨keep p.1 p.2 ne nf nch e n,free p.1 p.2 nch e n,ne,nf,d⟩
theorem Inv.un {t':Nat} (I:Inv X pins σ H s) (u:Un X.fs [] H H' s.heap h') (hok:HOk X.prog X.w H' h'):Inv X pins σ H' { s with heap:=h',toks:=t' }:=by
 obtain ⟨m,⟨o,es,ep,ho,r⟩,_⟩:=id I.loc
 obtain ⟨sl,hL⟩:=u.any ho I.free (by simp)
 exact I.step (g':=s.gens) (d':=s.drawn) (ch:=[]) (fun _ z=>nomatch z) (fun b o _ hb _ e n=>u.keep b o e n hb (by simp)) (fun b o _ hb _ e n=>u.slot b o e n hb (by simp)) (fun b o _ e n=>u.free b o e n (by simp)) (fun b o _ e=>u.there b o e (by simp)) u.tups u.frzs u.tbls (fun m' hm=>by
  obtain ⟨o',es',ep',ho',r'⟩:=hm
  rw [ho] at ho';cases ho'
  exact ⟨_,es',ep',hL,r'⟩) hok I.bare
theorem Inv.call {g':Array GenState}{t':Nat}{d':Drawn}{ch:List ae} (I:Inv X pins σ H s) (u:Un (frs X.stack) ch H H' s.heap h') (hok:HOk X.prog X.w H' h') (hg:gu g')
  (hch:∀ b∈ch,(b∈X.ex∨X.s₀.heap.objs.size≤b)∧b≠X.env.locals∧(∀ x c,X.env.cells.lookup x=some c→c≠b)∧∀ p∈X.pn++pins,p.1≠b) :
  Inv X pins σ H' { s with heap:=h',gens:=g',drawn:=d',toks:=t' }:=by
 obtain ⟨m,⟨o,es,ep,ho,r⟩,_⟩:=id I.loc
 obtain ⟨sl,hL⟩:=u.any ho I.free fun z=>(hch _ z).2.1 rfl
 exact I.step (ch:=ch) hch (fun b o hL hb hc e n=>u.keep b o e n (fun z=>(ai.mp (I.stkSub b z)).elim hL hb) hc) (fun b o _ _ hc e n=>u.any e n hc) (fun b o hc e n=>u.free b o e n hc) (fun b o hc e=>u.there b o e hc) u.tups u.frzs u.tbls (fun m' hm=>by
  obtain ⟨o',es',ep',ho',r'⟩:=hm
  rw [ho] at ho';cases ho'
  exact ⟨_,es',ep',hL,r'⟩) hok hg
theorem Inv.turned {t':Nat}{it:ae} (I:Inv X pins σ H s) (k:∀ b o,b≠it→s.heap.get? b=some o→h'.get? b=some o) (hn:H it=none) (hL:it≠X.env.locals)
  (h1:it∈X.ex∨X.s₀.heap.objs.size≤it) (h2:∀ x c,X.env.cells.lookup x=some c→c≠it) (h3:∀ p∈X.pn++pins,p.1≠it):Inv X pins σ H { s with heap:=h',toks:=t' }:=by
 have nit:∀ b u,H b=some u→b≠it:=fun b u e z=>by rw [z,hn] at e;cases e
 refine I.step (g':=s.gens) (d':=s.drawn) (ch:=[it]) (fun b hb=>?_) (fun b o _ _ hc e _=>k b o (fun z=>hc (by simp [z])) e) (fun b o _ _ hc e _=>⟨o.slots,k b o (fun z=>hc (by simp [z])) e⟩) (fun _ _ _ _ n=>n)
  (fun b o hc e=>⟨o,k b o (fun z=>hc (by simp [z])) e⟩) (fun _ _ e=>e) (fun _ _ _ e=>e) (fun b ps e=>⟨#[],by rw [e];simp⟩) (fun m hm=>?_) (fun b u e=>?_) I.bare
 ·have e:b=it:=by simpa using hb
  subst e
  exact ⟨h1,hL,h2,h3⟩
 ·obtain ⟨o,es,ep,ho,r⟩:=hm
  exact ⟨o,es,ep,k _ o (gG hL) ho,r⟩
 ·refine (I.hok b u e).stay (fun c v hc q=>k c v ?_ q) (fun _ q=>q) fun _ _ q=>q
  rcases hc with z | z
  ·rw [z];exact nit b u e
  ·exact nit c _ z
theorem Inv.tok (I:Inv X pins σ H s) (t:Nat):Inv X pins σ H { s with toks:=t }:=I.un (h':=s.heap) (t':=t) Un.refl I.hok
theorem Inv.kept {t':Nat} (I:Inv X pins σ H s) (k:∀ b u,s.heap.get? b=some u→h'.get? b=some u):Inv X pins σ H { s with heap:=h',toks:=t' }:=I.un (Un.kept k) (I.hok.kept k)
theorem Inv.laid {a:ae}{o:HO}{t':Nat} (I:Inv X pins σ H s) (k:∀ b u,s.heap.get? b=some u→h'.get? b=some u) (hp:s.heap.objs.size≤a) (new:ObjOk X.prog X.w (upd H a o) h' a o) :
  Inv X pins σ (upd H a o) { s with heap:=h',toks:=t' }:=I.un (Un.laid k hp (I.hok.fresh hp)) (I.hok.laid k hp new)
theorem Inv.write {x e:ae}{o:HO}{t':Nat} (I:Inv X pins σ H s) (mu:Mut (H x)) (he:e=x∨H e=some (.own x)) (k:∀ b u,b≠e→s.heap.get? b=some u→h'.get? b=some u) (heo:∃ u,h'.get? e=some u)
  (new:ObjOk X.prog X.w (upd H x o) h' x o):Inv X pins σ (upd H x o) { s with heap:=h',toks:=t' }:=I.un (Un.write mu he k heo) (I.hok.write mu he k heo new)
theorem Inv.pins_of {pins':List (ae×Obj)} (I:Inv X pins σ H s) (h:∀ p∈pins',s.heap.get? p.1=some p.2∧H p.1=none∧p.1≠X.env.locals∧p.1∉X.fs∧∀ v,p.2.data≠.cell v):Inv X pins' σ H s :=
 ⟨I.ok,I.os,I.bare,I.base,I.loc,I.cell,I.free,I.freeC,fun p hp=>(aO.mp hp).elim (fun z=>I.pin p (bH _ z)) (h p),I.hok,I.len⟩
theorem yV {N:List Str} (hN:N.Nodup) {i j:Nat}{x:Str} (a:N[i]?=some x) (b:N[j]?=some x):i=j:=by
 obtain ⟨h1,e1⟩:=aW.mp a
 obtain ⟨h2,e2⟩:=aW.mp b
 exact (List.getElem_inj hN).mp (e1.trans e2.symm)
theorem wp {M:Model}{A:bL}{E:af→al→Prop}{i:Nat}{x:Str}{v:V}{u:af}{Q:Unit→al→Prop} (I:Inv X pins σ H s) (hN:X.N.Nodup) (hi:X.N[i]?=some x) (hx:Loc X.env.scope x) (r:RelV v u)
  (h:∀ s',Inv X pins (σ.set i (some v)) H s'→(∃ a,ij a s.heap s'.heap∧(a=X.env.locals∨X.env.cells.lookup x=some a))→Q () s') (hf:X.fn x=true∨X.env.scope.names.lookup x=some .local:=by first | exact .inl rfl | exact .inr rfl | assumption):bj M A (storeName X.env x u) Q E s:=by
 obtain ⟨m,hn,hl⟩:=id I.loc
 have hcls:(X.env.scope.kind == .class || (X.env.scope.kind == .module && X.env.locals != X.env.globals))=false:=by rw [I.ok.kind];rfl
 have hiσ:i < σ.length:=by rw [I.len];exact (aW.mp hi).1
 have cne:=I.cne
 have tracked:∀ {a:ae}{h':bM},(∃ o,s.heap.get? a=some o∧H a=none)→ij a s.heap h'→HOk X.prog X.w H h':=fun {a h'} ha hs b ob e=>by
  obtain ⟨_,_,hfree⟩:=ha
  refine (I.hok b ob e).stay (fun c w' hc q=>(hs.2 c ?_).trans q) (fun _ q=>q) fun _ _ q=>q
  rintro rfl
  rcases hc with rfl | hc
  ·rw [hfree] at e;cases e
  ·rw [hfree] at hc;cases hc
 rcases hx with hk | hk
 ·refine wpAny_storeName_local hk hn (fun h' hn' hs=>?_) hcls
  obtain ⟨oL,_,_,hoL,_⟩:=id hn
  refine h _ ⟨I.ok,I.os,I.bare,⟨fun b o e n hb hx=>?_,fun b o e n hb hx=>?_,I.base.free,fun b o e hx=>?_,I.base.tups,I.base.frzs,I.base.tbls⟩,⟨_,hn',fun j y v' e1 e2 e3=>?_⟩,fun y c e=>?_,I.free,I.freeC,fun p hp=>?_,tracked ⟨oL,hoL,I.free⟩ hs,by simpa using I.len⟩ ⟨_,hs,.inl rfl⟩
  ·exact (hs.2 b (aR (ay (aH e) I.ok.above))).trans (I.base.keep b o e n hb hx)
  ·obtain ⟨sl,e1⟩:=I.base.slot b o e n hb hx
   exact ⟨sl,(hs.2 b (aR (ay (aH e) I.ok.above))).trans e1⟩
  ·obtain ⟨o',e1⟩:=I.base.there b o e hx
   exact ⟨o',(hs.2 b (aR (ay (aH e) I.ok.above))).trans e1⟩
  ·by_cases hj:j=i
   ·subst hj
    rw [hi] at e1;cases e1
    rw [js hiσ] at e2
    cases e2
    exact ⟨u,r,.inl ⟨hk,by simp⟩⟩
   ·rw [jH (gG hj)] at e2
    obtain ⟨u',r',q⟩:=hl j y v' e1 e2 e3
    refine ⟨u',r',?_⟩
    rcases q with ⟨k,e⟩ | ⟨k,c,e,z⟩
    ·refine .inl ⟨k,?_⟩
     have:y≠x:=fun e=>hj (yV hN e1 (e ▸ hi))
     simp [this,e]
    ·exact .inr ⟨k,c,e,z.sameBut hs (cne y c e)⟩
  ·obtain ⟨w',z⟩:=I.cell y c e
   exact ⟨w',z.sameBut hs (cne y c e)⟩
  ·obtain ⟨e,n,ne,nf,d⟩:=I.pin p hp
   exact ⟨(hs.2 p.1 ne).trans e,n,ne,nf,d⟩
 ·have hfn:X.fn x=true:=by
   rcases hf with z | z
   ·exact z
   ·rw [z] at hk;cases hk
  obtain ⟨c,hc⟩:=I.ok.has x (.inl hk)
  obtain ⟨w',z⟩:=I.cell x c hc
  refine wpAny_storeName_cell I.ok.kind hk hc z (fun h' hc' hs=>?_)
  obtain ⟨oc,hoc,hocd⟩:=id z
  refine h { s with heap:=h' } ⟨I.ok,I.os,I.bare,⟨fun b o e n hb hx=>?_,fun b o e n hb hx=>?_,I.base.free,fun b o e hx=>?_,I.base.tups,I.base.frzs,I.base.tbls⟩,⟨m,hn.sameBut hs (gG (cne x c hc)),fun j y v' e1 e2 e3=>?_⟩,fun y c' e=>?_,I.free,I.freeC,fun p hp=>?_,tracked ⟨oc,hoc,I.freeC x c hc⟩ hs,by simpa using I.len⟩ ⟨c,hs,.inr hc⟩
  ·exact (hs.2 b (aR (ay (aH e) (I.ok.cab x c hfn hc)))).trans (I.base.keep b o e n hb hx)
  ·obtain ⟨sl,e1⟩:=I.base.slot b o e n hb hx
   exact ⟨sl,(hs.2 b (aR (ay (aH e) (I.ok.cab x c hfn hc)))).trans e1⟩
  ·obtain ⟨o',e1⟩:=I.base.there b o e hx
   exact ⟨o',(hs.2 b (aR (ay (aH e) (I.ok.cab x c hfn hc)))).trans e1⟩
  ·by_cases hj:j=i
   ·subst hj
    rw [hi] at e1;cases e1
    rw [js hiσ] at e2
    cases e2
    exact ⟨u,r,.inr ⟨.inl hk,c,hc,hc'⟩⟩
   ·rw [jH (gG hj)] at e2
    obtain ⟨u',r',q⟩:=hl j y v' e1 e2 e3
    refine ⟨u',r',?_⟩
    rcases q with q | ⟨k,c',e,z'⟩
    ·exact .inl q
    ·refine .inr ⟨k,c',e,z'.sameBut hs ?_⟩
     rintro rfl
     exact hj (yV hN e1 (I.ok.inj _ _ _ e hc ▸ hi))
  ·by_cases hcc:c'=c
   ·subst hcc;exact ⟨_,hc'⟩
   ·obtain ⟨w2,z2⟩:=I.cell y c' e
    exact ⟨w2,z2.sameBut hs hcc⟩
  ·obtain ⟨e,n,ne,nf,d⟩:=I.pin p hp
   refine ⟨(hs.2 p.1 ?_).trans e,n,ne,nf,d⟩
   intro q
   rw [q,hoc] at e
   have q':oc=p.2:=aZ e
   exact d w' (by rw [← q'];exact hocd)
theorem rX {M:Model}{A:bL}{E:af→al→Prop}{i:Nat}{x:Str}{v:V}{u:af}{Q:Unit→al→Prop} (I:Inv X pins σ H s) (hN:X.N.Nodup) (hi:X.N[i]?=some x) (hx:Loc X.env.scope x) (r:RelV v u)
  (h:∀ s',Inv X pins (σ.set i (some v)) H s'→Q () s') (hf:X.fn x=true∨X.env.scope.names.lookup x=some .local:=by first | exact .inl rfl | exact .inr rfl | assumption):bj M A (storeName X.env x u) Q E s :=
 wp I hN hi hx r (fun s' I' _=>h s' I') hf
theorem Inv.call' {s':al}{ch:List ae} (I:Inv X pins σ H s) (ho:s'.os=s.os) (u:Un (frs X.stack) ch H H' s.heap s'.heap) (hok:HOk X.prog X.w H' s'.heap) (hg:gu s'.gens)
  (hch:∀ b∈ch,(b∈X.ex∨X.s₀.heap.objs.size≤b)∧b≠X.env.locals∧(∀ x c,X.env.cells.lookup x=some c→c≠b)∧∀ p∈X.pn++pins,p.1≠b):Inv X pins σ H' s':=by
 obtain ⟨h',g',d',t',o'⟩:=s'
 have e:o'=s.os:=ho
 subst e
 exact I.call (g':=g') (t':=t') (d':=d') u hok hg hch
end
abbrev XK:=af→Option ae→Hp→Prop
abbrev St:=List (Option V)
abbrev VK:=V→Hp→Prop
abbrev TE:=St→Hp→VK→Prop
abbrev TT:=St→Hp→(Bool→Hp→Prop)→Prop
abbrev TA:=St→Hp→(List V→Hp→Prop)→Prop
structure Ends where
 nx:St→Hp→Prop
 rt:VK
 bk:St→Hp→Prop:=fun _ _=>False
 ct:St→Hp→Prop:=fun _ _=>False
abbrev TS:=Ends→St→Hp→Prop
def EP (X:Cx) (pins:List (ae×Obj)) (σ:St) (Q:VK) (u:af) (s':al):Prop:=∃ v H',Inv X pins σ H' s'∧RelV v u∧Q v H'
def TP (X:Cx) (pins:List (ae×Obj)) (σ:St) (Q:Bool→Hp→Prop) (b:Bool) (s':al):Prop:=∃ H',Inv X pins σ H' s'∧Q b H'
def AP (X:Cx) (pins:List (ae×Obj)) (σ:St) (Q:List V→Hp→Prop) (us:List af) (s':al):Prop:=∃ vs H',Inv X pins σ H' s'∧Vals vs us∧Q vs H'
def SP (X:Cx) (pins:List (ae×Obj)) (D:Ends) (f:Flow) (s':al):Prop :=
 match f with
 | .next=>∃ σ' H',Inv X pins σ' H' s'∧D.nx σ' H'
 | .brk=>∃ σ' H',Inv X pins σ' H' s'∧D.bk σ' H'
 | .cont=>∃ σ' H',Inv X pins σ' H' s'∧D.ct σ' H'
 | .ret u=>∃ v σ' H',Inv X pins σ' H' s'∧RelV v u∧D.rt v H'
def PE (X:Cx) (e:bo) (t:TE):Prop :=
 ∀ (pins:List (ae×Obj)) (s:al) (σ:St) (H:Hp) (Q:VK),Inv X pins σ H s→t σ H Q→bj (model X.prog X.w) X.A (eval e X.env) (EP X pins σ Q) X.xe s
def PT (X:Cx) (e:bo) (t:TT):Prop :=
 ∀ (pins:List (ae×Obj)) (s:al) (σ:St) (H:Hp) (Q:Bool→Hp→Prop),Inv X pins σ H s→t σ H Q→bj (model X.prog X.w) X.A (isTrue e X.env (eval e X.env)) (TP X pins σ Q) X.xe s
def PW (X:Cx) (e:bo) (t:TT):Prop :=
 ∀ (whole:Sem af) (pins:List (ae×Obj)) (s:al) (σ:St) (H:Hp) (Q:Bool→Hp→Prop),Inv X pins σ H s→t σ H Q→bj (model X.prog X.w) X.A (isTrue e X.env whole) (TP X pins σ Q) X.xe s
theorem PW.pt {X:Cx}{e:bo}{t:TT} (h:PW X e t):PT X e t:=h _
def PA (X:Cx) (es:List bo) (t:TA):Prop :=
 ∀ (pos:Pos) (pins:List (ae×Obj)) (s:al) (σ:St) (H:Hp) (Q:List V→Hp→Prop),Inv X pins σ H s→t σ H Q→bj (model X.prog X.w) X.A (spliced (cA pos (aP es X.env))) (AP X pins σ Q) X.xe s
def PS (X:Cx) (st:bX) (t:TS):Prop :=
 ∀ (pins:List (ae×Obj)) (s:al) (σ:St) (H:Hp) (D:Ends),Inv X pins σ H s→t D σ H→bj (model X.prog X.w) X.A (exec st X.env) (SP X pins D) X.xe s
def PSs (X:Cx) (st:List bX) (t:TS):Prop :=
 ∀ (pins:List (ae×Obj)) (s:al) (σ:St) (H:Hp) (D:Ends),Inv X pins σ H s→t D σ H→bj (model X.prog X.w) X.A (execs st X.env) (SP X pins D) X.xe s
theorem thn {α:Type}{t:Sem α}{Q Q':α→al→Prop}{M:Model}{A:bL}{E:af→al→Prop}{s:al} (h:bj M A t Q E s) (hQ:∀ a s,Q a s→Q' a s):bj M A t Q' E s:=cr h hQ fun _ _ x=>x
section
variable {X:Cx}
def Cm (i:Nat):TE:=fun σ H Q=>∃ v,σ[i]?=some (some v)∧Q v H
def tC (v:V):TE:=fun _ H Q=>Q v H
theorem xY {i:Nat}{x:Str}{pos:Pos} (hN:X.N[i]?=some x) (hv:Vis X.env.scope x) (hd:(x == ("__debug__":Str))=false:=by decide) (hcd:(x == ("__classdict__":Str))=false:=by decide):PE X (.Name x pos) (Cm i):=by
 intro pins s σ H Q I h
 obtain ⟨v,e,h⟩:=h
 obtain ⟨m,hn,hl⟩:=I.loc
 obtain ⟨u,r,l⟩:=hl i x v hN e hv
 have fin:EP X pins σ Q u s:=⟨v,H,I,r,h⟩
 rcases l with ⟨hk,hm⟩ | ⟨hk,c,hc,hcell⟩
 ·exact wpAny_Name (wpAny_loadName_local I.ok.kind hk hn hm fin) hd
 ·rcases hk with hk | hk
  ·exact wpAny_Name (wpAny_loadName_cell I.ok.kind hk hc hcell fin) hd
  ·exact wpAny_Name (wpAny_loadName_free I.ok.kind hk hc hcell fin hcd) hd
theorem pe_int {i j pos}:PE X (.Constant (.int i) j pos) (tC (.int i)):=fun _ _ _ H _ I h=>wpAny_Constant_int ⟨.int i,H,I.tok _,⟨_,rfl⟩,h⟩
theorem pe_bl {b j pos}:PE X (.Constant (.bool b) j pos) (tC (.bl b)):=fun _ _ _ H _ I h=>Constant_bool ⟨.bl b,H,I,rfl,h⟩
theorem pe_non {j pos}:PE X (.Constant .none j pos) (tC .non):=fun _ _ _ H _ I h=>Constant_none ⟨.non,H,I,rfl,h⟩
theorem pe_str {x j pos}:PE X (.Constant (.str x) j pos) (tC (.str x)):=fun _ _ _ H _ I h=>jV ⟨.str x,H,I.tok _,⟨_,rfl⟩,h⟩
def Gl (X:Cx) (x:Str):Prop:=X.env.kindOf x=some .globalImplicit
theorem sJ {E:af→al→Prop}{pins:List (ae×Obj)}{s:al}{σ:St}{H:Hp}{x:Str}{u:af}{pos:Pos}{Q:af→al→Prop} (I:Inv X pins σ H s) (hg:Gl X x) (hm:X.mg x=some u) (h:Q u s)
  (hd:(x == ("__debug__":Str))=false:=by decide):bj (model X.prog X.w) X.A (eval (.Name x pos) X.env) Q E s :=
 iN I.ok.kind hg (Calls.loadGlobal_global (by rw [I.ok.glob];exact I.mod.glob.keeps I.bk) hm h) hd
theorem vS {E:af→al→Prop}{pins:List (ae×Obj)}{s:al}{σ:St}{H:Hp}{x:Str}{u:af}{pos:Pos}{Q:af→al→Prop} (I:Inv X pins σ H s) (hg:Gl X x) (hm:X.mg x=none) (hv:bR x=some u) (h:Q u s)
  (hn:x≠"__name__":=by decide) (hd:(x == ("__debug__":Str))=false:=by decide):bj (model X.prog X.w) X.A (eval (.Name x pos) X.env) Q E s:=by
 obtain ⟨mb,h1,h2⟩:=I.mod.blt
 exact iN I.ok.kind hg (Calls.loadGlobal_builtin (by rw [I.ok.glob];exact I.mod.glob.keeps I.bk) hm (by rw [I.ok.blt];exact h1.keeps I.bk) ((h2 x hn).trans hv) h) hd
theorem nW {x:Str}{v:V}{u:af}{pos:Pos} (hg:Gl X x) (hm:X.mg x=some u) (r:RelV v u) (hd:(x == ("__debug__":Str))=false:=by decide):PE X (.Name x pos) (tC v) :=
 fun _ _ _ H _ I h=>sJ I hg hm ⟨v,H,I,r,h⟩ hd
variable {a b:bo}{ta tb:TE}{pos:Pos}
def PC (X:Cx) (op:iz) (a b:bo) (t:TE):Prop :=
 ∀ (pins:List (ae×Obj)) (s:al) (σ:St) (H:Hp) (Q:VK),Inv X pins σ H s→t σ H Q →
  bj (model X.prog X.w) X.A (eval a X.env) (fun v s₁=>bj (model X.prog X.w) X.A (eval b X.env) (fun u s₂=>bj (model X.prog X.w) X.A (bT op v u) (EP X pins σ Q) X.xe s₂) X.xe s₁) X.xe s
theorem Dn (b:bo) {op:iz} (h:op≠.In) (h2:op≠.NotIn):cI op b=false:=by
 have e1:(op == CmpOp.In)=false:=by cases op <;> first | rfl | exact absurd rfl h
 have e2:(op == CmpOp.NotIn)=false:=by cases op <;> first | rfl | exact absurd rfl h2
 cases b <;> simp [cI,e1,e2]
def tB (t:TE):TT:=fun σ H Q=>t σ H fun x H1=>∃ c,x=.bl c∧Q c H1
theorem Ea {op:iz}{t:TE} (h:PC X op a b t) (h1:cI op b=false:=by first | exact Dn _ (by decide) (by decide) | rfl):PE X (.Compare a [op] [b] pos) t:=fun pins s σ H Q I hw=>wpAny_Compare1 (h pins s σ H Q I hw) h1
theorem rT {e:bo}{t:TE} (h:PE X e t) (he:∀ whole,isTrue e X.env whole=(do let v ← whole;gs e.pos;holding [v] (truthy v)):=by intro _;rfl):PT X e (tB t):=by
 intro pins s σ H Q I hw
 refine isTrue_plain (thn (h pins s σ H _ I hw) fun v s1 ⟨x,H1,I1,r1,q1⟩=>?_) (he _)
 obtain ⟨d,rfl,q⟩:=q1
 cases r1
 exact de ⟨H1,I1,q⟩
variable {tA tB':TT}{lC:List bo}
def tAnd (t u:TT):TT:=fun σ H Q=>t σ H fun c H1=>if c=true then u σ H1 Q else Q false H1
def tOr (t u:TT):TT:=fun σ H Q=>t σ H fun c H1=>if c=true then Q true H1 else u σ H1 Q
def tNot (t:TT):TT:=fun σ H Q=>t σ H fun c H1=>Q (!c) H1
theorem E3 (ha:PT X a tA):PW X (.BoolOp .And [a] pos) tA:=by
 intro wh pins s σ H Q I h
 refine isTrue_and (thn (ha pins s σ H Q I h) fun c s1 e=>?_)
 cases c with
 | true=>exact isTrue_and_nil e
 | false=>exact e
theorem D7 (ha:PT X a tA):PW X (.BoolOp .Or [a] pos) tA:=by
 intro wh pins s σ H Q I h
 refine isTrue_or (thn (ha pins s σ H Q I h) fun c s1 e=>?_)
 cases c with
 | false=>exact isTrue_or_nil e
 | true=>exact e
theorem GT (ha:PT X a tA) (hb:PW X (.BoolOp .And (b::lC) pos) tB'):PW X (.BoolOp .And (a::b::lC) pos) (tAnd tA tB'):=by
 intro wh pins s σ H Q I h
 refine isTrue_and (thn (ha pins s σ H _ I h) fun c s1 ⟨H1,I1,q1⟩=>?_)
 cases c with
 | true=>exact hb wh pins s1 σ H1 Q I1 q1
 | false=>exact ⟨H1,I1,q1⟩
theorem Gc (ha:PT X a tA) (hb:PW X (.BoolOp .Or (b::lC) pos) tB'):PW X (.BoolOp .Or (a::b::lC) pos) (tOr tA tB'):=by
 intro wh pins s σ H Q I h
 refine isTrue_or (thn (ha pins s σ H _ I h) fun c s1 ⟨H1,I1,q1⟩=>?_)
 cases c with
 | true=>exact ⟨H1,I1,q1⟩
 | false=>exact hb wh pins s1 σ H1 Q I1 q1
theorem vz (ha:PT X a tA):PT X (.UnaryOp .Not a pos) (tNot tA):=by
 intro pins s σ H Q I h
 exact isTrue_not (ha pins s σ H (fun c H1=>Q (!c) H1) I h)
def tAndV (ta tb:TE):TE:=fun σ H Q=>ta σ H fun x H1=>∃ c,x=.bl c∧if c=true then tb σ H1 Q else Q (.bl false) H1
def tOrV (ta tb:TE):TE:=fun σ H Q=>ta σ H fun x H1=>∃ c,x=.bl c∧if c=true then Q (.bl true) H1 else tb σ H1 Q
theorem Aq {op}{t:TE} (h:PE X a t):PE X (.BoolOp op [a] pos) t:=fun pins s σ H Q I hw=>BoolOp_one (h pins s σ H Q I hw)
theorem Eb (ha:PE X a ta) (hb:PE X (.BoolOp .And (b::lC) pos) tb):PE X (.BoolOp .And (a::b::lC) pos) (tAndV ta tb):=by
 intro pins s σ H Q I h
 refine BoolOp_and (thn (ha pins s σ H _ I h) fun v s1 ⟨x,H1,I1,r1,q1⟩=>?_)
 obtain ⟨c,rfl,q1⟩:=q1
 cases r1
 refine de ?_
 cases c with
 | true=>exact hb pins s1 σ H1 Q I1 q1
 | false=>exact ⟨.bl false,H1,I1,rfl,q1⟩
theorem pe_or (ha:PE X a ta) (hb:PE X (.BoolOp .Or (b::lC) pos) tb):PE X (.BoolOp .Or (a::b::lC) pos) (tOrV ta tb):=by
 intro pins s σ H Q I h
 refine BoolOp_or (thn (ha pins s σ H _ I h) fun v s1 ⟨x,H1,I1,r1,q1⟩=>?_)
 obtain ⟨c,rfl,q1⟩:=q1
 cases r1
 refine de ?_
 cases c with
 | false=>exact hb pins s1 σ H1 Q I1 q1
 | true=>exact ⟨.bl true,H1,I1,rfl,q1⟩
end
def SqL (K:aa) (H:Hp) (a:ae) (xs:List V):Prop :=
 Rd H a (.lst xs) ∨
  ∃ (o:Obj) (its:Array af) (n:Nat),K.lookup a=some o∧o.cls=.type "list"∧o.dict=none∧o.data=.seq its n∧its.size≤aQ∧Vals xs its.toList
def SqT (K:aa) (H:Hp) (a:ae) (xs:List V):Prop :=
 Rd H a (.tup xs) ∨
  ∃ (o:Obj) (its:Array af) (n:Nat),K.lookup a=some o∧o.cls=.type "tuple"∧o.data=.seq its n∧its.size≤aQ∧Vals xs its.toList
def absV:af→Option V
 | .none=>some .non
 | .bool b=>some (.bl b)
 | .int i _=>some (.int i)
 | .str x _=>some (.str x)
 | .bytes b _=>some (.byt b)
 | .float b _=>some (.flt b)
 | .ref a=>some (.ref a)
 | .type n=>some (.ty n)
 | _=>none
theorem RelV.abs {x:V}{u:af} (r:RelV x u):absV u=some x:=by
 cases x with
 | non=>cases r;rfl
 | bl _=>cases r;rfl
 | int _=>obtain ⟨t,rfl⟩:=r;rfl
 | str _=>obtain ⟨t,rfl⟩:=r;rfl
 | byt _=>obtain ⟨t,rfl⟩:=r;rfl
 | flt _=>obtain ⟨t,rfl⟩:=r;rfl
 | ref _=>cases r;rfl
 | ty _=>cases r;rfl
theorem RelV.inj {x y:V}{u:af} (r:RelV x u) (q:RelV y u):x=y:=aZ (r.abs.symm.trans q.abs)
theorem Vals.inj:∀ {xs ys:List V}{us:List af},Vals xs us→Vals ys us→xs=ys
 | _,_,_,.nil,.nil=>rfl
 | _,_,_,.cons r t,.cons r' t'=>by rw [r.inj r',Vals.inj t t']
section
variable {X:Cx}{pins:List (ae×Obj)}{σ:St}{H:Hp}{s:al}{a:ae}{xs ys:List V}
theorem SqL.of {K:aa} (h:H a=some (.lst xs)):SqL K H a xs:=.inl (.inl h)
theorem SqT.of {K:aa} (h:H a=some (.tup xs)):SqT K H a xs:=.inl (.inl h)
theorem Inv.list (I:Inv X pins σ H s) (h:SqL X.K H a xs):∃ its:List af,Vals xs its∧PlainL s.heap a its.toArray∧xs.length≤aQ:=by
 rcases h with h | ⟨o,its,n,hk,hc,hd,hs,hz,r⟩
 ·obtain ⟨z,its,n,r,e⟩:=h.ok I.hok
  exact ⟨its,r,⟨_,n,e,rfl,rfl,rfl⟩,z⟩
 ·refine ⟨its.toList,r,⟨o,n,I.kIn a o hk,hc,hd,by simpa using hs⟩,?_⟩
  have e:=r.length
  simp only [fw] at e
  omega
theorem Inv.tuple (I:Inv X pins σ H s) (h:SqT X.K H a xs):∃ its:List af,Vals xs its∧IsTup s.heap a its.toArray∧xs.length≤aQ:=by
 rcases h with h | ⟨o,its,n,hk,hc,hs,hz,r⟩
 ·obtain ⟨z,its,r,p⟩:=h.ok I.hok
  exact ⟨its,r,p,z⟩
 ·refine ⟨its.toList,r,⟨o,I.kIn a o hk,hc,n,by simpa using hs⟩,?_⟩
  have e:=r.length
  simp only [fw] at e
  omega
theorem Inv.list_inj (I:Inv X pins σ H s) (h:SqL X.K H a xs) (h':SqL X.K H a ys):xs=ys:=by
 obtain ⟨its,r,⟨o,n,e,_,_,d⟩,_⟩:=I.list h
 obtain ⟨its',r',⟨o',n',e',_,_,d'⟩,_⟩:=I.list h'
 rw [e] at e';cases e'
 rw [d] at d'
 injection d' with d1 _
 have:its=its':=by simpa using congrArg Array.toList d1
 subst this
 exact r.inj r'
theorem Inv.tuple_inj (I:Inv X pins σ H s) (h:SqT X.K H a xs) (h':SqT X.K H a ys):xs=ys:=by
 obtain ⟨its,r,⟨o,e,_,n,d⟩,_⟩:=I.tuple h
 obtain ⟨its',r',⟨o',e',_,n',d'⟩,_⟩:=I.tuple h'
 rw [e] at e';cases e'
 rw [d] at d'
 injection d' with d1 _
 have:its=its':=by simpa using congrArg Array.toList d1
 subst this
 exact r.inj r'
end
abbrev Cx.wish (X:Cx) (E:af→al→Prop):Cx:={ X with xe:=E }
abbrev Cx.nox (X:Cx):Cx:=X.wish fun _ _=>False
theorem Cx.Ok.wish {X:Cx} (ok:X.Ok) (E:af→al→Prop):(X.wish E).Ok :=
 ⟨ok.mod,ok.kind,ok.glob,ok.blt,ok.above,ok.inj,ok.has,ok.cab,ok.hd,ok.frames,ok.stk,ok.exf,ok.bs,ok.bsz,ok.noex,ok.exfs,ok.funs,ok.frf⟩
theorem Cx.Ok.unwish {X:Cx}{E:af→al→Prop} (ok:(X.wish E).Ok):X.Ok :=
 ⟨ok.mod,ok.kind,ok.glob,ok.blt,ok.above,ok.inj,ok.has,ok.cab,ok.hd,ok.frames,ok.stk,ok.exf,ok.bs,ok.bsz,ok.noex,ok.exfs,ok.funs,ok.frf⟩
section
variable {X:Cx}{pins:List (ae×Obj)}{σ:St}{H:Hp}{s:al}{E:af→al→Prop}
theorem Inv.wish (I:Inv X pins σ H s) (E:af→al→Prop):Inv (X.wish E) pins σ H s:=⟨I.ok.wish E,I.os,I.bare,I.base,I.loc,I.cell,I.free,I.freeC,I.pin,I.hok,I.len⟩
theorem Inv.unwish (I:Inv (X.wish E) pins σ H s):Inv X pins σ H s:=⟨I.ok.unwish,I.os,I.bare,I.base,I.loc,I.cell,I.free,I.freeC,I.pin,I.hok,I.len⟩
theorem SP.unwish {D:Ends}{f:Flow}{s':al} (h:SP (X.wish E) pins D f s'):SP X pins D f s':=by
 cases f with
 | next=>obtain ⟨σ',H',I,q⟩:=h;exact ⟨σ',H',I.unwish,q⟩
 | brk=>obtain ⟨σ',H',I,q⟩:=h;exact ⟨σ',H',I.unwish,q⟩
 | cont=>obtain ⟨σ',H',I,q⟩:=h;exact ⟨σ',H',I.unwish,q⟩
 | ret u=>obtain ⟨v,σ',H',I,r,q⟩:=h;exact ⟨v,σ',H',I.unwish,r,q⟩
theorem PSs.nox {st:List bX}{t:TS} (h:PSs X.nox st t):PSs X st t:=fun pins s σ H D I hw =>
 cr (h pins s σ H D (I.wish _) hw) (fun _ _ q=>q.unwish) fun _ _ z=>bG z
end
section
variable {X:Cx}{st:bX}{lC:List bX}{t u:TS}{e:bo}{te:TE}{pos:Pos}
def tNext:TS:=fun D σ H=>D.nx σ H
def tSeq (t u:TS):TS:=fun D σ H=>t { D with nx:=u D } σ H
theorem pss_nil:PSs X [] tNext:=fun _ _ σ H _ I h=>gQ ⟨σ,H,I,h⟩
theorem kD (h1:PS X st t) (h2:PSs X lC u):PSs X (st::lC) (tSeq t u):=by
 intro pins s σ H D I h
 refine wpAny_execs_cons (thn (h1 pins s σ H { D with nx:=u D } I h) fun f s1 q=>?_)
 cases f with
 | next =>
  obtain ⟨σ',H',I',q⟩:=q
  exact h2 pins s1 σ' H' D I' q
 | ret v=>exact q
 | brk=>exact q
 | cont=>exact q
theorem kL (h1:PS X st t):PSs X [st] t:=by
 intro pins s σ H D I h
 refine wpAny_execs_cons (thn (h1 pins s σ H D I h) fun f s1 q=>?_)
 cases f with
 | next=>exact gQ q
 | ret v=>exact q
 | brk=>exact q
 | cont=>exact q
theorem Inv.quiet {pins:List (ae×Obj)}{σ:St}{H:Hp}{s:al} (I:Inv X pins σ H s):interactive X.env=false:=by simp [interactive,I.ok.kind]
def tDrop (te:TE):TS:=fun D σ H=>te σ H fun _ H1=>D.nx σ H1
theorem nq (he:PE X e te) (hs:fA e none pos.line X.env=pure false:=by rfl):PS X (.Expr e pos) (tDrop te):=by
 intro pins s σ H D I h
 exact wpAny_Expr_any (thn (he pins s σ H _ I h) fun v s1 ⟨x,H1,I1,r1,q1⟩=>⟨σ,H1,I1,q1⟩) I.quiet hs
def tRet (te:TE):TS:=fun D σ H=>te σ H D.rt
theorem oz (he:PE X e te):PS X (.Return (some e) pos) (tRet te):=by
 intro pins s σ H D I h
 exact wpAny_Return_some (thn (he pins s σ H _ I h) fun v s1 ⟨x,H1,I1,r1,q1⟩=>⟨x,σ,H1,I1,r1,q1⟩)
def tIfS (c:TT) (t u:TS):TS:=fun D σ H=>c σ H fun b H1=>if b=true then t D σ H1 else u D σ H1
theorem r8 {c:bo}{a b:List bX}{tc:TT} (hc:PT X c tc) (ha:PSs X a t) (hb:PSs X b u):PS X (.If c a b pos) (tIfS tc t u):=by
 intro pins s σ H D I h
 refine wpAny_If (thn (hc pins s σ H _ I h) fun d s1 ⟨H1,I1,q1⟩=>?_)
 cases d with
 | true=>exact ha pins s1 σ H1 D I1 q1
 | false=>exact hb pins s1 σ H1 D I1 q1
abbrev TG:=V→St→Hp→(St→Hp→Prop)→Prop
abbrev TGs:=List V→St→Hp→(St→Hp→Prop)→Prop
def PG (X:Cx) (target:bo) (t:TG):Prop :=
 ∀ (pins:List (ae×Obj)) (s:al) (σ:St) (H:Hp) (v:V) (u:af) (Q:St→Hp→Prop),Inv X pins σ H s→RelV v u→t v σ H Q →
  bj (model X.prog X.w) X.A (assign target X.env u) (fun _ s'=>∃ σ' H',Inv X pins σ' H' s'∧Q σ' H') X.xe s
def PGs (X:Cx) (ts:List bo) (t:TGs):Prop :=
 ∀ (pins:List (ae×Obj)) (s:al) (σ:St) (H:Hp) (vs:List V) (us:List af) (Q:St→Hp→Prop),Inv X pins σ H s→Vals vs us→t vs σ H Q →
  bj (model X.prog X.w) X.A (jN ((cH ts X.env).map (·.2)) us) (fun _ s'=>∃ σ' H',Inv X pins σ' H' s'∧Q σ' H') X.xe s
abbrev GB:=V→V→V→Hp→(Hp→Prop)→Prop
def PSet (X:Cx) (t:GB):Prop :=
 ∀ (pins:List (ae×Obj)) (s:al) (σ:St) (H:Hp) (o i v:V) (ov iv u:af) (Q:Hp→Prop),Inv X pins σ H s→RelV o ov→RelV i iv→RelV v u→t o i v H Q →
  bj (model X.prog X.w) X.A (setItem ov iv u) (fun _ s'=>∃ H',Inv X pins σ H' s'∧Q H') X.xe s
def EC (i:Nat):TG:=fun v σ H Q=>Q (σ.set i (some v)) H
theorem AN {i:Nat}{x:Str} (hN:X.N.Nodup) (hi:X.N[i]?=some x) (hx:Loc X.env.scope x) (hf:X.fn x=true∨X.env.scope.names.lookup x=some .local:=by first | exact .inl rfl | exact .inr rfl | assumption):PG X (.Name x pos) (EC i):=by
 intro pins s σ H v u Q I r h
 exact wpAny_assign_Name (rX I hN hi hx r (fun s' I'=>⟨_,H,I',h⟩) hf)
def gNil:TGs:=fun vs σ H Q=>vs=[]∧Q σ H
def gCons (t:TG) (u:TGs):TGs:=fun vs σ H Q=>∃ v r,vs=v::r∧t v σ H fun σ' H'=>u r σ' H' Q
theorem pgs_nil:PGs X [] gNil:=by
 intro pins s σ H vs us Q I r h
 obtain ⟨e,h⟩:=h
 subst e
 cases r
 exact assignInOrder_nil ⟨σ,H,I,h⟩
theorem Da {e:bo}{es:List bo}{t:TG}{u:TGs} (h1:PG X e t) (h2:PGs X es u)
  (hs:(cH (e::es) X.env).map (·.2)=assign e X.env::(cH es X.env).map (·.2):=by rfl):PGs X (e::es) (gCons t u):=by
 intro pins s σ H vs us Q I r h
 obtain ⟨v,vr,e1,h⟩:=h
 subst e1
 cases r with
 | cons r rr =>
  rw [hs]
  refine iD (thn (h1 pins s σ H _ _ _ I r h) fun _ s1 ⟨σ1,H1,I1,q1⟩=>?_)
  exact h2 pins s1 σ1 H1 _ _ Q I1 rr q1
def gTup (K:aa) (n:Nat) (t:TGs):TG:=fun v σ H Q=>∃ a xs,v=.ref a∧SqT K H a xs∧xs.length=n∧t xs σ H Q
theorem GY {es:List bo}{k:Nat}{t:TGs}{n:Nat} (hc:X.calm=true) (h:PGs X es t)
  (hn:(cH es X.env).length=n:=by rfl) (hst:(cH es X.env).findIdx? (·.1)=none:=by rfl):PG X (.Tuple es k pos) (gTup X.K n t):=by
 intro pins s σ H v u Q I r hw
 obtain ⟨a,xs,e1,hq,hl,hw⟩:=hw
 subst e1
 cases r
 obtain ⟨its,rv,ht,hz⟩:=I.tuple hq
 refine assign_Tuple_tuple (I.ok.hd hc) ht (by simp [hn,← hl,rv.length]) hst fun h' hx=>?_
 have I1:Inv X pins σ H { s with heap:=h' }:=I.kept (t':=s.toks) fun b o e=>hx b o (aR (aH e)) e
 exact h pins _ σ H xs _ Q I1 (by simpa using rv) hw
def gSub (to ti:TE) (t:GB):TG:=fun v σ H Q=>to σ H fun o H1=>ti σ H1 fun i H2=>t o i v H2 fun H3=>Q σ H3
theorem GZ {o i:bo}{to ti:TE}{t:GB} (ho:PE X o to) (hi:PE X i ti) (hs:PSet X t)
  (ha:∀ v,assign (.Subscript o i pos) X.env v=(do
   let ov ← holding [v] (eval o X.env)
   let iv ← holding [v,ov] (eval i X.env)
   gs pos
   holding [v,ov,iv] (setItem ov iv v)
   release [v,ov,iv] []):=by intro _;rfl):PG X (.Subscript o i pos) (gSub to ti t):=by
 intro pins s σ H v u Q I r h
 rw [ha]
 refine aF (dU (thn (ho pins s σ H _ I h) fun ov s1 ⟨x,H1,I1,r1,q1⟩=>?_))
 refine aF (dU (thn (hi pins s1 σ H1 _ I1 q1) fun iv s2 ⟨y,H2,I2,r2,q2⟩=>?_))
 refine aF (iy (aF (dU (thn (hs pins s2 σ H2 x y v ov iv u _ I2 r1 r2 r q2) fun _ s3 ⟨H3,I3,q3⟩=>?_))))
 exact wpAny_release ⟨σ,H3,I3,q3⟩
def HX (te:TE) (g:TG):TS:=fun D σ H=>te σ H fun x H1=>g x σ H1 D.nx
theorem D8 {tg e:bo}{te:TE}{g:TG} (he:PE X e te) (hg:PG X tg g) (hs:gw [tg] e pos.line X.env=pure false:=by rfl) (hw:gz [tg] e X.env=pure none:=by rfl)
  (h1:(cH [tg] X.env).map (·.2)=[assign tg X.env]:=by rfl):PS X (.Assign [tg] e pos) (HX te g):=by
 intro pins s σ H D I h
 refine wpAny_Assign_stores (thn (he pins s σ H _ I h) fun v s1 ⟨x,H1,I1,r1,q1⟩=>?_) hs hw
 rw [h1]
 exact thn (hg pins s1 σ H1 x v _ I1 r1 q1) fun _ s2 q=>q
theorem oT {i:Nat}{x:Str}{e:bo}{te:TE}{pos':Pos} (hN:X.N.Nodup) (hi:X.N[i]?=some x) (hx:Loc X.env.scope x) (he:PE X e te) (hs:fA e (some (.Name x pos')) pos.line X.env=pure false:=by rfl) (hf:X.fn x=true∨X.env.scope.names.lookup x=some .local:=by first | exact .inl rfl | exact .inr rfl | assumption) :
  PS X (.Assign [.Name x pos'] e pos) (HX te (EC i)):=by
 intro pins s σ H D I h
 refine wpAny_Assign_Name (thn (he pins s σ H _ I h) fun v s1 ⟨y,H1,I1,r1,q1⟩=>?_) hs
 exact rX I1 hN hi hx r1 (fun s2 I2=>⟨_,H1,I2,q1⟩) hf
def tPar (i j:Nat) (ta:TA):TS:=fun D σ H=>ta σ H fun vs H1=>∃ v w,vs=[v,w]∧D.nx ((σ.set i (some v)).set j (some w)) H1
theorem GV {i j:Nat}{x y:Str}{a b:bo}{ta:TA}{px py pt:Pos}{kt k2 pt2} (hc:X.calm=true) (hN:X.N.Nodup) (hi:X.N[i]?=some x) (hj:X.N[j]?=some y) (hij:i≠j)
  (hx:X.env.scope.names.lookup x=some .local) (hy:X.env.scope.names.lookup y=some .local) (ha:PA X [a,b] ta)
  (hw:gz [.Tuple [.Name x px,.Name y py] kt pt] (.Tuple [a,b] k2 pt2) X.env=pure (some [x,y]))
  (hs:gw [.Tuple [.Name x px,.Name y py] kt pt] (.Tuple [a,b] k2 pt2) pos.line X.env=pure false:=by rfl) :
  PS X (.Assign [.Tuple [.Name x px,.Name y py] kt pt] (.Tuple [a,b] k2 pt2) pos) (tPar i j ta):=by
 intro pins s σ H D I h
 rw [exec_Assign_arm]
 refine aF (iy ?_)
 rw [hs]
 refine aF (aX ?_)
 rw [if_neg (by decide)]
 refine aF (Tuple_ (thn (ha _ pins s σ H _ I h) fun us s1 ⟨vs,H1,I1,r1,q1⟩=>?_))
 obtain ⟨v,w,e1,q1⟩:=q1
 subst e1
 obtain ⟨u1,u2,rfl,rv,rw'⟩:∃ u1 u2,us=[u1,u2]∧RelV v u1∧RelV w u2:=by
  cases r1 with
  | cons p q =>
   cases q with
   | cons p' q' =>
    cases q'
    exact ⟨_,_,rfl,p,p'⟩
 refine d6 ?_ (by show 2≤aQ;decide)
 have I2:Inv X pins σ H1 { s1 with heap:=s1.heap.push { cls:=.type "tuple",data:=.seq [u1,u2].toArray } }:=I1.kept (t':=s1.toks) fun b o e=>av _ e
 rw [hw]
 refine aF (aX ?_)
 show bj (model X.prog X.w) X.A (do rule "assign.swapped-stores";let items ← unpackItems (.ref s1.heap.objs.size) 2 none;jN [fun v=>bindName X.env y v,fun v=>bindName X.env x v] items.reverse;pure Flow.next) _ _ _
 refine aF (wpAny_rule (aF (unpackItems_tuple (items:=#[u1,u2]) (I.ok.hd hc) (IsTup.new s1.heap _) fun h' hx'=>?_)))
 have I3:=I2.kept (h':=h') (t':=s1.toks) fun b o e=>hx' b o (aR (aH e)) e
 show bj _ _ (jN [fun v=>bindName X.env y v,fun v=>bindName X.env x v] [u2,u1] >>= fun _=>pure Flow.next) _ _ _
 refine aF (iD (wpAny_bindName (rX I3 hN hj (.inl hy) rw' (fun s2 I4=>?_) (.inr hy))))
 refine iD (wpAny_bindName (rX I4 hN hi (.inl hx) rv (fun s3 I5=>assignInOrder_nil (aX ?_)) (.inr hx)))
 rw [List.set_comm _ _ (gG hij)] at I5
 exact ⟨_,H1,I5,q1⟩
def GH (c:TT) (tb:TS):TS:=fun D σ H=>∃ W:Nat→St→Hp→Prop,(∃ m,W m σ H)∧∀ m σ H,W m σ H →
 c σ H fun b H1=>if b=true then ∃ N:St→Hp→Prop,(∀ σ' H',N σ' H'→∃ m',m' < m∧W m' σ' H')∧tb { D with nx:=N,ct:=N,bk:=D.nx } σ H1 else D.nx σ H1
theorem yR {c:bo}{body:List bX}{tc:TT}{tb:TS} (hp:PassesOwn (model X.prog X.w) X.A X.env X.xe) (hc:PT X c tc) (hb:PSs X body tb):PS X (.While c body [] pos) (GH tc tb):=by
 intro pins s σ H D I h
 obtain ⟨W,⟨m0,w0⟩,turn⟩:=h
 refine wpAny_While (codeAny_whileLoop (fun n s'=>∃ σ' H',Inv X pins σ' H' s'∧W n σ' H') ?_ m0 ⟨σ,H,I,w0⟩)
 rintro n s1 ⟨σ1,H1,I1,w1⟩
 refine dP hp (thn (hc pins s1 σ1 H1 _ I1 (turn n σ1 H1 w1)) fun b s2 ⟨H2,I2,q2⟩=>?_)
 cases b with
 | true =>
  obtain ⟨N,hN,q2⟩:=q2
  rw [if_pos rfl]
  refine dP hp (thn (hb pins s2 σ1 H2 _ I2 q2) fun f s3 q3=>?_)
  cases f with
  | next =>
   obtain ⟨σ3,H3,I3,n3⟩:=q3
   obtain ⟨m',hm,w3⟩:=hN σ3 H3 n3
   exact ⟨m',hm,σ3,H3,I3,w3⟩
  | cont =>
   obtain ⟨σ3,H3,I3,n3⟩:=q3
   obtain ⟨m',hm,w3⟩:=hN σ3 H3 n3
   exact ⟨m',hm,σ3,H3,I3,w3⟩
  | brk=>exact q3
  | ret v=>exact q3
 | false =>
  rw [if_neg a7]
  exact gQ ⟨σ1,H2,I2,q2⟩
end
structure It where
 go:Nat→Hp→Prop
 yld:Nat→Hp→V→Hp→Prop
 stop:Nat→Hp→Prop
def Ah (X:Cx) (pins:List (ae×Obj)) (H:Hp) (b:ae):Prop :=
 H b=none∧b≠X.env.locals∧b∉X.fs∧(b∈X.ex∨X.s₀.heap.objs.size≤b)∧(∀ x c,X.env.cells.lookup x=some c→c≠b)∧∀ p∈X.pn++pins,p.1≠b
theorem Inv.fpOk {X:Cx}{pins:List (ae×Obj)}{σ:St}{H H':Hp}{s:al}{b:ae} (I:Inv X pins σ H s) (hb:s.heap.objs.size≤b) (hn:H' b=none):Ah X pins H' b:=by
 refine ⟨hn,Nat.ne_of_gt (ay I.lt hb),I.nofs hb,.inr (aJ I.sz hb),fun x c e z=>?_,fun p hp z=>?_⟩
 ·obtain ⟨v,q⟩:=I.cell x c e
  exact absurd (ay q.lt (by rw [z];exact hb)) (cE _)
 ·exact absurd (ay (aH (I.pin p hp).1) (by rw [z];exact hb)) (cE _)
structure Turn (P:aU) (w:bw) (K:aa) (tg:bo) (J:It) (fp:List ae) (it:ae) (tn:Nat→bM→Prop):Prop where
 mem:it∈fp
 obj:∀ i h,tn i h→∀ b∈fp,∃ o,h.get? b=some o∧∀ v,o.data≠.cell v
 keep:∀ i h h',tn i h→(∀ b∈fp,∀ o,h.get? b=some o→h'.get? b=some o)→tn i h'
 item:∀ (X:Cx),X.prog=P→X.w=w→X.K=K→X.calm=true→∀ (i:Nat) (pins:List (ae×Obj)) (s:al) (σ:St) (H:Hp) (E:af→al→Prop),Inv X pins σ H s→(∀ b∈fp,Ah X pins H b)→tn i s.heap→J.go i H →
  bj (model P w) X.A (pyNext (.ref it)) (fun r s1=>∃ u,r=some u ∧
   bj (model P w) X.A (je tg (.ref it) u) (fun _ s2=>∃ x H',Inv X pins σ H' s2∧RelV x u∧J.yld i H x H'∧tn (i+1) s2.heap∧∀ b∈fp,H' b=none) E s1) E s
 done:∀ (X:Cx),X.prog=P→X.w=w→X.K=K→X.calm=true→∀ (i:Nat) (pins:List (ae×Obj)) (s:al) (σ:St) (H:Hp) (E:af→al→Prop),Inv X pins σ H s→(∀ b∈fp,Ah X pins H b)→tn i s.heap→J.stop i H →
  bj (model P w) X.A (pyNext (.ref it)) (fun r s1=>r=none∧Inv X pins σ H s1) E s
 self:∀ (A:bL) (i:Nat) (s:al) (Q:af→al→Prop) (E:af→al→Prop),tn i s.heap→Q (.ref it) s→bj (model P w) A (pyIter (.ref it)) Q E s
abbrev TI:=St→Hp→(It→Hp→Prop)→Prop
def PIE (X:Cx) (pins:List (ae×Obj)) (σ:St) (tg:bo) (R:It→Hp→Prop) (itv:af) (s2:al):Prop :=
 ∃ (it:ae) (fp:List ae) (tn:Nat→bM→Prop) (J:It) (H':Hp),itv=.ref it∧Inv X pins σ H' s2∧Turn X.prog X.w X.K tg J fp it tn∧tn 0 s2.heap∧(∀ b∈fp,Ah X pins H' b)∧R J H'
def PI (X:Cx) (tg iter:bo) (wi:TI):Prop :=
 ∀ (pins:List (ae×Obj)) (s:al) (σ:St) (H:Hp) (R:It→Hp→Prop),Inv X pins σ H s→wi σ H R →
  bj (model X.prog X.w) X.A (eval iter X.env) (fun v s1=>bj (model X.prog X.w) X.A (pyIter v) (PIE X pins σ tg R) X.xe s1) X.xe s
theorem z8 {M:Model}{A:bL}{E:af→al→Prop}{s:al}{tg:bo}{it:ae}{u:af}{o:Obj}{n:String}{vs:Array af}{Q:Unit→al→Prop} (ho:s.heap.get? it=some o) (hc:o.cls=.type n) (hd:o.data=.fields vs)
  (hn:["enumerate","zip","dict_itemiterator","dict_reverseitemiterator","odict_iterator","itertools.zip_longest","itertools.pairwise"].contains n=false) (hQ:Q () s):bj M A (je tg (.ref it) u) Q E s:=by
 unfold je
 cases tg <;> first
  | exact aX hQ
  | (cases u <;> first
    | exact aX hQ
    | (refine aF (wpAny_load ho ?_)
       rw [hc,hd]
       show bj M A (if (["enumerate","zip","dict_itemiterator","dict_reverseitemiterator","odict_iterator","itertools.zip_longest","itertools.pairwise"].contains n && vs[0]? == some (dX _))=true then _ else _) Q E s
       rw [if_neg (by intro h;rw [hn,dW] at h;cases h)]
       exact aX hQ))
def Itl (K:aa) (a:ae):It :=
 ⟨fun i H=>∃ xs x,SqL K H a xs∧xs[i]?=some x,fun i H x H'=>H'=H∧∀ xs,SqL K H a xs→xs[i]?=some x,fun i H=>∃ xs,SqL K H a xs∧xs.length≤i⟩
def Itt (K:aa) (a:ae):It :=
 ⟨fun i H=>∃ xs x,SqT K H a xs∧xs[i]?=some x,fun i H x H'=>H'=H∧∀ xs,SqT K H a xs→xs[i]?=some x,fun i H=>∃ xs,SqT K H a xs∧xs.length≤i⟩
def Itr (lo:Int) (n:Nat):It:=⟨fun i _=>i < n,fun i H x H'=>H'=H∧x=.int (lo+i),fun i _=>n≤i⟩
theorem wn {P:aU}{w:bw}{K:aa}{tg:bo} (a it:ae):Turn P w K tg (Itl K a) [it] it (fun i h=>h.IsListIter it a i) where
 mem:=by simp
 obj:=fun i h st b hb=>by
  have e:b=it:=by simpa using hb
  subst e
  obtain ⟨o,e,c,d⟩:=st
  exact ⟨o,e,fun v z=>by rw [d] at z;cases z⟩
 keep:=fun i h h' st k=>st.at fun o e=>k it (by simp) o e
 item:=by
  intro X hP hw hK hc i pins s σ H E I hf st hg
  subst hP hw hK
  obtain ⟨xs,x,hq,hx⟩:=hg
  obtain ⟨its,rv,p,hz⟩:=I.list hq
  obtain ⟨u,hu,ru⟩:=rv.get hx
  obtain ⟨f0,f1,f2,f3,f4,f5⟩:=hf it (by simp)
  refine wpAny_pyNext_list_item st p.isList (x:=u) (by simpa using hu) fun h' st' sb=>?_
  have I1:Inv X pins σ H { s with heap:=h' }:=I.turned (t':=s.toks) (fun b o hb e=>(sb.2 b hb).trans e) f0 f1 f3 f4 f5
  obtain ⟨o,e,c,d⟩:=id st'
  exact ⟨u,rfl,z8 (s:={ s with heap:=h' }) e c d (by decide) ⟨x,H,I1,ru,⟨rfl,fun ys hy=>by rw [I.list_inj hy hq];exact hx⟩,st',fun b hb=>(hf b hb).1⟩⟩
 done:=by
  intro X hP hw hK hc i pins s σ H E I hf st hg
  subst hP hw hK
  obtain ⟨xs,hq,hx⟩:=hg
  obtain ⟨its,rv,p,hz⟩:=I.list hq
  obtain ⟨f0,f1,f2,f3,f4,f5⟩:=hf it (by simp)
  have hl:=rv.length
  exact wpAny_pyNext_list_end (I.ok.hd hc) st p.isList (by simp;omega) fun h' eb=>⟨rfl,I.turned (t':=s.toks) (fun b o hb e=>eb b o hb e) f0 f1 f3 f4 f5⟩
 self:=fun _ _ _ _ _ st h=>wpAny_pyIter_listiter st h
theorem zu {P:aU}{w:bw}{K:aa}{tg:bo} (a it:ae):Turn P w K tg (Itt K a) [it] it (fun i h=>h.IsTupleIter it a i) where
 mem:=by simp
 obj:=fun i h st b hb=>by
  have e:b=it:=by simpa using hb
  subst e
  obtain ⟨o,e,c,d⟩:=st
  exact ⟨o,e,fun v z=>by rw [d] at z;cases z⟩
 keep:=fun i h h' st k=>st.at fun o e=>k it (by simp) o e
 item:=by
  intro X hP hw hK hc i pins s σ H E I hf st hg
  subst hP hw hK
  obtain ⟨xs,x,hq,hx⟩:=hg
  obtain ⟨its,rv,p,hz⟩:=I.tuple hq
  obtain ⟨u,hu,ru⟩:=rv.get hx
  obtain ⟨f0,f1,f2,f3,f4,f5⟩:=hf it (by simp)
  refine wpAny_pyNext_tuple_item st (show s.heap.IsTuple a its.toArray from p) (x:=u) (by simpa using hu) fun h' st' sb=>?_
  have I1:Inv X pins σ H { s with heap:=h' }:=I.turned (t':=s.toks) (fun b o hb e=>(sb.2 b hb).trans e) f0 f1 f3 f4 f5
  obtain ⟨o,e,c,d⟩:=id st'
  exact ⟨u,rfl,z8 (s:={ s with heap:=h' }) e c d (by decide) ⟨x,H,I1,ru,⟨rfl,fun ys hy=>by rw [I.tuple_inj hy hq];exact hx⟩,st',fun b hb=>(hf b hb).1⟩⟩
 done:=by
  intro X hP hw hK hc i pins s σ H E I hf st hg
  subst hP hw hK
  obtain ⟨xs,hq,hx⟩:=hg
  obtain ⟨its,rv,p,hz⟩:=I.tuple hq
  obtain ⟨f0,f1,f2,f3,f4,f5⟩:=hf it (by simp)
  have hl:=rv.length
  exact wpAny_pyNext_tuple_end (I.ok.hd hc) st (show s.heap.IsTuple a its.toArray from p) (by simp;omega) fun h' eb=>⟨rfl,I.turned (t':=s.toks) (fun b o hb e=>eb b o hb e) f0 f1 f3 f4 f5⟩
 self:=fun _ _ _ _ _ st h=>wpAny_pyIter_tupleiter st h
theorem zv {P:aU}{w:bw}{K:aa}{tg:bo} (it:ae) (lo:Int) (n:Nat):Turn P w K tg (Itr lo n) [it] it (fun i h=>IsRangeIter h it (lo+(i:Nat) * 1) ((n:Int) - (i:Nat)) 1) where
 mem:=by simp
 obj:=fun i h st b hb=>by
  have e:b=it:=by simpa using hb
  subst e
  exact ⟨_,st,fun v z=>by
   have z':Data.fields _=Data.cell v:=z
   cases z'⟩
 keep:=fun i h h' st k=>k it (by simp) _ st
 item:=by
  intro X hP hw hK hc i pins s σ H E I hf st hg
  subst hP hw hK
  obtain ⟨f0,f1,f2,f3,f4,f5⟩:=hf it (by simp)
  have W:=Walks.range (prog:=X.prog) (w:=X.w) (I.ok.hd hc) it lo 1 n
  refine W.item i s _ _ hg st fun v h' tk hv st' kk=>?_
  obtain ⟨t,rfl⟩:=hv
  have I1:Inv X pins σ H { s with heap:=h',toks:=tk }:=I.turned (fun b o hb e=>kk b o (by simpa using hb) e) f0 f1 f3 f4 f5
  refine ⟨_,rfl,z8 (s:={ s with heap:=h',toks:=tk }) (n:="range_iterator") st' rfl rfl (by decide) ⟨.int (lo+i),H,I1,⟨t,?_⟩,⟨rfl,rfl⟩,st',fun b hb=>(hf b hb).1⟩⟩
  rw [jY]
 done:=by
  intro X hP hw hK hc i pins s σ H E I hf st hg
  subst hP hw hK
  obtain ⟨f0,f1,f2,f3,f4,f5⟩:=hf it (by simp)
  exact wpAny_pyNext_range_end (I.ok.hd hc) st (by have:n≤i:=hg;omega) fun h' eb=>⟨rfl,I.turned (t':=s.toks) (fun b o hb e=>eb b o hb e) f0 f1 f3 f4 f5⟩
 self:=fun _ _ _ _ _ st h=>wpAny_pyIter_rangeiter st h
section
variable {X:Cx}{tg:bo}
def iList (K:aa) (tl:TE):TI:=fun σ H R=>tl σ H fun x H1=>∃ a,x=.ref a∧(∃ xs,SqL K H1 a xs)∧R (Itl K a) H1
theorem E6 {l:bo}{tl:TE} (hl:PE X l tl):PI X tg l (iList X.K tl):=by
 intro pins s σ H R I h
 refine thn (hl pins s σ H _ I h) fun v s1 ⟨x,H1,I1,r1,q1⟩=>?_
 obtain ⟨a,e,⟨xs,hq⟩,q⟩:=q1
 subst e
 cases r1
 obtain ⟨its,rv,p,hz⟩:=I1.list hq
 refine e8 p.isList ?_
 refine ⟨s1.heap.objs.size,[s1.heap.objs.size],_,_,H1,rfl,I1.kept (t':=s1.toks) fun b o e=>av _ e,wn a _,⟨_,ba _ rfl,rfl,rfl⟩,fun b hb=>?_,q⟩
 have e:b=s1.heap.objs.size:=by simpa using hb
 subst e
 exact I1.fpOk (aA _) (I1.hok.fresh (aA _))
theorem C0 {pins:List (ae×Obj)}{σ:St}{H:Hp}{s:al}{R:It→Hp→Prop}{E:af→al→Prop}{lo hi:Int}{t u v:Tok}{tk:Nat} (I:Inv X pins σ H s) (h1:-(2 ^ 62)≤lo) (h2:lo < 2 ^ 62) (h3:-(2 ^ 62)≤hi) (h4:hi < 2 ^ 62)
  (q:R (Itr lo (hi - lo).toNat) H):bj (model X.prog X.w) X.A (pyIter (.ref s.heap.objs.size)) (PIE X pins σ tg R) E { s with heap:=s.heap.push { cls:=.type "range",data:=.fields #[.int lo t,.int hi u,.int 1 v] },toks:=tk }:=by
 refine wpAny_pyIter_range (IsRange.new ..) (small_one h1 h2 h3 h4) ?_
 have I1:Inv X pins σ H { s with heap:=s.heap.push { cls:=.type "range",data:=.fields #[.int lo t,.int hi u,.int 1 v] },toks:=tk }:=I.kept fun b o e=>av _ e
 refine ⟨(s.heap.push { cls:=.type "range",data:=.fields #[.int lo t,.int hi u,.int 1 v] }).objs.size,[(s.heap.push { cls:=.type "range",data:=.fields #[.int lo t,.int hi u,.int 1 v] }).objs.size],_,_,H,rfl,
  I1.kept (t':=tk) fun b o e=>av _ e,zv _ lo (hi - lo).toNat,?_,fun b hb=>?_,q⟩
 ·have e1:lo+((0:Nat):Int) * 1=lo:=by simp
  have e2:(((hi - lo).toNat:Nat):Int) - ((0:Nat):Int)=Builtin.Range.rangeSize lo hi 1:=by rw [rangeSize_one];split <;> omega
  show IsRangeIter _ _ (lo+((0:Nat):Int) * 1) ((((hi - lo).toNat:Nat):Int) - ((0:Nat):Int)) 1
  rw [e1,e2]
  exact ba _ rfl
 ·have e:b=(s.heap.push { cls:=.type "range",data:=.fields #[.int lo t,.int hi u,.int 1 v] }).objs.size:=by simpa using hb
  subst e
  exact I1.fpOk (aA _) (I1.hok.fresh (aA _))
def iRng1 (ta:TA):TI:=fun σ H R=>ta σ H fun vs H1=>∃ j:Int,vs=[.int j]∧-(2 ^ 62)≤j∧j < 2 ^ 62∧R (Itr 0 j.toNat) H1
theorem Bp {a:bo}{ta:TA}{p pos:Pos} (hg:Gl X "range") (hm:X.mg "range"=none) (ha:PA X [a] ta) (hs:aP [a] X.env=[(false,eval a X.env)]:=by rfl):PI X tg (.Call (.Name "range" p) [a] [] pos) (iRng1 ta):=by
 intro pins s σ H R I h
 refine Call_ (vS I hg hm boot_range (eX (thn (ha pos pins s σ H _ I h) fun us s1 ⟨vs,H1,I1,r1,q1⟩=>?_) hs rfl))
 obtain ⟨j,e,q1,q2,q⟩:=q1
 subst e
 cases r1 with
 | cons r rr =>
  cases rr
  obtain ⟨t,rfl⟩:=r
  exact call_range_1 (C0 I1 (by omega) (by omega) q1 q2 (by simpa using q))
def tFor (wi:TI) (g:TG) (tb:TS):TS:=fun D σ H=>wi σ H fun J H1=>∃ W:Nat→Nat→St→Hp→Prop,(∃ m,W 0 m σ H1)∧∀ i m σ H,W i m σ H →
 (J.stop i H∧D.nx σ H)∨(J.go i H∧∃ N:St→Hp→Prop,(∀ σ' H',N σ' H'→∃ m',m' < m∧W (i+1) m' σ' H')∧∀ x H',J.yld i H x H'→g x σ H' fun σ2 H2=>tb { D with nx:=N,ct:=N,bk:=D.nx } σ2 H2)
def vD (fp:List ae) (h:bM):List (ae×Obj):=fp.filterMap fun b=>(h.get? b).map fun o=>(b,o)
theorem pK {fp:List ae}{h:bM}{b:ae}{o:Obj} (hb:b∈fp) (e:h.get? b=some o):(b,o)∈vD fp h:=g6.mpr ⟨b,hb,by rw [e];rfl⟩
theorem Bz {fp:List ae}{h:bM}{p:ae×Obj} (hp:p∈vD fp h):p.1∈fp∧h.get? p.1=some p.2:=by
 obtain ⟨b,hb,e⟩:=g6.mp hp
 cases q:h.get? b with
 | none=>rw [q] at e;cases e
 | some o =>
  rw [q] at e
  have e':(b,o)=p:=aZ e
  subst e'
  exact ⟨hb,q⟩
theorem Inv.pinned {pins:List (ae×Obj)}{σ:St}{H:Hp}{s:al}{fp:List ae} (I:Inv X pins σ H s) (hf:∀ b∈fp,Ah X pins H b) (ho:∀ b∈fp,∃ o,s.heap.get? b=some o∧∀ v,o.data≠.cell v):Inv X (pins++vD fp s.heap) σ H s :=
 I.pins_of fun p hp=>(aO.mp hp).elim (fun z=>I.pin p (aI _ z)) fun z=>by
  obtain ⟨hb,e⟩:=Bz z
  obtain ⟨f0,f1,f2,_⟩:=hf p.1 hb
  obtain ⟨o,e',d⟩:=ho p.1 hb
  rw [e] at e';cases e'
  exact ⟨e,f0,f1,f2,d⟩
theorem Inv.unpinned {pins pl:List (ae×Obj)}{σ:St}{H:Hp}{s:al} (I:Inv X (pins++pl) σ H s):Inv X pins σ H s:=I.pins_of fun p hp=>I.pin p (aI _ (bH _ hp))
theorem GW {iter:bo}{body:List bX}{wi:TI}{g:TG}{tb:TS}{pos:Pos} (hp:PassesOwn (model X.prog X.w) X.A X.env X.xe) (hc:X.calm=true) (hi:PI X tg iter wi) (hg:PG X tg g) (hb:PSs X body tb)
  (hs:∀ x,cN iter X.env x=pure x:=by intro _;rfl):PS X (.For tg iter body [] pos) (tFor wi g tb):=by
 intro pins s σ H D I h
 refine wpAny_For (thn (hi pins s σ H _ I h) fun v s1 h1=>thn h1 fun itv s2 h2=>?_) hs
 obtain ⟨it,fp,tn,J,H2,e,I2,T,st2,f2,W,⟨m0,w0⟩,turn⟩:=h2
 subst e
 have stat:∀ {H':Hp},(∀ b∈fp,H' b=none)→∀ b∈fp,Ah X pins H' b:=fun hn b hb=>⟨hn b hb,(f2 b hb).2⟩
 refine codeAny_forLoop_any (fun n s'=>∃ i σ' H',Inv X pins σ' H' s'∧tn i s'.heap∧(∀ b∈fp,H' b=none)∧W i n σ' H') ?_ m0 ⟨0,σ,H2,I2,st2,fun b hb=>(f2 b hb).1,w0⟩
 rintro n s3 ⟨i,σ3,H3,I3,st3,fr3,w3⟩
 rcases turn i n σ3 H3 w3 with ⟨stop,qn⟩ | ⟨go,N,hN,step⟩
 ·refine dP hp (thn (T.done X rfl rfl rfl hc i pins s3 σ3 H3 X.xe I3 (stat fr3) st3 stop) fun r s4 ⟨hr,I4⟩=>?_)
  subst hr
  exact gQ ⟨σ3,H3,I4,qn⟩
 ·refine dP hp (thn (T.item X rfl rfl rfl hc i pins s3 σ3 H3 X.xe I3 (stat fr3) st3 go) fun r s4 ⟨u,hr,h4⟩=>?_)
  subst hr
  refine dP hp (thn h4 fun _ s5 ⟨x,H5,I5,r5,y5,st5,fr5⟩=>?_)
  have I5':=I5.pinned (stat fr5) (T.obj _ _ st5)
  refine dP hp (thn (hg _ s5 σ3 H5 x u _ I5' r5 (step x H5 y5)) fun _ s6 ⟨σ6,H6,I6,q6⟩=>?_)
  refine dP hp (thn (hb _ s6 σ6 H6 _ I6 q6) fun f s7 q7=>?_)
  have again:∀ {σ7:St}{H7:Hp},Inv X (pins++vD fp s5.heap) σ7 H7 s7→N σ7 H7→∃ m,m < n∧∃ i σ' H',Inv X pins σ' H' s7∧tn i s7.heap∧(∀ b∈fp,H' b=none)∧W i m σ' H':=fun {σ7 H7} I7 n7=>by
   obtain ⟨m',hm,w7⟩:=hN σ7 H7 n7
   refine ⟨m',hm,i+1,σ7,H7,I7.unpinned,T.keep _ _ _ st5 fun b hb o e=>(I7.pin (b,o) (aI _ (aI _ (pK hb e)))).1,fun b hb=>?_,w7⟩
   obtain ⟨o,e,d⟩:=T.obj _ _ st5 b hb
   exact (I7.pin (b,o) (aI _ (aI _ (pK hb e)))).2.1
  cases f with
  | next=>obtain ⟨σ7,H7,I7,n7⟩:=q7;exact again I7 n7
  | cont=>obtain ⟨σ7,H7,I7,n7⟩:=q7;exact again I7 n7
  | brk=>obtain ⟨σ7,H7,I7,q7⟩:=q7;exact ⟨σ7,H7,I7.unpinned,q7⟩
  | ret v=>obtain ⟨x7,σ7,H7,I7,r7,q7⟩:=q7;exact ⟨x7,σ7,H7,I7.unpinned,r7,q7⟩
end
abbrev R2:=V→V→Hp→VK→Prop
def OpR (X:Cx) (f:af→af→Sem af) (r:R2):Prop :=
 ∀ (pins:List (ae×Obj)) (s:al) (σ:St) (H:Hp) (x y:V) (v u:af) (Q:VK),Inv X pins σ H s→RelV x v→RelV y u→r x y H Q →
  bj (model X.prog X.w) X.A (f v u) (EP X pins σ Q) X.xe s
def UnR (X:Cx) (f:af→Sem af) (r:V→Hp→VK→Prop):Prop :=
 ∀ (pins:List (ae×Obj)) (s:al) (σ:St) (H:Hp) (x:V) (v:af) (Q:VK),Inv X pins σ H s→RelV x v→r x H Q →
  bj (model X.prog X.w) X.A (f v) (EP X pins σ Q) X.xe s
def CallR (X:Cx) (f:af) (r:List V→Hp→VK→Prop):Prop :=
 ∀ (pins:List (ae×Obj)) (s:al) (σ:St) (H:Hp) (xs:List V) (us:List af) (Q:VK),Inv X pins σ H s→Vals xs us→r xs H Q →
  bj (model X.prog X.w) X.A (call f us) (EP X pins σ Q) X.xe s
def tOp (r:R2) (ta tb:TE):TE:=fun σ H Q=>ta σ H fun x H1=>tb σ H1 fun y H2=>r x y H2 Q
def tUn (r:V→Hp→VK→Prop) (ta:TE):TE:=fun σ H Q=>ta σ H fun x H1=>r x H1 Q
def rI (C:Int→Int→Prop) (g:Int→Int→V):R2:=fun x y H Q=>∃ i j,x=.int i∧y=.int j∧C i j∧Q (g i j) H
def rI0 (g:Int→Int→V):R2:=fun x y H Q=>∃ i j,x=.int i∧y=.int j∧Q (g i j) H
def rU (g:Int→V):V→Hp→VK→Prop:=fun x H Q=>∃ i,x=.int i∧Q (g i) H
section
variable {X:Cx}{a b c:bo}{ta tb tc:TE}{pos:Pos}
theorem Il (ha:PE X a ta) (hb:PE X b tb) {pins:List (ae×Obj)}{s:al}{σ:St}{H:Hp}{R:V→V→Hp→Prop} (I:Inv X pins σ H s)
  (h:ta σ H fun x H1=>tb σ H1 fun y H2=>R x y H2) {Q:af→al→Prop}{f:af→af→Sem af}
  (hf:∀ v u s2 x y H2,Inv X pins σ H2 s2→RelV x v→RelV y u→R x y H2→bj (model X.prog X.w) X.A (f v u) Q X.xe s2) :
  bj (model X.prog X.w) X.A (eval a X.env) (fun v s₁=>bj (model X.prog X.w) X.A (eval b X.env) (fun u s₂=>bj (model X.prog X.w) X.A (f v u) Q X.xe s₂) X.xe s₁) X.xe s:=by
 refine thn (ha pins s σ H _ I h) fun v s1 ⟨x,H1,I1,r1,q1⟩=>?_
 refine thn (hb pins s1 σ H1 _ I1 q1) fun u s2 ⟨y,H2,I2,r2,q2⟩=>?_
 exact hf v u s2 x y H2 I2 r1 r2 q2
theorem pU {op:Operator}{r:R2} (ho:OpR X (cY op) r) (ha:PE X a ta) (hb:PE X b tb):PE X (.BinOp a op b pos) (tOp r ta tb):=by
 intro pins s σ H Q I h
 exact wpAny_BinOp (Il ha hb I h fun v u s2 x y H2 I2 rx ry q=>ho pins s2 σ H2 x y v u Q I2 rx ry q)
theorem Gd {op:UnaryOp}{r:V→Hp→VK→Prop} (ho:UnR X (unaryOp op) r) (ha:PE X a ta):PE X (.UnaryOp op a pos) (tUn r ta):=by
 intro pins s σ H Q I h
 exact UnaryOp_ (thn (ha pins s σ H _ I h) fun v s1 ⟨x,H1,I1,r1,q1⟩=>ho pins s1 σ H1 x v Q I1 r1 q1)
theorem opI {f:af→af→Sem af}{C:Int→Int→Prop}{g:Int→Int→Int}
  (rule:∀ (i j:Int) (t u:Tok) (s:al) (Q:af→al→Prop) (E:af→al→Prop),C i j→Q (.int (g i j) s.toks) { s with toks:=s.toks+1 }→bj (model X.prog X.w) X.A (f (.int i t) (.int j u)) Q E s) :
  OpR X f (rI C fun i j=>.int (g i j)):=by
 intro pins s σ H x y v u Q I rx ry h
 obtain ⟨i,j,rfl,rfl,hc,q⟩:=h
 obtain ⟨t,rfl⟩:=rx
 obtain ⟨t',rfl⟩:=ry
 exact rule i j t t' s _ _ hc ⟨.int (g i j),H,I.tok _,⟨_,rfl⟩,q⟩
theorem Ii {f:af→af→Sem af}{g:Int→Int→Int}
  (rule:∀ (i j:Int) (t u:Tok) (s:al) (Q:af→al→Prop) (E:af→al→Prop),Q (.int (g i j) s.toks) { s with toks:=s.toks+1 }→bj (model X.prog X.w) X.A (f (.int i t) (.int j u)) Q E s) :
  OpR X f (rI0 fun i j=>.int (g i j)):=by
 intro pins s σ H x y v u Q I rx ry h
 obtain ⟨i,j,rfl,rfl,q⟩:=h
 obtain ⟨t,rfl⟩:=rx
 obtain ⟨t',rfl⟩:=ry
 exact rule i j t t' s _ _ ⟨.int (g i j),H,I.tok _,⟨_,rfl⟩,q⟩
theorem Gi {f:af→af→Sem af}{g:Int→Int→Bool}
  (rule:∀ (i j:Int) (t u:Tok) (s:al) (Q:af→al→Prop) (E:af→al→Prop),Q (.bool (g i j)) s→bj (model X.prog X.w) X.A (f (.int i t) (.int j u)) Q E s) :
  OpR X f (rI0 fun i j=>.bl (g i j)):=by
 intro pins s σ H x y v u Q I rx ry h
 obtain ⟨i,j,rfl,rfl,q⟩:=h
 obtain ⟨t,rfl⟩:=rx
 obtain ⟨t',rfl⟩:=ry
 exact rule i j t t' s _ _ ⟨.bl (g i j),H,I,rfl,q⟩
def GC (i j:Int):Prop:=0≤j∧j≤1000000∧i.natAbs < 2 ^ 64
def CMul (i j:Int):Prop:=(-(2 ^ 64) < i∧i < 2 ^ 64)∨(-(2 ^ 64) < j∧j < 2 ^ 64)
theorem CMul.ok {i j:Int} (h:CMul i j):IntMulOk i j:=by
 rcases h with ⟨h1,h2⟩ | ⟨h1,h2⟩
 ·exact .of_left (intBits_le_64 h1 h2)
 ·exact .of_right (intBits_le_64 h1 h2)
theorem zt (k:Nat):(0:Int)≤2 ^ k:=by
 rw [two_pow_cast]
 exact Int.natCast_nonneg _
theorem op_add:OpR X (cY .Add) (rI0 fun i j=>.int (i+j)):=Ii fun _ _ _ _ _ _ _ q=>add_int q
theorem G4:OpR X (cY .Sub) (rI0 fun i j=>.int (i - j)):=Ii fun _ _ _ _ _ _ _ q=>sub_int q
theorem Ha:OpR X (cY .Mult) (rI CMul fun i j=>.int (i * j)):=opI fun _ _ _ _ _ _ _ hc q=>mul_int q hc.ok
theorem Ed:OpR X (cY .Mod) (rI (fun _ j=>0 < j) fun i j=>.int (i % j)):=opI fun i j _ _ _ _ _ hc q=>by
 have h1:(0:Int) < j:=hc
 exact mod_int' (by omega) (by rw [Int.fmod_eq_emod_of_nonneg i (by omega)];exact q)
theorem G8:OpR X (cY .Pow) (rI GC fun i j=>.int (i ^ j.toNat)):=opI fun _ _ _ _ _ _ _ hc q=>pow_int_small hc.1 hc.2.1 hc.2.2 q
theorem G6:OpR X (cY .LShift) (rI GC fun i j=>.int (i * 2 ^ j.toNat)):=opI fun _ _ _ _ _ _ _ hc q=>lshift_int_small hc.1 hc.2.1 hc.2.2 q
theorem G5:OpR X (cY .RShift) (rI (fun _ j=>0≤j) fun i j=>.int (i / 2 ^ j.toNat)):=opI fun i j _ _ _ _ _ hc q =>
 rshift_int hc (by rw [i0 i (zt _)];exact q)
theorem Hf:OpR X (cY .BitAnd) (rI0 fun i j=>.int (cD i j)):=Ii fun _ _ _ _ _ _ _ q=>and_int q
theorem unI {f:af→Sem af}{g:Int→Int}
  (rule:∀ (i:Int) (t:Tok) (s:al) (Q:af→al→Prop) (E:af→al→Prop),Q (.int (g i) s.toks) { s with toks:=s.toks+1 }→bj (model X.prog X.w) X.A (f (.int i t)) Q E s) :
  UnR X f (rU fun i=>.int (g i)):=by
 intro pins s σ H x v Q I rx h
 obtain ⟨i,rfl,q⟩:=h
 obtain ⟨t,rfl⟩:=rx
 exact rule i t s _ _ ⟨.int (g i),H,I.tok _,⟨_,rfl⟩,q⟩
theorem DX:UnR X (unaryOp .USub) (rU fun i=>.int (-i)):=unI fun _ _ _ _ _ q=>neg_int q
def scal:V→V→Bool
 | .non,.non=>true | .non,.int _=>true | .int _,.non=>true | .non,.bl _=>true | .bl _,.non=>true | .non,.str _=>true | .str _,.non=>true
 | .int _,.int _=>true | .bl _,.bl _=>true | .str _,.str _=>true | .byt _,.byt _=>true
 | .int _,.str _=>true | .str _,.int _=>true | .bl _,.str _=>true | .str _,.bl _=>true
 | _,_=>false
def rNe:R2:=fun x y H Q=>scal x y=true∧Q (.bl (!decide (x=y))) H
theorem FK {i j:Int}:decide (V.int i=V.int j)=(i == j):=by
 rw [bP]
 simp
theorem HH {i j:Bool}:decide (V.bl i=V.bl j)=(i == j):=by
 rw [bP]
 simp
theorem FJ {i j:Str}:decide (V.str i=V.str j)=(i == j):=by
 rw [bP]
 simp
theorem FM {i j:Array UInt8}:decide (V.byt i=V.byt j)=(i.toList == j.toList):=by
 rw [bP]
 cases i
 cases j
 simp
theorem l6 {pins:List (ae×Obj)}{σ:St}{H:Hp}{s:al}{Q:VK}{k k':Bool} (I:Inv X pins σ H s) (q:Q (.bl k) H) (e:k=k'):EP X pins σ Q (.bool k') s:=by
 subst e
 exact ⟨.bl k,H,I,rfl,q⟩
theorem op_ne:OpR X (bT .NotEq) rNe:=by
 intro pins s σ H x y v u Q I rx ry h
 obtain ⟨hs,q⟩:=h
 cases x with
 | non =>
  cases rx
  cases y with
  | non=>cases ry;exact PySem.EqNone.ne_none_none (l6 I q (by simp))
  | bl j=>cases ry;exact PySem.EqNone.ne_none_bool (l6 I q (by simp))
  | int j=>obtain ⟨t',rfl⟩:=ry;exact PySem.EqNone.ne_none_int (l6 I q (by simp))
  | str j=>obtain ⟨t',rfl⟩:=ry;exact PySem.EqNone.ne_none_str (l6 I q (by simp))
  | _=>exact absurd (show false=true from hs) a7
 | bl i =>
  cases rx
  cases y with
  | non=>cases ry;exact PySem.EqNone.ne_bool_none (l6 I q (by simp))
  | bl j=>cases ry;exact ne_bool (l6 I q (congrArg not HH))
  | str j=>obtain ⟨t',rfl⟩:=ry;exact PySem.EqMixed.ne_bool_str (l6 I q (by simp))
  | _=>exact absurd (show false=true from hs) a7
 | int i =>
  obtain ⟨t,rfl⟩:=rx
  cases y with
  | non=>cases ry;exact PySem.EqNone.ne_int_none (l6 I q (by simp))
  | int j=>obtain ⟨t',rfl⟩:=ry;exact ne_int (l6 I q (congrArg not FK))
  | str j=>obtain ⟨t',rfl⟩:=ry;exact PySem.EqMixed.ne_int_str (l6 I q (by simp))
  | _=>exact absurd (show false=true from hs) a7
 | str i =>
  obtain ⟨t,rfl⟩:=rx
  cases y with
  | non=>cases ry;exact PySem.EqNone.ne_str_none (l6 I q (by simp))
  | bl j=>cases ry;exact PySem.EqMixed.ne_str_bool (l6 I q (by simp))
  | int j=>obtain ⟨t',rfl⟩:=ry;exact PySem.EqMixed.ne_str_int (l6 I q (by simp))
  | str j=>obtain ⟨t',rfl⟩:=ry;exact ne_str (l6 I q (congrArg not FJ))
  | _=>exact absurd (show false=true from hs) a7
 | byt i =>
  obtain ⟨t,rfl⟩:=rx
  cases y with
  | byt j=>obtain ⟨t',rfl⟩:=ry;exact PySem.W.ne_bytes (l6 I q (congrArg not FM))
  | _=>exact absurd (show false=true from hs) a7
 | _=>cases y <;> exact absurd (show false=true from hs) a7
theorem Gf:OpR X (bT .Lt) (rI0 fun i j=>.bl (decide (i < j))):=Gi fun _ _ _ _ _ _ _ q=>lt_int q
theorem Gg:OpR X (bT .LtE) (rI0 fun i j=>.bl (decide (i≤j))):=Gi fun _ _ _ _ _ _ _ q=>le_int q
theorem Gh:OpR X (bT .Gt) (rI0 fun i j=>.bl (decide (j < i))):=Gi fun _ _ _ _ _ _ _ q=>gt_int q
theorem Ez:OpR X (bT .GtE) (rI0 fun i j=>.bl (decide (j≤i))):=Gi fun _ _ _ _ _ _ _ q=>ge_int q
theorem OpR.or {f:af→af→Sem af}{r r':R2} (h:OpR X f r) (h':OpR X f r'):OpR X f (fun x y H Q=>r x y H Q∨r' x y H Q):=by
 intro pins s σ H x y v u Q I rx ry q
 rcases q with q | q
 ·exact h pins s σ H x y v u Q I rx ry q
 ·exact h' pins s σ H x y v u Q I rx ry q
theorem lI (b:bo) {op:iz} (h:op≠.In:=by decide) (h2:op≠.NotIn:=by decide):cI op b=false:=by
 have e1:(op == CmpOp.In)=false:=by cases op <;> first | rfl | exact absurd rfl h
 have e2:(op == CmpOp.NotIn)=false:=by cases op <;> first | rfl | exact absurd rfl h2
 cases b <;> simp [cI,e1,e2]
theorem AQ {op:iz}{r:R2} (ho:OpR X (bT op) r) (ha:PE X a ta) (hb:PE X b tb) (hm:cI op b=false):PE X (.Compare a [op] [b] pos) (tOp r ta tb):=by
 intro pins s σ H Q I h
 exact wpAny_Compare1 (Il ha hb I h fun v u s2 x y H2 I2 rx ry q=>ho pins s2 σ H2 x y v u Q I2 rx ry q) hm
def tTest (t:TE):TT:=fun σ H Q=>t σ H fun x H'=>∃ k,x=.bl k∧Q k H'
theorem qV {op:iz}{r:R2} (ho:OpR X (bT op) r) (ha:PE X a ta) (hb:PE X b tb) (hm:cI op b=false):PT X (.Compare a [op] [b] pos) (tTest (tOp r ta tb)):=by
 intro pins s σ H Q I h
 refine wpAny_isTrue_Compare1 (thn (ha pins s σ H _ I h) fun v s1 ⟨x,H1,I1,r1,q1⟩=>thn (hb pins s1 σ H1 _ I1 q1) fun u s2 ⟨y,H2,I2,r2,q2⟩ =>
  thn (ho pins s2 σ H2 x y v u _ I2 r1 r2 q2) fun c s3 ⟨z,H3,I3,r3,k,e,q3⟩=>?_) hm
 subst e
 cases r3
 exact de ⟨H3,I3,q3⟩
def GL (r r':R2) (ta tb tc:TE):TE:=fun σ H Q=>ta σ H fun x H1=>tb σ H1 fun y H2=>r x y H2 fun z H3=>∃ k,z=.bl k ∧
 (if k=true then tc σ H3 fun w' H4=>r' y w' H4 Q else Q (.bl false) H3)
theorem yT {op op':iz}{r r':R2} (ho:OpR X (bT op) r) (ho':OpR X (bT op') r') (ha:PE X a ta) (hb:PE X b tb) (hc:PE X c tc)
  (hm:lastMarks [op,op'] [b,c]=false:=by with_unfolding_all rfl):PE X (.Compare a [op,op'] [b,c] pos) (GL r r' ta tb tc):=by
 intro pins s σ H Q I h
 refine Compare_chain (thn (ha pins s σ H _ I h) fun v s1 ⟨x,H1,I1,r1,q1⟩=>chain_link (thn (hb pins s1 σ H1 _ I1 q1) fun u s2 ⟨y,H2,I2,r2,q2⟩ =>
  thn (ho pins s2 σ H2 x y v u _ I2 r1 r2 q2) fun d s3 ⟨z,H3,I3,r3,k,e,q3⟩=>?_)) hm
 subst e
 cases r3
 refine de ?_
 cases k with
 | false=>exact ite_ff ⟨.bl false,H3,I3,rfl,q3⟩
 | true=>exact ite_tt (chain_last (thn (hc pins s3 σ H3 _ I3 q3) fun w' s4 ⟨z',H4,I4,r4,q4⟩=>ho' pins s4 σ H4 y z' u w' Q I4 r2 r4 q4))
theorem t4:(aQ:Nat) < 2 ^ 63:=by rw [i4];decide
theorem op_add_str:OpR X (cY .Add) (fun x y H Q=>∃ i j,x=.str i∧y=.str j∧i.length+j.length≤aQ∧Q (.str (i++j)) H):=by
 intro pins s σ H x y v u Q I rx ry h
 obtain ⟨i,j,rfl,rfl,hz,q⟩:=h
 obtain ⟨t,rfl⟩:=rx
 obtain ⟨t',rfl⟩:=ry
 exact add_str (fun t' tk=>⟨.str (i++j),H,I.tok _,⟨_,rfl⟩,q⟩) hz
theorem oJ {x:V}{us:List af} (r:Vals [x] us):∃ u,us=[u]∧RelV x u:=by
 cases r with
 | cons r1 r2=>cases r2;exact ⟨_,rfl,r1⟩
theorem DP:CallR X (.builtin "abs") (fun xs H Q=>∃ i,xs=[.int i]∧Q (.int (if i < 0 then -i else i)) H):=by
 intro pins s σ H xs us Q I r h
 obtain ⟨i,rfl,q⟩:=h
 obtain ⟨u,rfl,t,rfl⟩:=oJ r
 exact call_abs_int fun u tk=>⟨.int (if i < 0 then -i else i),H,I.tok _,⟨_,rfl⟩,q⟩
theorem BZ:CallR X (.type "int") (fun xs H Q=>(∃ i,xs=[.int i]∧Q (.int i) H)∨∃ k,xs=[.bl k]∧Q (.int (if k then 1 else 0)) H):=by
 intro pins s σ H xs us Q I r h
 rcases h with ⟨i,rfl,q⟩ | ⟨k,rfl,q⟩
 ·obtain ⟨u,rfl,t,rfl⟩:=oJ r
  exact call_int_int ⟨.int i,H,I,⟨_,rfl⟩,q⟩
 ·obtain ⟨u,rfl,r1⟩:=oJ r
  cases r1
  exact call_int_bool ⟨.int (if k then 1 else 0),H,I.tok _,⟨_,rfl⟩,q⟩
end
structure ObjM (h:bM) (x dx C:ae) (mA:Str→Option af):Prop where
 obj:h.get? x=some (cW C dx)
 ns:h.Ns1 dx mA
 ne:dx≠x
theorem BF {h:bM}{dx:ae}{mA:Str→Option af} (n:h.Ns1 dx mA):∃ od,h.get? dx=some od∧∀ name,gB name od=some (mA name):=by
 obtain ⟨o,es,ep,ho,hd,hk,_,hm⟩:=n
 refine ⟨o,ho,fun name=>?_⟩
 have e:=hm name
 unfold nsFind findBy at e
 rw [← Array.find?_toList] at e
 unfold gB
 rw [hd]
 dsimp only
 split
 ·rename_i y q
  rw [q] at e
  exact congrArg some e
 ·rename_i q
  rw [q] at e
  have a:es.toList.any (·.refKey)=false:=by
   rw [List.any_eq_false]
   intro y hy
   obtain ⟨z,t,hkey⟩:=hk y (Array.mem_toList_iff.mp hy)
   simp [DictEntry.refKey,hkey]
  have a':¬ es.toList.any (·.refKey)=true:=by rw [a];exact a7
  rw [if_neg a']
  exact congrArg some e
theorem ObjM.look {h:bM}{x dx C:ae}{mA:Str→Option af} (I:ObjM h x dx C mA):∃ od,PySem.W.InstAt h x (cW C dx) C (some od)∧∀ name,gB name od=some (mA name) :=
 let ⟨od,ho,hl⟩:=BF I.ns
 ⟨od,⟨I.obj,rfl,rfl,ho⟩,hl⟩
section
variable {prog:aU}{w:bw}{A:bL}{E:af→al→Prop}{s:al}{K:aa}{x dx C f:ae}{mA:Str→Option af}{name:Str}{v:af}
theorem FA {expr:Bool}{Q:af→al→Prop} (X:K.In s.heap) (I:ObjM s.heap x dx C mA) (hg:eU K C name=true) (hh:fJ K C=true)
  (ha:ar K (.ref C) name=some none) (hv:mA name=some v) (hv':jP v=true) (h:Q v { s with toks:=s.toks+1 }) :
  bj (model prog w) A (getAttr (.ref x) name expr) Q E s:=by
 obtain ⟨od,J,hl⟩:=I.look
 exact PySem.W.get_value X J (gJ hg).1 (PySem.W.findObj_own hh ha rfl (by rw [hl,hv])) hv' h
theorem Dy {pl:Sem Bool}{Q:af×List af→al→Prop} (X:K.In s.heap) (I:ObjM s.heap x dx C mA) (hg:eU K C name=true)
  (hf:ar K (.ref C) name=some (some (.ref f))) (ht:b9 K (.ref f)=true) (hv:mA name=none) (h:Q (.ref f,[.ref x]) s) :
  bj (model prog w) A (fX (.ref x) name pl) Q E s:=by
 obtain ⟨od,J,hl⟩:=I.look
 exact PySem.W.method_fn X J (gJ hg).1 (gJ hg).2 hf (beq_iff_eq.mp ht) (by show (gB name od).map (·.isSome)=some false;rw [hl,hv];rfl) h
theorem EU {ns:List Str}{Q:Unit→al→Prop} (X:K.In s.heap) (I:ObjM s.heap x dx C mA)
  (hs:ar K (.ref C) "__setattr__"=some (some (.builtin "object.__setattr__"))) (hp:gS K C=true) (ht:io K C name=some none) (hh:fJ K C=true)
  (hw:jg mA ns) (hsz:ns.length≤aQ)
  (h:∀ h',ObjM h' x dx C (fun y=>if y=name then some v else mA y)→ij dx s.heap h'→Q () { s with heap:=h',toks:=s.toks+2 }) :
  bj (model prog w) A (setAttr (.ref x) name v) Q E s:=by
 obtain ⟨od,J,hl⟩:=I.look
 refine PySem.W.set_plain X J hs (PySem.W.osa_open (s:={ s with toks:=s.toks+1 }) (r:=none) X J hp ht fun b=>?_)
 obtain ⟨cd,hc,hd'⟩:=PySem.W.any_some hh
 have hx:s.heap.get? x=some ⟨.ref C,some dx,.plain,#[]⟩:=I.obj
 refine aF (aX (aF (aF (wpAny_loadPart hx (aF (PySem.W.Looks.here (s:={ s with toks:=s.toks+1 }) (PySem.W.looks_clsIn X hc) ?_))))))
 rw [hd']
 refine aX (a:=some dx) (aF (aX (aF ?_)))
 refine wpAny_nsSet1 (s:={ s with toks:=s.toks+1 }) I.ns fun h' hn2 hs2=>?_
 obtain ⟨oD,esD,epD,hoD,hdD,hcD⟩:=hn2.count (PySem.Within.cons name v hw)
 refine aF (wpAny_lookBehind hoD (by rw [hdD];exact pastItsLine_dict (aJ hcD (by rw [aB];omega))) ?_)
 exact aX (h _ ⟨(hs2.2 _ (gG I.ne)).trans I.obj,hn2,I.ne⟩ hs2)
theorem Dr {R:Result→al→Prop}{vs:List af}{kw:List (Str×af)} (X:K.In s.heap) (hm:ip K C=true)
  (hi:ar K (.ref C) "__init__"=some (some (.ref f))) (hf:PySem.W.typeIn K (.ref f)=some (.type "function"))
  (h:fT (model prog w) (A.under (.builtin "type.__call__" ⟨.ref C::vs,kw⟩)) (.call (.ref f) ⟨.ref (s.heap.objs.size+1)::vs,kw⟩) (PySem.W.InitBack (s.heap.objs.size+1) R)
   {s with heap:=(s.heap.push cx).push (cW C s.heap.objs.size) }) :
  fT (model prog w) A (.call (.ref C) ⟨vs,kw⟩) R s:=by
 obtain ⟨hh,g,d,t,os⟩:=s
 exact PySem.W.make_core (PySem.W.makes_of X hm) (PySem.W.looks_findIn X hi) (fun self=>PySem.W.bind_fn X self hf) (.inl rfl) h
end
def pI (f:Str) (v:V):List (Str×V)→List (Str×V)
 | []=>[(f,v)]
 | (g,x)::r=>if g=f then (g,v)::r else (g,x)::pI f v r
theorem tE (f g:Str) (v:V):∀ fs:List (Str×V),(pI f v fs).lookup g=if g=f then some v else fs.lookup g
 | []=>by
  show cB g [(f,v)]=_
  by_cases h:g=f
  ·have hb:(g == f)=true:=beq_iff_eq.mpr h
   simp only [cB,hb,if_pos h]
  ·have hb:(g == f)=false:=beq_eq_false_iff_ne.mpr h
   simp only [cB,hb,if_neg h]
 | (k,x)::r=>by
  have ih:=tE f g v r
  rw [show pI f v ((k,x)::r)=(if k=f then (k,v)::r else (k,x)::pI f v r) from rfl]
  by_cases hk:k=f
  ·rw [if_pos hk]
   by_cases h:g=k
   ·have hb:(g == k)=true:=beq_iff_eq.mpr h
    simp only [cB,hb,if_pos (h.trans hk)]
   ·have hb:(g == k)=false:=beq_eq_false_iff_ne.mpr h
    simp only [cB,hb,if_neg (fun e:g=f=>h (e.trans hk.symm))]
  ·rw [if_neg hk]
   by_cases h:g=k
   ·have hb:(g == k)=true:=beq_iff_eq.mpr h
    simp only [cB,hb,if_neg (fun e:g=f=>hk (h.symm.trans e))]
   ·have hb:(g == k)=false:=beq_eq_false_iff_ne.mpr h
    simp only [cB,hb]
    exact ih
theorem sZ (f:Str) (v:V):∀ fs:List (Str×V),f∈(pI f v fs).map (·.1)∧∀ g,g∈fs.map (·.1)→g∈(pI f v fs).map (·.1)
 | []=>⟨by simp [pI],fun g h=>by simp at h⟩
 | (k,x)::r=>by
  obtain ⟨i1,i2⟩:=sZ f v r
  rw [show pI f v ((k,x)::r)=(if k=f then (k,v)::r else (k,x)::pI f v r) from rfl]
  by_cases hk:k=f
  ·rw [if_pos hk]
   subst hk
   exact ⟨by simp,fun g h=>by simpa using h⟩
  ·rw [if_neg hk]
   refine ⟨?_,fun g h=>?_⟩
   ·rw [au]
    exact ag _ i1
   ·rw [au] at h ⊢
    rcases ai.mp h with e | e
    ·exact ai.mpr (.inl e)
    ·exact ag _ (i2 g e)
theorem qi (f:Str) (v:V):∀ fs:List (Str×V),(pI f v fs).length≤fs.length+1
 | []=>by simp [pI]
 | (k,x)::r=>by
  have ih:=qi f v r
  rw [show pI f v ((k,x)::r)=(if k=f then (k,v)::r else (k,x)::pI f v r) from rfl]
  by_cases hk:k=f
  ·rw [if_pos hk,aB,aB];omega
  ·rw [if_neg hk,aB,aB];omega
theorem RelO.some_of {v:V}{o:Option af} (r:RelO (some v) o):∃ u,o=some u∧RelV v u:=by
 cases o with
 | none=>exact (show False from r).elim
 | some u=>exact ⟨u,rfl,r⟩
theorem RelO.none_of {o:Option af} (r:RelO none o):o=none:=by
 cases o with
 | none=>rfl
 | some u=>exact (show False from r).elim
theorem BR {v:V}{u:af} (r:RelV v u):jP u=true:=by
 cases v with
 | non=>cases (show u=jR from r);rfl
 | bl b=>cases (show u=jS b from r);rfl
 | int i=>obtain ⟨t,e⟩:=(show ∃ t,u=iq i t from r);cases e;rfl
 | str x=>obtain ⟨t,e⟩:=(show ∃ t,u=gK x t from r);cases e;rfl
 | byt b=>obtain ⟨t,e⟩:=(show ∃ t,u=Value.bytes b t from r);cases e;rfl
 | flt b=>obtain ⟨t,e⟩:=(show ∃ t,u=Value.float b t from r);cases e;rfl
 | ref a=>cases (show u=bN a from r);rfl
 | ty n=>cases (show u=iM n from r);rfl
section
variable {P:aU}{w:bw}{H H':Hp}{h h':bM}{a C dx:ae}{fs fs':List (Str×V)}
theorem xO (hok:HOk P w H h) (e:H a=some (.ins C dx fs)):∃ mA,ObjM h a dx C mA∧(∀ f,RelO (fs.lookup f) (mA f))∧jg mA (fs.map (·.1))∧fs.length≤1000∧H dx=some (.own a):=by
 obtain ⟨d,z,ne,ob,mA,n,r,q⟩:=(show ObjOk P w H h a (.ins C dx fs) from hok a _ e)
 exact ⟨mA,⟨ob,n,ne⟩,r,q,z,d⟩
end
structure Cls (K:aa) (C:ae):Prop where
 pg:eU K C fc=true
 hd:fJ K C=true
 po:gS K C=true
 sa:ar K (.ref C) "__setattr__"=some (some (.builtin "object.__setattr__"))
theorem Cls.get {K:aa}{C:ae} (c:Cls K C) (f:Str):eU K C f=true:=c.pg
def NoAttr (K:aa) (C:ae) (f:Str):Prop:=ar K (.ref C) f=some none
theorem NoAttr.taker {K:aa}{C:ae}{f:Str} (n:NoAttr K C f):io K C f=some none:=by
 unfold io
 rw [show ar K (.ref C) f=some none from n]
 rfl
structure Con (K:aa) (C:ae) (f:Str) (v:V) (u:af):Prop where
 at_:ar K (.ref C) f=some (some u)
 rel:RelV v u
 get:fI K u "__get__"=some none
 cp:PySem.W.copiedNames.contains f=false
structure Meth (K:aa) (C:ae) (m:Str) (f:ae):Prop where
 at_:ar K (.ref C) m=some (some (.ref f))
 fn:b9 K (.ref f)=true
 kp:az K (.ref f)=true
section
variable {X:Cx}{pins:List (ae×Obj)}{σ:St}{H:Hp}{s:al}{a C dx:ae}{fs:List (Str×V)}{f:Str}{v:V}{A:bL}{E:af→al→Prop}
theorem z9 {b:Bool}{Q:af→al→Prop} (I:Inv X pins σ H s) (e:H a=some (.ins C dx fs)) (c:Cls X.K C) (n:NoAttr X.K C f) (l:fs.lookup f=some v)
  (h:∀ u s',Inv X pins σ H s'→RelV v u→Q u s'):bj (model X.prog X.w) A (getAttr (.ref a) f b) Q E s:=by
 obtain ⟨mA,O,r,_,_,_⟩:=xO I.hok e
 obtain ⟨u,hu,ru⟩:=RelO.some_of (v:=v) (o:=mA f) (by rw [← l];exact r f)
 exact FA I.kIn O (c.get f) c.hd n hu (BR ru) (h u _ (I.tok _) ru)
theorem uM {m:Str}{g:ae}{pl:Sem Bool}{Q:af×List af→al→Prop} (I:Inv X pins σ H s) (e:H a=some (.ins C dx fs)) (c:Cls X.K C) (k:Meth X.K C m g) (l:fs.lookup m=none)
  (h:Q (.ref g,[.ref a]) s):bj (model X.prog X.w) A (fX (.ref a) m pl) Q E s:=by
 obtain ⟨mA,O,r,_,_,_⟩:=xO I.hok e
 have hn:mA m=none:=RelO.none_of (by rw [← l];exact r m)
 exact Dy I.kIn O (c.get m) k.at_ k.fn hn h
theorem zE {y:V}{u:af}{Q:Unit→al→Prop} (I:Inv X pins σ H s) (e:H a=some (.ins C dx fs)) (c:Cls X.K C) (n:NoAttr X.K C f) (hl:fs.length < 1000) (ry:RelV y u)
  (h:∀ s',Inv X pins σ (upd H a (.ins C dx (pI f y fs))) s'→Q () s'):bj (model X.prog X.w) A (setAttr (.ref a) f u) Q E s:=by
 obtain ⟨mA,O,r,wi,_,ho⟩:=xO I.hok e
 have hz:(fs.map (·.1)).length≤aQ:=by rw [aj,i4];omega
 refine EU I.kIn O c.sa c.po n.taker c.hd wi hz fun h' O' sb=>h _ ?_
 have hd:∃ o,h'.get? dx=some o:=let ⟨o,_,_,e',_⟩:=O'.ns;⟨o,e'⟩
 refine I.write (x:=a) (e:=dx) (by rw [e];exact eG) (.inr ho) (fun b q hb z=>(sb.2 b hb).trans z) hd ?_
 refine ⟨by rw [ki O.ne];exact ho,?_,O.ne,O'.obj,_,O'.ns,fun g=>?_,fun g hg=>?_⟩
 ·have:=qi f y fs;omega
 ·show RelO ((pI f y fs).lookup g) (if g=f then some u else mA g)
  rw [tE]
  by_cases q:g=f
  ·rw [if_pos q,if_pos q];exact ry
  ·rw [if_neg q,if_neg q];exact r g
 ·by_cases q:g=f
  ·rw [q];exact (sZ f y fs).1
  ·refine (sZ f y fs).2 g (wi g fun z=>hg ?_)
   show (if g=f then some u else mA g)=none
   rw [if_neg q];exact z
theorem Inv.made (I:Inv X pins σ H s):Inv X pins σ (upd (upd H s.heap.objs.size (.own (s.heap.objs.size+1))) (s.heap.objs.size+1) (.ins C s.heap.objs.size []))
  {s with heap:=(s.heap.push cx).push (cW C s.heap.objs.size) }:=by
 have e1:(s.heap.push cx).get? s.heap.objs.size=some cx:=ba s.heap rfl
 have e2:((s.heap.push cx).push (cW C s.heap.objs.size)).get? (s.heap.objs.size+1)=some (cW C s.heap.objs.size):=by
  have:=ba (s.heap.push cx) (o:=cW C s.heap.objs.size) rfl
  rwa [Heap.size_push] at this
 have e3:(s.heap.push cx).Ns s.heap.objs.size (fun _=>none):=⟨cx,#[],_,e1,rfl,(fun e he=>absurd he (by simp)),fun _=>rfl⟩
 have I1:=I.laid (a:=s.heap.objs.size) (o:=.own (s.heap.objs.size+1)) (h':=s.heap.push cx) (t':=s.toks) (fun b u q=>av _ q) (aA _) ⟨_,e1⟩
 refine I1.laid (a:=s.heap.objs.size+1) (o:=.ins C s.heap.objs.size []) (t':=s.toks) (fun b u q=>av _ q) (jz (Heap.size_push _ _)) ?_
 have ne:s.heap.objs.size≠s.heap.objs.size+1:=aR (di _)
 refine ⟨by rw [ki ne,km],bD _,ne,e2,fun _=>none,(Heap.Ns1.of_empty e3).at fun o q=>av _ q,fun _=>eG,fun y hy=>absurd rfl hy⟩
theorem F1 {prog:aU}{w:bw}{env:Env}{e:bo}{f:Str}{pos:Pos}{s:al}{Q:af→al→Prop} (hb:eM e f env (eval e env)=eval e env)
  (h:bj (model prog w) A (eval e env) (fun o s₁=>bj (model prog w) A (getAttr o f true) Q E s₁) E s):bj (model prog w) A (eval (.Attribute e f pos) env) Q E s :=
 Attribute_any_ h (by rw [arm_eval_Attribute,hb])
end
def tFld (K:aa) (ta:TE) (f:Str):TE:=fun σ H Q=>ta σ H fun x H1=>∃ a C dx fs v,x=.ref a∧H1 a=some (.ins C dx fs)∧Cls K C∧NoAttr K C f∧fs.lookup f=some v∧Q v H1
def sFld (K:aa) (ta tv:TE) (f:Str):TS:=fun D σ H=>tv σ H fun y H1=>ta σ H1 fun x H2=>∃ a C dx fs,x=.ref a∧H2 a=some (.ins C dx fs)∧Cls K C∧NoAttr K C f∧fs.length < 1000 ∧
 D.nx σ (upd H2 a (.ins C dx (pI f y fs)))
section
variable {X:Cx}{o e value:bo}{f:Str}{pos pos' tpos:Pos}{ta tv:TE}
theorem nA (he:PE X e ta) (hb:eM e f X.env (eval e X.env)=eval e X.env):PE X (.Attribute e f pos) (tFld X.K ta f):=by
 intro pins s σ H Q I h
 refine F1 hb (thn (he pins s σ H _ I h) fun u s1 ⟨x,H1,I1,rx,a,C,dx,fs,v,ex,ea,c,n,l,q⟩=>?_)
 subst ex
 obtain rfl:u=bN a:=rx
 exact z9 I1 ea c n l fun u' s2 I2 ru=>⟨v,H1,I2,ru,q⟩
theorem vA (ha:PE X o ta) (hv:PE X value tv) (hs:fA value (some (.Attribute o f pos')) pos.line X.env=pure false):PS X (.Assign [.Attribute o f pos'] value pos) (sFld X.K ta tv f):=by
 intro pins s σ H D I h
 refine plainObj_wpAny_Assign_Attribute (thn (hv pins s σ H _ I h) fun u s1 ⟨y,H1,I1,ry,q⟩=>thn (ha pins s1 σ H1 _ I1 q) fun ov s2 ⟨x,H2,I2,rx,a,C,dx,fs,ex,ea,c,n,l,q2⟩=>?_) hs
 subst ex
 obtain rfl:ov=bN a:=rx
 exact zE I2 ea c n l ry fun s3 I3=>⟨σ,_,I3,q2⟩
end
section
variable {X:Cx}{pins:List (ae×Obj)}{σ:St}{H:Hp}{s:al}{A:bL}{E:af→al→Prop}{Q:af→al→Prop}{c:af}{b:Bool}
inductive TyOf (K:aa) (H:Hp):V→af→Prop where
 | non:TyOf K H .non (.type "NoneType")
 | bl (x:Bool):TyOf K H (.bl x) (.type "bool")
 | int (i:Int):TyOf K H (.int i) (.type "int")
 | str (x:Str):TyOf K H (.str x) (.type "str")
 | flt (x:UInt64):TyOf K H (.flt x) (.type "float")
 | lst {a:ae}{xs:List V} (e:H a=some (.lst xs)):TyOf K H (.ref a) (.type "list")
 | frz {a:ae}{o:Obj}{xs:List V} (e:H a=some (.frz o (.lst xs))):TyOf K H (.ref a) (.type "list")
 | tup {a:ae}{xs:List V} (e:H a=some (.tup xs)):TyOf K H (.ref a) (.type "tuple")
 | dK {a:ae}{kvs:List (Key×V)} (e:H a=some (.dK kvs)):TyOf K H (.ref a) (.type "dict")
 | dT {a:ae}{kvs:List (List Key×V)} (e:H a=some (.dT kvs)):TyOf K H (.ref a) (.type "dict")
 | ins {a C dx:ae}{fs:List (Str×V)} (e:H a=some (.ins C dx fs)) (cl:Cls K C) (ha:ar K (.ref C) "__class__"=some (some (.builtin "object.__class__")))
   (hn:fI K (.builtin "object.__class__") "__get__"=some (some (.builtin "getset_descriptor.__get__"))) (htk:im K (.builtin "object.__class__")=some true)
   (hm:bK K C (.type "object")=some true):TyOf K H (.ref a) (.ref C)
end
structure Room (k:Nat) (A:bL):Prop where
 hd:A.handled=none
 dp:A.depth+3 * k+5 < recursionLimit
 un:A.units+16 * k+200 < dq
theorem Room.mono {j k:Nat}{A:bL} (r:Room k A) (h:j≤k):Room j A:=⟨r.hd,by have:=r.dp;omega,by have:=r.un;omega⟩
theorem Room.deeper {k:Nat}{A:bL} (r:Room (k+1) A) (env:Env):Room k (A.deeper env) :=
 ⟨r.hd,by have:=r.dp;show A.depth+1+3 * k+5 < _;omega,by have:=r.un;show A.units+3+16 * k+200 < _;omega⟩
theorem z6 {A:bL}{C:ae}{us:List af}{kw:List (Str×af)}:(A.under (.builtin "type.__call__" ⟨.ref C::us,kw⟩)).depth=A.depth+1:=by
 first | rfl | simp [ja,Code.weight,Code.isCreation,Code.isGuard,Code.isCaller,Code.frames,jn,guardIds]
theorem z0 {A:bL}{C:ae}{us:List af}{kw:List (Str×af)}:(A.under (.builtin "type.__call__" ⟨.ref C::us,kw⟩)).units=A.units+1:=by
 first | rfl | simp [ja,Code.cUnits,Code.frames,jn]
theorem Room.make {k:Nat}{A:bL} (r:Room (k+1) A) (C:ae) (us:List af) (kw:List (Str×af)):Room k (A.under (.builtin "type.__call__" ⟨.ref C::us,kw⟩)) :=
 ⟨r.hd,by have:=r.dp;rw [z6];omega,by have:=r.un;rw [z0];omega⟩
theorem Room.depth {k:Nat}{A:bL} (r:Room k A):A.depth < recursionLimit:=by have:=r.dp;omega
theorem Room.units {k:Nat}{A:bL} (r:Room k A):A.units+64 < dq:=by have:=r.un;omega
def Cn:TA:=fun _ H Q=>Q [] H
def Ev (ta:TE) (tr:TA):TA:=fun σ H Q=>ta σ H fun x H1=>tr σ H1 fun xs H2=>Q (x::xs) H2
section
variable {X:Cx}{e:bo}{es:List bo}{te:TE}{t:TA}{pos:Pos}
theorem pa_nil:PA X [] Cn:=fun _ _ _ _ H Q I h=>eO ⟨[],H,I,.nil,h⟩
theorem kA (ha:PE X e te) (hr:PA X es t) (hs:aP (e::es) X.env=(false,eval e X.env)::aP es X.env:=by rfl):PA X (e::es) (Ev te t):=by
 intro pos pins s σ H Q I h
 rw [hs]
 show bj _ _ (spliced ((false,eval e X.env)::cA pos (aP es X.env))) _ _ s
 refine dA (thn (ha pins s σ H _ I h) fun u s1 ⟨x,H1,I1,r1,q1⟩=>?_)
 exact thn (hr pos pins s1 σ H1 _ I1 q1) fun us s2 ⟨xs,H2,I2,r2,q2⟩=>⟨x::xs,H2,I2,.cons r1 r2,q2⟩
def tTup (t:TA):TE:=fun σ H Q=>t σ H fun xs H1=>xs.length≤aQ∧∀ p,H1 p=none→Q (.ref p) (upd H1 p (.tup xs))
def tLst (t:TA):TE:=fun σ H Q=>t σ H fun xs H1=>xs.length≤aQ∧∀ p,H1 p=none→Q (.ref p) (upd H1 p (.lst xs))
theorem xZ {x1} (h:PA X es t):PE X (.Tuple es x1 pos) (tTup t):=by
 intro pins s σ H Q I hq
 refine wpAny_Tuple_spliced (thn (h pos pins s σ H _ I hq) fun us s1 ⟨xs,H1,I1,r,z,q⟩=>⟨by rw [← r.length];exact z,?_⟩)
 have hf:H1 s1.heap.objs.size=none:=I1.hok.fresh (aA _)
 refine ⟨.ref s1.heap.objs.size,upd H1 s1.heap.objs.size (.tup xs),I1.laid (t':=s1.toks) (fun b u e=>av _ e) (aA _) ?_,rfl,q _ hf⟩
 exact ⟨z,us,r,⟨_,ba _ rfl,rfl,_,rfl⟩⟩
theorem D9 (h:PA X es t):PE X (.List es pos) (tLst t):=by
 intro pins s σ H Q I hq
 refine wpAny_List_spliced (thn (h pos pins s σ H _ I hq) fun us s1 ⟨xs,H1,I1,r,z,q⟩=>⟨by rw [← r.length];exact z,?_⟩)
 have hf:H1 s1.heap.objs.size=none:=I1.hok.fresh (aA _)
 refine ⟨.ref s1.heap.objs.size,upd H1 s1.heap.objs.size (.lst xs),I1.laid (t':=s1.toks) (fun b u e=>av _ e) (aA _) ?_,rfl,q _ hf⟩
 exact ⟨z,us,0,r,ba _ rfl⟩
end
abbrev Sp:=List V→Hp→VK→XK→Prop
abbrev CXT:=List Env→Hp→al→XK→af→al→Prop
structure Env0 (P:aU) (w:bw) (K:aa) (mg:Str→Option af) (base:bM) (A:bL) (outer:List Env) (s:al) (H:Hp):Prop where
 frames:A.frames=some outer
 mod:Mod K mg base
 bs:∀ b o,base.get? b=some o→s.heap.get? b=some o∧H b=none
 bsz:base.objs.size≤s.heap.objs.size
 funs:s.heap.FunFrames base outer
 frf:∀ b∈frs outer,H b=none
 hok:HOk P w H s.heap
 bare:gu s.gens
def CE (outer:List Env) (P:aU) (w:bw) (H:Hp) (s:al) (Q:VK) (u:af) (s':al):Prop :=
 ∃ v H',s'.os=s.os∧gu s'.gens∧Un (frs outer) [] H H' s.heap s'.heap∧HOk P w H' s'.heap∧RelV v u∧Q v H'
def CR (CX:CXT) (outer:List Env) (P:aU) (w:bw) (H:Hp) (s:al) (Q:VK) (E:XK) (r:Result) (s':al):Prop :=
 match r with
 | .ok (.ret u)=>CE outer P w H s Q u s'
 | .ok _=>False
 | .error e=>CX outer H s E e s'
structure FnOk (P:aU) (w:bw) (K:aa) (mg:Str→Option af) (base:bM) (CX:CXT) (k:Nat) (f:ae) (fd:bV) (ps:List Str) (sp:Sp):Prop where
 len:∀ vs H Q E,sp vs H Q E→vs.length=ps.length
 run:∀ (A:bL) (outer:List Env) (s:al) (H:Hp) (args:Args) (us:List af) (vs:List V) (Q:VK) (E:XK),Room k A→Env0 P w K mg base A outer s H→iO s fd args (ps.zip us)→Vals vs us→sp vs H Q E →
  fT (model P w) A (.call (.ref f) args) (CR CX outer P w H s Q E) s
theorem FnOk.imp {P:aU}{w:bw}{K:aa}{mg:Str→Option af}{base:bM}{CX:CXT}{k:Nat}{f:ae}{fd:bV}{ps:List Str}{sp sp':Sp} (F:FnOk P w K mg base CX k f fd ps sp)
  (h:∀ vs H Q E,sp' vs H Q E→sp vs H Q E):FnOk P w K mg base CX k f fd ps sp' :=
 ⟨fun vs H Q E q=>F.len vs H Q E (h _ _ _ _ q),fun A outer s H args us vs Q E hr he hb hv hs=>F.run A outer s H args us vs Q E hr he hb hv (h _ _ _ _ hs)⟩
theorem Env0.make {P:aU}{w:bw}{K:aa}{mg:Str→Option af}{base:bM}{A:bL}{outer:List Env}{s:al}{H:Hp} (e:Env0 P w K mg base A outer s H) (C:ae) (us:List af) (kw:List (Str×af)) :
  Env0 P w K mg base (A.under (.builtin "type.__call__" ⟨.ref C::us,kw⟩)) outer s H:=⟨by first | exact e.frames | (simpa [ja,Code.envs,jn,pushEnvs] using e.frames),e.mod,e.bs,e.bsz,e.funs,e.frf,e.hok,e.bare⟩
section
variable {X:Cx}{pins:List (ae×Obj)}{σ:St}{H:Hp}{s s':al}
theorem Inv.env0 (I:Inv X pins σ H s):Env0 X.prog X.w X.K X.mg X.base X.A X.stack s H :=
 ⟨I.ok.frames,I.ok.mod,I.bs,aJ I.ok.bsz I.sz,I.stack,I.stkFree,I.hok,I.bare⟩
theorem Inv.after {Q:VK}{u:af} (I:Inv X pins σ H s) (h:CE X.stack X.prog X.w H s Q u s'):EP X pins σ Q u s':=by
 obtain ⟨v,H',os,bare,un,hok,r,q⟩:=h
 obtain ⟨hh,g,d,t,os'⟩:=s'
 obtain rfl:os'=s.os:=os
 exact ⟨v,H',I.call (h':=hh) (g':=g) (d':=d) (t':=t) (ch:=[]) un hok bare (fun b z=>absurd z (by simp)),r,q⟩
end
def Ew (sp:Sp) (dvs:List V) (E:XK) (t:TA):TE:=fun σ H Q=>t σ H fun vs H1=>sp (vs++dvs) H1 Q E
def Ce (C:ae) (m:Str) (sp:Sp) (dvs:List V) (E:XK) (ta:TE) (t:TA):TE:=fun σ H Q=>ta σ H fun x H1=>∃ a dx fs,x=.ref a∧H1 a=some (.ins C dx fs)∧fs.lookup m=none ∧
 t σ H1 fun vs H2=>sp (x::(vs++dvs)) H2 Q E
def F5 (C:ae) (sp:Sp) (dvs:List V) (E:XK) (t:TA):TE:=fun σ H Q=>t σ H fun vs H1=>∀ x dx,H1 x=none→H1 dx=none→dx≠x →
 sp (.ref x::(vs++dvs)) (upd (upd H1 dx (.own x)) x (.ins C dx [])) (fun v H2=>v=.non∧Q (.ref x) H2) E
def Binds (K:aa) (fd:bV) (ps:List Str) (ds:List af):Prop :=
 ∀ (s:al) (us:List af),K.In s.heap→(us++ds).length=ps.length→iO s fd ⟨us,[]⟩ (ps.zip (us++ds))
theorem Binds.all {K:aa}{fd:bV}{ps:List Str} (h:∀ us:List af,us.length=ps.length→bindArgs fd ⟨us,[]⟩=pure (ps.zip us)):Binds K fd ps []:=fun s us _ hl=>by
 rw [bO] at hl ⊢
 exact .of_eq (h us hl)
def l9 (CX:CXT) (X:Cx) (E:XK):Prop:=∀ (pins:List (ae×Obj)) (σ:St) (H:Hp) (s:al) (e:af) (s':al),Inv X pins σ H s→CX X.stack H s E e s'→X.xe e s'
section
variable {X:Cx}{CX:CXT}{k:Nat}{f C:ae}{fd:bV}{ps:List Str}{sp:Sp}{dvs:List V}{ds:List af}{E:XK}{x m:Str}{p pos apos:Pos}{e o:bo}{es:List bo}{ta:TE}{t:TA}
theorem xW {pins:List (ae×Obj)}{σ:St}{H:Hp}{s:al}{Q:VK}{us:List af}{vs:List V} (F:FnOk X.prog X.w X.K X.mg X.base CX k f fd ps sp) (hr:Room k X.A) (hb:Binds X.K fd ps ds) (hd:Vals dvs ds) (hx:l9 CX X E)
  (I:Inv X pins σ H s) (r:Vals vs us) (h:sp (vs++dvs) H Q E):bj (model X.prog X.w) X.A (call (.ref f) us) (EP X pins σ Q) X.xe s:=by
 have r2:Vals (vs++dvs) (us++ds):=r.append hd
 have hl:(us++ds).length=ps.length:=by rw [← r2.length];exact F.len _ _ _ _ h
 refine jv (e9 (F.run X.A X.stack s H ⟨us,[]⟩ (us++ds) (vs++dvs) Q E hr I.env0 (hb s us I.kIn hl) r2 h) fun r s' hq=>?_)
 cases r with
 | error e=>exact hx pins σ H s e s' I hq
 | ok fl =>
  cases fl with
  | ret u=>exact I.after hq
  | next=>exact bG hq
  | brk=>exact bG hq
  | cont=>exact bG hq
theorem Fa (F:FnOk X.prog X.w X.K X.mg X.base CX k f fd ps sp) (hr:Room k X.A) (hg:Gl X x) (hm:X.mg x=some (.ref f)) (hk:az X.K (.ref f)=true) (hb:Binds X.K fd ps ds) (hd:Vals dvs ds) (hx:l9 CX X E)
  (ha:PA X (e::es) t) (hdb:(x == ("__debug__":Str))=false:=by decide) (he:aP (e::es) X.env=(false,eval e X.env)::aP es X.env:=by rfl) (hpl:(cA pos (aP es X.env)).any (·.1)=false:=by rfl) :
  PE X (.Call (.Name x p) (e::es) [] pos) (Ew sp dvs E t):=by
 intro pins s σ H Q I h
 refine cG (sJ I hg hm ?_ hdb)
 refine gN (h₀:=X.base) I.ok.mod.kin hk (thn (ha pos pins s σ H _ I h) fun us s1 ⟨vs,H1,I1,r,q⟩=>⟨I1.kIn,?_⟩) he hpl
 exact xW F hr hb hd hx I1 r q
theorem E9 {pl:Sem Bool} (he:PE X o ta) (c:Cls X.K C) (hm:Meth X.K C m f) (F:FnOk X.prog X.w X.K X.mg X.base CX k f fd ps sp) (hr:Room k X.A) (hb:Binds X.K fd ps ds) (hd:Vals dvs ds) (hx:l9 CX X E) (ha:PA X (e::es) t)
  (hst:aP (e::es) X.env=(false,eval e X.env)::aP es X.env:=by rfl) (hpl:(cA pos (aP es X.env)).any (·.1)=false:=by rfl)
  (ht:eval (.Call (.Attribute o m apos) (e::es) [] pos) X.env=(do
   let ov ← eval o X.env
   gs apos.atName
   let (f,first) ← holding [ov] (fX ov m pl)
   iL pos f first (cA pos (aP (e::es) X.env)) (fb pos (dg [] X.env))):=by rfl) :
  PE X (.Call (.Attribute o m apos) (e::es) [] pos) (Ce C m sp dvs E ta t):=by
 intro pins s σ H Q I h
 refine i5 (pl:=pl) (thn (he pins s σ H _ I h) fun u s1 ⟨x,H1,I1,rx,a,dx,fs,ex,ea,l,q⟩=>?_) ht
 subst ex
 obtain rfl:u=bN a:=rx
 refine uM I1 ea c hm l ?_
 refine gN (first:=[.ref a]) (h₀:=X.base) I.ok.mod.kin hm.kp (thn (ha pos pins s1 σ H1 _ I1 q) fun us s2 ⟨vs,H2,I2,r,q2⟩=>⟨I2.kIn,?_⟩) hst hpl
 exact xW (us:=.ref a::us) (vs:=.ref a::vs) F hr hb hd hx I2 (.cons rfl r) q2
theorem Dc {pl:Sem Bool} (he:PE X o ta) (c:Cls X.K C) (hm:Meth X.K C m f) (F:FnOk X.prog X.w X.K X.mg X.base CX k f fd ps sp) (hr:Room k X.A) (hb:Binds X.K fd ps ds) (hd:Vals dvs ds) (hx:l9 CX X E)
  (ht:eval (.Call (.Attribute o m apos) [] [] pos) X.env=(do
   let ov ← eval o X.env
   gs apos.atName
   let (f,first) ← holding [ov] (fX ov m pl)
   iL pos f first (cA pos (aP [] X.env)) (fb pos (dg [] X.env))):=by rfl) :
  PE X (.Call (.Attribute o m apos) [] [] pos) (Ce C m sp dvs E ta Cn):=by
 intro pins s σ H Q I h
 refine i5 (pl:=pl) (thn (he pins s σ H _ I h) fun u s1 ⟨x,H1,I1,rx,a,dx,fs,ex,ea,l,q⟩=>?_) ht
 subst ex
 obtain rfl:u=bN a:=rx
 refine uM I1 ea c hm l ?_
 exact jk (first:=[.ref a]) I1.kIn hm.kp (xW (us:=[.ref a]) (vs:=[.ref a]) F hr hb hd hx I1 (.cons rfl .nil) q)
structure Mk (K:aa) (C f:ae):Prop where
 makes:ip K C=true
 init:ar K (.ref C) "__init__"=some (some (.ref f))
 fn:b9 K (.ref f)=true
 kp:az K (.ref C)=true
theorem CU {pins:List (ae×Obj)}{σ:St}{H:Hp}{s:al}{Q:VK}{us:List af}{vs:List V} (M:Mk X.K C f) (F:FnOk X.prog X.w X.K X.mg X.base CX k f fd ps sp) (hr:Room (k+1) X.A) (hb:Binds X.K fd ps ds) (hd:Vals dvs ds)
  (hx:l9 CX X E) (I:Inv X pins σ H s) (r:Vals vs us)
  (h:∀ x dx,H x=none→H dx=none→dx≠x→sp (.ref x::(vs++dvs)) (upd (upd H dx (.own x)) x (.ins C dx [])) (fun v H2=>v=.non∧Q (.ref x) H2) E) :
  bj (model X.prog X.w) X.A (call (.ref C) us) (EP X pins σ Q) X.xe s:=by
 have hq:=h (s.heap.objs.size+1) s.heap.objs.size (I.hok.fresh (eL _)) (I.hok.fresh (aA _)) (aR (di _))
 have I2:=Inv.made (C:=C) I
 have r2:Vals (V.ref (s.heap.objs.size+1)::(vs++dvs)) (bN (s.heap.objs.size+1)::(us++ds)):=.cons rfl (r.append hd)
 have hl:(bN (s.heap.objs.size+1)::us++ds).length=ps.length:=by
  have e:=r2.length
  rw [F.len _ _ _ _ hq] at e
  exact e.symm
 refine jv (Dr (f:=f) I.kIn M.makes M.init (beq_iff_eq.mp M.fn) (e9 (F.run _ X.stack _ _ ⟨bN (s.heap.objs.size+1)::us,[]⟩ (bN (s.heap.objs.size+1)::(us++ds)) _ _ E (hr.make C us [])
  (I2.env0.make C us []) (hb _ (bN (s.heap.objs.size+1)::us) I2.kIn hl) r2 hq) fun r s' hq'=>?_))
 cases r with
 | error e=>exact hx pins σ _ _ e s' I2 hq'
 | ok fl =>
  cases fl with
  | ret u =>
   obtain ⟨v,H',I3,rv,ev,q3⟩:=I2.after hq'
   subst ev
   exact ⟨rv,⟨V.ref (s.heap.objs.size+1),H',I3,rfl,q3⟩⟩
  | next=>exact bG hq'
  | brk=>exact bG hq'
  | cont=>exact bG hq'
theorem Dd (M:Mk X.K C f) (F:FnOk X.prog X.w X.K X.mg X.base CX k f fd ps sp) (hr:Room (k+1) X.A) (hg:Gl X x) (hm:X.mg x=some (.ref C)) (hb:Binds X.K fd ps ds) (hd:Vals dvs ds) (hx:l9 CX X E)
  (hdb:(x == ("__debug__":Str))=false:=by decide):PE X (.Call (.Name x p) [] [] pos) (F5 C sp dvs E Cn):=by
 intro pins s σ H Q I h
 refine cG (sJ I hg hm ?_ hdb)
 exact jk I.kIn M.kp (CU (us:=[]) M F hr hb hd hx I .nil h)
end
section
variable {X:Cx}{CX:CXT}{k:Nat}{f C:ae}{fd:bV}{ps ks:List Str}{sp:Sp}{E:XK}{x m:Str}{p pos apos kpos:Pos}{e o:bo}{es:List bo}{kws:List fU}{te ta:TE}{t tk:TA}{nm:Option Str}
structure KBinds (K:aa) (fd:bV) (ps ks:List Str) (g:List af→List af→List af) (gV:List V→List V→List V):Prop where
 to:∀ (s:al) (us ws:List af),K.In s.heap→(g us ws).length=ps.length→iO s fd ⟨us,ks.zip ws⟩ (ps.zip (g us ws))
 rel:∀ {vs:List V}{us:List af}{zs:List V}{ws:List af},Vals vs us→Vals zs ws→Vals (gV vs zs) (g us ws)
variable {g:List af→List af→List af}{gV:List V→List V→List V}
end
structure FnScope (N P:List Str) (sc:dR):Prop where
 kind:sc.kind=.function
 co:sc.isCoroutine=false
 gen:sc.isGenerator=false
 nd:N.Nodup
 pre:N.take P.length=P
 par:∀ x∈P,sc.names.lookup x=some .local∨sc.names.lookup x=some .cell
 nofree:∀ y∈sc.names,y.2≠.free
theorem fsc {N P:List Str}{sc:dR} (h1:sc.kind=.function:=by rfl) (h2:sc.isCoroutine=false:=by rfl) (h3:sc.isGenerator=false:=by rfl) (h4:N.Nodup:=by decide +kernel) (h5:N.take P.length=P:=by rfl) (h6:∀ x∈P,sc.names.lookup x=some .local∨sc.names.lookup x=some .cell:=by decide +kernel) (h7:∀ y∈sc.names,y.2≠.free:=by decide +kernel):FnScope N P sc:=⟨h1,h2,h3,h4,h5,h6,h7⟩
theorem w8 {kindOf:Str→Option dS}{x:Str}:∀ {binds:List (Str×af)}{m:Str→Option af},(∀ v,(x,v)∉binds)→j3 kindOf binds m x=m x
 | [],_,_=>rfl
 | (n,v)::r,m,h=>by
  unfold j3
  rw [w8 fun w hw=>h w (ag _ hw)]
  split
  ·have:x≠n:=by rintro rfl;exact h v am
   simp [this]
  ·rfl
theorem xg {kindOf:Str→Option dS}{x:Str}:∀ {binds:List (Str×af)}{m:Str→Option af},(∀ v,(x,v)∉binds)→j4 kindOf binds m x=m x
 | [],_,_=>rfl
 | (n,v)::r,m,h=>by
  unfold j4
  rw [xg fun w hw=>h w (ag _ hw)]
  split
  ·rfl
  ·have:x≠n:=by rintro rfl;exact h v am
   simp [this]
theorem xf {kindOf:Str→Option dS}{x:Str}{v:af}:∀ {P:List Str}{vs:List af}{i:Nat}{m:Str→Option af},P.Nodup→P[i]?=some x→vs[i]?=some v→kindOf x=some .local →
  j3 kindOf (P.zip vs) m x=some v
 | [],_,_,_,_,h,_,_=>by simp at h
 | _::_,[],_,_,_,_,h,_=>by simp at h
 | p::P,w::vs,0,m,nd,h1,h2,hk=>by
  simp at h1 h2;subst h1;subst h2
  show j3 kindOf ((p,w)::P.zip vs) m p=_
  unfold j3
  rw [w8 fun v hv=>(aN.mp nd).1 (iH hv).1,if_pos hk]
  simp
 | p::P,w::vs,i+1,m,nd,h1,h2,hk=>by
  show j3 kindOf ((p,w)::P.zip vs) m x=_
  unfold j3
  exact xf (i:=i) (aN.mp nd).2 (by simpa using h1) (by simpa using h2) hk
theorem xh {kindOf:Str→Option dS}{x:Str}{v:af}:∀ {P:List Str}{vs:List af}{i:Nat}{m:Str→Option af},P.Nodup→P[i]?=some x→vs[i]?=some v→kindOf x≠some .local →
  j4 kindOf (P.zip vs) m x=some v
 | [],_,_,_,_,h,_,_=>by simp at h
 | _::_,[],_,_,_,_,h,_=>by simp at h
 | p::P,w::vs,0,m,nd,h1,h2,hk=>by
  simp at h1 h2;subst h1;subst h2
  show j4 kindOf ((p,w)::P.zip vs) m p=_
  unfold j4
  rw [xg fun v hv=>(aN.mp nd).1 (iH hv).1,if_neg hk]
  simp
 | p::P,w::vs,i+1,m,nd,h1,h2,hk=>by
  show j4 kindOf ((p,w)::P.zip vs) m x=_
  unfold j4
  exact xh (i:=i) (aN.mp nd).2 (by simpa using h1) (by simpa using h2) hk
def start (N:List Str) (vs:List V):St:=vs.map some++aV (N.length - vs.length) none
def wZ (CX:CXT) (P:aU) (w:bw) (K:aa) (mg:Str→Option af) (base:bM) (N:List Str) (qual:Str) (scope:dR) (f:ae) (cd:af) (A:bL) (outer:List Env) (s:al) (H:Hp) (E:XK):Cx where
 prog:=P
 w:=w
 K:=K
 mg:=mg
 base:=base
 A:=A.deeper (dY qual scope s.heap.objs.size f cd)
 N:=N
 s₀:=s
 H₀:=H
 env:=dY qual scope s.heap.objs.size f cd
 outer:=outer
 stack:=dY qual scope s.heap.objs.size f cd::outer
 ex:=[]
 calm:=true
 fn:=fun _=>true
 pn:=[]
 xe:=fun e s'=>bj (model P w) (A.deeper (dY qual scope s.heap.objs.size f cd)) (leaving (dY qual scope s.heap.objs.size f cd) e) (fun _ s''=>CX outer H s E e s'') (fun e' s''=>CX outer H s E e' s'') s'
theorem zn {sc:dR}{n:Nat}{x:Str} (h:sc.names.lookup x=some .cell):∃ c,(cellsFrom n sc.names []).lookup x=some c:=by
 have q:=iW sc.names n [] (.inl h)
 exact ee.mp q
theorem BN {CX:CXT}{P:aU}{w:bw}{K:aa}{mg:Str→Option af}{base:bM}{N ps:List Str}{qual:Str}{scope:dR}{f:ae}{cd:af}{A:bL}{outer:List Env}{s s1:al}{H:Hp}{E:XK}{us:List af}{vs:List V}
  (S:FnScope N ps scope) (hd:A.handled=none) (e0:Env0 P w K mg base A outer s H) (hl:vs.length=ps.length) (r:Vals vs us)
  (x:InCallC s s.heap.objs.size (j3 (dY qual scope s.heap.objs.size f cd).kindOf (ps.zip us) fun _=>none) (cellsFrom (s.heap.objs.size+1) scope.names []) (j4 (dY qual scope s.heap.objs.size f cd).kindOf (ps.zip us) fun _=>none) s1) :
  Inv (wZ CX P w K mg base N qual scope f cd A outer s H E) [] (start N vs) H s1:=by
 have hpl:ps.length≤N.length:=by have:=congrArg dC S.pre;rw [cg] at this;omega
 obtain ⟨h1,tk,rfl,hk⟩:=x.done
 have noA:∀ b:ae,b∉(wZ CX P w K mg base N qual scope f cd A outer s H E).ex:=fun b z=>absurd (show b∈([]:List ae) from z) (by simp)
 refine ⟨⟨e0.mod,S.kind,rfl,rfl,aA _,fun y z c h1 h2=>?_,fun y hy=>?_,fun y c _ h=>?_,fun _=>hd,jp e0.frames,.inr ⟨rfl,rfl⟩,fun b z=>absurd z (noA b),e0.bs,e0.bsz,fun b _ _=>noA b,fun b z=>absurd z (noA b),e0.funs,e0.frf⟩,
  rfl,e0.bare,Un.kept hk,⟨_,x.toInCall.ns,fun i y v h1 h2 h3=>?_⟩,fun y c h=>⟨_,x.cell y c h⟩,e0.hok.fresh (aA _),fun y c h=>?_,fun p hp=>absurd (show p∈([]:List (ae×Obj)) from hp) (by simp),e0.hok.kept hk,?_⟩
 ·exact name_of_addr x.apart (bS h1) (bS h2)
 ·have hy:scope.names.lookup y=some .cell∨scope.names.lookup y=some .free:=hy
  rcases hy with hy | hy
  ·exact zn hy
  ·exact absurd rfl (S.nofree _ (bS hy))
 ·exact cF (x.above y c (bS h))
 ·have hi:i < vs.length:=by
   unfold start at h2
   by_cases hi:i < vs.length
   ·exact hi
   ·rw [fN (by simpa using hi)] at h2
    rw [jh] at h2
    split at h2 <;> cases h2
  have ha:vs[i]?=some v:=by
   unfold start at h2
   rw [fR (by simpa using hi),bi] at h2
   cases e:vs[i]? with
   | none=>rw [e] at h2;cases h2
   | some a=>rw [e] at h2;cases h2;rfl
  obtain ⟨u,hu,rv⟩:=r.get ha
  have hp:ps[i]?=some y:=by
   rw [← S.pre,List.getElem?_take_of_lt (by omega)];exact h1
  have ndP:ps.Nodup:=by rw [← S.pre];exact S.nd.sublist (eR _ _)
  refine ⟨u,rv,?_⟩
  rcases S.par y (ck hp) with k | k
  ·exact .inl ⟨k,xf ndP hp hu k⟩
  ·obtain ⟨c,e⟩:=zn (n:=s.heap.objs.size+1) k
   refine .inr ⟨.inl k,c,e,?_⟩
   have q:=x.cell y c e
   rw [xh ndP hp hu (by show scope.names.lookup y≠_;rw [k];decide)] at q
   exact q
 ·exact e0.hok.fresh (cF (x.above y c (bS h)))
 ·unfold start
  show _=N.length
  rw [aC,aj,List.length_replicate]
  omega
theorem ED {CX:CXT}{P:aU}{w:bw}{K:aa}{mg:Str→Option af}{base:bM}{k:Nat}{f:ae}{name qual:Str}{params:ik}{body:List bX}{scope:dR}{dV kV doc pm cdv ct oc:af}{an od:Option ae}
  {osl:Array (Option af)}{N ps:List Str}{sp:Sp} (lk:K.lookup f=some ⟨oc,od,.func (dQ name qual params body scope dV kV doc pm an cdv ct),osl⟩) (hcd:aG K cdv qual=true) (S:FnScope N ps scope)
  (len:∀ vs H Q E,sp vs H Q E→vs.length=ps.length)
  (hbody:∀ (A:bL) (outer:List Env) (s:al) (H:Hp) (vs:List V) (Q:VK) (E:XK),Room k (A.deeper (dY qual scope s.heap.objs.size f cdv))→sp vs H Q E →
   ∃ t,PSs (wZ CX P w K mg base N qual scope f cdv A outer s H E) body t∧t { nx:=fun _ H'=>Q .non H',rt:=Q } (start N vs) H) :
  FnOk P w K mg base CX (k+1) f (dQ name qual params body scope dV kV doc pm an cdv ct) ps sp:=by
 refine ⟨len,fun A outer s H args us vs Q E hr e0 hb r hsp=>?_⟩
 have hl:=len _ _ _ _ hsp
 have KX:K.In s.heap:=e0.mod.kin.keeps fun b o e=>(e0.bs b o e).1
 have lim:s.heap.NoLimit:=e0.mod.nolimit.keeps fun b o e=>(e0.bs b o e).1
 have hkind:∀ y∈ps.zip us,scope.names.lookup y.1=some .local∨(scope.names.lookup y.1=some .cell∧((cellsFrom (s.heap.objs.size+1) scope.names []).lookup y.1).isSome=true):=fun ⟨n,v⟩ hy=>by
  rcases S.par n (iH hy).1 with q | q
  ·exact .inl q
  ·exact .inr ⟨q,iW _ _ _ (.inl q)⟩
 refine codeAny_call_function hr.depth (KX _ _ lk) rfl S.co S.gen rfl (PySem.W.codeRec_of KX hcd) (hb _ _ _ _ ?_)
 refine wpAny_newFunctionEnv_cells S.kind hkind fun env he s1 x=>?_
 subst he
 refine ⟨lim.keeps x.toInCall.keep,codeAny_func ?_⟩
 obtain ⟨t,ht,hq⟩:=hbody A outer s H vs Q E (hr.deeper _) hsp
 have I:Inv (wZ CX P w K mg base N qual scope f cdv A outer s H E) [] (start N vs) H s1:=BN S hr.hd e0 hl r x
 refine cr (ht [] s1 (start N vs) H _ I hq) (fun fl s' hs=>?_) fun e s' hs=>hs
 have fin:∀ {σ':St}{H':Hp}{v:V}{u:af},Inv (wZ CX P w K mg base N qual scope f cdv A outer s H E) [] σ' H' s'→RelV v u→Q v H'→CE outer P w H s Q u s' :=
  fun {σ' H' v u} J rv q=>⟨v,H',J.os,J.bare,J.base,J.hok,rv,q⟩
 cases fl with
 | ret u =>
  obtain ⟨v,σ',H',J,rv,q⟩:=hs
  exact fin J rv q
 | next =>
  obtain ⟨σ',H',J,q⟩:=hs
  exact fin (v:=V.non) (u:=jR) J rfl q
 | brk =>
  obtain ⟨_,_,_,q⟩:=hs
  exact bG q
 | cont =>
  obtain ⟨_,_,_,q⟩:=hs
  exact bG q
section
variable {X:Cx}{x:Str}{p pos:Pos}{e:bo}{es:List bo}{t:TA}{id T:String}{r:List V→Hp→VK→Prop}
def tCB (r:List V→Hp→VK→Prop) (t:TA):TE:=fun σ H Q=>t σ H fun vs H1=>r vs H1 Q
theorem nr (hc:CallR X (.builtin id) r) (hg:Gl X x) (hm:X.mg x=none) (hv:bR x=some (.builtin id)) (ha:PA X (e::es) t) (hn:x≠"__name__":=by decide) (hdb:(x == ("__debug__":Str))=false:=by decide)
  (he:aP (e::es) X.env=(false,eval e X.env)::aP es X.env:=by rfl) (hpl:(cA pos (aP es X.env)).any (·.1)=false:=by rfl):PE X (.Call (.Name x p) (e::es) [] pos) (tCB r t):=by
 intro pins s σ H Q I h
 refine cG (vS I hg hm hv ?_ hn hdb)
 exact gM (thn (ha pos pins s σ H _ I h) fun us s1 ⟨vs,H1,I1,r1,q1⟩=>hc pins s1 σ H1 vs us Q I1 r1 q1) he hpl
theorem Br (hc:CallR X (.type T) r) (hg:Gl X x) (hm:X.mg x=none) (hv:bR x=some (.type T)) (ha:PA X (e::es) t) (hn:x≠"__name__":=by decide) (hdb:(x == ("__debug__":Str))=false:=by decide)
  (he:aP (e::es) X.env=(false,eval e X.env)::aP es X.env:=by rfl) (hpl:(cA pos (aP es X.env)).any (·.1)=false:=by rfl):PE X (.Call (.Name x p) (e::es) [] pos) (tCB r t):=by
 intro pins s σ H Q I h
 refine cG (vS I hg hm hv ?_ hn hdb)
 exact eX (thn (ha pos pins s σ H _ I h) fun us s1 ⟨vs,H1,I1,r1,q1⟩=>hc pins s1 σ H1 vs us Q I1 r1 q1) he hpl
end
end L2
namespace HT
open PySem PyProof.Rows
section
open PySem.SeqAt
open PySem.AutoSeq1 (wpAny_loadPart')
open PySem.MeetsSeq PySem.MeetsSeq2 PySem.MeetsSeq3
end
section
variable {prog:aU}{w:bw}{A:bL}{E:af→al→Prop}{s:al}
def sIx (n d:Nat):Option Int→Nat
 | none=>d
 | some v=>if v < 0 then (v+(n:Int)).toNat else min v.toNat n
theorem GO (n d:Nat) (hd:d≤n) (o:Option Int):sIx n d o≤n:=by
 cases o with
 | none=>exact hd
 | some v =>
  show (if v < 0 then (v+(n:Int)).toNat else min v.toNat n)≤n
  by_cases hv:v < 0
  ·rw [if_pos hv];omega
  ·rw [if_neg hv];exact Nat.min_le_right _ _
theorem A5 (v:Int) (n d:Nat):(if v < 0 then max (v+(n:Int)) 0 else min v (n:Int))=((sIx n d (some v):Nat):Int):=by
 show (if v < 0 then max (v+(n:Int)) 0 else min v (n:Int))=(((if v < 0 then (v+(n:Int)).toNat else min v.toNat n):Nat):Int)
 by_cases hv:v < 0
 ·simp only [if_pos hv];omega
 ·simp only [if_neg hv];omega
theorem Af (lo hi:Option Int) (n:Nat):fj lo hi 1 (n:Int)=(((sIx n 0 lo:Nat):Int),((sIx n n hi:Nat):Int)):=by
 have h1:¬ ((1:Int) < 0):=by omega
 unfold fj
 simp only [h1,if_false]
 refine Prod.ext ?_ ?_
 ·cases lo with
  | none=>rfl
  | some v=>exact A5 v n 0
 ·cases hi with
  | none=>rfl
  | some v=>exact A5 v n n
theorem zL (i j:Nat):dF (i:Int) (j:Int) 1=j - i:=by
 unfold dF
 have h1:(1:Int) > 0:=by omega
 simp only [h1,if_true,Int.ediv_one]
 split <;> omega
theorem uq {v:af}{o:Option Int}{Q:Option Int→al→Prop} (p:iY v o) (h:Q o s):bj (model prog w) A (Builtin.Slice.slicePartIndex v) Q E s:=by
 cases p with
 | none=>exact slicePart_none h
 | int i t=>exact slicePart_int h
theorem sC {sl:ae}{vl vu:af}{lo hi:Option Int}{n:Nat}{Q:Int×Int×Nat→al→Prop} (hs:s.heap.IsSliceOf sl vl vu .none) (pl:iY vl lo) (pu:iY vu hi)
  (h:Q (((sIx n 0 lo:Nat):Int),1,sIx n n hi - sIx n 0 lo) s):bj (model prog w) A (gU (.ref sl) (pure (n:Int))) Q E s:=by
 obtain ⟨os,hos,hcs,hds⟩:=id hs
 unfold gU Builtin.Slice.sliceFields
 refine aF (aF (wpAny_field hos hds (x:=vl) rfl (aF (wpAny_field hos hds (x:=vu) rfl (aF (wpAny_field hos hds (x:=.none) rfl (aX ?_)))))))
 refine aF (slicePart_none ?_)
 show bj _ _ (if ((1:Int) == 0)=true then _ else _) _ _ s
 rw [if_neg (by decide)]
 refine aF (uq pl (aF (uq pu (aF (aX ?_)))))
 show bj _ _ (match fj lo hi 1 (n:Int) with | (lo,hi)=>pure (lo,(1:Int),dF lo hi 1)) _ _ s
 rw [Af lo hi n]
 show bj _ _ (pure (((sIx n 0 lo:Nat):Int),(1:Int),dF ((sIx n 0 lo:Nat):Int) ((sIx n n hi:Nat):Int) 1)) _ _ s
 rw [zL]
 exact aX h
theorem C9 (xs:Array af) (i k:Nat):((cy k).filterMap fun (m:Nat)=>xs[((i:Int)+(m:Int) * 1).toNat]?).toArray=((xs.toList.drop i).take k).toArray:=by
 have e:(fun (m:Nat)=>xs[((i:Int)+(m:Int) * 1).toNat]?)=fun m=>xs[i+m]?:=by
  funext m
  have:((i:Int)+(m:Int) * 1).toNat=i+m:=by omega
  rw [this]
 rw [e]
 have:=pick_run xs i k
 rw [List.filterMap_map] at this
 have e2:((fun x=>xs[x]?) ∘ fun x=>i+x)=fun m=>xs[i+m]?:=rfl
 rw [e2] at this
 rw [this]
theorem getItem_tuple_cut {t sl:ae}{items:Array af}{vl vu:af}{lo hi:Option Int}{Q:af→al→Prop} (ht:IsTup s.heap t items) (hs:s.heap.IsSliceOf sl vl vu .none) (pl:iY vl lo) (pu:iY vu hi)
  (hw:¬ (sIx items.size 0 lo=0∧sIx items.size items.size hi=items.size))
  (h:Q (.ref s.heap.objs.size) { s with heap:=s.heap.push { cls:=.type "tuple",data:=.seq ((items.toList.drop (sIx items.size 0 lo)).take (sIx items.size items.size hi - sIx items.size 0 lo)).toArray } })
  (hsz:items.size≤aQ):bj (model prog w) A (ie (.ref t) (.ref sl)) Q E s:=by
 have htake:sizeOk (.seq ((items.toList.drop (sIx items.size 0 lo)).take (sIx items.size items.size hi - sIx items.size 0 lo)).toArray):=by
  show ((items.toList.drop (sIx items.size 0 lo)).take (sIx items.size items.size hi - sIx items.size 0 lo)).toArray.size≤aQ
  rw [aT,cg,gi,fw]
  omega
 have hj:sIx items.size items.size hi≤items.size:=GO _ _ (aA _) hi
 obtain ⟨os,hos,hcs,hds⟩:=id hs
 have hTs:s.TypeIs (.ref sl) "slice":=⟨os,hos,hcs⟩
 unfold ie
 try with_reducible refine dU ?_
 first | refine aF (aX ?_) | skip
 refine aF (wpAny_sequenceKey ht.typeIs (by decide) ?_)
 refine aF (wpAny_callSpecial?_slot (name:=aD "__getitem__") ht.typeIs dw
  (wpAny_call_entry dw ht.typeIs entry_tuple_getitem ?_ (args_tuple_getitem _ _)))
 show bj _ _ (Builtin.Tuple.tupleItemsOf (.ref t) >>= _) _ _ s
 refine aF (tupleItemsOf_ ht ?_)
 refine aF (wpAny_typeOf hTs ?_)
 rw [if_pos (by decide)]
 refine aF (sC hs pl pu ?_)
 have hno:¬ ((((sIx items.size 0 lo:Nat):Int) == 0 && (1:Int) == 1 && (sIx items.size items.size hi - sIx items.size 0 lo) == items.size)=true):=by
  intro q
  rw [bJ,bJ] at q
  have q1:((sIx items.size 0 lo:Nat):Int)=0:=eq_of_beq q.1.1
  have q2:sIx items.size items.size hi - sIx items.size 0 lo=items.size:=eq_of_beq q.2
  exact hw ⟨by omega,by omega⟩
 show bj _ _ (if (((sIx items.size 0 lo:Nat):Int) == 0 && (1:Int) == 1 && (sIx items.size items.size hi - sIx items.size 0 lo) == items.size)=true then _ else _) _ _ s
 rw [if_neg hno,C9]
 first
  | exact aF (m:=dM _) (d6 (aX ⟨_,rfl,aX h⟩) htake)
  | exact aF (m:=dM _) (d6 (aF (aX (aX ⟨_,rfl,aX h⟩))) htake)
  | exact aF (aF (m:=dM _) (d6 (aX (aX ⟨_,rfl,aX h⟩)) htake))
  | exact aF (aF (m:=dM _) (d6 (aX ⟨_,rfl,aX h⟩) htake))
end
end HT
namespace L2
open PySem PySem.Spec PyProof.Rows
abbrev TO:=St→Hp→(Option Int→Hp→Prop)→Prop
def PO (X:Cx) (e:Option bo) (t:TO):Prop :=
 ∀ (pins:List (ae×Obj)) (s:al) (σ:St) (H:Hp) (Q:Option Int→Hp→Prop),Inv X pins σ H s→t σ H Q →
  bj (model X.prog X.w) X.A (evalPart e X.env) (fun u s'=>∃ o H',Inv X pins σ H' s'∧iY u o∧Q o H') X.xe s
def EN:TO:=fun _ H Q=>Q none H
def tPart (t:TE):TO:=fun σ H Q=>t σ H fun x H1=>∃ i,x=.int i∧Q (some i) H1
section
variable {X:Cx}{e:bo}{te:TE}{lo hi:Option bo}{tl th:TO}{pos p2:Pos}
theorem po_none:PO X none EN:=by
 intro pins s σ H Q I h
 rw [evalPart_none]
 exact aX ⟨none,H,I,.none,h⟩
theorem E5 (h:PE X e te):PO X (some e) (tPart te):=by
 intro pins s σ H Q I hw
 rw [evalPart_some]
 refine thn (h pins s σ H _ I hw) fun u s1 ⟨x,H1,I1,r1,q1⟩=>?_
 obtain ⟨i,rfl,q⟩:=q1
 obtain ⟨t,rfl⟩:=r1
 exact ⟨some i,H1,I1,.int i t,q⟩
def SlR (X:Cx) (r:V→Option Int→Option Int→Hp→VK→Prop):Prop :=
 ∀ (pins:List (ae×Obj)) (s:al) (σ:St) (H:Hp) (x:V) (v vl vu:af) (lo hi:Option Int) (sl:ae) (Q:VK),Inv X pins σ H s→RelV x v→s.heap.IsSliceOf sl vl vu .none→iY vl lo→iY vu hi→r x lo hi H Q →
  ∃ T id,typeLookup (.type T) "__getitem__"=pure (some (.builtin id))∧s.TypeIs v T∧bj (model X.prog X.w) X.A (ie v (.ref sl)) (EP X pins σ Q) X.xe s
theorem SlR.or {r r':V→Option Int→Option Int→Hp→VK→Prop} (h:SlR X r) (h':SlR X r'):SlR X (fun x lo hi H Q=>r x lo hi H Q∨r' x lo hi H Q):=by
 intro pins s σ H x v vl vu lo hi sl Q I rx hs pl pu q
 rcases q with q | q
 ·exact h pins s σ H x v vl vu lo hi sl Q I rx hs pl pu q
 ·exact h' pins s σ H x v vl vu lo hi sl Q I rx hs pl pu q
def tSl (r:V→Option Int→Option Int→Hp→VK→Prop) (te:TE) (tl th:TO):TE:=fun σ H Q=>te σ H fun x H1=>tl σ H1 fun l H2=>th σ H2 fun u H3=>r x l u H3 Q
theorem Db {r:V→Option Int→Option Int→Hp→VK→Prop} (hr:SlR X r) (he:PE X e te) (hl:PO X lo tl) (hu:PO X hi th):PE X (.Subscript e (.Slice lo hi none p2) pos) (tSl r te tl th):=by
 intro pins s σ H Q I h
 refine Subscript_ (thn (he pins s σ H _ I h) fun v s1 ⟨x,H1,I1,r1,q1⟩=>?_)
 refine wpAny_Slice (thn (hl pins s1 σ H1 _ I1 q1) fun vl s2 ⟨l,H2,I2,pl,q2⟩=>thn (hu pins s2 σ H2 _ I2 q2) fun vu s3 ⟨u,H3,I3,pu,q3⟩=>?_)
 rw [evalPart_none]
 refine aX ?_
 have I4:Inv X pins σ H3 { s3 with heap:=s3.heap.push { cls:=.type "slice",data:=.fields #[vl,vu,.none] } }:=I3.kept (t':=s3.toks) fun b ob q=>av _ q
 obtain ⟨T,id,hT,ht,hg⟩:=hr pins { s3 with heap:=s3.heap.push { cls:=.type "slice",data:=.fields #[vl,vu,.none] } } σ H3 x v vl vu l u s3.heap.objs.size Q I4 r1 (Heap.IsSliceOf.new ..) pl pu q3
 show bj (model X.prog X.w) X.A (iA e (.Slice lo hi none p2) v (.ref s3.heap.objs.size)) (EP X pins σ Q) X.xe { s3 with heap:=s3.heap.push { cls:=.type "slice",data:=.fields #[vl,vu,.none] } }
 exact tail_any (ops:=[.ref s3.heap.objs.size,v]) ht hT hg (by with_unfolding_all rfl)
def A2 (xs:List V) (lo hi:Option Int):List V:=(xs.drop (HT.sIx xs.length 0 lo)).take (HT.sIx xs.length xs.length hi - HT.sIx xs.length 0 lo)
theorem tN (xs:List V) (lo hi:Option Int):(A2 xs lo hi).length≤xs.length:=by
 unfold A2
 rw [cg,gi]
 omega
def rSlT (K:aa):V→Option Int→Option Int→Hp→VK→Prop:=fun x lo hi H Q=>∃ a xs,x=.ref a∧SqT K H a xs ∧
 ¬ (HT.sIx xs.length 0 lo=0∧HT.sIx xs.length xs.length hi=xs.length)∧∀ p,H p=none→Q (.ref p) (upd H p (.tup (A2 xs lo hi)))
theorem GM:SlR X (rSlT X.K):=by
 intro pins s σ H x v vl vu lo hi sl Q I rx hs pl pu h
 obtain ⟨a,xs,rfl,hx,hw,q⟩:=h
 cases rx
 obtain ⟨its,r,ht,hz⟩:=I.tuple hx
 have hlen:its.toArray.size=xs.length:=by rw [aT];exact r.length.symm
 refine ⟨"tuple",_,dw.lookup,ht.typeIs,?_⟩
 refine HT.getItem_tuple_cut ht hs pl pu (by rw [hlen];exact hw) ?_ (by rw [hlen];exact hz)
 rw [hlen]
 refine ⟨.ref s.heap.objs.size,_,I.laid (t':=s.toks) (o:=.tup (A2 xs lo hi)) (fun b ob q=>av _ q) (aA _) ?_,rfl,q _ (I.hok.fresh (aA _))⟩
 exact ⟨aJ (tN xs lo hi) hz,_,(r.drop (HT.sIx xs.length 0 lo)).take (HT.sIx xs.length xs.length hi - HT.sIx xs.length 0 lo),IsTup.new _ _⟩
end
def ixN (n:Nat) (i:Int):Option Nat:=if 0≤i then (if i < n then some i.toNat else none) else if -(n:Int)≤i then some (i+n).toNat else none
def atI {α:Type} (xs:List α) (i:Int):Option α:=(ixN xs.length i).bind fun j=>xs[j]?
theorem AV {n:Nat}{i:Int}{j:Nat} (h:ixN n i=some j):seqIndex? i n=some j∧j < n∧-(n:Int)≤i∧i < n:=by
 unfold ixN at h
 by_cases h0:0≤i
 ·rw [if_pos h0] at h
  by_cases h1:i < n
  ·rw [if_pos h1] at h
   have e:i.toNat=j:=aZ h
   exact ⟨by rw [seqIndex_of h0 h1,e],by omega,by omega,h1⟩
  ·rw [if_neg h1] at h;cases h
 ·rw [if_neg h0] at h
  by_cases h1:-(n:Int)≤i
  ·rw [if_pos h1] at h
   have e:(i+n).toNat=j:=aZ h
   exact ⟨by rw [seqIndex_neg (by omega) h1,e],by omega,h1,by omega⟩
  ·rw [if_neg h1] at h;cases h
theorem xV {α:Type}{xs:List α}{i:Int}{v:α} (h:atI xs i=some v):∃ j,seqIndex? i xs.length=some j∧xs[j]?=some v∧j < xs.length∧-(xs.length:Int)≤i∧i < xs.length:=by
 unfold atI at h
 cases e:ixN xs.length i with
 | none=>rw [e] at h;cases h
 | some j =>
  rw [e] at h
  obtain ⟨h1,h2,h3,h4⟩:=AV e
  exact ⟨j,h1,h,h2,h3,h4⟩
theorem kZ {α:Type}{xs:List α}{j:Nat}{v:α} (h:xs[j]?=some v):atI xs (j:Int)=some v:=by
 have hj:j < xs.length:=(aW.mp h).1
 have e:ixN xs.length (j:Int)=some j:=by
  unfold ixN
  rw [if_pos (by omega),if_pos (by omega)];simp
 unfold atI;rw [e];exact h
def Bb (b:bo):Prop:=∀ o i,subscripted b false o i=operate [o,i] (ie o i)
def IxR (X:Cx) (r:R2):Prop :=
 ∀ (value slice:bo) (pins:List (ae×Obj)) (s:al) (σ:St) (H:Hp) (x y:V) (v u:af) (Q:VK),Inv X pins σ H s→RelV x v→RelV y u→r x y H Q →
  subscripted slice false v u=operate [v,u] (ie v u)→bj (model X.prog X.w) X.A (iA value slice v u) (EP X pins σ Q) X.xe s
def MtR (X:Cx) (id:String) (r:V→List V→Hp→VK→Prop):Prop :=
 ∀ (pins:List (ae×Obj)) (s:al) (σ:St) (H:Hp) (x:V) (xs:List V) (v:af) (us:List af) (Q:VK),Inv X pins σ H s→RelV x v→Vals xs us→r x xs H Q →
  bj (model X.prog X.w) X.A (call (.builtin id) (v::us)) (EP X pins σ Q) X.xe s
section
variable {X:Cx}{a b:bo}{ta tb:TE}{pos:Pos}
theorem IxR.or {r r':R2} (h:IxR X r) (h':IxR X r'):IxR X (fun x y H Q=>r x y H Q∨r' x y H Q):=by
 intro value slice pins s σ H x y v u Q I rx ry q hs
 rcases q with q | q
 ·exact h value slice pins s σ H x y v u Q I rx ry q hs
 ·exact h' value slice pins s σ H x y v u Q I rx ry q hs
theorem oK {r:R2} (hr:IxR X r) (ha:PE X a ta) (hb:PE X b tb) (hs:Bb b):PE X (.Subscript a b pos) (tOp r ta tb):=by
 intro pins s σ H Q I h
 exact Subscript_ (Il ha hb I h fun v u s2 x y H2 I2 rx ry q=>hr a b pins s2 σ H2 x y v u Q I2 rx ry q (hs _ _))
def Ib (K:aa):R2:=fun x y H Q=>∃ p xs i v,x=.ref p∧y=.int i∧SqL K H p xs∧atI xs i=some v∧Q v H
def HZ (K:aa):R2:=fun x y H Q=>∃ p xs i v,x=.ref p∧y=.int i∧SqT K H p xs∧atI xs i=some v∧Q v H
def Ia:R2:=fun x y H Q=>∃ z i c,x=.str z∧y=.int i∧z.length≤aQ∧atI z.cps.toList i=some c∧Q (.str ⟨#[c]⟩) H
theorem ix_list:IxR X (Ib X.K):=by
 intro value slice pins s σ H x y v u Q I rx ry h hs
 obtain ⟨p,xs,i,z,rfl,rfl,hq,he,q⟩:=h
 cases rx
 obtain ⟨t,rfl⟩:=ry
 obtain ⟨its,r,pl,hz⟩:=I.list hq
 obtain ⟨j,h1,h2,h3,h4,h5⟩:=xV he
 obtain ⟨w,ew,rw'⟩:=r.get h2
 have hl:=r.length
 have hn:=t4
 have fin:EP X pins σ Q w s:=⟨z,H,I,rw',q⟩
 by_cases h0:0≤i
 ·have hj:i.toNat=j:=by
   rw [seqIndex_of h0 h5] at h1
   exact aZ h1
  exact item_listR pl.isList h0 (by omega) (by rw [hj];simpa using ew) fin hs
 ·have hj:(i+(its.toArray.size:Int)).toNat=j:=by
   rw [seqIndex_neg (by omega) h4] at h1
   rw [aT,← hl]
   exact aZ h1
  exact subscriptTail_builtinR (x:=w) pl.isList.typeIs slot_list_getitem.lookup
   (wpAny_getItem_list_neg (Q:=fun r s'=>r=w∧EP X pins σ Q r s') pl.isList (by omega) (by rw [aT] <;> omega) (by omega) (by rw [hj];simpa using ew) ⟨rfl,fin⟩) hs
theorem ix_tup:IxR X (HZ X.K):=by
 intro value slice pins s σ H x y v u Q I rx ry h hs
 obtain ⟨p,xs,i,z,rfl,rfl,hq,he,q⟩:=h
 cases rx
 obtain ⟨t,rfl⟩:=ry
 obtain ⟨its,r,pl,hz⟩:=I.tuple hq
 obtain ⟨j,h1,h2,h3,h4,h5⟩:=xV he
 obtain ⟨w,ew,rw'⟩:=r.get h2
 have hl:=r.length
 have hn:=t4
 have fin:EP X pins σ Q w s:=⟨z,H,I,rw',q⟩
 exact subscriptTail_builtinR (x:=w) pl.typeIs dw.lookup
  (getItem_tuple (j:=j) (Q:=fun r s'=>r=w∧EP X pins σ Q r s') pl (by omega) (by omega) (by rw [aT,← hl];exact h1) (by simpa using ew) ⟨rfl,fin⟩) hs
theorem Ht:IxR X Ia:=by
 intro value slice pins s σ H x y v u Q I rx ry h hs
 obtain ⟨z,i,c,rfl,rfl,hz,he,q⟩:=h
 obtain ⟨t,rfl⟩:=rx
 obtain ⟨t',rfl⟩:=ry
 obtain ⟨j,h1,h2,h3,h4,h5⟩:=xV he
 have hl:z.cps.toList.length=z.length:=by simp [Str.length]
 rw [hl] at h1 h4 h5
 have hn:=t4
 exact tail_any (typeIs_str s z t) slot_str_getitem.lookup (getItem_str (c:=c) (by
  have e1:decide (i < -(2 ^ 63:Int))=false:=decide_eq_false (by omega)
  have e2:decide (i ≥ 2 ^ 63)=false:=decide_eq_false (by omega)
  rw [e1,e2,Bool.or_false]) (by rw [h1];simpa using h2) ⟨.str ⟨#[c]⟩,H,I.tok _,⟨_,rfl⟩,q⟩) hs
theorem zZ (its:List af) (n j:Nat) (u:af):hZ (·.setIfInBounds j u) { cls:=.type "list",data:=.seq its.toArray n }={ cls:=.type "list",data:=.seq (its.set j u).toArray n }:=by
 simp [hZ]
theorem Inv.lst {pins:List (ae×Obj)}{σ:St}{H:Hp}{s:al}{p:ae}{xs:List V} (I:Inv X pins σ H s) (h:H p=some (.lst xs)) :
  ∃ (its:List af) (n:Nat),Vals xs its∧s.heap.get? p=some { cls:=.type "list",data:=.seq its.toArray n }∧xs.length≤aQ:=by
 obtain ⟨z,its,n,r,e⟩:=I.hok p _ h
 exact ⟨its,n,r,e,z⟩
theorem Inv.lstUpd {pins:List (ae×Obj)}{σ:St}{H:Hp}{s:al}{p:ae}{xs ys:List V}{its its':List af}{n n':Nat}{f:Obj→Obj} (I:Inv X pins σ H s) (h:H p=some (.lst xs))
  (ho:s.heap.get? p=some { cls:=.type "list",data:=.seq its.toArray n }) (hf:f { cls:=.type "list",data:=.seq its.toArray n }={ cls:=.type "list",data:=.seq its'.toArray n' }) (r:Vals ys its') (hz:ys.length≤aQ) (t:Nat) :
  Inv X pins σ (upd H p (.lst ys)) { s with heap:=s.heap.update p f,toks:=t }:=by
 have e:(s.heap.update p f).get? p=some { cls:=.type "list",data:=.seq its'.toArray n' }:=by
  rw [Heap.get?_update_self f ho (by rw [hf] <;> rfl),hf]
 refine I.write (x:=p) (e:=p) (by rw [h];trivial) (.inl rfl) (fun b u hb q=>(jm _ _ (gG hb)).trans q) ⟨_,e⟩ ?_
 exact ⟨hz,its',n',r,e⟩
def Ga:V→V→V→Hp→(Hp→Prop)→Prop:=fun o i v H Q=>∃ p xs k j,o=.ref p∧i=.int k∧H p=some (.lst xs)∧ixN xs.length k=some j∧Q (upd H p (.lst (xs.set j v)))
theorem set_list:PSet X Ga:=by
 intro pins s σ H o i v ov iv u Q I ro ri rv h
 obtain ⟨p,xs,k,j,rfl,rfl,hp,hj,q⟩:=h
 cases ro
 obtain ⟨t,rfl⟩:=ri
 obtain ⟨its,n,r,ho,hz⟩:=I.lst hp
 obtain ⟨h1,h2,h3,h4⟩:=AV hj
 have hl:=r.length
 have hn:=t4
 have I':Inv X pins σ (upd H p (.lst (xs.set j v))) { s with heap:=s.heap.update p (hZ (·.setIfInBounds j u)) } :=
  I.lstUpd hp ho (zZ its n j u) (r.set rv j) (by rw [List.length_set];exact hz) s.toks
 by_cases h0:0≤k
 ·have hk:k.toNat=j:=by
   rw [seqIndex_of h0 h4] at h1
   exact aZ h1
  exact PySem.W.ki_setAt ho h0 (by omega) (by rw [aT,← hl];exact h4) (by rw [hk];exact ⟨_,I',q⟩)
 ·have hk:(k+(its.toArray.size:Int)).toNat=j:=by
   rw [seqIndex_neg (by omega) h3] at h1
   rw [aT,← hl]
   exact aZ h1
  exact PySem.W.ki_setBack ho (by omega) (by rw [aT,← hl];exact h3) (by omega) (by rw [hk];exact ⟨_,I',q⟩)
theorem xk (lo hi:Option Int) (n:Nat):(fF lo hi none n).1=((HT.sIx n 0 lo:Nat):Int)∧(fF lo hi none n).2.1=((HT.sIx n n hi:Nat):Int)∧(fF lo hi none n).2.2=1:=by
 refine ⟨?_,?_,rfl⟩
 ·cases lo with
  | none=>simp [fF,HT.sIx]
  | some i =>
   simp only [fF,HT.sIx,j5,show (1:Int) > 0 by decide,if_true]
   by_cases h:i < 0
   ·simp only [h,if_true] <;> omega
   ·simp only [h,if_false] <;> omega
 ·cases hi with
  | none=>simp [fF,HT.sIx]
  | some i =>
   simp only [fF,HT.sIx,j5,show (1:Int) > 0 by decide,if_true]
   by_cases h:i < 0
   ·simp only [h,if_true] <;> omega
   ·simp only [h,if_false] <;> omega
theorem vt (its:List af) (lo hi:Option Int):slicePick its.toArray lo hi none=((its.drop (HT.sIx its.length 0 lo)).take (HT.sIx its.length its.length hi - HT.sIx its.length 0 lo)).toArray:=by
 obtain ⟨h1,h2,h3⟩:=xk lo hi its.toArray.size
 unfold slicePick
 rw [h1,h2,h3]
 simp only [sliceRange_one,pick_run,aT] <;> rfl
def rSlL (K:aa):V→Option Int→Option Int→Hp→VK→Prop:=fun x lo hi H Q=>∃ a xs,x=.ref a∧SqL K H a xs∧∀ p,H p=none→Q (.ref p) (upd H p (.lst (A2 xs lo hi)))
theorem sl_list:SlR X (rSlL X.K):=by
 intro pins s σ H x v vl vu lo hi sl Q I rx hs pl pu h
 obtain ⟨a,xs,rfl,hx,q⟩:=h
 cases rx
 obtain ⟨its,r,ht,hz⟩:=I.list hx
 have hlen:=r.length
 refine ⟨"list",_,slot_list_getitem.lookup,ht.isList.typeIs,?_⟩
 refine wpAny_getItem_list_slice ht.isList hs pl pu .none (by simp) ?_ (by rw [aT] <;> omega)
 rw [vt,← hlen]
 refine ⟨.ref s.heap.objs.size,_,I.laid (t':=s.toks) (o:=.lst (A2 xs lo hi)) (fun b ob q=>av _ q) (aA _) ?_,rfl,q _ (I.hok.fresh (aA _))⟩
 exact ⟨aJ (tN xs lo hi) hz,_,0,(r.drop (HT.sIx xs.length 0 lo)).take (HT.sIx xs.length xs.length hi - HT.sIx xs.length 0 lo),ba _ rfl⟩
def pL:V→Bool
 | .non=>true
 | .bl _=>true
 | .int _=>true
 | .str _=>true
 | _=>false
def eqV:V→V→Bool
 | .non,.non=>true
 | .bl a,.bl b=>a == b
 | .bl a,.int b=>(if a then 1 else 0) == b
 | .int a,.bl b=>a == (if b then 1 else 0)
 | .int a,.int b=>a == b
 | .str a,.str b=>a == b
 | _,_=>false
theorem Ek {A:bL}{s:al}{y x:V}{u v:af} (ry:RelV y u) (rx:RelV x v) (fy:pL y=true) (fx:pL x=true):jT A s u v (eqV y x):=by
 cases y with
 | non =>
  cases ry
  cases x with
  | non=>cases rx;exact SeqAt.EqAt.same _
  | bl b=>cases rx;exact SeqAt.EqAt.none_bool b
  | int b=>obtain ⟨t,rfl⟩:=rx;exact SeqAt.EqAt.none_int b t
  | str b=>obtain ⟨t,rfl⟩:=rx;exact SeqAt.EqAt.none_str b t
  | _=>exact absurd (show false=true from fx) a7
 | bl a =>
  cases ry
  cases x with
  | non=>cases rx;exact SeqAt.EqAt.bool_none a
  | bl b=>cases rx;exact SeqAt.EqAt.bool_bool a b
  | int b=>obtain ⟨t,rfl⟩:=rx;exact SeqAt.EqAt.bool_int a b t
  | str b=>obtain ⟨t,rfl⟩:=rx;exact SeqAt.EqAt.bool_str a b t
  | _=>exact absurd (show false=true from fx) a7
 | int a =>
  obtain ⟨t',rfl⟩:=ry
  cases x with
  | non=>cases rx;exact SeqAt.EqAt.int_none a t'
  | bl b=>cases rx;exact SeqAt.EqAt.int_bool a t' b
  | int b=>obtain ⟨t,rfl⟩:=rx;exact SeqAt.EqAt.int_int a t' b t
  | str b=>obtain ⟨t,rfl⟩:=rx;exact i8 a t' b t
  | _=>exact absurd (show false=true from fx) a7
 | str a =>
  obtain ⟨t',rfl⟩:=ry
  cases x with
  | non=>cases rx;exact SeqAt.EqAt.str_none a t'
  | bl b=>cases rx;exact SeqAt.EqAt.str_bool a t' b
  | int b=>obtain ⟨t,rfl⟩:=rx;exact i7 a t' b t
  | str b=>obtain ⟨t,rfl⟩:=rx;exact SeqAt.EqAt.str_str a t' b t
  | _=>exact absurd (show false=true from fx) a7
 | _=>exact absurd (show false=true from fy) a7
def eqU (x:V) (u:af):Bool:=match u with
 | .none=>eqV .non x
 | .bool b=>eqV (.bl b) x
 | .int i _=>eqV (.int i) x
 | .str z _=>eqV (.str z) x
 | _=>false
theorem Ej {x y:V}{u:af} (r:RelV y u) (f:pL y=true):eqU x u=eqV y x:=by
 cases y with
 | non=>cases r;rfl
 | bl b=>cases r;rfl
 | int i=>obtain ⟨t,rfl⟩:=r;rfl
 | str z=>obtain ⟨t,rfl⟩:=r;rfl
 | _=>exact absurd (show false=true from f) a7
theorem sP {x:V}:∀ {xs:List V}{us:List af},Vals xs us→xs.all pL=true→us.any (eqU x)=xs.any fun y=>eqV y x
 | _,_,.nil,_=>rfl
 | y::xs,u::us,.cons r t,f=>by
  rw [gW,bJ] at f
  rw [eC,eC,Ej r f.1,sP t f.2]
theorem qx {A:bL}{s:al}{x:V}{v:af} (rx:RelV x v) (fx:pL x=true):∀ {xs:List V}{us:List af},Vals xs us→xs.all pL=true→∀ u∈us,jT A s u v (eqU x u)
 | _,_,.nil,_=>fun u hu=>by cases hu
 | y::xs,u::us,.cons r t,f=>fun u' hu=>by
  rw [gW,bJ] at f
  rcases ai.mp hu with rfl | hu
  ·rw [Ej r f.1];exact Ek r rx f.1 fx
  ·exact qx rx fx t f.2 u' hu
def inV (x:V) (xs:List V):Bool:=xs.any fun y=>eqV y x
def rIn (K:aa) (neg:Bool):R2:=fun x y H Q=>∃ p xs,y=.ref p∧(SqL K H p xs∨SqT K H p xs)∧pL x=true∧xs.all pL=true∧Q (.bl (if neg then !inV x xs else inV x xs)) H
theorem Bu:OpR X (bT .In) (rIn X.K false):=by
 intro pins s σ H x y v u Q I rx ry h
 obtain ⟨p,xs,rfl,hq,fx,fs,q⟩:=h
 cases ry
 rcases hq with hq | hq
 ·obtain ⟨its,r,pl,hz⟩:=I.list hq
  refine SeqAt.in_listAt (eqU x) pl.isList (fun w hw=>qx rx fx r fs w (by simpa using hw)) ⟨.bl _,H,I,rfl,?_⟩
  rw [show its.toArray.any (eqU x)=its.any (eqU x) by simp,sP r fs]
  exact q
 ·obtain ⟨its,r,pl,hz⟩:=I.tuple hq
  refine SeqAt.in_tupleAt (eqU x) pl (fun w hw=>qx rx fx r fs w (by simpa using hw)) ⟨.bl _,H,I,rfl,?_⟩
  rw [show its.toArray.any (eqU x)=its.any (eqU x) by simp,sP r fs]
  exact q
theorem xq:OpR X (bT .NotIn) (rIn X.K true):=by
 intro pins s σ H x y v u Q I rx ry h
 obtain ⟨p,xs,rfl,hq,fx,fs,q⟩:=h
 cases ry
 rcases hq with hq | hq
 ·obtain ⟨its,r,pl,hz⟩:=I.list hq
  refine SeqAt.notIn_listAt (eqU x) pl.isList (fun w hw=>qx rx fx r fs w (by simpa using hw)) ⟨.bl _,H,I,rfl,?_⟩
  rw [show its.toArray.any (eqU x)=its.any (eqU x) by simp,sP r fs]
  exact q
 ·obtain ⟨its,r,pl,hz⟩:=I.tuple hq
  refine SeqAt.notIn_tupleAt (eqU x) pl (fun w hw=>qx rx fx r fs w (by simpa using hw)) ⟨.bl _,H,I,rfl,?_⟩
  rw [show its.toArray.any (eqU x)=its.any (eqU x) by simp,sP r fs]
  exact q
theorem call_len_seq:CallR X (.builtin "len") (fun xs H Q=>∃ p ys,xs=[.ref p]∧(SqL X.K H p ys∨SqT X.K H p ys)∧Q (.int ys.length) H):=by
 intro pins s σ H xs us Q I r h
 obtain ⟨p,ys,rfl,hq,q⟩:=h
 obtain ⟨u,rfl,rx⟩:=oJ r
 cases rx
 have hn:=t4
 rcases hq with hq | hq
 ·obtain ⟨its,r',pl,hz⟩:=I.list hq
  have hlen:=r'.length
  exact Calls.call_len_list pl.isList (by simp only [aT] <;> omega) ⟨.int ys.length,H,I.tok _,⟨s.toks+1,by rw [aT,hlen]⟩,q⟩
 ·obtain ⟨its,r',pl,hz⟩:=I.tuple hq
  have hlen:=r'.length
  exact len_tuple pl (by simp only [aT] <;> omega) ⟨.int ys.length,H,I.tok _,⟨s.toks+1,by rw [aT,hlen]⟩,q⟩
theorem call_len_str:CallR X (.builtin "len") (fun xs H Q=>∃ z,xs=[.str z]∧z.length≤aQ∧Q (.int z.length) H):=by
 intro pins s σ H xs us Q I r h
 obtain ⟨z,rfl,hz,q⟩:=h
 obtain ⟨u,rfl,t,rfl⟩:=oJ r
 have hn:=t4
 exact len_str (by omega) ⟨.int z.length,H,I.tok _,⟨_,rfl⟩,q⟩
theorem CallR.or {f:af}{r r':List V→Hp→VK→Prop} (h:CallR X f r) (h':CallR X f r'):CallR X f (fun xs H Q=>r xs H Q∨r' xs H Q):=by
 intro pins s σ H xs us Q I rs q
 rcases q with q | q
 ·exact h pins s σ H xs us Q I rs q
 ·exact h' pins s σ H xs us Q I rs q
theorem xA:CallR X (.type "list") (fun xs H Q=>∃ p ys,xs=[.ref p]∧(SqL X.K H p ys∨SqT X.K H p ys)∧∀ l,H l=none→Q (.ref l) (upd H l (.lst ys))):=by
 intro pins s σ H xs us Q I r h
 obtain ⟨p,ys,rfl,hq,q⟩:=h
 obtain ⟨u,rfl,rx⟩:=oJ r
 cases rx
 have fin:∀ (its:List af),Vals ys its→ys.length≤aQ→∀ (h':bM) (c':Nat),(∀ b o',s.heap.get? b=some o'→h'.get? b=some o') →
   h'.get? s.heap.objs.size=some { cls:=.type "list",dict:=none,data:=.seq its.toArray c',slots:=#[] }→EP X pins σ Q (.ref s.heap.objs.size) { s with heap:=h' }:=fun its r' hz h' c' kp e =>
  ⟨.ref s.heap.objs.size,_,I.laid (t':=s.toks) kp (aA _) (show ObjOk X.prog X.w _ h' _ (.lst ys) from ⟨hz,its,c',r',e⟩),rfl,q _ (I.hok.fresh (aA _))⟩
 rcases hq with hq | hq
 ·obtain ⟨its,r',pl,hz⟩:=I.list hq
  have hlen:=r'.length
  obtain ⟨o,ho,hc,n,hd⟩:=pl.isList
  exact call_list_seq p (.inl rfl) ho hc hd (fun h' c' kp e=>fin its r' hz h' c' kp e) (by simp only [aT] <;> omega)
 ·obtain ⟨its,r',pl,hz⟩:=I.tuple hq
  have hlen:=r'.length
  obtain ⟨o,ho,hc,n,hd⟩:=pl
  exact call_list_seq p (.inr rfl) ho hc hd (fun h' c' kp e=>fin its r' hz h' c' kp e) (by simp only [aT] <;> omega)
theorem vW:CallR X (.type "tuple") (fun xs H Q=>∃ p ys,xs=[.ref p]∧((SqL X.K H p ys∧∀ l,H l=none→Q (.ref l) (upd H l (.tup ys)))∨(SqT X.K H p ys∧Q (.ref p) H))):=by
 intro pins s σ H xs us Q I r h
 obtain ⟨p,ys,rfl,h⟩:=h
 obtain ⟨u,rfl,rx⟩:=oJ r
 cases rx
 rcases h with ⟨hq,q⟩ | ⟨hq,q⟩
 ·obtain ⟨its,r',pl,hz⟩:=I.list hq
  have hlen:=r'.length
  refine call_tuple_list pl.isList (fun h' kp=>?_) (by simp only [aT] <;> omega)
  have I1:Inv X pins σ H { s with heap:=h' }:=I.kept (t':=s.toks) kp
  have I2:Inv X pins σ (upd H h'.objs.size (.tup ys)) { s with heap:=h'.push { cls:=.type "tuple",data:=.seq its.toArray } } :=
   I1.laid (t':=s.toks) (fun b o e=>av _ e) (aA _) (show ObjOk X.prog X.w _ _ _ (.tup ys) from ⟨hz,its,r',IsTup.new _ _⟩)
  exact ⟨.ref h'.objs.size,_,I2,rfl,q _ (I1.hok.fresh (aA _))⟩
 ·obtain ⟨its,r',pl,hz⟩:=I.tuple hq
  exact call_tuple_same pl ⟨.ref p,H,I,rfl,q⟩
def tyV (K:aa) (T:String) (x:V) (H:Hp):Prop:=match x with
 | .str _=>T="str"
 | .int _=>T="int"
 | .ref p=>(T="list"∧∃ xs,SqL K H p xs)∨(T="tuple"∧∃ o,K.lookup p=some o∧o.cls=.type "tuple"∧o.dict=none) ∨
   (T="dict"∧((∃ kvs,H p=some (.dK kvs))∨∃ kvs,H p=some (.dT kvs)))∨(T="set"∧∃ S n,H p=some (.set S n))
 | _=>False
theorem GF {pins:List (ae×Obj)}{σ:St}{H:Hp}{s:al}{T:String}{x:V}{v:af} (I:Inv X pins σ H s) (r:RelV x v) (ty:tyV X.K T x H) :
  s.TypeIs v T∧∀ a,v=.ref a→∃ ob,s.heap.get? a=some ob∧ob.dict=none:=by
 cases x with
 | str z =>
  obtain ⟨t,rfl⟩:=r
  cases (show T="str" from ty)
  exact ⟨typeIs_str s z t,fun _ e=>nomatch e⟩
 | int i =>
  obtain ⟨t,rfl⟩:=r
  cases (show T="int" from ty)
  exact ⟨typeIs_int s i t,fun _ e=>nomatch e⟩
 | ref p =>
  cases r
  rcases ty with ⟨rfl,xs,hq⟩ | ⟨rfl,o,hk,hc,hd⟩ | ⟨rfl,hk⟩ | ⟨rfl,S,n,hk⟩
  ·obtain ⟨its,_,pl,_⟩:=I.list hq
   refine ⟨pl.isList.typeIs,fun a e=>?_⟩
   cases e
   obtain ⟨o,n,e,c,hd,_⟩:=pl
   exact ⟨o,e,hd⟩
  ·refine ⟨⟨o,I.kIn p o hk,hc⟩,fun a e=>?_⟩
   cases e
   exact ⟨o,I.kIn _ o hk,hd⟩
  ·have z:∃ o,s.heap.get? p=some o∧o.ExactDict:=by
    rcases hk with ⟨kvs,hk⟩ | ⟨kvs,hk⟩
    ·obtain ⟨_,_,_,_,o,_,_,e,ex,_⟩:=I.hok p _ hk
     exact ⟨o,e,ex⟩
    ·obtain ⟨_,_,_,_,o,_,_,e,ex,_⟩:=I.hok p _ hk
     exact ⟨o,e,ex⟩
   obtain ⟨o,e,ex⟩:=z
   refine ⟨⟨o,e,ex.1⟩,fun a e2=>?_⟩
   cases e2
   exact ⟨o,e,ex.2.1⟩
  ·obtain ⟨o,_,_,_,e,ex,_⟩:=I.hok p _ hk
   refine ⟨⟨o,e,ex.1⟩,fun a e2=>?_⟩
   cases e2
   exact ⟨o,e,ex.2.1⟩
 | _=>exact bG ty
def tBM (K:aa) (T:String) (r:V→List V→Hp→VK→Prop) (to:TE) (t:TA):TE:=fun σ H Q=>to σ H fun x H1=>tyV K T x H1∧t σ H1 fun xs H2=>r x xs H2 Q
variable {o e:bo}{es:List bo}{to:TE}{t:TA}{name:Str}{apos cpos:Pos}{T id:String}{r:V→List V→Hp→VK→Prop}
theorem Ge (pa:PlainAttrs T) (slot:Slot T name id) (hty:typeOf (.builtin id)=pure (.type "method_descriptor")) (hm:MtR X id r) (ho:PE X o to) (ha:PA X (e::es) t)
  (hbase:eM o name X.env (eval o X.env)=eval o X.env:=by rfl)
  (hfew:((cA cpos (aP (e::es) X.env)).all (fun x=>!x.1) && (fb cpos (dg [] X.env)).all (fun x=>x.1.isSome)
   && decide ((e::es).length+([]:List fU).length+(if ([]:List fU).isEmpty then 0 else 1) < 30))=true:=by rfl)
  (hline:(apos.endLine == cpos.line)=true:=by rfl) (hs:aP (e::es) X.env=(false,eval e X.env)::aP es X.env:=by rfl) (hplain:(cA cpos (aP es X.env)).any (·.1)=false:=by rfl) :
  PE X (.Call (.Attribute o name apos) (e::es) [] cpos) (tBM X.K T r to t):=by
 intro pins s σ H Q I h
 refine wpAny_Call_method_late hbase hfew hline rfl (thn (ho pins s σ H _ I h) fun v s1 ⟨x,H1,I1,r1,ty,q1⟩=>?_)
 obtain ⟨h1,h2⟩:=GF I1 r1 ty
 refine ⟨T,id,pa,slot,hty,h1,h2,?_⟩
 have hA:=ha cpos pins s1 σ H1 _ I1 q1
 rw [hs] at hA ⊢
 refine gn (by show (false || (cA cpos (aP es X.env)).any (·.1))=false;rw [hplain] <;> rfl) (fg ?_)
 exact thn hA fun us s2 ⟨vs,H2,I2,r2,q2⟩=>hm pins s2 σ H2 x vs v us Q I2 r1 r2 q2
end
def MtM (X:Cx) (id:String) (r:V→List V→Hp→VK→Prop):Prop :=
 ∀ (pins:List (ae×Obj)) (s:al) (σ:St) (H:Hp) (x:V) (xs:List V) (v:af) (us:List af) (Q:VK),Inv X pins σ H s→RelV x v→Vals xs us→r x xs H Q →
  bj (model X.prog X.w) X.A (call (.builtin id) (v::us)) (EP X pins σ Q) X.xe s
theorem Vals.one:∀ {x:V}{us:List af},Vals [x] us→∃ u,us=[u]∧RelV x u
 | _,_,.cons r .nil=>⟨_,rfl,r⟩
theorem Vals.rep {xs:List V}{us:List af} (h:Vals xs us):∀ k:Nat,Vals (aV k xs).flatten (aV k us).flatten
 | 0=>.nil
 | k+1=>by
  rw [cM,cM,bQ,bQ]
  exact Vals.append h (Vals.rep h k)
theorem wS (its:List af):∀ (k:Nat) (acc:List af),
  j9 (fun x1 x2=>x1++x2) acc.toArray (aV k its.toArray)=(acc++(aV k its).flatten).toArray
 | 0,acc=>by simp
 | k+1,acc=>by
  have e:acc.toArray++its.toArray=(acc++its).toArray:=by simp
  have e2:(acc++its)++(aV k its).flatten=acc++(aV (k+1) its).flatten:=by
   rw [cM,bQ,bI]
  rw [← e2,← wS its k (acc++its),← e,cM,gD]
section
variable {X:Cx}{pins:List (ae×Obj)}{σ:St}{H:Hp}{s:al}{l b:ae}{xs ys zs:List V}
theorem Inv.lset {its its':List af}{n:Nat}{f:Array af→Array af}{t':Nat} (I:Inv X pins σ H s) (hH:H l=some (.lst xs))
  (e:s.heap.get? l=some { cls:=.type "list",data:=.seq its.toArray n }) (hf:f its.toArray=its'.toArray) (hv:Vals ys its') (hz:ys.length≤aQ) :
  Inv X pins σ (upd H l (.lst ys)) { s with heap:=s.heap.update l (hZ f),toks:=t' }:=by
 have q:=PySem.IsL.update e f
 rw [hf] at q
 refine I.write (x:=l) (e:=l) (by rw [hH];exact trivial) (.inl rfl) (fun b' u hb hu=>(jm s.heap (hZ f) (gG hb)).trans hu) ⟨_,q⟩ ?_
 exact ⟨hz,its',_,hv,q⟩
theorem Inv.lnew {its:List af}{t':Nat} (I:Inv X pins σ H s) (hv:Vals ys its) (hz:ys.length≤aQ) :
  Inv X pins σ (upd H s.heap.objs.size (.lst ys)) { s with heap:=s.heap.push { cls:=.type "list",data:=.seq its.toArray },toks:=t' } :=
 I.laid (fun _ _ q=>av _ q) (aA _) ⟨hz,its,0,hv,ba _ rfl⟩
theorem Inv.fresh (I:Inv X pins σ H s):H s.heap.objs.size=none:=I.hok.fresh (aA _)
theorem Inv.lstM (I:Inv X pins σ H s) (hH:H l=some (.lst xs)):xs.length≤aQ∧∃ (its:List af) (n:Nat),Vals xs its∧xs.length=its.length∧s.heap.get? l=some { cls:=.type "list",data:=.seq its.toArray n }:=by
 obtain ⟨z,its,n,r,e⟩:=I.hok l _ hH
 exact ⟨z,its,n,r,r.length,e⟩
theorem Dm {n:Nat} (h:n≤aQ):fu n=false:=by
 unfold fu
 exact decide_eq_false (by omega)
def E2:V→List V→Hp→VK→Prop:=fun x vs H Q=>∃ l xs y,x=.ref l∧vs=[y]∧H l=some (.lst xs)∧xs.length < aQ∧Q .non (upd H l (.lst (xs++[y])))
theorem wF:MtM X "list.append" E2:=by
 intro pins s σ H x vs v us Q I rx rv h
 obtain ⟨l,xs,y,rfl,rfl,hH,hz,q⟩:=h
 cases rx
 obtain ⟨u,rfl,ru⟩:=rv.one
 obtain ⟨z,its,n,r,hl,e⟩:=I.lstM hH
 refine call_meets jy ⟨_,e,rfl⟩ F.entry_list_append (F.args_list_append_2 _ _) (PySem.list_append l its.toArray n u (by rw [aT];omega)) ⟨e,?_⟩
 refine ⟨.non,_,I.lset (its':=its++[u]) hH e (by simp) (r.append (.cons ru .nil)) ?_,rfl,q⟩
 rw [aC,dJ]
 omega
def HY:R2:=fun x y H Q=>∃ l k xs,x=.ref l∧y=.int k∧H l=some (.lst xs)∧-(2 ^ 63)≤k∧k < 2 ^ 63∧xs.length * k.toNat≤aQ ∧
 ∀ p,H p=none→Q (.ref p) (upd H p (.lst (aV k.toNat xs).flatten))
theorem Ft {α:Type} (xs:List α) (k:Nat):(aV k xs).flatten.length=k * xs.length:=by
 induction k with
 | zero=>simp
 | succ k ih=>rw [cM,bQ,aC,ih,Nat.succ_mul,Nat.add_comm]
theorem G7:OpR X (cY .Mult) HY:=by
 intro pins s σ H x y v u Q I rx ry h
 obtain ⟨l,k,xs,rfl,rfl,hH,h1,h2,hz,q⟩:=h
 cases rx
 obtain ⟨t,rfl⟩:=ry
 obtain ⟨z,its,n,r,hl,e⟩:=I.lstM hH
 have hlen:its.toArray.size * k.toNat≤aQ:=by rw [aT,← hl];exact hz
 have hcap:¬ its.toArray.size * k.toNat > (2 ^ 63 - 1) / 8:=by
  have:(aQ:Nat)≤(2 ^ 63 - 1) / 8:=by decide
  omega
 have hfit:¬ (!Builtin.List.listFitsIndex k)=true:=by
  rw [fitsIndex_both h1 h2]
  exact a7
 have hlong:¬ fu (its.toArray.size * k.toNat)=true:=by
  rw [Dm hlen]
  exact a7
 have hnew:j9 (fun x1 x2=>x1++x2) #[] (aV (if its.toArray.isEmpty=true then 0 else k.toNat) its.toArray)=(aV k.toNat its).flatten.toArray:=by
  have f0:∀ m:Nat,j9 (fun x1 x2=>x1++x2) #[] (aV m its.toArray)=(aV m its).flatten.toArray:=fun m=>by
   have:=wS its m []
   rw [bY] at this
   exact this
  rw [f0]
  cases its with
  | nil=>simp
  | cons a r'=>rw [if_neg (by simp)]
 refine wpAny_binaryOp_repeat_ref (T:="list") (U:="int") (by decide) ⟨_,e,rfl⟩ (fun s'=>typeIs_int s' k t) noFill_list_mul F.fills_int_mul F.slot_int_rmul repeat_list F.slot_int_index.lookup
  (call_meets F.slot_int_rmul (typeIs_int s k t) F.entry_int_rmul (F.args_int_rmul_2 _ _) (int___rmul___int_list k t l its.toArray n)
   ⟨e,rfl,⟨_,e,rfl⟩,call_meets F.slot_list_mul ⟨_,e,rfl⟩ F.entry_list_mul (F.args_list_mul_2 _ _) (AutoListH.list___mul___list_int_3 l its.toArray n k t hfit hcap hlong) ⟨e,?_⟩⟩)
 rw [hnew]
 exact ⟨.ref _,_,I.lnew (t':=s.toks) (r.rep k.toNat) (by rw [Ft,Nat.mul_comm];exact hz),rfl,q _ I.fresh⟩
end
section
variable {prog:aU}{w:bw}{A:bL}{E:af→al→Prop}{s:al}
set_option maxRecDepth 100000 in
end
section
variable {X:Cx}
end
open PySem PySem.Spec PyProof.Rows
section
variable {κ:Type} [DecidableEq κ]
def m7 (kvs:List (κ×V)) (k:κ):Option V:=(kvs.find? fun kv=>decide (kv.1=k)).map (·.2)
def pX (kvs:List (κ×V)) (k:κ) (v:V):List (κ×V) :=
 if (kvs.any fun kv=>decide (kv.1=k))=true then kvs.map (fun kv=>if kv.1=k then (kv.1,v) else kv) else kvs++[(k,v)]
def wb (kvs:List (κ×V)) (k:κ):List (κ×V):=kvs.filter fun kv=>decide (kv.1≠k)
theorem rV {p:κ×V}{r:List (κ×V)}{k:κ} (e:p.1=k):m7 (p::r) k=some p.2:=by simp [m7,bA,e]
theorem rW {p:κ×V}{r:List (κ×V)}{k:κ} (e:¬ p.1=k):m7 (p::r) k=m7 r k:=by simp [m7,bA,e]
theorem vc (k:κ):∀ kvs:List (κ×V),(kvs.any fun kv=>decide (kv.1=k))=(m7 kvs k).isSome
 | []=>rfl
 | p::r=>by
  rw [eC]
  by_cases e:p.1=k
  ·simp only [rV e,decide_eq_true e,Bool.true_or,Option.isSome_some]
  ·rw [rW e,decide_eq_false e,gb];exact vc k r
theorem qh (kvs:List (κ×V)) (k:κ) (v:V):(pX kvs k v).length≤kvs.length+1:=by
 unfold pX
 split
 ·rw [aj];omega
 ·rw [aC,aB,a8];omega
theorem qw {kvs:List (κ×V)}{k:κ} (v:V) (h:m7 kvs k=none):pX kvs k v=kvs++[(k,v)]:=by
 unfold pX
 rw [vc,h]
 exact if_neg (by decide)
theorem RelO.isSome_eq {o:Option V}{u:Option af} (r:RelO o u):o.isSome=u.isSome:=by
 cases o with
 | none=>cases u with
  | none=>rfl
  | some _=>exact (show False from r).elim
 | some _=>cases u with
  | none=>exact (show False from r).elim
  | some _=>rfl
theorem RelO.getD {o:Option V}{u:Option af}{d:V}{d':af} (r:RelO o u) (rd:RelV d d'):RelV (o.getD d) (u.getD d'):=by
 cases o with
 | none=>cases u with
  | none=>exact rd
  | some _=>exact (show False from r).elim
 | some _=>cases u with
  | none=>exact (show False from r).elim
  | some _=>exact r
theorem KV.val {kvs:List (κ×V)}{vs:List (κ×af)} (r:KV kvs vs) (k:κ):RelO (m7 kvs k) (ia vs k):=by
 unfold KV at r
 induction r with
 | nil=>exact eG
 | @cons p q ps qs h t ih =>
  obtain ⟨h1,h2⟩:=h
  by_cases e:p.1=k
  ·have e':q.1=k:=h1.symm.trans e
   have b:ia (q::qs) k=some q.2:=by simp [ia,bA,e']
   rw [rV e,b];exact h2
  ·have e':¬ q.1=k:=fun z=>e (h1.trans z)
   have b:ia (q::qs) k=ia qs k:=by simp [ia,bA,e']
   rw [rW e,b];exact ih
theorem KV.any {kvs:List (κ×V)}{vs:List (κ×af)} (r:KV kvs vs) (k:κ):(kvs.any fun kv=>decide (kv.1=k))=vs.any fun kv=>decide (kv.1=k):=by
 unfold KV at r
 induction r with
 | nil=>rfl
 | cons h t ih=>rw [eC,eC,ih,h.1]
theorem KV.repl {kvs:List (κ×V)}{vs:List (κ×af)} (r:KV kvs vs) (k:κ) {y:V}{u:af} (ry:RelV y u) :
  KV (kvs.map fun kv=>if kv.1=k then (kv.1,y) else kv) (vs.map fun kv=>if kv.1=k then (kv.1,u) else kv):=by
 unfold KV at r ⊢
 induction r with
 | nil=>exact .nil
 | @cons p q ps qs h t ih =>
  rw [au,au]
  refine .cons ?_ ih
  obtain ⟨h1,h2⟩:=h
  by_cases e:p.1=k
  ·rw [if_pos e,if_pos (h1.symm.trans e)];exact ⟨h1,ry⟩
  ·rw [if_neg e,if_neg (fun z=>e (h1.trans z))];exact ⟨h1,h2⟩
theorem KV.put {kvs:List (κ×V)}{vs:List (κ×af)} (r:KV kvs vs) (k:κ) {y:V}{u:af} (ry:RelV y u):KV (pX kvs k y) (stored vs k u):=by
 unfold pX stored
 rw [r.any k]
 by_cases e:(vs.any fun kv=>decide (kv.1=k))=true
 ·rw [if_pos e,if_pos e];exact r.repl k ry
 ·rw [if_neg e,if_neg e];exact jl r ⟨rfl,ry⟩
theorem KV.drop {kvs:List (κ×V)}{vs:List (κ×af)} (r:KV kvs vs) (k:κ):KV (wb kvs k) (without vs k):=by
 unfold KV at r ⊢
 unfold wb without
 induction r with
 | nil=>exact .nil
 | @cons p q ps qs h t ih =>
  obtain ⟨h1,h2⟩:=h
  rw [cQ,cQ]
  by_cases e:p.1=k
  ·have a:¬ decide (p.1≠k)=true:=by simp [e]
   have b:¬ decide (q.1≠k)=true:=by simp [h1.symm.trans e]
   rw [if_neg a,if_neg b];exact ih
  ·have e':¬ q.1=k:=fun z=>e (h1.trans z)
   have a:decide (p.1≠k)=true:=by simp [e]
   have b:decide (q.1≠k)=true:=by simp [e']
   rw [if_pos a,if_pos b];exact .cons ⟨h1,h2⟩ ih
theorem KV.keys {kvs:List (κ×V)}{vs:List (κ×af)} (r:KV kvs vs):kvs.map (·.1)=vs.map (·.1):=by
 unfold KV at r
 induction r with
 | nil=>rfl
 | cons h t ih=>rw [au,au,ih,h.1]
theorem KV.length {kvs:List (κ×V)}{vs:List (κ×af)} (r:KV kvs vs):kvs.length=vs.length:=iQ r
theorem DD (kvs:List (κ×V)) (k:κ):(wb kvs k).length≤kvs.length:=ca _ _
end
theorem uJ {P:aU}{w:bw}{k:Key}{u:af} (r:RelV (kV k) u):(k8 P w).is k u=true:=by
 cases k with
 | inl i=>obtain ⟨t,e⟩:=(show ∃ t,u=iq i t from r);subst e;exact yw P w i t
 | inr x=>obtain ⟨t,e⟩:=(show ∃ t,u=gK x t from r);subst e;exact yv P w x t
theorem wJ {P:aU}{w:bw}:∀ {ks:List Key}{us:List af},Vals (ks.map kV) us→ItemsAre (k8 P w) ks us
 | [],_,r=>by rw [cO] at r;cases r;exact .nil
 | k::ks,_,r=>by
  rw [au] at r
  cases r with
  | cons h t=>exact .cons (uJ h) (wJ t)
abbrev KT (H:Hp):List (List Key×V)→List (List Key×ae×af)→Prop:=fB fun p q=>p.1=q.1∧H q.2.1=some (.tup (p.1.map kV))∧RelV p.2 q.2.2
theorem KT.val {H:Hp}{kvs:List (List Key×V)}{xs:List (List Key×ae×af)} (r:KT H kvs xs) (k:List Key):RelO (m7 kvs k) ((jw xs k).map (·.2)):=by
 induction r with
 | nil=>exact eG
 | @cons p q ps qs h t ih =>
  obtain ⟨h1,_,h2⟩:=h
  by_cases e:p.1=k
  ·have e':q.1=k:=h1.symm.trans e
   have b:jw (q::qs) k=some q.2:=by simp [jw,bA,e']
   rw [rV e,b];exact h2
  ·have e':¬ q.1=k:=fun z=>e (h1.trans z)
   have b:jw (q::qs) k=jw qs k:=by simp [jw,bA,e']
   rw [rW e,b];exact ih
theorem KT.repl {H:Hp}{kvs:List (List Key×V)}{xs:List (List Key×ae×af)} (r:KT H kvs xs) (k:List Key) {y:V}{u:af} (ry:RelV y u) :
  KT H (kvs.map fun kv=>if kv.1=k then (kv.1,y) else kv) (xs.map (putAt k u)):=by
 induction r with
 | nil=>exact .nil
 | @cons p q ps qs h t ih =>
  rw [au,au]
  refine .cons ?_ ih
  obtain ⟨h1,h2,h3⟩:=h
  unfold putAt
  by_cases e:p.1=k
  ·rw [if_pos e,if_pos (h1.symm.trans e)];exact ⟨h1,h2,ry⟩
  ·rw [if_neg e,if_neg (fun z=>e (h1.trans z))];exact ⟨h1,h2,h3⟩
theorem KT.put {H:Hp}{kvs:List (List Key×V)}{xs:List (List Key×ae×af)} (r:KT H kvs xs) (k:List Key) {b:ae}{y:V}{u:af} (hb:H b=some (.tup (k.map kV))) (ry:RelV y u) :
  KT H (pX kvs k y) (storedH xs k b u):=by
 have e:(kvs.any fun kv=>decide (kv.1=k))=(jw xs k).isSome:=by
  rw [vc,(r.val k).isSome_eq,cX]
 unfold pX storedH
 rw [e]
 by_cases q:(jw xs k).isSome=true
 ·rw [if_pos q,if_pos q];exact r.repl k ry
 ·rw [if_neg q,if_neg q];exact jl r ⟨rfl,hb,ry⟩
theorem KT.keeps {H H':Hp}{kvs:List (List Key×V)}{xs:List (List Key×ae×af)} (r:KT H kvs xs) (ht:∀ b ys,H b=some (.tup ys)→H' b=some (.tup ys)):KT H' kvs xs :=
 fB.mapP r fun _ _ z=>⟨z.1,ht _ _ z.2.1,z.2.2⟩
section
variable {P:aU}{w:bw}{H:Hp}{h:bM}{a:ae}
theorem F9 {u:HO} (ok:HOk P w H h) (e:Rd H a u):ObjOk P w H h a u:=e.ok ok
theorem si {kvs:List (Key×V)} (ok:HOk P w H h) (e:Rd H a (.dK kvs)):kvs.length≤aQ∧(a == eA)=false∧∃ vs,KV kvs vs∧h.DictOf (k8 P w) a vs :=
 show ObjOk P w H h a (.dK kvs) from F9 ok e
theorem EF {kvs:List (Key×V)} (ok:HOk P w H h) (e:H a=some (.dK kvs)):kvs.length≤aQ∧(a == eA)=false∧∃ vs,KV kvs vs∧h.DictOf (k8 P w) a vs:=si ok (.inl e)
theorem t5 {ks:List Key} (ok:HOk P w H h) (e:H a=some (.tup (ks.map kV))):(ib (k8 P w)).is h ks a:=by
 obtain ⟨_,its,r,o,h1,h2,n,h3⟩:=(show ObjOk P w H h a (.tup (ks.map kV)) from ok a _ e)
 exact ⟨o,its.toArray,n,h1,h2,h3,by simpa using wJ r⟩
theorem wa {kvs:List (List Key×V)} (ok:HOk P w H h) (e:Rd H a (.dT kvs)):kvs.length≤aQ∧(a == eA)=false ∧
  ∃ xs,KT H kvs xs∧h.DictOfH (ib (k8 P w)) a xs:=by
 obtain ⟨z,y,xs,r,o,es,ep,h1,h2,h3,h4,h5⟩:=(show ObjOk P w H h a (.dT kvs) from F9 ok e)
 refine ⟨z,y,xs,r,o,es,ep,h1,h2,h3,h4,fun x hx=>?_,h5⟩
 have all:∀ {l:List (List Key×V)}{m:List (List Key×ae×af)},KT H l m→∀ x∈m,(ib (k8 P w)).is h x.1 x.2.1:=by
  intro l m q
  induction q with
  | nil=>intro x hx;exact nomatch hx
  | @cons p q ps qs hq t ih =>
   intro x hx
   rcases ai.mp hx with e | hx
   ·subst e
    exact t5 ok (by rw [← hq.1];exact hq.2.1)
   ·exact ih x hx
 exact all r x hx
theorem dt_of {kvs:List (List Key×V)} (ok:HOk P w H h) (e:H a=some (.dT kvs)):kvs.length≤aQ∧(a == eA)=false ∧
  ∃ xs,KT H kvs xs∧h.DictOfH (ib (k8 P w)) a xs:=wa ok (.inl e)
end
def DGet (H:Hp) (a:ae) (y:V) (r:Option V):Prop :=
 (∃ kvs k,Rd H a (.dK kvs)∧y=kV k∧r=m7 kvs k)∨∃ kvs k b,Rd H a (.dT kvs)∧y=.ref b∧H b=some (.tup (k.map kV))∧r=m7 kvs k
def DPut (H:Hp) (a:ae) (y v:V) (H':Hp):Prop :=
 (∃ kvs k,H a=some (.dK kvs)∧y=kV k∧kvs.length < aQ∧H'=upd H a (.dK (pX kvs k v))) ∨
 ∃ kvs k b,H a=some (.dT kvs)∧y=.ref b∧H b=some (.tup (k.map kV))∧kvs.length < aQ∧H'=upd H a (.dT (pX kvs k v))
theorem DGet.k {H:Hp}{a:ae}{kvs:List (Key×V)}{k:Key} (e:H a=some (.dK kvs)):DGet H a (kV k) (m7 kvs k):=.inl ⟨kvs,k,.inl e,rfl,rfl⟩
theorem DPut.k {H:Hp}{a:ae}{kvs:List (Key×V)}{k:Key}{v:V} (e:H a=some (.dK kvs)) (hl:kvs.length < aQ):DPut H a (kV k) v (upd H a (.dK (pX kvs k v))):=.inl ⟨kvs,k,e,rfl,hl,rfl⟩
section
variable {X:Cx}{pins:List (ae×Obj)}{σ:St}{H:Hp}{s:al}{a:ae}{y v:V}{u r:af}{o:Option V}{A:bL}{E:af→al→Prop}
theorem Inv.big (I:Inv X pins σ H s):eA < s.heap.objs.size:=by
 have h:aq < s.heap.objs.size:=(I.mod.glob.keeps I.bk).lt
 exact fH (by decide) h
theorem wY {Q:af→al→Prop} (hu:A.units+1 < dq) (I:Inv X pins σ H s) (g:DGet H a y (some v)) (ry:RelV y u) (h:∀ w' s',Inv X pins σ H s'→RelV v w'→Q w' s') :
  bj (model X.prog X.w) A (ie (.ref a) u) Q E s:=by
 rcases g with ⟨kvs,k,e,ey,l⟩ | ⟨kvs,k,b,e,ey,eb,l⟩
 ·subst ey
  obtain ⟨z,hd,vs,rel,dd⟩:=si I.hok e
  obtain ⟨w',hw,rw'⟩:=RelO.some_of (v:=v) (o:=ia vs k) (by rw [l];exact rel.val k)
  exact wpAny_getItem_of (uJ ry) dd.mapOf hw (h w' _ (I.tok _) rw')
 ·subst ey
  cases (show u=bN b from ry)
  obtain ⟨z,hd,xs,rel,dd⟩:=wa I.hok e
  obtain ⟨w',hw,rw'⟩:=RelO.some_of (v:=v) (o:=(jw xs k).map (·.2)) (by rw [l];exact rel.val k)
  obtain ⟨p,hp,hp2⟩:=dz.mp hw
  refine wpAny_getItem_heap (eT hu) (t5 I.hok eb) dd hp ?_
  rw [hp2]
  exact h w' _ (I.tok _) rw'
theorem d_in {Q:af→al→Prop} (hu:A.units+1 < dq) (I:Inv X pins σ H s) (g:DGet H a y o) (ry:RelV y u) (h:∀ s',Inv X pins σ H s'→Q (.bool o.isSome) s') :
  bj (model X.prog X.w) A (bT .In u (.ref a)) Q E s:=by
 rcases g with ⟨kvs,k,e,ey,l⟩ | ⟨kvs,k,b,e,ey,eb,l⟩
 ·subst ey
  obtain ⟨z,hd,vs,rel,dd⟩:=si I.hok e
  refine wpAny_in_of (uJ ry) hd dd.mapOf ?_
  rw [← (rel.val k).isSome_eq,← l]
  exact h _ (I.tok _)
 ·subst ey
  cases (show u=bN b from ry)
  obtain ⟨z,hd,xs,rel,dd⟩:=wa I.hok e
  refine wpAny_in_heap (eT hu) (t5 I.hok eb) hd dd ?_
  have q:=(rel.val k).isSome_eq
  rw [cX] at q
  rw [← q,← l]
  exact h _ (I.tok _)
theorem FV {Q:af→al→Prop} (hu:A.units+1 < dq) (I:Inv X pins σ H s) (g:DGet H a y o) (ry:RelV y u) (h:∀ s',Inv X pins σ H s'→Q (.bool (!o.isSome)) s') :
  bj (model X.prog X.w) A (bT .NotIn u (.ref a)) Q E s:=by
 rcases g with ⟨kvs,k,e,ey,l⟩ | ⟨kvs,k,b,e,ey,eb,l⟩
 ·subst ey
  obtain ⟨z,hd,vs,rel,dd⟩:=si I.hok e
  refine wpAny_notIn_of (uJ ry) hd dd.mapOf ?_
  rw [← (rel.val k).isSome_eq,← l]
  exact h _ (I.tok _)
 ·subst ey
  cases (show u=bN b from ry)
  obtain ⟨z,hd,xs,rel,dd⟩:=wa I.hok e
  refine wpAny_notIn_heap (eT hu) (t5 I.hok eb) hd dd ?_
  have q:=(rel.val k).isSome_eq
  rw [cX] at q
  rw [← q,← l]
  exact h _ (I.tok _)
theorem uT {h':bM}{t':Nat}{ob:HO} (I:Inv X pins σ H s) (mu:Mut (H a)) (hs:ij a s.heap h') (he:∃ q,h'.get? a=some q) (new:ObjOk X.prog X.w (upd H a ob) h' a ob) :
  Inv X pins σ (upd H a ob) { s with heap:=h',toks:=t' } :=
 I.write (x:=a) (e:=a) mu (.inl rfl) (fun b q hb z=>(hs.2 b hb).trans z) he new
theorem Au {P:aU}{w:bw}{H':Hp}{h':bM}{kvs:List (Key×V)}{vs:List (Key×af)} (z:kvs.length≤aQ) (hd:(a == eA)=false) (rel:KV kvs vs) (dd:h'.DictOf (k8 P w) a vs) :
  ObjOk P w H' h' a (.dK kvs):=⟨z,hd,vs,rel,dd⟩
theorem wX {H':Hp}{Q:Unit→al→Prop} (hu:A.units+1 < dq) (I:Inv X pins σ H s) (g:DPut H a y v H') (ry:RelV y u) (rv:RelV v r) (h:∀ s',Inv X pins σ H' s'→Q () s') :
  bj (model X.prog X.w) A (setItem (.ref a) u r) Q E s:=by
 rcases g with ⟨kvs,k,e,ey,l,eH⟩ | ⟨kvs,k,b,e,ey,eb,l,eH⟩
 ·subst ey eH
  obtain ⟨z,hd,vs,rel,dd⟩:=EF I.hok e
  have hz:vs.length≤aQ:=by rw [← rel.length];exact z
  have hl:(pX kvs k v).length≤aQ:=by have:=qh kvs k v;omega
  refine wpAny_setItem_pairs (hsz:=hz) (uJ ry) dd fun h' dd' hs=>h _ ?_
  have he:∃ q,h'.get? a=some q:=let ⟨q,_,_,hq,_⟩:=dd';⟨q,hq⟩
  exact uT I (by rw [e];exact eG) hs he (Au hl hd (rel.put k rv) dd')
 ·subst ey eH
  cases (show u=bN b from ry)
  obtain ⟨z,hd,xs,rel,dd⟩:=dt_of I.hok e
  have hz:xs.length≤aQ:=by rw [← iQ rel];exact z
  have hl:(pX kvs k v).length≤aQ:=by have:=qh kvs k v;omega
  refine wpAny_setItem_heap (hsz:=hz) (eT hu) (t5 I.hok eb) dd fun h' dd' hs=>h _ ?_
  obtain ⟨q,es,ep,hq,h2,h3,h4,_,h5⟩:=dd'
  refine uT I (by rw [e];exact eG) hs ⟨q,hq⟩ ⟨hl,hd,_,(rel.put k eb rv).keeps fun c ys ec=>?_,q,es,ep,hq,h2,h3,h4,h5⟩
  rw [ki (zX ec e (fun z=>nomatch z))]
  exact ec
end
section
variable {X:Cx}{pins:List (ae×Obj)}{σ:St}{H:Hp}{s:al}{a:ae}{kvs:List (Key×V)}{k:Key}{u:af}{A:bL}{E:af→al→Prop}
theorem d_pop {v:V}{more:List af}{Q:af→al→Prop} (I:Inv X pins σ H s) (e:H a=some (.dK kvs)) (ry:RelV (kV k) u) (l:m7 kvs k=some v) (hm:more=[]∨∃ x,more=[x])
  (h:∀ w' s',Inv X pins σ (upd H a (.dK (wb kvs k))) s'→RelV v w'→Q w' s'):bj (model X.prog X.w) A (call (.builtin "dict.pop") (.ref a::u::more)) Q E s:=by
 obtain ⟨z,hd,vs,rel,dd⟩:=EF I.hok e
 obtain ⟨w',hw,rw'⟩:=RelO.some_of (v:=v) (o:=ia vs k) (by rw [← l];exact rel.val k)
 have hp:(keyPart u).isSome=true:=by
  cases k with
  | inl i=>obtain ⟨t,q⟩:=(show ∃ t,u=iq i t from ry);subst q;rfl
  | inr x=>obtain ⟨t,q⟩:=(show ∃ t,u=gK x t from ry);subst q;rfl
 have ha:argsOk "dict.pop" ⟨.ref a::u::more,[]⟩:=by
  rcases hm with q | ⟨x,q⟩
  ·subst q;exact PySem.F.args_dict_pop_2 _ _
  ·subst q;exact PySem.F.args_dict_pop_3 _ _ _
 refine call_meetsIn i9 dd.typeIs PySem.F.entry_dict_pop ha (meets_dict_pop_there (k8 X.prog X.w) a (uJ ry) more hm hp)
  ⟨vs,w',dd,by rw [← rel.length];exact z,hw,fun h' dd' hs=>h w' _ ?_ rw'⟩
 have he:∃ q,h'.get? a=some q:=let ⟨q,_,_,hq,_⟩:=dd';⟨q,hq⟩
 exact uT I (by rw [e];exact eG) hs he (Au (aJ (DD kvs k) z) hd (rel.drop k) dd')
theorem Gw {Q:af→al→Prop} (I:Inv X pins σ H s) (e:Rd H a (.dK kvs)) (h:∀ t s',Inv X pins σ H s'→Q (.int kvs.length t) s'):bj (model X.prog X.w) A (call (.builtin "len") [.ref a]) Q E s:=by
 obtain ⟨z,hd,vs,rel,dd⟩:=si I.hok e
 refine call_len_dict hd dd (by rw [← rel.length];rw [i4] at z;omega) ?_
 rw [← rel.length]
 exact h _ _ (I.tok _)
end
def NoSl (i:bo):Prop:=∀ ov iv,subscripted i false ov iv=operate [ov,iv] (ie ov iv)
theorem EQ {prog:aU}{w:bw}{A:bL}{E:af→al→Prop}{s:al}{env:Env}{value slice:bo}{pos:Pos}{T id:String}{Q:af→al→Prop}
  (hl:typeLookup (.type T) "__getitem__"=pure (some (.builtin id))) (hs:NoSl slice)
  (h:bj (model prog w) A (eval value env) (fun o s₁=>bj (model prog w) A (eval slice env) (fun i s₂=>s₂.TypeIs o T∧bj (model prog w) A (ie o i) Q E s₂) E s₁) E s) :
  bj (model prog w) A (eval (.Subscript value slice pos) env) Q E s:=by
 refine Subscript_ (cr h (fun o s₁ h₁=>cr h₁ (fun i s₂ h₂=>?_) fun _ _ x=>x) fun _ _ x=>x)
 obtain ⟨hT,h₂⟩:=h₂
 unfold iA
 refine aF ?_
 rw [getitemInPython_of_ne hT.not_modules]
 refine aF (wpAny_specialOf hT hl ?_)
 have fin:bj (model prog w) A (subscripted slice false o i) (fun r s₃=>bj (model prog w) A (letTemporaryGo value o r >>= fun _=>pure r) Q E s₃) E s₂:=by
  rw [hs o i]
  exact wpAny_operating (cr h₂ (fun r s₃ h₃=>aF (wpAny_letTemporaryGo (aX h₃))) fun _ _ x=>x)
 first
  | exact aX (aF fin)
  | exact aF (aX (aF fin))
  | exact aF fin
theorem tM {X:Cx}{pins:List (ae×Obj)}{σ:St}{H:Hp}{s:al}{a:ae}{y:V}{o:Option V} (I:Inv X pins σ H s) (g:DGet H a y o):s.TypeIs (.ref a) "dict":=by
 rcases g with ⟨kvs,k,e,_,_⟩ | ⟨kvs,k,b,e,_,_,_⟩
 ·obtain ⟨_,_,vs,_,dd⟩:=si I.hok e
  exact dd.typeIs
 ·obtain ⟨_,_,xs,_,dd⟩:=wa I.hok e
  exact dd.typeIs
def tDGet (td ty:TE):TE:=fun σ H Q=>td σ H fun x H1=>ty σ H1 fun y H2=>∃ a v,x=.ref a∧DGet H2 a y (some v)∧Q v H2
def tDIn (ty td:TE):TE:=fun σ H Q=>ty σ H fun y H1=>td σ H1 fun x H2=>∃ a o,x=.ref a∧DGet H2 a y o∧Q (.bl o.isSome) H2
def F7 (td ty tv:TE):TS:=fun D σ H=>tv σ H fun v H1=>td σ H1 fun x H2=>ty σ H2 fun y H3=>∃ a H4,x=.ref a∧DPut H3 a y v H4∧D.nx σ H4
section
variable {X:Cx}{o i e value:bo}{pos pos' tpos:Pos}{td ty tv:TE}
theorem uA (hu:X.A.units+1 < dq) (ho:PE X o td) (hi:PE X i ty) (hs:NoSl i):PE X (.Subscript o i pos) (tDGet td ty):=by
 intro pins s σ H Q I h
 refine EQ iG.lookup hs (thn (ho pins s σ H _ I h) fun u s1 ⟨x,H1,I1,rx,q1⟩=>thn (hi pins s1 σ H1 _ I1 q1) fun iv s2 ⟨y,H2,I2,ry,a,v,ex,g,q2⟩=>?_)
 subst ex
 obtain rfl:u=bN a:=rx
 exact ⟨tM I2 g,wY hu I2 g ry fun w' s3 I3 rw'=>⟨v,H2,I3,rw',q2⟩⟩
theorem Ec (hu:X.A.units+1 < dq) (hi:PE X i ty) (ho:PE X o td):PC X .In i o (tDIn ty td):=by
 intro pins s σ H Q I h
 refine thn (hi pins s σ H _ I h) fun iv s1 ⟨y,H1,I1,ry,q1⟩=>thn (ho pins s1 σ H1 _ I1 q1) fun u s2 ⟨x,H2,I2,rx,a,ov,ex,g,q2⟩=>?_
 subst ex
 obtain rfl:u=bN a:=rx
 exact d_in hu I2 g ry fun s3 I3=>⟨.bl ov.isSome,H2,I3,rfl,q2⟩
theorem pQ (hu:X.A.units+1 < dq) (ho:PE X o td) (hi:PE X i ty) (hv:PE X value tv) (hs:fA value (some (.Subscript o i pos')) pos.line X.env=pure false) :
  PS X (.Assign [.Subscript o i pos'] value pos) (F7 td ty tv):=by
 intro pins s σ H D I h
 refine wpAny_Assign_Subscript (thn (hv pins s σ H _ I h) fun r s1 ⟨v,H1,I1,rv,q1⟩=>thn (ho pins s1 σ H1 _ I1 q1) fun u s2 ⟨x,H2,I2,rx,q2⟩=>thn (hi pins s2 σ H2 _ I2 q2) fun iv s3 ⟨y,H3,I3,ry,a,H4,ex,g,q3⟩=>?_) hs
 subst ex
 obtain rfl:u=bN a:=rx
 exact wX hu I3 g ry rv fun s4 I4=>⟨σ,H4,I4,q3⟩
theorem zj {P:aU}{w:bw}{H:Hp} (h:bM) (hb:eA < h.objs.size):ObjOk P w H (h.push { cls:=.type "dict",data:=.dict #[] }) h.objs.size (.dK []) :=
 ⟨bD _,beq_eq_false_iff_ne.mpr (gG (aR hb)),[],.nil,Heap.DictOf.new h⟩
def GK:TE:=fun _ H Q=>∀ p,H p=none→Q (.ref p) (upd H p (.dK []))
theorem pe_dnewK:PE X (.Dict [] [] pos) GK:=fun pins s σ H Q I h =>
 wpAny_Dict_empty ⟨.ref s.heap.objs.size,_,I.laid (a:=s.heap.objs.size) (o:=.dK []) (t':=s.toks) (fun _ _ q=>av _ q) (aA _) (zj s.heap I.big),rfl,h _ (I.hok.fresh (aA _))⟩
end
def Aj:List (TE×TE)→St→Hp→(List (V×V)→Hp→Prop)→Prop
 | [],_,H,Q=>Q [] H
 | (tk,tv)::r,σ,H,Q=>tk σ H fun x H1=>tv σ H1 fun y H2=>Aj r σ H2 fun ps H3=>Q ((x,y)::ps) H3
abbrev VV:List (V×V)→List (af×af)→Prop:=fB fun p q=>RelV p.1 q.1∧RelV p.2 q.2
def PPs (X:Cx) (pos:Pos) (keys:List (Option bo)) (values:List bo) (trs:List (TE×TE)):Prop :=
 ∀ (pins:List (ae×Obj)) (s:al) (σ:St) (H:Hp) (Q:List (V×V)→Hp→Prop),Inv X pins σ H s→Aj trs σ H Q →
  bj (model X.prog X.w) X.A (evalPairs (pairTrees keys values X.env pos)) (fun vs s'=>∃ ps H',Inv X pins σ H' s'∧VV ps vs∧Q ps H') X.xe s
theorem AM {X:Cx}{pos:Pos}:PPs X pos [] [] []:=fun pins s σ H Q I h=>pairTrees_nil_walk ⟨[],H,I,.nil,h⟩
theorem yS {X:Cx}{pos:Pos}{k v:bo}{ks:List (Option bo)}{vs:List bo}{tk tv:TE}{trs:List (TE×TE)} (hk:PE X k tk) (hv:PE X v tv) (hr:PPs X pos ks vs trs) :
  PPs X pos (some k::ks) (v::vs) ((tk,tv)::trs):=fun pins s σ H Q I h =>
 pairTrees_cons_walk (thn (hk pins s σ H _ I h) fun u s1 ⟨x,H1,I1,rx,q1⟩=>thn (hv pins s1 σ H1 _ I1 q1) fun w2 s2 ⟨y,H2,I2,ry,q2⟩ =>
  thn (hr pins s2 σ H2 _ I2 q2) fun ws s3 ⟨ps,H3,I3,rel,q3⟩=>⟨(x,y)::ps,H3,I3,.cons ⟨rx,ry⟩ rel,q3⟩)
def vR (kvs more:List (Key×V)):List (Key×V):=more.foldl (fun acc kv=>pX acc kv.1 kv.2) kvs
theorem KV.merge:∀ {more:List (Key×V)}{rs:List (Key×af)}{kvs:List (Key×V)}{vs:List (Key×af)},KV more rs→KV kvs vs→KV (vR kvs more) (merged vs rs):=by
 intro more rs kvs vs r
 unfold KV at r
 induction r generalizing kvs vs with
 | nil=>intro q;exact q
 | @cons p q ps qs h t ih =>
  intro r0
  have e:KV (pX kvs p.1 p.2) (stored vs q.1 q.2):=by
   have:=r0.put p.1 h.2
   rw [← h.1];exact this
  exact ih e
theorem rb:∀ (more kvs:List (Key×V)),(vR kvs more).length≤kvs.length+more.length
 | [],kvs=>by show kvs.length≤kvs.length+0;omega
 | p::r,kvs=>by
  have h1:=rb r (pX kvs p.1 p.2)
  have h2:=qh kvs p.1 p.2
  show (vR (pX kvs p.1 p.2) r).length≤_
  rw [aB];omega
theorem uX {P:aU}{w:bw}:∀ {kvs:List (Key×V)}{ws:List (af×af)},VV (kvs.map fun kv=>(kV kv.1,kv.2)) ws→∃ rs,Carries (k8 P w) ws rs∧KV kvs rs
 | [],_,r=>by rw [cO] at r;cases r;exact ⟨[],eG,.nil⟩
 | p::kvs,_,r=>by
  rw [au] at r
  cases r with
  | @cons a b as bs h t =>
   obtain ⟨rs,c,q⟩:=uX (P:=P) (w:=w) t
   obtain ⟨b1,b2⟩:=b
   exact ⟨(p.1,b2)::rs,⟨uJ h.1,rfl,c⟩,.cons ⟨rfl,h.2⟩ q⟩
def tDisp (trs:List (TE×TE)):TE:=fun σ H Q=>∀ p,H p=none→Aj trs σ (upd H p (.dK [])) fun ps H2=>H2 p=some (.dK [])∧∃ kvs:List (Key×V),ps=kvs.map (fun kv=>(kV kv.1,kv.2))∧kvs.length≤15∧Q (.ref p) (upd H2 p (.dK (vR [] kvs)))
theorem AO {X:Cx}{pos:Pos}{keys:List (Option bo)}{values:List bo}{trs:List (TE×TE)} (h:PPs X pos keys values trs) (hall:keys.all (·.isSome)=true) (hl:keys.length=values.length) (h0:keys≠[])
  (h15:keys.length≤15):PE X (.Dict keys values pos) (tDisp trs):=by
 intro pins s σ H Q I q
 have hn:=I.hok.fresh (aA s.heap.objs.size)
 have I1:=I.laid (a:=s.heap.objs.size) (o:=.dK []) (h':=s.heap.push { cls:=.type "dict",data:=.dict #[] }) (t':=s.toks) (fun _ _ q=>av _ q) (aA _) (zj s.heap I.big)
 refine wpAny_Dict_walk (knd:=k8 X.prog X.w) hall hl h0 h15 (thn (h pins _ σ _ _ I1 (q _ hn)) fun ws s2 ⟨ps,H2,I2,rel,e,kvs,ep,lk,q2⟩=>?_)
 subst ep
 obtain ⟨rs,c,rk⟩:=uX (P:=X.prog) (w:=X.w) rel
 obtain ⟨z,hd,vs0,r0,dd⟩:=EF I2.hok e
 cases r0
 refine ⟨rs,c,dd,fun h' dd' hs=>⟨.ref s.heap.objs.size,_,?_,rfl,q2⟩⟩
 have hz:(vR [] kvs).length≤aQ:=by
  have h1:=rb kvs []
  rw [a8] at h1
  rw [i4];omega
 have he:∃ q,h'.get? s.heap.objs.size=some q:=let ⟨q,_,_,hq,_⟩:=dd';⟨q,hq⟩
 exact uT I2 (by rw [e];exact eG) hs he (Au hz hd (rk.merge .nil) dd')
structure M1 (X:Cx) (o:bo) (m:Str) (apos:Pos) (e:bo) (cpos:Pos):Prop where
 base:eM o m X.env (eval o X.env)=eval o X.env
 few:((cA cpos (aP [e] X.env)).all (fun x=>!x.1) && (fb cpos (dg [] X.env)).all (fun x=>x.1.isSome)
  && decide (([e]:List bo).length+([]:List fU).length+(if ([]:List fU).isEmpty then 0 else 1) < 30))=true
 line:(apos.endLine == cpos.line)=true
 trees:cA cpos (aP [e] X.env)=[(false,eval e X.env)]
structure M2 (X:Cx) (o:bo) (m:Str) (apos:Pos) (e f:bo) (cpos:Pos):Prop where
 base:eM o m X.env (eval o X.env)=eval o X.env
 few:((cA cpos (aP [e,f] X.env)).all (fun x=>!x.1) && (fb cpos (dg [] X.env)).all (fun x=>x.1.isSome)
  && decide (([e,f]:List bo).length+([]:List fU).length+(if ([]:List fU).isEmpty then 0 else 1) < 30))=true
 line:(apos.endLine == cpos.line)=true
 trees:cA cpos (aP [e,f] X.env)=[(false,eval e X.env),(false,eval f X.env)]
def IsD (H:Hp) (a:ae):Prop:=(∃ kvs,Rd H a (.dK kvs))∨∃ kvs,Rd H a (.dT kvs)
theorem Eh {X:Cx}{pins:List (ae×Obj)}{σ:St}{H:Hp}{s:al}{a:ae} (I:Inv X pins σ H s) (d:IsD H a) :
  s.TypeIs (.ref a) "dict"∧(∀ b,bN a=.ref b→∃ ob,s.heap.get? b=some ob∧ob.dict=none)∧(a == eA)=false:=by
 rcases d with ⟨kvs,e⟩ | ⟨kvs,e⟩
 ·obtain ⟨_,hd,vs,_,dd⟩:=si I.hok e
  refine ⟨dd.typeIs,fun b q=>?_,hd⟩
  cases q
  obtain ⟨ob,_,_,h1,h2,_⟩:=dd
  exact ⟨ob,h1,h2.2.1⟩
 ·obtain ⟨_,hd,xs,_,dd⟩:=wa I.hok e
  refine ⟨dd.typeIs,fun b q=>?_,hd⟩
  cases q
  obtain ⟨ob,_,_,h1,h2,_⟩:=dd
  exact ⟨ob,h1,h2.2.1⟩
section
variable {X:Cx}{pins:List (ae×Obj)}{σ:St}{H:Hp}{s:al}{a:ae}{y d:V}{u r:af}{o:Option V}{A:bL}{E:af→al→Prop}
theorem HN {Q:af→al→Prop} (hu:A.units+1 < dq) (I:Inv X pins σ H s) (g:DGet H a y o) (ry:RelV y u) (rd:RelV d r) (h:∀ w' s',Inv X pins σ H s'→RelV (o.getD d) w'→Q w' s') :
  bj (model X.prog X.w) A (call (.builtin "dict.get") [.ref a,u,r]) Q E s:=by
 rcases g with ⟨kvs,k,e,ey,l⟩ | ⟨kvs,k,b,e,ey,eb,l⟩
 ·subst ey
  obtain ⟨z,hd,vs,rel,dd⟩:=si I.hok e
  refine call_meetsIn gk dd.typeIs iZ (iS _ _ _) (meets_dict_get_default (k8 X.prog X.w) a (uJ ry) hd r) ⟨_,dd.mapOf,h _ _ (I.tok _) ?_⟩
  rw [l]
  exact (rel.val k).getD rd
 ·subst ey
  cases (show u=bN b from ry)
  obtain ⟨z,hd,xs,rel,dd⟩:=wa I.hok e
  refine call_meetsIn gk dd.typeIs iZ (iS _ _ _) (meetsH_dict_get_default (ib (k8 X.prog X.w)) a b hd r) ⟨eT hu,k,xs,t5 I.hok eb,dd,h _ _ (I.tok _) ?_⟩
  rw [l]
  exact (rel.val k).getD rd
end
def DZ (td ty tx:TE):TE:=fun σ H Q=>td σ H fun x H1=>∃ a,x=.ref a∧IsD H1 a∧ty σ H1 fun y H2=>tx σ H2 fun z H3=>∃ o,DGet H3 a y o∧Q (o.getD z) H3
def GJ (td ty:TE):TE:=fun σ H Q=>td σ H fun x H1=>∃ a,x=.ref a∧IsD H1 a∧ty σ H1 fun y H2=>∃ kvs k v,H2 a=some (.dK kvs)∧y=kV k∧m7 kvs k=some v∧Q v (upd H2 a (.dK (wb kvs k)))
section
variable {X:Cx}{o e f:bo}{apos cpos:Pos}{td ty tx:TE}
theorem vi (hu:X.A.units+1 < dq) (ho:PE X o td) (he:PE X e ty) (hf:PE X f tx) (m:M2 X o "get" apos e f cpos):PE X (.Call (.Attribute o "get" apos) [e,f] [] cpos) (DZ td ty tx):=by
 intro pins s σ H Q I h
 refine wpAny_Call_method m.base m.few m.line iR gk PySem.F.type_dict_get (thn (ho pins s σ H _ I h) fun u s1 ⟨x,H1,I1,rx,a,ex,d,q1⟩=>?_)
 subst ex
 obtain rfl:u=bN a:=rx
 obtain ⟨t1,t2,_⟩:=Eh I1 d
 refine ⟨t1,t2,?_⟩
 rw [m.trees]
 refine gn rfl (fg (dA (thn (he pins s1 σ H1 _ I1 q1) fun iv s2 ⟨y,H2,I2,ry,q2⟩ =>
  dA (thn (hf pins s2 σ H2 _ I2 q2) fun fv s3 ⟨z,H3,I3,rz,ov,g,q3⟩=>eO ?_))))
 exact HN hu I3 g ry rz fun w' s4 I4 rw'=>⟨_,H3,I4,rw',q3⟩
theorem De (ho:PE X o td) (he:PE X e ty) (m:M1 X o "pop" apos e cpos):PE X (.Call (.Attribute o "pop" apos) [e] [] cpos) (GJ td ty):=by
 intro pins s σ H Q I h
 refine wpAny_Call_method m.base m.few m.line iR i9 PySem.F.type_dict_pop (thn (ho pins s σ H _ I h) fun u s1 ⟨x,H1,I1,rx,a,ex,d,q1⟩=>?_)
 subst ex
 obtain rfl:u=bN a:=rx
 obtain ⟨t1,t2,_⟩:=Eh I1 d
 refine ⟨t1,t2,?_⟩
 rw [m.trees]
 refine gn rfl (fg (dA (thn (he pins s1 σ H1 _ I1 q1) fun iv s2 ⟨y,H2,I2,ry,kvs,k,v,ea,ey,l,q2⟩=>eO ?_)))
 subst ey
 exact d_pop I2 ea ry l (.inl rfl) fun w' s3 I3 rw'=>⟨v,_,I3,rw',q2⟩
end
section
variable {X:Cx}{pins:List (ae×Obj)}{σ:St}{H:Hp}{s:al}{a:ae}{kvs:List (Key×V)}{A:bL}{E:af→al→Prop}
end
section
variable {X:Cx}{pins:List (ae×Obj)}{σ:St}{H:Hp}{s:al}{a:ae}{y:V}{u:af}{A:bL}{E:af→al→Prop}
end
end L2
namespace Att
open PySem PySem.W PySem.Calls PyProof.Rows
theorem tT {P:Params}{h:bM}:∀ (ns:List Int) (vs:List af),WellAll P h vs (ns.map WData.int)→IntsAre vs ns:=by
 intro ns
 induction ns with
 | nil =>
  intro vs w
  rw [cO] at w
  cases w
  exact .nil
 | cons n ns ih =>
  intro vs w
  rw [au] at w
  cases w with
  | cons a b =>
   cases a
   exact .cons _ _ (ih _ b)
theorem Bk {l:fY}{n:Nat} (hn:l.most=some n) {P:Params}{h:bM}{args:List WData}{vals:List af}
  (hpre:l.row.toRowW.claim.pre args=true) (hwl:WellAll P h vals args) :
  ∃ a vs ns,vals=[bN a]∧args=[WData.list (ns.map WData.int)]∧h.get? a=some { cls:=.type "list",data:=.seq vs.toArray }∧IntsAre vs ns∧ns.length≤n:=by
 have hsh:WShape.hasAll [] args [.list .int]=true:=(pre_splitW hpre).1
 have hc:l.pre.holds [] { args:=args }=true:=(pre_splitW hpre).2
 obtain ⟨d,r,rfl,h1,h2⟩:=hasAllW_cons hsh
 obtain rfl:=hasAllW_nil h2
 obtain ⟨xs,rfl,h3⟩:=hasW_list h1
 obtain ⟨ns,rfl⟩:=items_int h3
 have hlen:ns.length≤n:=by
  unfold OpenLaw.pre at hc
  have h4:(WTm.not (.lt (.lit (.int (n:Int))) (.len (.arg 0)))).holds [] { args:=[.list (ns.map .int)] }=true:=by
   have h4:=(holds_andW hc).1
   rw [hn] at h4
   exact h4
  have h5:=condW_of h4 (w_not (w_lt w_lit (w_len_list (w_arg rfl))))
  rw [aj] at h5
  refine gr fun q=>?_
  have q':(n:Int) < ((ns.length:Nat):Int):=by omega
  first
   | (rw [decide_eq_true q'] at h5;exact absurd h5 (by decide))
   | (simp at h5;omega)
 cases hwl with
 | cons w1 w2 =>
  cases w2
  cases w1 with
  | list ho hall=>exact ⟨_,_,ns,rfl,rfl,ho,tT ns _ hall,hlen⟩
theorem Bo (l:fY) (args:List WData):l.row.toRowW.claim.post args (.bool true) args=true :=
 postW_of (r:=l.row.toRowW) (X:=(true == true))
  (show WShape.has [] (.bool true) .bool=true by first | rfl | decide | simp [WShape.has,WShape.arms,WShape.armsAll])
  (show (WTm.eq .res (.lit (.bool true))).value [] { args:=args,res:=some (.bool true),after:=args }=some (.bool (true == true)) from w_eq_bool (w_res rfl) w_lit) rfl
theorem attach_call {l:fY}{n:Nat}{q:aU}{loose:List Str}{XP:(Str→Option af)→bM→Prop}{YP:bw→bM→Prop}{d:DefRec}
  (hn:l.most=some n) (hdf:d.params.defaults=[])
  (call:∀ (w:bw) (s₀ s₁:al) (mg mb:Str→Option af) (fa:ae) (o:Obj) (pm cd doc:af) (a:ae) (vs:List af) (ns:List Int),
   Ground q loose [] XP w s₀ mg mb s₁.heap→YP w s₁.heap →
   s₁.heap.get? fa=some o→o.data=.func (docDef d.name d.params d.body d.scope pm cd doc)→s₁.heap.CodeRec cd d.name→mg d.name=some (.ref fa) →
   s₁.heap.get? a=some { cls:=.type "list",data:=.seq vs.toArray }→IntsAre vs ns→ns.length≤n→s₁.gens=#[] →
   fT (model l.prog w) iK (.call (.ref fa) ⟨[.ref a],[]⟩) (fun r s'=>r=.ok (.ret (.bool true))∧OldK s₁.heap s'.heap∧s'.os=s₁.os∧gu s'.gens) s₁) :
  jQ q loose XP YP l.row.toRowW d [] (fun f vs=>jM f vs):=by
 intro w s₀ s₁ mg mb G Y fa o pm cd doc dV kV ho hd hcd hD hmg hg args vals as hpre hlay hrd hwl hlo
 obtain rfl:dV=.none:=Dflts.none hD hdf
 obtain rfl:kV=.none:=Dflts.noKw hD
 obtain ⟨a,vs,ns,rfl,rfl,hobj,hints,hlen⟩:=Bk hn hpre hwl
 refine enter_call (e9 (call w s₀ s₁ mg mb fa o pm cd doc a vs ns G Y ho (fd_plain hd) hcd hmg hobj hints hlen hg) fun r s' hq=>?_)
 obtain ⟨rfl,h2,h3,h4⟩:=hq
 exact ⟨.inl ⟨.bool true,.bool true,[],rfl,fun _=>rfl,.bool true,Bo l _,fun _=>⟨List.Pairwise.nil,fun _ hm=>(nomatch hm)⟩⟩,h2,h3,h4⟩
section
variable {prog:aU}{w:bw}{A:bL}{E:af→al→Prop}{s:al}{K:aa}
end
end Att
namespace L2
open PySem PySem.Spec PyProof.Rows
theorem wl:∀ {vs:List af}{ns:List Int},IntsAre vs ns→Vals (ns.map V.int) vs
 | _,_,.nil=>.nil
 | _,_,.cons n t h=>.cons ⟨t,rfl⟩ (wl h)
def me (s:bX) (j:Nat):bX:=match s with
 | .ClassDef _ _ _ body _ _ _ _ _ _ _=>body.getD j (.Pass ⟨0,0,0,0⟩)
 | _=>.Pass ⟨0,0,0,0⟩
def rf (s:bX):ik:=match s with
 | .FunctionDef _ a _ _ _ _ _ _ _ _=>a
 | _=>{ posonlyargs:=[],args:=[],vararg:=none,kwonlyargs:=[],kw_defaults:=[],kwarg:=none,defaults:=[] }
def mR (s:bX):List bX:=match s with
 | .FunctionDef _ _ b _ _ _ _ _ _ _=>b
 | _=>[]
def kh (s:bX):dR:=match s with
 | .FunctionDef _ _ _ _ _ _ sc _ _ _=>sc
 | _=>{ kind:=.function,names:=[],isGenerator:=false,isCoroutine:=false }
abbrev E0:XK:=fun _ _ _=>False
structure Fun (K:aa) (x qual:Str) (st:bX) (f:ae) (fd:bV):Prop where
 ex:∃ (oc:af) (od:Option ae) (kV doc pm:af) (an:Option ae) (cdv ct:af) (osl:Array (Option af)),
  fd=dQ x qual (rf st) (mR st) (kh st) .none kV doc pm an cdv ct∧K.lookup f=some ⟨oc,od,.func fd,osl⟩∧aG K cdv qual=true
 kp:az K (.ref f)=true
section
variable {P:aU}{w:bw}{K:aa}{mg:Str→Option af}{base:bM}
theorem Fun.binds {x qual:Str}{st:bX}{f:ae}{fd:bV}{ps:List Str} (F:Fun K x qual st f fd)
  (h:∀ (kV doc pm:af) (an:Option ae) (cdv ct:af) (us:List af),us.length=ps.length→bindArgs (dQ x qual (rf st) (mR st) (kh st) .none kV doc pm an cdv ct) ⟨us,[]⟩=pure (ps.zip us)):Binds K fd ps []:=by
 obtain ⟨oc,od,kV,doc,pm,an,cdv,ct,osl,rfl,lk,hcd⟩:=F.ex
 exact .all (h kV doc pm an cdv ct)
theorem kH {x qual:Str}{st:bX}{f:ae}{oc:af}{od an:Option ae}{osl:Array (Option af)}{kV doc pm cdv ct:af} (l:K.lookup f=some ⟨oc,od,.func (dQ x qual (rf st) (mR st) (kh st) .none kV doc pm an cdv ct),osl⟩)
  (c:aG K cdv qual=true) (k:az K (.ref f)=true):Fun K x qual st f (dQ x qual (rf st) (mR st) (kh st) .none kV doc pm an cdv ct):=⟨⟨oc,od,kV,doc,pm,an,cdv,ct,osl,rfl,l,c⟩,k⟩
end
theorem kC {A:bL}{k:Nat} (hr:Room k A):A.units+1 < dq:=bc (j7 (by decide:1≤64) _) hr.units
section
variable {X:Cx}
theorem pv (i:Nat) {x:Str}{pos:Pos} (hN:X.N[i]?=some x:=by rfl) (hv:Vis X.env.scope x:=by first | exact bv rfl | exact dO (bv rfl) | exact dO (dO rfl)) (hd:(x == ("__debug__":Str))=false:=by decide)
  (hcd:(x == ("__classdict__":Str))=false:=by decide):PE X (.Name x pos) (Cm i):=xY hN hv hd hcd
theorem w6:CallR X (.builtin "len") (fun xs H Q=>∃ a kvs,xs=[V.ref a]∧H a=some (.dK kvs)∧Q (.int kvs.length) H):=by
 intro pins s σ H xs us Q I r h
 obtain ⟨a,kvs,rfl,ha,q⟩:=h
 obtain ⟨u,rfl,ru⟩:=oJ r
 cases ru
 exact Gw I (.inl ha) fun t s' I'=>⟨.int kvs.length,H,I',⟨t,rfl⟩,q⟩
end
theorem Go {A B:Prop} (h:B):if false=true then A else B:=by
 rw [if_neg a7]
 exact h
theorem Gn {A B:Prop} (h:A):if true=true then A else B:=by
 rw [if_pos rfl]
 exact h
theorem rB {c A B:Prop} [Decidable c] (h1:c→A) (h2:¬ c→B):if c then A else B:=by
 by_cases h:c
 ·rw [if_pos h]
  exact h1 h
 ·rw [if_neg h]
  exact h2 h
def Same (H H':Hp):Prop:=∀ b o,H b=some o→H' b=some o
theorem Same.trans {H H1 H2:Hp} (a:Same H H1) (b:Same H1 H2):Same H H2:=fun c o h=>b c o (a c o h)
theorem Same.free {H H':Hp} (e:Same H H') {l:ae} (h:H' l=Option.none):H l=Option.none:=by
 cases q:H l with
 | none=>rfl
 | some o =>
  rw [e l o q] at h
  cases h
theorem Same.seq {K:aa}{H H':Hp}{a:ae}{xs:List V} (e:Same H H') (h:SqL K H a xs):SqL K H' a xs:=by
 rcases h with (h | ⟨o,h⟩) | h
 ·exact .inl (.inl (e _ _ h))
 ·exact .inl (.inr ⟨o,e _ _ h⟩)
 ·exact .inr h
section
variable {κ:Type} [DecidableEq κ]
theorem sG:∀ {l:List κ}{k:κ},l.Nodup→¬ k∈l→(l++[k]).Nodup
 | [],k,_,_=>by simp
 | a::r,k,h,hk=>by
  obtain ⟨h1,h2⟩:=aN.mp h
  show (a::(r++[k])).Nodup
  refine aN.mpr ⟨fun m=>?_,sG h2 fun m=>hk (ai.mpr (dO m))⟩
  rcases aO.mp m with q | q
  ·exact h1 q
  ·exact hk (ai.mpr (bv (ax.mp q).symm))
end
theorem ff:(bC == bC)=true:=rfl
def lL (cells:List (Str×ae)):List (Str×dS)→List (Str×ae)→List (Str×ae)
 | [],cs=>cs
 | (n,k)::r,cs=>lL cells r (if k == .free then (n,(cells.lookup n).getD 0)::cs else cs)
theorem tu (env:Env):∀ (names:List (Str×dS)) (cs:List (Str×ae)),(∀ y∈names,y.2=.free→∃ c,env.cells.lookup y.1=some c) →
  (forIn names cs fun (x:Str×dS) (r:List (Str×ae))=>match x with
   | (name,kind)=>if (kind == .free)=true then (do let c ← cellOf env name;pure (fZ ((name,c)::r))) else pure (fZ r):Sem (List (Str×ae)))=pure (lL env.cells names cs)
 | [],cs,_=>rfl
 | (n,k)::r,cs,h=>by
  rw [List.forIn_cons]
  by_cases hk:k=.free
  ·subst hk
   obtain ⟨c,hc⟩:=h (n,.free) am rfl
   have hc:env.cells.lookup n=some c:=hc
   have ih:=tu env r ((n,c)::cs) fun y hy=>h y (ag _ hy)
   have e1:lL env.cells ((n,bC)::r) cs=lL env.cells r ((n,c)::cs):=by
    show lL env.cells r (if (bC == bC)=true then (n,(env.cells.lookup n).getD 0)::cs else cs)=_
    rw [if_pos ff,hc]
    all_goals rfl
   rw [e1,← ih]
   have e2:cellOf env n=pure c:=by
    unfold cellOf
    rw [hc]
   simp only [beq_self_eq_true,if_true,e2]
   rfl
  ·have hb:(k == bC)=false:=by simpa using hk
   have ih:=tu env r cs fun y hy=>h y (ag _ hy)
   have e1:lL env.cells ((n,k)::r) cs=lL env.cells r cs:=by
    show lL env.cells r (if (k == bC)=true then (n,(env.cells.lookup n).getD 0)::cs else cs)=_
    rw [hb,if_neg a7]
   rw [e1,← ih]
   simp only [hb]
   rfl
theorem oE {scope:dR}{env:Env} (h:∀ y∈scope.names,y.2=.free→∃ c,env.cells.lookup y.1=some c):closureFor scope env=pure (lL env.cells scope.names []):=by
 have e:=tu env scope.names [] h
 unfold closureFor
 refine Eq.trans ?_ (congrArg (fun m:Sem (List (Str×ae))=>m >>= pure) e)
 rfl
theorem zm {cells:List (Str×ae)}{y:Str}{c:ae}:∀ (names:List (Str×dS)) (cs:List (Str×ae)),(∀ z∈names,z.2=.free→∃ c,cells.lookup z.1=some c)→(∀ z d,cs.lookup z=some d→cells.lookup z=some d) →
  (lL cells names cs).lookup y=some c→cells.lookup y=some c
 | [],cs,_,hcs,h=>hcs y c h
 | (n,k)::r,cs,hf,hcs,h=>by
  refine zm r _ (fun z hz=>hf z (ag _ hz)) ?_ h
  by_cases hk:k=.free
  ·subst hk
   obtain ⟨d,hd⟩:=hf (n,.free) am rfl
   have hd:cells.lookup n=some d:=hd
   intro z d' hz
   rw [if_pos ff,hd] at hz
   by_cases e:z=n
   ·subst e
    rw [bE] at hz
    simp only [beq_self_eq_true] at hz
    rw [hd]
    exact hz
   ·have hb:(z == n)=false:=by simpa using e
    rw [bE] at hz
    simp only [hb] at hz
    exact hcs z d' hz
  ·have hb:(k == bC)=false:=by simpa using hk
   rw [hb,if_neg a7]
   exact hcs
theorem uW {cells:List (Str×ae)}{y:Str}:∀ (names:List (Str×dS)) (cs:List (Str×ae)),(cs.lookup y).isSome=true→((lL cells names cs).lookup y).isSome=true
 | [],cs,h=>h
 | (n,k)::r,cs,h=>by
  refine uW r _ ?_
  by_cases hk:(k == bC)=true
  ·rw [if_pos hk,bE]
   cases z:(y == n)
   ·exact h
   ·rfl
  ·rw [if_neg hk]
   exact h
theorem qQ {cells:List (Str×ae)}{y:Str}:∀ (names:List (Str×dS)) (cs:List (Str×ae)),(y,bC)∈names→((lL cells names cs).lookup y).isSome=true
 | (n,k)::r,cs,h=>by
  rcases ai.mp h with e | e
  ·cases e
   refine uW r _ ?_
   rw [if_pos ff,bE]
   simp
  ·exact qQ r _ e
def blk (X:Cx) (scope:dR) (cl:List (Str×ae)) (C:ae) (Nb:List Str) (s₃:al) (H₃:Hp) (fp:List ae):Cx where
 prog:=X.prog
 w:=X.w
 K:=X.K
 mg:=X.mg
 base:=X.base
 A:=X.A
 N:=Nb
 s₀:=s₃
 H₀:=H₃
 env:=compEnvC scope cl C X.env
 outer:=X.stack
 stack:=X.stack
 ex:=fp
 fn:=fun _=>false
 calm:=true
 pn:=[]
 xe:=fun _ _=>False
structure CompOk (N:List Str) (esc:dR) (scope:dR) (x:Str) (fr:List Str) (ix:List Nat):Prop where
 kind:scope.kind=.function
 cell:∀ y∈scope.names,y.2≠.cell
 loc:scope.names.lookup x=some .local
 nm:∀ y∈scope.names,y.2=.local→scope.names.lookup y.1=some .local
 free:∀ y∈scope.names,y.2=.free→esc.names.lookup y.1=some .cell
 nd:(x::fr).Nodup
 idx:∀ p∈fr.zip ix,N[p.2]?=some p.1
 frs:∀ y∈fr,scope.names.lookup y=some .free∧esc.names.lookup y=some .cell
 len:ix.length=fr.length
theorem cok {N:List Str}{e c:dR}{x:Str}{fr:List Str}{ix:List Nat} (h1:c.kind=.function:=by rfl) (h2:∀ y∈c.names,y.2≠.cell:=by decide +kernel) (h3:c.names.lookup x=some .local:=by rfl) (h4:∀ y∈c.names,y.2=.local→c.names.lookup y.1=some .local:=by decide +kernel) (h5:∀ y∈c.names,y.2=.free→e.names.lookup y.1=some .cell:=by decide +kernel) (h6:(x::fr).Nodup:=by decide +kernel) (h7:∀ p∈fr.zip ix,N[p.2]?=some p.1:=by decide +kernel) (h8:∀ y∈fr,c.names.lookup y=some .free∧e.names.lookup y=some .cell:=by decide +kernel) (h9:ix.length=fr.length:=by rfl):CompOk N e c x fr ix:=⟨h1,h2,h3,h4,h5,h6,h7,h8,h9⟩
def capt (ix:List Nat) (σ:St):St:=ix.map fun i=>(σ[i]?).getD none
def Et (X:Cx) (ifs:List bo) (t:TT):Prop :=
 ∀ (pins:List (ae×Obj)) (s:al) (σ:St) (H:Hp) (Q:Bool→Hp→Prop),Inv X pins σ H s→t σ H Q →
  bj (model X.prog X.w) X.A (forIn ifs true fun c r=>if r=true then do let ok ← isTrue c X.env (eval c X.env);pure (fZ ok) else pure (fZ r)) (TP X pins σ Q) X.xe s
def tYes:TT:=fun _ H Q=>Q true H
theorem vh {X:Cx}:Et X [] tYes:=fun pins s σ H Q I h=>aX ⟨H,I,h⟩
theorem C8 {X:Cx}{c:bo}{t:TT} (h:PT X c t):Et X [c] t:=by
 intro pins s σ H Q I hq
 rw [List.forIn_cons]
 refine aF ?_
 rw [if_pos rfl]
 refine aF (thn (h pins s σ H Q I hq) fun b s1 h1=>aX ?_)
 show bj _ _ (forIn [] b _) _ _ _
 rw [List.forIn_nil]
 exact aX h1
def Ai (J:It) (tc:TT) (te:TE) (cap:St) (D:ae) (H1:Hp) (Q:VK):Prop :=
 ∃ Pv:Nat→Nat→List V→Hp→Prop,(∃ m,Pv 0 m [] (upd H1 D (.lst [])))∧∀ i m ys H2,Pv i m ys H2 →
  (J.stop i H2∧H2 D=some (.lst ys)∧Q (.ref D) H2)∨(J.go i H2∧∀ x H3,J.yld i H2 x H3→tc (some x::cap) H3 fun b H4=>if b=true then
   te (some x::cap) H4 fun v H5=>H5 D=some (.lst ys)∧ys.length < aQ∧∃ m',m' < m∧Pv (i+1) m' (ys++[v]) (upd H5 D (.lst (ys++[v])))
   else ∃ m',m' < m∧Pv (i+1) m' ys H4)
def Cf (wi:TI) (ix:List Nat) (tc:TT) (te:TE):TE:=fun σ H Q=>wi σ H fun J H1=>∀ D,H1 D=none→Ai J tc te (capt ix σ) D H1 Q
section
variable {X:Cx}{elt iter:bo}{ifs:List bo}{x:Str}{px pos:Pos}{scope:dR}{wi:TI}{tc:TT}{te:TE}{fr:List Str}{ix:List Nat}
theorem nu {env:Env} (hk:env.scope.kind=.function):∀ {names:List (Str×dS)}{y:Str},names.lookup y=some .free→env.scope.names.lookup y=some .cell →
  (names.map fun (n,k)=>if (k == bC && env.scope.kind == .function && env.kindOf n == some .cell) then (n,fK) else (n,k)).lookup y=some .cell
 | [],_,h,_=>by simp at h
 | (n,k)::r,y,h,hc=>by
  have ih:=@nu env hk r y
  show cB y ((if (k == bC && env.scope.kind == .function && env.kindOf n == some .cell)=true then (n,fK) else (n,k))::_)=_
  cases hx:y == n with
  | true =>
   simp only [bE,hx] at h
   cases h
   have e:y=n:=by simpa using hx
   subst e
   have e2:env.kindOf y=some .cell:=hc
   rw [if_pos (by rw [hk,e2];rfl),bE]
   simp
  | false =>
   simp only [bE,hx] at h
   split
   ·simp only [bE,hx];exact ih h hc
   ·simp only [bE,hx];exact ih h hc
theorem DM {ix:List Nat}{σ:St}{k:Nat}{v:V} (h:(capt ix σ)[k]?=some (some v)):∃ i,ix[k]?=some i∧σ[i]?=some (some v):=by
 unfold capt at h
 rw [bi] at h
 cases e:ix[k]? with
 | none=>rw [e] at h;cases h
 | some i =>
  rw [e] at h
  refine ⟨i,rfl,?_⟩
  have h2:(σ[i]?).getD none=some v:=aZ h
  cases q:σ[i]? with
  | none=>rw [q] at h2;cases h2
  | some o=>rw [q] at h2;exact congrArg some h2
def BlkAt (X:Cx) (pins:List (ae×Obj)) (C:ae):Prop:=C≠X.env.locals∧X.s₀.heap.objs.size≤C∧(∀ y c,X.env.cells.lookup y=some c→c≠C)∧∀ p∈X.pn++pins,p.1≠C
theorem w4 {PR:af→ae→Result→al→Prop}{pins:List (ae×Obj)}{σ:St}{H2:Hp}{s2:al}{it:ae}{fp:List ae}{tn:Nat→bM→Prop}{J:It}{Q:VK} (hc:X.calm=true) (S:CompOk X.N X.env.scope scope x fr ix)
  (ht:∀ cl C s₃ H₃ fp,Et (blk X scope cl C (x::fr) s₃ H₃ fp) ifs tc) (he:∀ cl C s₃ H₃ fp,PE (blk X scope cl C (x::fr) s₃ H₃ fp) elt te)
  (hcells:∀ y∈scope.names,y.2=.free→∃ c,X.env.cells.lookup y.1=some c)
  (I2:Inv X pins σ H2 s2) (T:Turn X.prog X.w X.K (.Name x px) J fp it tn) (st2:tn 0 s2.heap) (f2:∀ b∈fp,Ah X pins H2 b) (q2:∀ D,H2 D=none→Ai J tc te (capt ix σ) D H2 Q)
  (hfin:∀ D C H' s',Inv X pins σ H' s'→H' C=none→BlkAt X pins C→(∃ m,s'.heap.Ns C m)→Q (.ref D) H'→PR (.ref D) C (.ok .next) s') :
  bj (model X.prog X.w) X.A (newList []) (fun acc s₃=>bj (model X.prog X.w) X.A (newFunctionEnv scope X.env.globals (lL X.env.cells scope.names []) [] X.env.qual none .none (some X.env)) (fun cenv s₄ =>
   fT (model X.prog X.w) X.A (.compStart (.ListComp elt [⟨.Name x px,iter,ifs,0⟩] scope pos) 0 (.ref it) acc { cenv with scope:=relabel scope X.env }) (PR acc cenv.locals) s₄) X.xe s₃) X.xe s2:=by
 refine d6 ?_
 have hD:H2 s2.heap.objs.size=none:=I2.hok.fresh (aA _)
 have I3:Inv X pins σ (upd H2 s2.heap.objs.size (.lst [])) { s2 with heap:=s2.heap.push { cls:=.type "list",dict:=none,data:=.seq ([]:List af).toArray } } :=
  I2.lnew (its:=[]) (t':=s2.toks) (.nil) (bD _)
 obtain ⟨Pv,⟨m0,p0⟩,turn⟩:=q2 s2.heap.objs.size hD
 generalize hD':s2.heap.objs.size=D at *
 generalize hs3:({ s2 with heap:=s2.heap.push { cls:=.type "list",dict:=none,data:=.seq ([]:List af).toArray } }:al)=s3 at *
 have hk23:∀ b o,s2.heap.get? b=some o→s3.heap.get? b=some o:=fun b o e=>by rw [← hs3];exact av _ e
 have hH3:∀ b,b≠D→(upd H2 D (.lst [])) b=H2 b:=fun b hb=>ki hb
 have f3:∀ b∈fp,Ah X pins (upd H2 D (.lst [])) b∧b < s3.heap.objs.size:=fun b hb=>by
  obtain ⟨o,e,_⟩:=T.obj _ _ st2 b hb
  have hlt:=aH e
  refine ⟨⟨?_,(f2 b hb).2⟩,aH (hk23 b o e)⟩
  rw [hH3 b (by rw [← hD'];exact aR hlt)]
  exact (f2 b hb).1
 have st3:tn 0 s3.heap:=T.keep _ _ _ st2 fun b hb o e=>hk23 b o e
 refine wpAny_newFunctionEnv S.cell (by intro y hy;simp at hy) (fun h4 hns4 hsb4=>?_) S.kind
 generalize hC:s3.heap.objs.size=C at *
 let X':Cx:=blk X scope (lL X.env.cells scope.names []) C (x::fr) s3 (upd H2 D (.lst [])) fp
 have clof:∀ y c,(lL X.env.cells scope.names []).lookup y=some c→X.env.cells.lookup y=some c:=fun y c e=>zm scope.names [] hcells (fun z d hz=>by simp at hz) e
 have clhas:∀ y,(y,bC)∈scope.names→∃ c,(lL X.env.cells scope.names []).lookup y=some c:=fun y hy=>ee.mp (qQ scope.names [] hy)
 have k34:∀ b o,s3.heap.get? b=some o→h4.get? b=some o:=fun b o e=>hsb4.extBut b o (by rw [← hC];exact aR (aH e)) (av _ e)
 have relfree:∀ (l:List (Str×dS)) y k,(l.map fun (n,k)=>if (k == bC && X.env.scope.kind == .function && X.env.kindOf n == some .cell) then (n,fK) else (n,k)).lookup y=some k→(k=.cell∨k=.free) →
   (∀ z∈l,z.2≠.cell)→(y,bC)∈l:=by
  intro l
  induction l with
  | nil=>intro y k e _ _;simp at e
  | cons z r ih =>
   intro y k e hk hn
   obtain ⟨n,kz⟩:=z
   rw [au] at e
   by_cases hy:y=n
   ·subst hy
    have:kz=.free:=by
     by_cases hkz:kz=.free
     ·exact hkz
     ·exfalso
      have hb:(kz == bC)=false:=by simpa using hkz
      simp only [hb,dW,ke,if_false,bE,beq_self_eq_true] at e
      have e':kz=k:=aZ e
      rcases hk with z | z
      ·exact hn (y,kz) am (e'.trans z)
      ·exact hkz (e'.trans z)
    rw [this]
    exact am
   ·have hb:(y == n)=false:=by simpa using hy
    refine ag _ (ih y k ?_ hk fun z hz=>hn z (ag _ hz))
    have e:cB y ((if (kz == bC && X.env.scope.kind == .function && X.env.kindOf n == some .cell)=true then (n,fK) else (n,kz))::_)=some k:=e
    by_cases hq:(kz == bC && X.env.scope.kind == .function && X.env.kindOf n == some .cell)=true
    ·rw [if_pos hq,bE] at e
     simp only [hb] at e
     exact e
    ·rw [if_neg hq,bE] at e
     simp only [hb] at e
     exact e
 have ok':X'.Ok:=by
  refine ⟨I3.ok.mod,S.kind,I3.ok.glob,I3.ok.blt,?_,fun y z c e1 e2=>I3.ok.inj y z c (clof y c e1) (clof z c e2),fun y hy=>?_,fun y c e _=>(by cases e),fun _=>I3.ok.hd hc,I3.ok.frames,.inl rfl,fun b hb=>⟨?_,fun y c e=>(f3 b hb).1.2.2.2.2.1 y c (clof y c e)⟩,I3.bs,aJ I3.ok.bsz I3.sz,fun b o e hb=>?_,fun b hb z=>?_,I3.stack,I3.stkFree⟩
  ·show s3.heap.objs.size≤C
   rw [hC]
   exact aA _
  ·rcases hy with hy | hy
   ·exact clhas y (relfree scope.names y _ hy (.inl rfl) S.cell)
   ·exact clhas y (relfree scope.names y _ hy (.inr rfl) S.cell)
  ·exact aR (f3 b hb).2
  ·rcases (f3 b hb).1.2.2.2.1 with z | z
   ·exact I3.ok.noex b o e z
   ·exact absurd (ay (aH e) (aJ I3.ok.bsz z)) (cE _)
  ·rcases ai.mp (I3.stkSub b z) with z | z
   ·exact (f3 b hb).1.2.1 z
   ·exact (f3 b hb).1.2.2.1 z
 have capture:∀ {h':bM}{m:Str→Option af},(∀ b o,s3.heap.get? b=some o→(∃ v,o.data=.cell v)→h'.get? b=some o)→∀ (k:Nat) (y:Str) (v:V),fr[k]?=some y→(capt ix σ)[k]?=some (some v)→∃ u,RelV v u∧Look X'.env h' m y u:=by
  intro h' m hkc k y v hy hv
  obtain ⟨i,hix,hσ⟩:=DM hv
  have hzip:(y,i)∈fr.zip ix:=by
   refine ck (i:=k) ?_
   rw [List.getElem?_zip_eq_some]
   exact ⟨hy,hix⟩
  have hN:X.N[i]?=some y:=S.idx (y,i) hzip
  obtain ⟨hfr,hcell⟩:=S.frs y (ck hy)
  obtain ⟨m3,hn3,hl3⟩:=I3.loc
  obtain ⟨u,ru,l⟩:=hl3 i y v hN hσ (.inr (.inl hcell))
  refine ⟨u,ru,?_⟩
  rcases l with ⟨kd,_⟩ | ⟨_,c,ec,ic⟩
  ·have kd:X.env.scope.names.lookup y=some .local:=kd
   rw [hcell] at kd
   cases kd
  ·refine .inr ⟨.inl (nu I3.ok.kind hfr hcell),c,?_,?_⟩
   ·obtain ⟨c',e'⟩:=clhas y (bS hfr)
    have:=clof y c' e'
    rw [ec] at this
    cases this
    exact e'
   ·obtain ⟨o,ho,hd⟩:=ic
    exact ⟨o,hkc c o ho ⟨_,hd⟩,hd⟩
 have hNd:X'.N.Nodup:=S.nd
 have hx0:X'.env.scope.names.lookup x=some .local:=lookup_relabel_local S.loc
 have lenb:∀ o:Option V,(o::capt ix σ).length=X'.N.length:=fun o=>by
  show (capt ix σ).length+1=fr.length+1
  unfold capt
  rw [aj,S.len]
 have I4:Inv X' [] (none::capt ix σ) (upd H2 D (.lst [])) { s3 with heap:=h4,toks:=s3.toks+([]:List (Str×af)).length }:=by
  refine ⟨ok',rfl,I3.bare,Un.kept k34,⟨_,hns4,fun k y v e1 e2 e3=>?_⟩,fun y c e=>?_,?_,fun y c e=>I3.freeC y c (clof y c e),fun p hp=>?_,I3.hok.kept k34,lenb none⟩
  ·cases k with
   | zero=>cases e2
   | succ k=>exact capture (fun b o e _=>k34 b o e) k y v (by have e1:(x::fr)[k+1]?=some y:=e1;simpa using e1) (by simpa using e2)
  ·obtain ⟨v,o,ho,hd⟩:=I3.cell y c (clof y c e)
   exact ⟨v,o,k34 c o ho,hd⟩
  ·exact I3.hok.fresh (by show s3.heap.objs.size≤C;rw [hC];exact aA _)
  ·exact absurd (show p∈([]:List (ae×Obj)) from hp) (by simp)
 have stat:∀ {H':Hp}{b:ae},b∈fp→H' b=none→Ah X' [] H' b:=fun {H' b} hb hn=>by
  refine ⟨hn,?_,?_,.inl hb,fun y c e=>(f3 b hb).1.2.2.2.2.1 y c (clof y c e),fun p hp=>absurd (show p∈([]:List (ae×Obj)) from hp) (by simp)⟩
  ·exact aR (f3 b hb).2
  ·intro z
   rcases ai.mp (I3.stkSub b z) with z | z
   ·exact (f3 b hb).1.2.1 z
   ·exact (f3 b hb).1.2.2.1 z
 have hch:∀ b∈fp,(b∈X.ex∨X.s₀.heap.objs.size≤b)∧b≠X.env.locals∧(∀ y c,X.env.cells.lookup y=some c→c≠b)∧∀ p∈X.pn++pins,p.1≠b:=fun b hb =>
  ⟨(f3 b hb).1.2.2.2.1,(f3 b hb).1.2.1,(f3 b hb).1.2.2.2.2.1,(f3 b hb).1.2.2.2.2.2⟩
 have fin:∀ {σ':St}{H':Hp}{s':al},Inv X' [] σ' H' s'→Q (.ref D) H'→PR (.ref D) C (.ok .next) s':=fun {σ' H' s'} I' q'=>by
  obtain ⟨m',hn',_⟩:=I'.loc
  have J:=I3.call' (s':=s') (ch:=fp) I'.os I'.base I'.hok I'.bare hch
  refine hfin D C H' s' J I'.free ⟨?_,?_,fun y c e=>?_,fun p hp=>?_⟩ ⟨m',hn'⟩ q'
  ·rw [← hC];exact Nat.ne_of_gt I3.lt
  ·rw [← hC];exact I3.sz
  ·obtain ⟨v,z⟩:=I3.cell y c e
   rw [← hC];exact aR z.lt
  ·rw [← hC];exact aR (aH (I3.pin p hp).1)
 have loop:fT (model X.prog X.w) X.A (.compLoop (.ListComp elt [⟨.Name x px,iter,ifs,0⟩] scope pos) 0 (.ref it) (.ref D) X'.env) (PR (.ref D) C) { s3 with heap:=h4,toks:=s3.toks+([]:List (Str×af)).length }:=by
  refine codeAny_compLoop_tests (fun n s'=>∃ i ys o H',Inv X' [] (o::capt ix σ) H' s'∧tn i s'.heap∧(∀ b∈fp,H' b=none)∧Pv i n ys H') ?_ m0 ⟨0,[],none,_,I4,T.keep _ _ _ st3 fun b hb o e=>k34 b o e,fun b hb=>(f3 b hb).1.1,p0⟩
  rintro n s5 ⟨i,ys,o,H5,I5,st5,fr5,p5⟩
  rcases turn i n ys H5 p5 with ⟨stop,hd5,qn⟩ | ⟨go,step⟩
  ·refine cr (T.done X' rfl rfl rfl rfl i [] s5 _ H5 (fun _ _=>False) I5 (fun b hb=>stat hb (fr5 b hb)) st5 stop) (fun r s6 ⟨hr,I6⟩=>?_) fun _ _ z=>bG z
   subst hr
   exact fin I6 qn
  ·refine cr (T.item X' rfl rfl rfl rfl i [] s5 _ H5 (fun _ _=>False) I5 (fun b hb=>stat hb (fr5 b hb)) st5 go) (fun r s6 ⟨u,hr,h6⟩=>?_) fun _ _ z=>bG z
   subst hr
   dsimp only
   intro Γ p hΓ
   obtain ⟨xv,H6,I6,r6,y6,st6,fr6⟩:∃ xv H',Inv X' [] (o::capt ix σ) H' s6∧RelV xv u∧J.yld i H5 xv H'∧tn (i+1) s6.heap∧∀ b∈fp,H' b=none:=h6 Γ p hΓ
   refine (?_:bj (model X.prog X.w) X.A (assign (.Name x px) X'.env u) _ _ s6) Γ p hΓ
   have I6':=I6.pinned (fun b hb=>stat hb (fr6 b hb)) (T.obj _ _ st6)
   refine cr (AN (i:=0) (X:=X') (pos:=px) hNd rfl (.inl hx0) (.inr hx0) _ s6 _ H6 xv u (fun σ' H'=>σ'=some xv::capt ix σ∧H'=H6) I6' r6 ⟨rfl,rfl⟩) (fun _ s7 h7=>?_) fun _ _ z=>bG z
   obtain ⟨σ7,H7,I7,rfl,rfl⟩:=h7
   refine cr (ht _ _ _ _ _ _ s7 _ H7 _ I7 (step xv H7 y6)) (fun b s8 ⟨H8,I8,q8⟩=>?_) fun _ _ z=>bG z
   have back:∀ {σ9:St}{H9:Hp}{s9:al}{ys':List V},Inv X' ([]++vD fp s6.heap) (some xv::capt ix σ) H9 s9→(∃ m',m' < n∧Pv (i+1) m' ys' H9) →
     ∃ m,m < n∧∃ i ys o H',Inv X' [] (o::capt ix σ) H' s9∧tn i s9.heap∧(∀ b∈fp,H' b=none)∧Pv i m ys H':=fun {σ9 H9 s9 ys'} I9 h9=>by
    obtain ⟨m',hm,p9⟩:=h9
    refine ⟨m',hm,i+1,ys',_,H9,I9.unpinned,T.keep _ _ _ st6 fun b hb o e=>(I9.pin (b,o) (aI _ (aI _ (pK hb e)))).1,fun b hb=>?_,p9⟩
    obtain ⟨o,e,d⟩:=T.obj _ _ st6 b hb
    exact (I9.pin (b,o) (aI _ (aI _ (pK hb e)))).2.1
   cases b with
   | false =>
    rw [if_neg a7] at q8 ⊢
    exact back (σ9:=[]) I8 q8
   | true =>
    rw [if_pos rfl] at q8 ⊢
    refine cr (he _ _ _ _ _ _ s8 _ H8 _ I8 q8) (fun w9 s9 ⟨v9,H9,I9,r9,hd9,hz9,q9⟩=>?_) fun _ _ z=>bG z
    refine cr (wF (X:=X') _ s9 _ H9 (.ref D) [v9] (.ref D) [w9] (fun _ H'=>H'=upd H9 D (.lst (ys++[v9]))) I9 rfl (.cons r9 .nil) ⟨D,ys,v9,rfl,rfl,hd9,hz9,rfl⟩) (fun _ s10 h10=>?_) fun _ _ z=>bG z
    obtain ⟨_,H10,I10,_,rfl⟩:=h10
    exact back (σ9:=[]) I10 q9
 exact codeAny_compStart_list loop (T.self _ 0 _ _ _ (T.keep _ _ _ st3 fun b hb o e=>k34 b o e) loop)
theorem uB (hc:X.calm=true) (S:CompOk X.N X.env.scope scope x fr ix) (hi:PI X (.Name x px) iter wi)
  (ht:∀ cl C s₃ H₃ fp,Et (blk X scope cl C (x::fr) s₃ H₃ fp) ifs tc) (he:∀ cl C s₃ H₃ fp,PE (blk X scope cl C (x::fr) s₃ H₃ fp) elt te)
  (hs:∀ v,cN iter X.env v=pure v:=by intro _;rfl):PE X (.ListComp elt [⟨.Name x px,iter,ifs,0⟩] scope pos) (Cf wi ix tc te):=by
 intro pins s σ H Q I h
 have hcells:∀ y∈scope.names,y.2=.free→∃ c,X.env.cells.lookup y.1=some c:=fun y hy hf=>I.ok.has y.1 (.inl (S.free y hy hf))
 rw [eval_ListComp]
 refine jL (use:=none) rfl hs (oE hcells) S.kind S.nm (thn (hi pins s σ H _ I h) fun v s1 h1=>thn h1 fun itv s2 h2=>?_)
 obtain ⟨it,fp,tn,J,H2,e,I2,T,st2,f2,q2⟩:=h2
 subst e
 refine w4 (PR:=fun acc C r s'=>compPost (model X.prog X.w) X.A X.xe none (EP X pins σ Q) acc C r s') hc S ht he hcells I2 T st2 f2 q2 fun D C H' s' I' hCn ⟨b1,b2,b3,b4⟩ hns q'=>?_
 obtain ⟨m',hn'⟩:=hns
 refine ⟨m',hn',fun h' hs'=>⟨.ref D,H',?_,rfl,q'⟩⟩
 exact I'.turned (t':=s'.toks) (it:=C) (fun b o hb e=>hs'.extBut b o hb e) hCn b1 (.inr b2) b3 b4
theorem uy {i:Nat}{y:Str}{py spos:Pos} (hN:X.N.Nodup) (hiy:X.N[i]?=some y) (hly:X.env.scope.names.lookup y=some .local) (hc:X.calm=true) (S:CompOk X.N X.env.scope scope x fr ix) (hi:PI X (.Name x px) iter wi)
  (ht:∀ cl C s₃ H₃ fp,Et (blk X scope cl C (x::fr) s₃ H₃ fp) ifs tc) (he:∀ cl C s₃ H₃ fp,PE (blk X scope cl C (x::fr) s₃ H₃ fp) elt te)
  (hsw:fA (.ListComp elt [⟨.Name x px,iter,ifs,0⟩] scope pos) (some (.Name y py)) spos.line X.env=pure true:=by rfl)
  (hs:∀ v,cN iter X.env v=pure v:=by intro _;rfl):PS X (.Assign [.Name y py] (.ListComp elt [⟨.Name x px,iter,ifs,0⟩] scope pos) spos) (HX (Cf wi ix tc te) (EC i)):=by
 intro pins s σ H D0 I h
 have hcells:∀ y∈scope.names,y.2=.free→∃ c,X.env.cells.lookup y.1=some c:=fun y hy hf=>I.ok.has y.1 (.inl (S.free y hy hf))
 rw [exec_Assign_Name_used _ _ _ _ hsw]
 refine aF (iy (aF ?_))
 show bj _ X.A (do let _ ← comprehension (.ListComp elt [⟨.Name x px,iter,ifs,0⟩] scope pos) scope X.env _ (newList []) false (eval iter X.env) (some (assign (.Name y py) X.env))) _ _ s
 refine aF (cr (jL (use:=some (assign (.Name y py) X.env)) (Q:=fun _ s'=>SP X pins D0 .next s') rfl hs (oE hcells) S.kind S.nm
  (thn (hi pins s σ H _ I h) fun v s1 h1=>thn h1 fun itv s2 h2=>?_)) (fun _ s' hq=>aX (aX hq)) fun _ _ e=>e)
 obtain ⟨it,fp,tn,J,H2,e,I2,T,st2,f2,q2⟩:=h2
 subst e
 refine w4 (PR:=fun acc C r s'=>compPost (model X.prog X.w) X.A X.xe (some (assign (.Name y py) X.env)) (fun _ s'=>SP X pins D0 .next s') acc C r s') hc S ht he hcells I2 T st2 f2 q2 fun D C H' s' I' hCn ⟨b1,b2,b3,b4⟩ hns q'=>?_
 obtain ⟨m',hn'⟩:=hns
 refine wpAny_assign_Name (wp (v:=.ref D) I' hN hiy (.inl hly) rfl (fun s5 I5 sb=>?_) (.inr hly))
 obtain ⟨a5,sb,ha5⟩:=sb
 have hCa:C≠a5:=by
  rcases ha5 with z | z
  ·rw [z];exact b1
  ·exact (b3 _ _ z).symm
 refine ⟨m',hn'.sameBut sb hCa,fun h' hs'=>⟨_,H',?_,q'⟩⟩
 exact I5.turned (t':=s5.toks) (it:=C) (fun b o hb e=>hs'.extBut b o hb e) hCn b1 (.inr b2) b3 b4
end
abbrev bmV:List af:=[.type "ValueError",.type "Exception",.type "BaseException",.type "object"]
structure Exc (K:aa) (C:ae):Prop where
 ex:cK K C bmV "ValueError.__new__"=true
 ga:ar K (.ref C) "__getattribute__"=some (some (.builtin "BaseException.__getattribute__"))
 gt:ar K (.ref C) "__getattr__"=some none
 ha:ar K (.ref C) "__class__"=some (some (.builtin "object.__class__"))
 hn:fI K (.builtin "object.__class__") "__get__"=some (some (.builtin "getset_descriptor.__get__"))
 ht:im K (.builtin "object.__class__")=some true
 mo:bK K C (.type "object")=some true
 mb:bK K C (.type "BaseException")=some true
theorem Exc.obj {K:aa}{C:ae}{h:bM} (Z:Exc K C) (X:K.In h):∃ bm N nm q bs hdct sn sub ab col dd k0 k1 k2 k3 k5 mN,
  h.get? C=some (excClassObj nm q C N bs bm hdct sn sub ab col dd k0 k1 k2 k3 k5 "ValueError.__new__")∧h.Ns N mN∧mN "__init__"=none∧OwnTail h bmV bm:=by
 have z:=Z.ex
 unfold cK at z
 split at z
 case h_2=>cases z
 case h_1 ddv cdv slv lk =>
  split at z
  case h_2=>cases z
  case h_1 D bm a0 a1 a2 a3 nw a5 em es =>
   have z':((((D=C∧nw="ValueError.__new__")∧cdv.hasDel=false)∧PySem.W.tailIn K bmV bm=true)∧PySem.W.nsOkIn K cdv.ns=true)∧aw K cdv.ns "__init__"=some none:=by
    simpa only [bJ,beq_iff_eq,Bool.not_eq_true'] using z
   obtain ⟨⟨⟨⟨⟨eD,eN⟩,hdl⟩,tl⟩,okn⟩,ini⟩:=z'
   rcases cdv with ⟨c1,c2,c3,c4,c5,c6,c7,c8,c9,c10,c11⟩
   have em:c3=.ref D::bm:=em
   have hdl:c11=false:=hdl
   have okn:PySem.W.nsOkIn K c4=true:=okn
   have ini:aw K c4 "__init__"=some none:=ini
   subst em hdl eD eN
   have esl:slv=#[a0,a1,a2,a3,some (.builtin "ValueError.__new__"),a5]:=by
    rcases slv with ⟨l⟩
    have es:l=_:=es
    rw [es]
   subst esl
   refine ⟨bm,c4,c1,c5,c2,c6,c7,c8,c9,c10,ddv,a0,a1,a2,a3,a5,h.nsMap c4,X _ _ lk,?_,?_,PySem.W.tail_of_in X tl⟩
   ·exact .of_isNs (PySem.W.isNs_of_in X okn)
   ·exact PySem.W.nsMap_none_of_in X okn ini
def ExcAt (h:bM) (a C:ae):Prop:=∃ ox vs,h.get? a=some ox∧ox.cls=.ref C∧ox.data=.fields vs
def excO (C a:ae):HO:=.ext fun h=>ExcAt h a C
section
variable {prog:aU}{w:bw}{A:bL}{E:af→al→Prop}{s:al}{K:aa}{x C:ae}{ox:Obj}
open PySem.W Builtin Builtin.ObjectAttr Builtin.Getset_descriptor in
end
section
variable {K:aa}{C a:ae}
open PySem.W in
end
section
variable {X:Cx}
end
theorem ObjOk.there {P:aU}{w:bw}{H:Hp}{h:bM}{a:ae}{o:HO} (x:ObjOk P w H h a o):∃ ob,h.get? a=some ob:=by
 cases o with
 | lst xs=>obtain ⟨_,_,_,_,e⟩:=x;exact ⟨_,e⟩
 | tup xs=>obtain ⟨_,_,_,ob,e,_⟩:=x;exact ⟨ob,e⟩
 | dK kvs=>obtain ⟨_,_,_,_,ob,_,_,e,_⟩:=x;exact ⟨ob,e⟩
 | dT kvs=>obtain ⟨_,_,_,_,ob,_,_,e,_⟩:=x;exact ⟨ob,e⟩
 | set S n=>obtain ⟨ob,_,_,_,e,_⟩:=x;exact ⟨ob,e⟩
 | ins C dx fs=>obtain ⟨_,_,_,e,_⟩:=x;exact ⟨_,e⟩
 | own y=>exact x
 | xd fs=>obtain ⟨_,⟨ob,_,_,e,_⟩,_⟩:=x;exact ⟨ob,e⟩
 | rng lo hi=>obtain ⟨_,_,_,e⟩:=x;exact ⟨_,e⟩
 | frz ob u=>obtain ⟨e,_⟩:=x;exact ⟨ob,e⟩
 | tbl ps=>exact ⟨_,show h.get? a=some _ from x⟩
 | met f y=>exact ⟨_,show h.get? a=some _ from x⟩
 | ext φ=>exact x.2.1
def CXo (P:aU) (w:bw):CXT:=fun outer H s E e s'=>∃ (a C:ae) (t:af) (B:bM) (H':Hp),e=.ref a∧s'.os=s.os∧gu s'.gens∧Un (frs outer) [] H H' s.heap s'.heap∧HOk P w H' s'.heap ∧
 Heap.FlyingW B outer a (.ref C) t s'.heap∧(∀ b u o,H' b=some u→s'.heap.get? b=some o→B.get? b=some o) ∧
 (∀ b o,s.heap.get? b=some o→b∉frs outer→∃ o',s'.heap.get? b=some o'∧B.get? b=some o')∧E (.ref C) none H'
theorem kM {P:aU}{w:bw}{X:Cx}:l9 (CXo P w) X E0:=fun _ _ _ _ _ _ _ h=>by
 obtain ⟨_,_,_,_,_,_,_,_,_,_,_,_,_,z⟩:=h
 exact z.elim
theorem Fq {env:Env}{outer:List Env}{L b:ae} (hf:env.frame=some L) (h:b∈frs (env::outer)):b=L∨b∈frs outer:=by
 unfold frs at h ⊢
 rw [en,hf] at h
 exact ai.mp h
theorem uQ {env:Env}{outer:List Env}{L b:ae} (hf:env.frame=some L) (h:b∈frs outer):b∈frs (env::outer):=by
 unfold frs at h ⊢
 rw [en,hf]
 exact ag _ h
section
variable {P:aU}{w:bw}{K:aa}{mg:Str→Option af}{base:bM}{N:List Str}{qual:Str}{scope:dR}{f:ae}{cd:af}{A:bL}{outer:List Env}{s₀:al}{H₀:Hp}{E:XK}
theorem kQ:l9 (CXo P w) (wZ (CXo P w) P w K mg base N qual scope f cd A outer s₀ H₀ E) E:=by
 intro pins σ H s e s' I h
 obtain ⟨a,C,t,B,H',rfl,hos,hbare,un,hok,fl,inB,oldB,hE⟩:=h
 have hlow:∀ b o,s₀.heap.get? b=some o→b≠s₀.heap.objs.size:=fun b o e=>aR (aH e)
 refine wpAny_leaves_onW (L:=s₀.heap.objs.size) (by exact I.ok.frames) rfl fl fun h' fl' up=>?_
 have eq1:frs (dY qual scope s₀.heap.objs.size f cd::outer)=s₀.heap.objs.size::frs outer:=rfl
 have notin:∀ b o,s₀.heap.get? b=some o→b∉frs outer→b∉frs (dY qual scope s₀.heap.objs.size f cd::outer):=fun b o e n z=>by
  rw [eq1] at z
  rcases ai.mp z with z | z
  ·exact hlow b o e z
  ·exact n z
 have ub:Un (frs outer) [] H₀ H s₀.heap s.heap:=I.base
 have old:∀ b o,s₀.heap.get? b=some o→b∉frs outer→∃ o',h'.get? b=some o'∧B.get? b=some o':=fun b o e n=>by
  obtain ⟨o1,e1⟩:=ub.there b o e (by simp)
  obtain ⟨o2,e2,e3⟩:=oldB b o1 e1 (notin b o e n)
  exact ⟨o2,fl'.1 b o2 e3,e3⟩
 refine ⟨a,C,t,B,H',rfl,hos.trans I.os,hbare,⟨fun b o e n hb _=>?_,fun b o e n hb _=>?_,fun b o e n _=>?_,fun b o e _=>?_,fun b xs e=>un.tups b xs (ub.tups b xs e),fun b o u e=>un.frzs b o u (ub.frzs b o u e),fun b ps e=>?_⟩,?_,fl',?_,old,hE⟩
 ·have e1:=ub.keep b o e n hb (by simp)
  have n1:=ub.free b o e n (by simp)
  have e2:=un.keep b o e1 n1 (notin b o e hb) (by simp)
  obtain ⟨o2,e3,e4⟩:=oldB b o e1 (notin b o e hb)
  rw [e2] at e3
  cases e3
  exact fl'.1 b o e4
 ·obtain ⟨sl,e1⟩:=ub.slot b o e n hb (by simp)
  have n1:=ub.free b o e n (by simp)
  obtain ⟨sl2,e2⟩:=un.slot b _ e1 n1 (uQ rfl hb) (by simp)
  obtain ⟨_,o3,e3,hnf⟩:=fl.2.2.1.mem (show b∈(dY qual scope s₀.heap.objs.size f cd::outer).filterMap (·.frame) from uQ rfl hb)
  obtain ⟨sl3,e4⟩:=up b _ e3 hnf
  rw [e2] at e3
  cases e3
  exact ⟨sl3,e4⟩
 ·obtain ⟨o1,e1⟩:=ub.there b o e (by simp)
  exact un.free b o1 e1 (ub.free b o e n (by simp)) (by simp)
 ·by_cases hb:b∈frs outer
  ·obtain ⟨_,o3,e3,hnf⟩:=fl.2.2.1.mem (show b∈(dY qual scope s₀.heap.objs.size f cd::outer).filterMap (·.frame) from uQ rfl hb)
   obtain ⟨sl3,e4⟩:=up b _ e3 hnf
   exact ⟨_,e4⟩
  ·obtain ⟨o',e1,_⟩:=old b o e hb
   exact ⟨o',e1⟩
 ·obtain ⟨m1,e1⟩:=ub.tbls b ps e
  obtain ⟨m2,e2⟩:=un.tbls b _ e1
  exact ⟨m1++m2,by rw [e2,j0]⟩
 ·intro b u e
  refine (hok b u e).stay (fun c v hc q=>?_) (fun _ q=>q) fun _ _ q=>q
  rcases hc with z | z
  ·subst z
   exact fl'.1 _ _ (inB _ u v e q)
  ·exact fl'.1 _ _ (inB c _ v z q)
 ·intro b u o e q
  obtain ⟨o1,q1⟩:∃ o1,s'.heap.get? b=some o1:=by
   exact (hok b u e).there
  have z:=inB b u o1 e q1
  have z2:=fl'.1 b o1 z
  rw [z2] at q
  cases q
  exact z
def va (X:Cx) (E:XK):Prop:=∀ (pins:List (ae×Obj)) (σ:St) (H:Hp) (s:al) (a C:ae) (vs:List af) (h':bM),Inv X pins σ H s→Heap.MadeExcOf s.heap h' a (.ref C) vs→E (.ref C) none H→X.xe (.ref a) { s with heap:=h' }
theorem uH:va (wZ (CXo P w) P w K mg base N qual scope f cd A outer s₀ H₀ E) E:=by
 intro pins σ H s a C vs h₁ I mk hE
 have stk:s.heap.FunFrames base (dY qual scope s₀.heap.objs.size f cd::outer):=I.stack
 let l:List ae:=frs (dY qual scope s₀.heap.objs.size f cd::outer)
 have hin:∀ env∈(dY qual scope s₀.heap.objs.size f cd::outer),∀ b,env.frame=some b→b∈l:=fun env he b hb=>g6.mpr ⟨env,he,hb⟩
 have toB:∀ b o,s.heap.get? b=some o→b∉l→(ge s.heap l).get? b=some o:=fun b o e n=>jj l e n
 have ub:Un (frs outer) [] H₀ H s₀.heap s.heap:=I.base
 have notin:∀ b o,s₀.heap.get? b=some o→b∉frs outer→b∉l:=fun b o e n z=>by
  rcases Fq (L:=s₀.heap.objs.size) rfl z with z | z
  ·exact aR (aH e) z
  ·exact n z
 have trkN:∀ b u,H b=some u→b∉l:=fun b u e z=>by
  rw [I.stkFree b z] at e
  cases e
 refine wpAny_leaves_madeW (L:=s₀.heap.objs.size) (base:=ge s.heap l) (h:=s.heap) (by exact I.ok.frames) rfl (fun b o e=>jx l e) (PySem.W.funFrames_hide stk hin) mk fun h' t fl tup nt up=>?_
 have keepB:∀ b o,s.heap.get? b=some o→b∉l→h'.get? b=some o:=fun b o e n=>fl.1 b o (toB b o e n)
 have frame:∀ b o,s.heap.get? b=some o→b∈l→∃ sl,h'.get? b=some { o with slots:=sl }:=fun b o e hb=>by
  obtain ⟨_,o3,e3,hnf⟩:=stk.mem hb
  rw [e] at e3
  cases e3
  exact up b o (mk.keeps b o e) hnf
 refine ⟨a,C,.ref t,ge s.heap l,H,rfl,I.os,I.bare,⟨fun b o e n hb _=>?_,fun b o e n hb _=>?_,fun b o e n _=>ub.free b o e n (by simp),fun b o e _=>?_,ub.tups,ub.frzs,ub.tbls⟩,fun b u e=>?_,fl,fun b u o e q=>?_,fun b o e n=>?_,hE⟩
 ·exact keepB b o (ub.keep b o e n hb (by simp)) (notin b o e hb)
 ·obtain ⟨sl,e1⟩:=ub.slot b o e n hb (by simp)
  obtain ⟨sl2,e2⟩:=frame b _ e1 (uQ rfl hb)
  exact ⟨sl2,e2⟩
 ·obtain ⟨o1,e1⟩:=ub.there b o e (by simp)
  by_cases hb:b∈l
  ·obtain ⟨sl2,e2⟩:=frame b _ e1 hb
   exact ⟨_,e2⟩
  ·exact ⟨o1,keepB b o1 e1 hb⟩
 ·refine (I.hok b u e).stay (fun c v hc q=>?_) (fun _ q=>q) fun _ _ q=>q
  rcases hc with z | z
  ·subst z
   exact keepB _ v q (trkN _ u e)
  ·exact keepB c v q (trkN c _ z)
 ·obtain ⟨o1,q1⟩:=(I.hok b u e).there
  have z2:=keepB b o1 q1 (trkN b u e)
  have q:h'.get? b=some o:=q
  rw [z2] at q
  cases q
  exact toB b _ q1 (trkN b u e)
 ·obtain ⟨o1,e1⟩:=ub.there b o e (by simp)
  exact ⟨o1,keepB b o1 e1 (notin b o e n),toB b o1 e1 (notin b o e n)⟩
end
section
variable {X:Cx}{C:ae}{x:Str}{np cpos pos:Pos}{e:bo}{te:TE}{E:XK}
def GI (C:ae) (E:XK) (te:TE):TS:=fun _ σ H=>te σ H fun _ H1=>E (.ref C) none H1
theorem nk (Z:Exc X.K C) (hg:Gl X x) (hm:X.mg x=some (.ref C)) (hc:X.calm=true) (ha:PE X e te) (hp:va X E)
  (hd:(x == ("__debug__":Str))=false:=by decide) (he:aP [e] X.env=[(false,eval e X.env)]:=by rfl):PS X (.Raise (some (.Call (.Name x np) [e] [] cpos)) none pos) (GI C E te):=by
 intro pins s σ H D I h
 obtain ⟨bm,N,nm,q,bs,hdct,sn,sub,ab,col,dd,k0,k1,k2,k3,k5,mN,hC,hN,hni,T⟩:=Z.obj I.mod.kin
 refine wpAny_Raise_call_subT (C:=C) (nm:=nm) (q:=q) (N:=N) (bs:=bs) (bm:=bm) (hdct:=hdct) (sn:=sn) (sub:=sub) (ab:=ab) (col:=col) (dd:=dd) (k0:=k0) (k1:=k1) (k2:=k2) (k3:=k3) (k5:=k5)
  iC (mN:=mN) (T.hasType iC.hasBase) (I.ok.hd hc) (by rw [he];rfl) hni (sJ I hg hm ⟨rfl,?_⟩ hd)
 rw [he]
 refine fg ?_
 show bj _ _ (spliced ((false,eval e X.env)::[])) _ _ s
 refine dA (thn (ha pins s σ H _ I h) fun u s₂ ⟨v,H2,I2,r2,q2⟩=>?_)
 refine eO ⟨rfl,?_,I2.bk _ _ hC,hN.keeps I2.bk,T.keeps I2.bk,fun h' a mk=>hp pins σ H2 s₂ a C _ h' I2 mk q2⟩
 show 1≤aQ
 decide
end
section
variable {M:Model}{A:bL}{E:af→al→Prop}{K:aa}{C D e:ae}{oe:Obj}
end
section
variable {X:Cx}{k:Nat}{f C:ae}{fd:bV}{ps:List Str}{sp:Sp}{dvs:List V}{ds:List af}{x m:Str}{p pos apos:Pos}{e o:bo}{es:List bo}{ta:TE}{t:TA}
end
section
variable {X:Cx}{e:bo}{te:XK→TE}{pos:Pos}
def hnd (X:Cx) (a:ae):Cx:={ X with A:=X.A.mark (some (.ref a)),calm:=false,xe:=fun _ _=>False }
end
section
variable {X:Cx}{body:List bX}{x n:Str}{np hp pos:Pos}{b₀:bX}{bs:List bX}{tb:XK→TS}{th:TS}{D:ae}{i:Nat}
def leS (a b:Str):Bool:=!fe b.cps.toList a.cps.toList
theorem rJ:∀ a:List Nat,fe a a=false
 | []=>rfl
 | a::r=>by
  show (decide (a < a) || (a == a && fe r r))=false
  rw [rJ r]
  simp
theorem qg:∀ {a b c:List Nat},fe a b=true→fe b c=true→fe a c=true
 | [],_,[],h1,h2=>by
  cases ‹List Nat› with
  | nil=>exact h1
  | cons x r=>exact absurd (show fe (x::r) []=true from h2) (by intro z;cases z)
 | [],_,_::_,_,_=>rfl
 | a::r,[],_,h1,_=>by cases h1
 | a::r,b::t,[],_,h2=>by cases h2
 | a::r,b::t,c::u,h1,h2=>by
  have h1:(decide (a < b) || (a == b && fe r t))=true:=h1
  have h2:(decide (b < c) || (b == c && fe t u))=true:=h2
  show (decide (a < c) || (a == c && fe r u))=true
  simp only [dH,decide_eq_true_eq,bJ,beq_iff_eq] at h1 h2 ⊢
  rcases h1 with h1 | ⟨e1,g1⟩
  ·rcases h2 with h2 | ⟨e2,g2⟩
   ·exact .inl (by omega)
   ·exact .inl (by omega)
  ·rcases h2 with h2 | ⟨e2,g2⟩
   ·exact .inl (by omega)
   ·exact .inr ⟨e1.trans e2,qg g1 g2⟩
theorem sX:∀ a b:List Nat,fe a b=false→fe b a=false→a=b
 | [],[],_,_=>rfl
 | [],_::_,h,_=>by cases h
 | _::_,[],_,h=>by cases h
 | a::r,b::t,h1,h2=>by
  have h1:(decide (a < b) || (a == b && fe r t))=false:=h1
  have h2:(decide (b < a) || (b == a && fe t r))=false:=h2
  simp only [Bool.or_eq_false_iff,decide_eq_false_iff_not,Bool.and_eq_false_iff,beq_eq_false_iff_ne] at h1 h2
  have e:a=b:=by omega
  subst e
  rw [sX r t (h1.2.resolve_left fun z=>z rfl) (h2.2.resolve_left fun z=>z rfl)]
theorem BG (a b:Str):leS a b=true∨leS b a=true:=by
 unfold leS
 cases h:fe b.cps.toList a.cps.toList with
 | false=>exact .inl rfl
 | true =>
  right
  cases h2:fe a.cps.toList b.cps.toList with
  | false=>rfl
  | true =>
   have:=qg h h2
   rw [rJ] at this
   cases this
theorem Dv {a b:Str} (h1:leS a b=true) (h2:leS b a=true):a=b:=by
 unfold leS at h1 h2
 have e:=sX b.cps.toList a.cps.toList (by simpa using h1) (by simpa using h2)
 obtain ⟨⟨x⟩⟩:=a
 obtain ⟨⟨y⟩⟩:=b
 have e:y=x:=e
 rw [e]
theorem wH {a b c:Str} (h1:leS a b=true) (h2:leS b c=true):leS a c=true:=by
 unfold leS at *
 cases h:fe c.cps.toList a.cps.toList with
 | false=>rfl
 | true =>
  exfalso
  have h1:fe b.cps.toList a.cps.toList=false:=by simpa using h1
  have h2:fe c.cps.toList b.cps.toList=false:=by simpa using h2
  cases h3:fe b.cps.toList c.cps.toList with
  | true =>
   have:=qg h3 h
   rw [h1] at this
   cases this
  | false =>
   have e:=sX _ _ h3 h2
   rw [e,h] at h1
   cases h1
def Cp (x:Str):List Str→List Str
 | []=>[x]
 | y::r=>if leS x y then x::y::r else y::Cp x r
def srt:List Str→List Str
 | []=>[]
 | x::r=>Cp x (srt r)
theorem tf (x:Str):∀ l,(Cp x l).Perm (x::l)
 | []=>.refl _
 | y::r=>by
  unfold Cp
  split
  ·exact .refl _
  ·exact ((tf x r).cons y).trans (.swap x y r)
theorem kI:∀ l,(srt l).Perm l
 | []=>.refl _
 | x::r=>(tf x (srt r)).trans ((kI r).cons x)
theorem tH (x:Str):∀ l,l.Pairwise (fun a b=>leS a b=true)→(Cp x l).Pairwise (fun a b=>leS a b=true)
 | [],_=>by simp [Cp]
 | y::r,h=>by
  obtain ⟨h1,h2⟩:=cS.mp h
  unfold Cp
  split
  ·rename_i hxy
   refine cS.mpr ⟨fun z hz=>?_,h⟩
   rcases ai.mp hz with rfl | hz
   ·exact hxy
   ·exact wH hxy (h1 z hz)
  ·rename_i hxy
   refine cS.mpr ⟨fun z hz=>?_,tH x r h2⟩
   rcases ai.mp ((tf x r).mem_iff.mp hz) with rfl | hz
   ·exact (BG z y).resolve_left hxy
   ·exact h1 z hz
theorem pE:∀ l,(srt l).Pairwise (fun a b=>leS a b=true)
 | []=>.nil
 | x::r=>tH x _ (pE r)
theorem om:∀ {l m:List Str},l.Perm m→l.Pairwise (fun a b=>leS a b=true)→m.Pairwise (fun a b=>leS a b=true)→l=m
 | [],m,p,_,_=>(List.nil_perm.mp p).symm
 | a::l,[],p,_,_=>absurd (List.perm_nil.mp p) (by simp)
 | a::l,b::m,p,h1,h2=>by
  obtain ⟨a1,a2⟩:=cS.mp h1
  obtain ⟨b1,b2⟩:=cS.mp h2
  have e:a=b:=by
   have ha:a∈b::m:=p.mem_iff.mp am
   have hb:b∈a::l:=p.mem_iff.mpr am
   rcases ai.mp ha with e | ha
   ·exact e
   ·rcases ai.mp hb with e | hb
    ·exact e.symm
    ·exact Dv (a1 b hb) (b1 a ha)
  subst e
  rw [om (List.Perm.cons_inv p) a2 b2]
theorem yk {l m:List Str} (p:l.Perm m):srt l=srt m:=om ((kI l).trans (p.trans (kI m).symm)) (pE l) (pE m)
theorem kE (l:List Str):(srt l).length=l.length:=(kI l).length_eq
theorem pH:∀ (p:Str) (l:List Str),risingS p l=true→(p::l).Pairwise (fun a b=>leS a b=true)
 | p,[],_=>List.pairwise_singleton _ _
 | p,x::r,h=>by
  have h:(!fe x.cps.toList p.cps.toList && risingS x r)=true:=h
  rw [bJ] at h
  have ih:=pH x r h.2
  refine cS.mpr ⟨fun z hz=>?_,ih⟩
  rcases ai.mp hz with rfl | hz
  ·exact h.1
  ·exact wH (show leS p x=true from h.1) ((cS.mp ih).1 z hz)
theorem sB:∀ (l:List Str),sortedS l=true→l.Pairwise (fun a b=>leS a b=true)
 | [],_=>.nil
 | x::r,h=>pH x r h
theorem Eg {l m:List Str} (p:l.Perm m) (h:sortedS l=true):l=srt m:=om (p.trans (kI m).symm) (sB l h) (pE m)
theorem uk:∀ {ss:List Str}{us:List af},Vals (ss.map V.str) us→StrsAre us ss
 | [],_,.nil=>.nil
 | x::ss,_,.cons ⟨t,e⟩ r=>by subst e;exact .cons x t (uk r)
theorem xM:∀ {ss:List Str}{us:List af},StrsAre us ss→Vals (ss.map V.str) us
 | _,_,.nil=>.nil
 | _,_,.cons x t r=>.cons ⟨t,rfl⟩ (xM r)
theorem AB:∀ (xs:List V) (us:List af),xs.length=us.length→(∀ (j:Nat) x u,xs[j]?=some x→us[j]?=some u→RelV x u)→Vals xs us
 | [],[],_,_=>.nil
 | [],_::_,e,_=>by cases e
 | _::_,[],e,_=>by cases e
 | x::xs,u::us,e,h=>.cons (h 0 x u rfl rfl) (AB xs us (Nat.succ.inj e) fun j y v e1 e2=>h (j+1) y v (by simpa using e1) (by simpa using e2))
theorem call_sortedL:CallR X (.builtin "sorted") (fun xs H Q=>∃ p ss,xs=[.ref p]∧SqL X.K H p (ss.map V.str)∧ss.length < 64∧∀ l,H l=none→Q (.ref l) (upd H l (.lst ((srt ss).map V.str)))):=by
 intro pins s σ H xs us Q I r h
 obtain ⟨p,ss,rfl,hq,hz,q⟩:=h
 obtain ⟨u,rfl,ru⟩:=oJ r
 cases ru
 obtain ⟨its,rv,pl,hz2⟩:=I.list hq
 have hS:=uk rv
 have hl:its.length=ss.length:=by have:=rv.length;rw [aj] at this;exact this.symm
 refine sorted_strs pl.isList hS (by omega) fun out ss' h1 h2 h3=>?_
 have e:=Eg h2 h3
 subst e
 obtain ⟨ep,hat⟩:=sortedAll_at s.heap its out
 have hf:H (s.heap.objs.size+1)=none:=I.hok.fresh (eL _)
 refine ⟨.ref _,_,I.laid (t':=s.toks) (fun b o e=>sortedAll_old e) (eL _) (o:=.lst ((srt ss).map V.str)) ?_,rfl,q _ hf⟩
 refine ⟨?_,out.toList,ep,xM h1,?_⟩
 ·rw [aj,kE]
  exact aJ (cF hz) (by decide)
 ·rw [hat]
theorem nG (hc:X.calm=true):CallR X (.builtin "sorted") (fun xs H Q=>∃ p kvs ss,xs=[.ref p]∧Rd H p (.dK kvs)∧kvs.map (·.1)=ss.map aE∧ss.length < 64∧∀ l,H l=none→Q (.ref l) (upd H l (.lst ((srt ss).map V.str)))):=by
 intro pins s σ H xs us Q I r h
 obtain ⟨p,kvs,ss,rfl,hq,hk,hz,q⟩:=h
 obtain ⟨u,rfl,ru⟩:=oJ r
 cases ru
 obtain ⟨z,hsys,vs,rel,dd⟩:=si I.hok hq
 obtain ⟨ep,hat⟩:=dd.dictAt
 have hlen:vs.length=ss.length:=by
  have e1:=rel.length
  have e2:=congrArg dC hk
  rw [aj,aj] at e2
  omega
 refine Calls.call_function_entry kind_sorted plain_sorted entry_sorted (args_sorted1 _) ?_
 unfold Builtin.«sorted»
 refine aF (m:=checkCount "sorted" 1 1 _) (aX ?_)
 refine aF (PySem.W.kdu_collect (A:=X.A.in1) (PySem.W.kdl_dict (knd:=k8 X.prog X.w) (kvs:=vs) (ep:=ep) hsys) (I.ok.hd hc) hat (aJ (by omega) (show 64≤aQ by decide)) fun h' tk acc hkp hacc=>?_)
 have hl:acc.toList.length=vs.length:=by rw [fw];exact hacc.1
 have hS:StrsAre acc.toList ss:=by
  refine uk (AB _ _ (by rw [aj,hl,hlen]) fun j x u e1 e2=>?_)
  obtain ⟨k,y,e3,e4⟩:=hacc.2 j u (by rw [← Array.getElem?_toList];exact e2)
  have e5:(vs.map (·.1))[j]?=some k:=by rw [bi,e3];rfl
  rw [← rel.keys,hk,bi] at e5
  rw [bi] at e1
  cases e6:ss[j]? with
  | none=>rw [e6] at e1;cases e1
  | some z =>
   rw [e6] at e1 e5
   have e1:V.str z=x:=aZ e1
   have e5:aE z=k:=aZ e5
   subst e1 e5
   rcases k6 (k:=aE z) (v:=u) e4 with ⟨i,t,q1,_⟩ | ⟨y',t,q1,q2⟩
   ·cases q1
   ·cases q1
    exact ⟨t,q2⟩
 refine aF (wpAny_newList ?_ (by rw [hl];exact aJ (by omega) (show 64≤aQ by decide)))
 have hoL:(h'.push (seqObj "list" acc.toList.toArray 0)).get? h'.objs.size=some (seqObj "list" acc.toList.toArray 0):=ba _ rfl
 refine aF (dU (wpAny_call_entry slot_list_sort ⟨_,hoL,rfl⟩ entry_list_sort (list_sort_treeK strKind_oneLt hoL hS.keysOf (fun v₁ v₂ lC e=>keyKind_strs (by rw [← e];exact hS)) (by omega) fun st' a1 a2=>⟨_,rfl,?_⟩) (args_list_sort _)))
 refine aX ⟨_,rfl,?_⟩
 obtain ⟨ss',h1,h2,h3⟩:=sorted_out_str hS a1 a2
 have e:=Eg h2 h3
 subst e
 have I1:Inv X pins σ H { s with heap:=h',toks:=tk }:=I.kept hkp
 obtain ⟨e',hat'⟩:=sortedHeap_at (out:=(arrOf st').map (·.2)) hoL
 have hf:H h'.objs.size=none:=I1.hok.fresh (aA _)
 refine ⟨.ref _,_,I1.laid (t':=tk) (fun b o e=>?_) (aA _) (o:=.lst ((srt ss).map V.str)) ?_,rfl,q _ hf⟩
 ·have hlt:b < h'.objs.size:=aH e
  refine (sortedHeap_old (aR hlt) (by rw [size_push'];exact ir hlt)).trans ?_
  exact av _ e
 ·refine ⟨?_,((arrOf st').map (·.2)).toList,e',xM h1,?_⟩
  ·rw [aj,kE]
   exact aJ (cF hz) (by decide)
  ·exact hat'
end
def Its (x:Str):It:=⟨fun i _=>i < x.cps.size,fun i H v H'=>H'=H∧∃ c,x.cps[i]?=some c∧v=.str ⟨#[c]⟩,fun i _=>x.cps.size≤i⟩
theorem wj {P:aU}{w:bw}{A:bL} (hh:A.handled=none) (it:ae) (x:Str) (t:Tok):Walks P w A it [it] [it] x.cps.size (SignAt x) (fun i h=>h.IsStrIter it (g8 x) x t i):=by
 unfold g8
 split
 ·exact Walks.strAscii hh it x t
 ·exact Walks.strWide hh it x t
theorem Cw {P:aU}{w:bw}{K:aa}{tg:bo} (it:ae) (x:Str) (t:Tok):Turn P w K tg (Its x) [it] it (fun i h=>i≤x.cps.size∧h.IsStrIter it (g8 x) x t i) where
 mem:=by simp
 obj:=fun i h st b hb=>by
  have e:b=it:=by simpa using hb
  subst e
  obtain ⟨_,o,e,c,d⟩:=st
  exact ⟨o,e,fun v z=>by rw [d] at z;cases z⟩
 keep:=fun i h h' st k=>by
  obtain ⟨z,o,e,c,d⟩:=st
  exact ⟨z,o,k it (by simp) o e,c,d⟩
 item:=by
  intro X hP hw hK hc i pins s σ H E I hf st hg
  subst hP hw hK
  obtain ⟨f0,f1,f2,f3,f4,f5⟩:=hf it (by simp)
  refine (wj (I.ok.hd hc) it x t).item i s _ _ hg st.2 fun v h' tk hv st' kk=>?_
  obtain ⟨c,u,e1,e2⟩:=hv
  subst e2
  have I1:Inv X pins σ H { s with heap:=h',toks:=tk }:=I.turned (fun b o hb e=>kk b o (by simpa using hb) e) f0 f1 f3 f4 f5
  obtain ⟨o,e,cl,d⟩:=id st'
  refine ⟨_,rfl,z8 (s:={ s with heap:=h',toks:=tk }) e cl d ?_ ⟨.str ⟨#[c]⟩,H,I1,⟨u,rfl⟩,⟨rfl,c,e1,rfl⟩,⟨hg,st'⟩,fun b hb=>(hf b hb).1⟩⟩
  unfold g8
  split <;> decide
 done:=by
  intro X hP hw hK hc i pins s σ H E I hf st hg
  subst hP hw hK
  obtain ⟨f0,f1,f2,f3,f4,f5⟩:=hf it (by simp)
  have e:i=x.cps.size:=iP st.1 hg
  subst e
  exact (wj (I.ok.hd hc) it x t).done s _ _ st.2 fun h' tk kk=>⟨rfl,I.turned (fun b o hb e=>kk b o (by simpa using hb) e) f0 f1 f3 f4 f5⟩
 self:=fun A i s Q E st h=>by
  obtain ⟨_,st⟩:=st
  unfold g8 at st
  split at st
  ·exact wpAny_pyIter_striter_ascii st h
  ·exact wpAny_pyIter_striter_wide st h
section
variable {X:Cx}{tg:bo}
def iStr (tl:TE):TI:=fun σ H R=>tl σ H fun v H1=>∃ x,v=.str x∧R (Its x) H1
theorem GX {l:bo}{tl:TE} (hl:PE X l tl):PI X tg l (iStr tl):=by
 intro pins s σ H R I h
 refine thn (hl pins s σ H _ I h) fun v s1 ⟨y,H1,I1,r1,q1⟩=>?_
 obtain ⟨x,e,q⟩:=q1
 subst e
 obtain ⟨t,rfl⟩:=r1
 refine wpAny_pyIter_strU ?_
 refine ⟨s1.heap.objs.size,[s1.heap.objs.size],_,_,H1,rfl,I1.kept (t':=s1.toks) fun b o e=>av _ e,Cw _ x t,⟨bD _,_,ba _ rfl,rfl,rfl⟩,fun b hb=>?_,q⟩
 have e:b=s1.heap.objs.size:=by simpa using hb
 subst e
 exact I1.fpOk (aA _) (I1.hok.fresh (aA _))
end
section
variable {X:Cx}{pins:List (ae×Obj)}{σ:St}{H:Hp}{s:al}{d:ae}{kvs:List (Key×V)}{ob:Obj}
theorem Inv.redo {u u':HO} (I:Inv X pins σ H s) (hd:H d=some u) (n1:∀ y,u≠.own y) (n2:∀ xs,u≠.tup xs) (n3:∀ o v,X.H₀ d≠some (.frz o v)) (n4:∀ ps,u≠.tbl ps) (ok:ObjOk X.prog X.w (upd H d u') s.heap d u'):Inv X pins σ (upd H d u') s:=by
 have ne:∀ b v,H b=some v→v≠u→b≠d:=fun b v e hv z=>by
  subst z
  rw [hd] at e
  exact hv (aZ e).symm
 have nn:∀ b,H b=none→b≠d:=fun b e z=>by
  subst z
  rw [hd] at e
  cases e
 refine ⟨I.ok,I.os,I.bare,⟨I.base.keep,I.base.slot,fun b o e z hx=>?_,I.base.there,fun b xs e=>?_,fun b o v e=>?_,fun b ps e=>?_⟩,I.loc,I.cell,?_,fun y c e=>?_,fun p hp=>?_,fun b v e=>?_,I.len⟩
 ·have:=I.base.free b o e z hx
  rw [ki (nn b this)]
  exact this
 ·have:=I.base.tups b xs e
  rw [ki (ne b _ this fun z=>n2 xs z.symm)]
  exact this
 ·have:=I.base.frzs b o v e
  have hb:b≠d:=fun z=>by subst z;exact n3 o v e
  rw [ki hb]
  exact this
 ·obtain ⟨m,e1⟩:=I.base.tbls b ps e
  exact ⟨m,by rw [ki (ne b _ e1 fun z=>n4 _ z.symm)];exact e1⟩
 ·rw [ki (nn _ I.free)]
  exact I.free
 ·rw [ki (nn _ (I.freeC y c e))]
  exact I.freeC y c e
 ·obtain ⟨e1,z1,r1⟩:=I.pin p hp
  exact ⟨e1,by rw [ki (nn _ z1)];exact z1,r1⟩
 ·by_cases hb:b=d
  ·subst hb
   rw [km] at e
   cases e
   exact ok
  ·rw [ki hb] at e
   exact (I.hok b v e).stay (fun c v _ q=>q) (fun c q=>by rw [ki (ne c _ q fun z=>n1 _ z.symm)];exact q) fun c xs q=>by rw [ki (ne c _ q fun z=>n2 _ z.symm)];exact q
theorem Gx {P:aU}{w:bw}{H H':Hp}{h:bM} (x:ObjOk P w H h d (.dK kvs)):ObjOk P w H' h d (.dK kvs):=x
theorem Inv.freeze (I:Inv X pins σ H s) (hd:H d=some (.dK kvs)) (ho:s.heap.get? d=some ob):Inv X pins σ (upd H d (.frz ob (.dK kvs))) s :=
 I.redo hd (by intro y z;cases z) (by intro y z;cases z) (fun o v z=>by rw [I.base.frzs d o v z] at hd;cases hd) (by intro y z;cases z) ⟨ho,Gx (I.hok d _ hd)⟩
theorem Inv.thaw (I:Inv X pins σ H s) (hd:H d=some (.frz ob (.dK kvs))) (n3:∀ o v,X.H₀ d≠some (.frz o v)):Inv X pins σ (upd H d (.dK kvs)) s :=
 I.redo hd (by intro y z;cases z) (by intro y z;cases z) n3 (by intro y z;cases z) (Gx (show ObjOk X.prog X.w H s.heap d (.frz ob (.dK kvs)) from I.hok d _ hd).2)
end
def Itd (d:ae) (ob:Obj) (kvs:List (Key×V)):It :=
 ⟨fun i H=>i < kvs.length∧H d=some (.frz ob (.dK kvs)),fun i H v H'=>H'=H∧∃ kv,kvs[i]?=some kv∧v=kV kv.1,fun i H=>kvs.length≤i∧H d=some (.frz ob (.dK kvs))⟩
theorem Ei {X:Cx}{pins:List (ae×Obj)}{σ:St}{H:Hp}{s:al}{d:ae}{kvs:List (Key×V)}{ob:Obj}{es0:Array DictEntry}{ep:Nat} (I:Inv X pins σ H s) (hd:H d=some (.frz ob (.dK kvs))) (he:ob.data=.dict es0 ep) :
  ∃ vs,KV kvs vs∧s.heap.DictAt (k8 X.prog X.w) d vs ep:=by
 obtain ⟨e,z,_,vs,rel,dd⟩:=(show ObjOk X.prog X.w H s.heap d (.frz ob (.dK kvs)) from I.hok d _ hd)
 obtain ⟨ep',o,es,e1,e2,e3,e4⟩:=dd.dictAt
 rw [e] at e1
 cases e1
 rw [he] at e3
 cases e3
 exact ⟨vs,rel,ob,_,e,e2,he,e4⟩
theorem wo {P:aU}{w:bw}{K:aa}{tg:bo} (d it:ae) (ob:Obj) (kvs:List (Key×V)) (es0:Array DictEntry) (ep:Nat) (he:ob.data=.dict es0 ep) :
  Turn P w K tg (Itd d ob kvs) [it] it (fun i h=>i≤kvs.length∧h.IsKeyIter it d i kvs.length ep) where
 mem:=by simp
 obj:=fun i h st b hb=>by
  have e:b=it:=by simpa using hb
  subst e
  obtain ⟨_,o,e,c,d⟩:=st
  exact ⟨o,e,fun v z=>by rw [d] at z;cases z⟩
 keep:=fun i h h' st k=>by
  obtain ⟨z,o,e,c,d⟩:=st
  exact ⟨z,o,k it (by simp) o e,c,d⟩
 item:=by
  intro X hP hw hK hc i pins s σ H E I hf st hg
  subst hP hw hK
  obtain ⟨f0,f1,f2,f3,f4,f5⟩:=hf it (by simp)
  obtain ⟨hi,hd⟩:=hg
  obtain ⟨vs,rel,at_⟩:=Ei I hd he
  have hl:=rel.length
  have hiv:i < vs.length:=by omega
  have hit:s.heap.IsKeyIter it d i vs.length ep:=by rw [← hl];exact st.2
  refine wpAny_pyNext_dict_item (k:=vs[i].1) (v:=vs[i].2) hit at_ (by simp [hiv]) fun key h' hk it' sb=>?_
  have I1:Inv X pins σ H { s with heap:=h' }:=I.turned (t':=s.toks) (fun b o hb e=>(sb.2 b hb).trans e) f0 f1 f3 f4 f5
  have hkey:kvs[i].1=vs[i].1:=by
   have e1:(kvs.map (·.1))[i]?=(vs.map (·.1))[i]?:=by rw [rel.keys]
   rw [bi,bi,bh hi,bh hiv] at e1
   exact aZ e1
  obtain ⟨o,e,cl,dt⟩:=id it'
  refine ⟨key,rfl,z8 (s:={ s with heap:=h' }) e cl dt (by decide) ⟨kV kvs[i].1,H,I1,?_,⟨rfl,kvs[i],by simp [hi],rfl⟩,⟨hi,by rw [hl];exact it'⟩,fun b hb=>(hf b hb).1⟩⟩
  rw [hkey]
  have hk:v6 vs[i].1 key=true:=hk
  rcases k6 hk with ⟨z,t,q1,q2⟩ | ⟨z,t,q1,q2⟩
  ·rw [q1,q2];exact ⟨t,rfl⟩
  ·rw [q1,q2];exact ⟨t,rfl⟩
 done:=by
  intro X hP hw hK hc i pins s σ H E I hf st hg
  subst hP hw hK
  obtain ⟨f0,f1,f2,f3,f4,f5⟩:=hf it (by simp)
  obtain ⟨hi,hd⟩:=hg
  obtain ⟨vs,rel,at_⟩:=Ei I hd he
  have hl:=rel.length
  have hit:s.heap.IsKeyIter it d i vs.length ep:=by rw [← hl];exact st.2
  exact wpAny_pyNext_dict_end (I.ok.hd hc) hit at_ (by simp;omega) fun h' eb=>⟨rfl,I.turned (t':=s.toks) (fun b o hb e=>eb b o hb e) f0 f1 f3 f4 f5⟩
 self:=fun A i s Q E st h=>by
  exact wpAny_pyIter_keyiter st.2 h
section
variable {X:Cx}{tg:bo}
def Nm (x:Str):Prop:=x.length≤100∧∀ c∈x.cps.toList,c < 16 ^ 8
theorem wB:OpR X (bT .LtE) (fun x y H Q=>∃ i j,x=.str i∧y=.str j∧Q (.bl (!decide (j.cps.toList < i.cps.toList))) H):=by
 intro pins s σ H x y v u Q I rx ry h
 obtain ⟨i,j,rfl,rfl,q⟩:=h
 obtain ⟨t,rfl⟩:=rx
 obtain ⟨t',rfl⟩:=ry
 exact PySem.P.le_str ⟨.bl _,H,I,rfl,q⟩
theorem Fp:MtR X "str.join" (fun x vs H Q=>∃ (z:Str) (p:ae) (ys:List Str),x=.str z∧vs=[.ref p]∧SqL X.K H p (ys.map V.str)∧(ys.map (·.length)).sum+ys.length * z.length≤16777216∧Q (.str (gj z ys)) H):=by
 intro pins s σ H x vs v us Q I rx rv h
 obtain ⟨z,p,ys,rfl,rfl,hq,hz,q⟩:=h
 obtain ⟨t,rfl⟩:=rx
 obtain ⟨u,rfl,ru⟩:=rv.one
 cases ru
 obtain ⟨its,r,pl,hz2⟩:=I.list hq
 exact join_list pl.isList (by simpa using uk r) hz fun t' k=>⟨.str _,H,I.tok k,⟨t',rfl⟩,q⟩
theorem zo:CallR X (.builtin "all") (fun xs H Q=>∃ (p:ae) (bs:List Bool),xs=[.ref p]∧SqL X.K H p (bs.map V.bl)∧X.calm=true∧Q (.bl (bs.all id)) H):=by
 intro pins s σ H xs us Q I r h
 obtain ⟨p,bs,rfl,hq,hc,q⟩:=h
 obtain ⟨u,rfl,ru⟩:=oJ r
 cases ru
 obtain ⟨its,rv,pl,hz2⟩:=I.list hq
 have hl:its.length=bs.length:=by have:=rv.length;rw [aj] at this;exact this.symm
 have hne:p≠s.heap.objs.size:=by obtain ⟨o,ho,_⟩:=pl.isList;exact aR (aH ho)
 refine call_all_walk (e8 pl.isList ?_)
 refine ⟨s.heap.objs.size,_,_,its.toArray.size,_,_,fun i=>(bs[i]?).getD true,rfl,jO (show X.A.in1.handled=none from I.ok.hd hc) _ p hne its.toArray,⟨⟨_,ba _ rfl,rfl,rfl⟩,pl.isList.push _⟩,?_,fun h' tk hk=>?_⟩
 ·intro i v s' Q' E' hP hQ
  have hP:its.toArray[i]?=some v:=hP
  have hv:its[i]?=some v:=by simpa using hP
  have hi:i < its.length:=(aW.mp hv).1
  obtain ⟨u',hu',ru'⟩:=rv.get (i:=i) (x:=.bl bs[i]) (by simp [← hl,hi])
  rw [hv] at hu'
  cases hu'
  cases ru'
  refine de ?_
  have e:(bs[i]?).getD true=bs[i]:=by simp [← hl,hi]
  rw [← e]
  exact hQ
 ·have I1:Inv X pins σ H { s with heap:=h',toks:=tk }:=I.kept fun b o e=>hk b o (fun z=>by
   have e1:b=s.heap.objs.size:=by simpa using z
   exact absurd (aH e) (by rw [e1];exact cE _)) (av _ e)
  refine ⟨.bl _,H,I1,rfl,?_⟩
  have e:(cy its.toArray.size).all (fun i=>(bs[i]?).getD true)=bs.all id:=by
   rw [aT,hl,bP,cn,cn]
   constructor
   ·intro z b hb
    obtain ⟨i,hi,rfl⟩:=jG.mp hb
    have:=z i (ce.mpr hi)
    simpa [hi] using this
   ·intro z i hi
    have hi:=ce.mp hi
    simpa [hi] using z bs[i] (cm hi)
  rw [e]
  exact q
def FG:List V→List V→Bool
 | [],[]=>true
 | x::xs,y::ys=>eqV x y && FG xs ys
 | _,_=>false
theorem zg:∀ {xs ys:List V},xs.length=ys.length→FG xs ys=(cy xs.length).all fun i=>eqV ((xs[i]?).getD .non) ((ys[i]?).getD .non)
 | [],[],_=>rfl
 | [],_::_,h=>by cases h
 | _::_,[],h=>by cases h
 | x::xs,y::ys,h=>by
  show (eqV x y && FG xs ys)=_
  rw [zg (Nat.succ.inj h),aB,jr,gW,fE]
  rfl
theorem z7 {A:bL}{s:al}{xs ys:List V}{us ws:List af} (rx:Vals xs us) (ry:Vals ys ws) (hl:xs.length=ys.length) (fx:xs.all pL=true) (fy:ys.all pL=true) :
  ∀ j (h1:j < us.toArray.size) (h2:j < ws.toArray.size),jT A s us.toArray[j] ws.toArray[j] (eqV ((xs[j]?).getD .non) ((ys[j]?).getD .non)):=by
 intro j h1 h2
 have e1:=rx.length
 have e2:=ry.length
 have h1':j < xs.length:=by rw [e1];simpa using h1
 have h2':j < ys.length:=by rw [e2];simpa using h2
 obtain ⟨u,hu,ru⟩:=rx.get (i:=j) (x:=xs[j]) (by simp [h1'])
 obtain ⟨w,hw,rw'⟩:=ry.get (i:=j) (x:=ys[j]) (by simp [h2'])
 have e3:us.toArray[j]=u:=by
  have:us[j]?=some us.toArray[j]:=by simp [show j < us.length by simpa using h1]
  rw [hu] at this
  exact (aZ this).symm
 have e4:ws.toArray[j]=w:=by
  have:ws[j]?=some ws.toArray[j]:=by simp [show j < ws.length by simpa using h2]
  rw [hw] at this
  exact (aZ this).symm
 rw [e3,e4]
 have e5:(xs[j]?).getD .non=xs[j]:=by simp [h1']
 have e6:(ys[j]?).getD .non=ys[j]:=by simp [h2']
 rw [e5,e6]
 exact Ek ru rw' (cn.mp fx _ (cm h1')) (cn.mp fy _ (cm h2'))
def gLst (K:aa) (n:Nat) (t:TGs):TG:=fun v σ H Q=>∃ a xs,v=.ref a∧SqL K H a xs∧xs.length=n∧t xs σ H Q
theorem G0 {es:List bo}{k:Nat}{t:TGs}{n:Nat}{pos:Pos} (hc:X.calm=true) (h:PGs X es t)
  (hn:(cH es X.env).length=n:=by rfl) (hst:(cH es X.env).findIdx? (·.1)=none:=by rfl):PG X (.Tuple es k pos) (gLst X.K n t):=by
 intro pins s σ H v u Q I r hw
 obtain ⟨a,xs,e1,hq,hl,hw⟩:=hw
 subst e1
 cases r
 obtain ⟨its,rv,ht,hz⟩:=I.list hq
 rw [assign_Tuple]
 refine aF (iy ?_)
 unfold unpack
 have hsz:(cH es X.env).length=its.toArray.size:=by simp [hn,← hl,rv.length]
 rw [hsz,hst]
 refine aF (dU (PySem.W.kun_itemsOf (I.ok.hd hc) ht.isList fun h' hx=>?_))
 have I1:Inv X pins σ H { s with heap:=h' }:=I.kept (t':=s.toks) fun b o e=>hx b o (aR (aH e)) e
 exact h pins _ σ H xs _ Q I1 (by simpa using rv) hw
def PJ (X:Cx) (es:List bo) (t:St→Hp→(Hp→Prop)→Prop):Prop:=∀ (pins:List (ae×Obj)) (s:al) (σ:St) (H:Hp) (acc:Str) (n:Nat) (Q:Hp→Prop),Inv X pins σ H s→acc.length≤2000 * n→n+es.length≤100→t σ H Q →
 Joins (model X.prog X.w) X.A X.xe (evalEach es X.env) acc (fun out s1=>out.length≤aQ∧∃ H',Inv X pins σ H' s1∧Q H') s
def jNil:St→Hp→(Hp→Prop)→Prop:=fun _ H Q=>Q H
def jRep (te:TE) (t:St→Hp→(Hp→Prop)→Prop):St→Hp→(Hp→Prop)→Prop:=fun σ H Q=>te σ H fun v H1=>(∃ x,v=.str x∧Nm x)∧t σ H1 Q
theorem vC:PJ X [] jNil:=fun pins s σ H acc n Q I h1 h2 h=>⟨aJ h1 (aJ (j6 2000 (show n≤100 by simpa using h2)) (by decide)),H,I,h⟩
theorem pR (a b:Str):(a++b).length=a.length+b.length:=strLen_append a b
theorem vB {c:Str}{j pos}{es:List bo}{t:St→Hp→(Hp→Prop)→Prop} (hr:PJ X es t) (hl:c.length≤2000:=by decide):PJ X (.Constant (.str c) j pos::es) t:=by
 intro pins s σ H acc n Q I h1 h2 h
 have h2:n+(es.length+1)≤100:=h2
 refine jV ⟨c,s.toks,rfl,?_,hr pins _ σ H (acc++c) (n+1) Q (I.tok _) ?_ (by omega) h⟩
 ·rw [pR]
  exact aJ (show acc.length+c.length≤2000 * 101 by omega) (by decide)
 ·rw [pR]
  omega
theorem tZ {e:bo}{pos:Pos}{es:List bo}{te:TE}{t:St→Hp→(Hp→Prop)→Prop} (he:PE X e te) (hr:PJ X es t):PJ X (.FormattedValue e 114 none pos::es) (jRep te t):=by
 intro pins s σ H acc n Q I h1 h2 h
 have h2:n+(es.length+1)≤100:=h2
 refine wpAny_FormattedValue_repr (thn (he pins s σ H _ I h) fun v s1 ⟨y,H1,I1,r1,⟨x,e1,nm⟩,q1⟩=>?_)
 subst e1
 obtain ⟨tk,rfl⟩:=r1
 have hlen:(gI x).length≤1002:=aJ (PySem.StrLaws.reprText_len x nm.2) (by have:=nm.1;omega)
 have hsz:(gI x).length≤aQ:=aJ hlen (by decide)
 have fin:∀ tk s2,Inv X pins σ H1 s2→∃ y t',gK (gI x) tk=.str y t'∧(acc++y).length≤aQ∧Joins (model X.prog X.w) X.A X.xe (evalEach es X.env) (acc++y) (fun out s1=>out.length≤aQ∧∃ H',Inv X pins σ H' s1∧Q H') s2:=fun tk s2 I2=>by
  refine ⟨_,tk,rfl,?_,hr pins s2 σ H1 _ (n+1) Q I2 ?_ (by omega) q1⟩
  ·rw [pR]
   exact aJ (show acc.length+(gI x).length≤2000 * 101 by omega) (by decide)
  ·rw [pR]
   omega
 refine wpAny_pyReprObj_str ?_ hsz
 exact wpAny_formatField_str (fin _ _ (I1.tok _)) (fin _ _ ((I1.tok _).tok _)) hsz
def tFs (t:St→Hp→(Hp→Prop)→Prop):TE:=fun σ H Q=>t σ H fun H1=>∀ x,Q (.str x) H1
theorem zN {v₁ v₂:bo}{lC:List bo}{pos:Pos}{t:St→Hp→(Hp→Prop)→Prop} (h:PJ X (v₁::v₂::lC) t) (hl:(v₁::v₂::lC).length≤100:=by decide):PE X (.JoinedStr (v₁::v₂::lC) pos) (tFs t):=by
 intro pins s σ H Q I hq
 refine wpAny_JoinedStr ?_
 have:=h pins s σ H fc 0 (fun H1=>∀ x,Q (.str x) H1) I (bD _) (by omega) hq
 revert this
 generalize evalEach (v₁::v₂::lC) X.env=parts
 generalize fc=acc
 intro this
 clear h hl hq I
 induction parts generalizing acc s with
 | nil =>
  obtain ⟨z,H',I',q⟩:=this
  exact ⟨z,.str acc,H',I'.tok _,⟨_,rfl⟩,q acc⟩
 | cons p ps ih =>
  refine cr this (fun v s1 ⟨y,t,e,z,k⟩=>⟨y,t,e,z,ih _ _ k⟩) fun _ _ z=>z
end
def Fn (P:aU) (w:bw) (K:aa) (mg:Str→Option af) (base:bM) (x:Str) (k:Nat) (ps:List Str) (sp:Sp):Prop :=
 ∃ f fd,FnOk P w K mg base (CXo P w) k f fd ps sp∧mg x=some (.ref f)∧az K (.ref f)=true∧Binds K fd ps []
def Mt (P:aU) (w:bw) (K:aa) (mg:Str→Option af) (base:bM) (C:ae) (m:Str) (k:Nat) (ps:List Str) (sp:Sp):Prop :=
 ∃ f fd,FnOk P w K mg base (CXo P w) k f fd ps sp∧Meth K C m f∧Cls K C∧Binds K fd ps []
def MkB (P:aU) (w:bw) (K:aa) (mg:Str→Option af) (base:bM) (x:Str) (C:ae) (k:Nat) (ps:List Str) (sp:Sp):Prop :=
 ∃ f fd,FnOk P w K mg base (CXo P w) k f fd ps sp∧mg x=some (.ref C)∧Mk K C f∧Binds K fd ps []
section
variable {X:Cx}{k:Nat}{C:ae}{ps:List Str}{sp:Sp}{E:XK}{x m:Str}{p pos apos:Pos}{e o:bo}{es:List bo}{ta:TE}{t:TA}
theorem sd (F:Fn X.prog X.w X.K X.mg X.base x k ps sp) (hr:Room k X.A) (hg:Gl X x) (hx:l9 (CXo X.prog X.w) X E) (ha:PA X (e::es) t) (hdb:(x == ("__debug__":Str))=false:=by decide)
  (he:aP (e::es) X.env=(false,eval e X.env)::aP es X.env:=by rfl) (hpl:(cA pos (aP es X.env)).any (·.1)=false:=by rfl):PE X (.Call (.Name x p) (e::es) [] pos) (Ew sp [] E t):=by
 obtain ⟨f,fd,F,hm,hk,hb⟩:=F
 exact Fa F hr hg hm hk hb .nil hx ha hdb he hpl
theorem qL {pl:Sem Bool} (he:PE X o ta) (M:Mt X.prog X.w X.K X.mg X.base C m k ps sp) (hr:Room k X.A) (hx:l9 (CXo X.prog X.w) X E) (ha:PA X (e::es) t)
  (hst:aP (e::es) X.env=(false,eval e X.env)::aP es X.env:=by rfl) (hpl:(cA pos (aP es X.env)).any (·.1)=false:=by rfl)
  (ht:eval (.Call (.Attribute o m apos) (e::es) [] pos) X.env=(do
   let ov ← eval o X.env
   gs apos.atName
   let (f,first) ← holding [ov] (fX ov m pl)
   iL pos f first (cA pos (aP (e::es) X.env)) (fb pos (dg [] X.env))):=by rfl):PE X (.Call (.Attribute o m apos) (e::es) [] pos) (Ce C m sp [] E ta t):=by
 obtain ⟨f,fd,F,hm,c,hb⟩:=M
 exact E9 (pl:=pl) he c hm F hr hb .nil hx ha hst hpl ht
theorem G1 {pl:Sem Bool} (he:PE X o ta) (M:Mt X.prog X.w X.K X.mg X.base C m k ps sp) (hr:Room k X.A) (hx:l9 (CXo X.prog X.w) X E)
  (ht:eval (.Call (.Attribute o m apos) [] [] pos) X.env=(do
   let ov ← eval o X.env
   gs apos.atName
   let (f,first) ← holding [ov] (fX ov m pl)
   iL pos f first (cA pos (aP [] X.env)) (fb pos (dg [] X.env))):=by rfl):PE X (.Call (.Attribute o m apos) [] [] pos) (Ce C m sp [] E ta Cn):=by
 obtain ⟨f,fd,F,hm,c,hb⟩:=M
 exact Dc (pl:=pl) he c hm F hr hb .nil hx ht
theorem G2 (M:MkB X.prog X.w X.K X.mg X.base x C k ps sp) (hr:Room (k+1) X.A) (hg:Gl X x) (hx:l9 (CXo X.prog X.w) X E) (hdb:(x == ("__debug__":Str))=false:=by decide):PE X (.Call (.Name x p) [] [] pos) (F5 C sp [] E Cn):=by
 obtain ⟨f,fd,F,hm,mk,hb⟩:=M
 exact Dd mk F hr hg hm hb .nil hx hdb
theorem oU:OpR X (cY .FloorDiv) (rI (fun _ j=>0 < j∧j.natAbs.log2 < 9000) fun i j=>.int (i / j)):=opI fun i j _ _ _ _ _ hc q=>by
 have h1:(0:Int) < j:=hc.1
 exact floordiv_int (by omega) (by rw [i0 i (by omega)];exact q) (.inl (PyProof.noPylong_of_log2 hc.2))
end
section
variable {P:aU}{w:bw}{K:aa}{mg:Str→Option af}{base:bM}
theorem Fun.okN {x qual:Str}{st:bX}{f:ae}{fd:bV}{N ps:List Str}{k:Nat}{sp:Sp} (F:Fun K x qual st f fd) (S:FnScope N ps (kh st)) (len:∀ vs H Q E,sp vs H Q E→vs.length=ps.length)
  (hbody:∀ (cdv:af) (A:bL) (outer:List Env) (s:al) (H:Hp) (vs:List V) (Q:VK) (E:XK),Room k (A.deeper (dY qual (kh st) s.heap.objs.size f cdv))→sp vs H Q E →
   ∃ t,PSs (wZ (CXo P w) P w K mg base N qual (kh st) f cdv A outer s H E).nox (mR st) t∧t { nx:=fun _ H'=>Q .non H',rt:=Q } (start N vs) H):FnOk P w K mg base (CXo P w) (k+1) f fd ps sp:=by
 obtain ⟨oc,od,kV,doc,pm,an,cdv,ct,osl,rfl,lk,hcd⟩:=F.ex
 refine ED lk hcd S len fun A outer s H vs Q E hr hsp=>?_
 obtain ⟨t,h,q⟩:=hbody cdv A outer s H vs Q E hr hsp
 exact ⟨t,h.nox,q⟩
theorem Fun.okX {x qual:Str}{st:bX}{f:ae}{fd:bV}{N ps:List Str}{k:Nat}{sp:Sp} (F:Fun K x qual st f fd) (S:FnScope N ps (kh st)) (len:∀ vs H Q E,sp vs H Q E→vs.length=ps.length)
  (hbody:∀ (cdv:af) (A:bL) (outer:List Env) (s:al) (H:Hp) (vs:List V) (Q:VK) (E:XK),Room k (A.deeper (dY qual (kh st) s.heap.objs.size f cdv))→sp vs H Q E →
   ∃ t,PSs (wZ (CXo P w) P w K mg base N qual (kh st) f cdv A outer s H E) (mR st) t∧t { nx:=fun _ H'=>Q .non H',rt:=Q } (start N vs) H):FnOk P w K mg base (CXo P w) (k+1) f fd ps sp:=by
 obtain ⟨oc,od,kV,doc,pm,an,cdv,ct,osl,rfl,lk,hcd⟩:=F.ex
 exact ED lk hcd S len fun A outer s H vs Q E hr hsp=>hbody cdv A outer s H vs Q E hr hsp
end
theorem A4 {J:It}{tc:TT}{te:TE}{cap:St}{D:ae}{Q:VK}{H1:Hp} (n:Nat) (R:Nat→List V→Hp→Prop) (h0:R 0 [] (upd H1 D (.lst []))) (hn:n≤aQ) (hD:∀ i ys H,R i ys H→H D=some (.lst ys))
  (hgo:∀ i ys H,i < n→R i ys H→J.go i H)
  (hstep:∀ i ys H x H',i < n→R i ys H→J.yld i H x H'→∀ (Kt:VK) (Kf:Hp→Prop),(∀ v H5,H5 D=some (.lst ys)→R (i+1) (ys++[v]) (upd H5 D (.lst (ys++[v])))→Kt v H5)→(∀ H4,R (i+1) ys H4→Kf H4) →
   tc (some x::cap) H' fun b H4=>if b=true then te (some x::cap) H4 Kt else Kf H4)
  (hend:∀ ys H,ys.length≤n→R n ys H→J.stop n H∧Q (.ref D) H) :
  Ai J tc te cap D H1 Q:=by
 refine ⟨fun i m ys H=>i≤n∧m=n - i∧ys.length≤i∧R i ys H,⟨n,bD _,by simp,bD _,h0⟩,?_⟩
 rintro i m ys H2 ⟨hi,rfl,hl,r⟩
 by_cases hlt:i < n
 ·refine .inr ⟨hgo i ys H2 hlt r,fun x H3 y=>hstep i ys H2 x H3 hlt r y _ _ (fun v H5 e r'=>⟨e,by omega,n - (i+1),by omega,hlt,rfl,by rw [aC];simp;omega,r'⟩) fun H4 r'=>⟨n - (i+1),by omega,hlt,rfl,by omega,r'⟩⟩
 ·have e:i=n:=by omega
  subst e
  obtain ⟨h1,h2⟩:=hend ys H2 hl r
  exact .inl ⟨h1,hD i ys H2 r,h2⟩
theorem lV:bR "len"=some (.builtin "len"):=by decide +kernel
theorem nS:bR "sorted"=some (.builtin "sorted"):=by decide +kernel
theorem HV:bR "abs"=some (.builtin "abs"):=by decide +kernel
theorem yg:bR "all"=some (.builtin "all"):=by decide +kernel
theorem HS:bR "int"=some (.type "int"):=by decide +kernel
theorem FY:bR "list"=some (.type "list"):=by decide +kernel
end L2
namespace Fra
def Cop (a b:Int):Prop:=aM a b=1
def Low (q:Int×Int):Prop:=0 < q.2∧Cop q.1 q.2
def red (q:Int×Int):Int×Int:=(q.1 / (aM q.1 q.2:Int),q.2 / (aM q.1 q.2:Int))
theorem Cop.symm {a b:Int} (h:Cop a b):Cop b a:=by unfold Cop at *;rw [Int.gcd_comm];exact h
theorem nZ {a a' b:Int} (d:a ∣ a') (h:Cop a' b):Cop a b:=Nat.Coprime.coprime_dvd_left (eZ.mpr d) h
theorem uU {a b c:Int} (h1:Cop a c) (h2:Cop b c):Cop (a * b) c:=by
 unfold Cop aM at *
 rw [gP]
 exact Nat.Coprime.mul_left h1 h2
theorem xT {a b c:Int} (h:Cop a b) (d:a ∣ b * c):a ∣ c:=by
 have d':=eZ.mpr d
 rw [gP] at d'
 exact eZ.mp (Nat.Coprime.dvd_of_dvd_mul_left h d')
theorem A3 {a b k:Int} (h:Cop a b):Cop (a+k * b) b:=by
 unfold Cop at *
 have g1:(aM (a+k * b) b:Int) ∣ a+k * b:=fk ..
 have g2:(aM (a+k * b) b:Int) ∣ b:=cJ ..
 have g3:(aM (a+k * b) b:Int) ∣ a:=by
  have:=Int.dvd_sub g1 (Int.dvd_trans g2 (Int.dvd_mul_left k b))
  have e:a+k * b - k * b=a:=by omega
  rw [e] at this
  exact this
 have g4:=Int.dvd_gcd g3 g2
 rw [h] at g4
 exact Nat.dvd_one.mp g4
theorem uI {p q:Int×Int} (hp:Low p) (hq:Low q) (h:p.1 * q.2=q.1 * p.2):p=q:=by
 obtain ⟨a,b⟩:=p
 obtain ⟨c,d⟩:=q
 obtain ⟨h1,h2⟩:=hp
 obtain ⟨h3,h4⟩:=hq
 simp only at h h1 h2 h3 h4
 have d1:b ∣ d:=xT h2.symm ⟨c,by rw [h];exact bz _ _⟩
 have d2:d ∣ b:=xT h4.symm ⟨a,by rw [← h];exact bz _ _⟩
 have e:b=d:=Int.dvd_antisymm (by omega) (by omega) d1 d2
 subst e
 have:a=c:=fP (by omega) h
 rw [this]
theorem pP {q:Int×Int} (h:0 < q.2):Low (red q)∧(red q).1 * q.2=q.1 * (red q).2:=by
 obtain ⟨a,b⟩:=q
 simp only at h
 have hg:0 < aM a b:=bZ _ (by omega)
 obtain ⟨u,hu⟩:(aM a b:Int) ∣ a:=fk ..
 obtain ⟨v,hv⟩:(aM a b:Int) ∣ b:=cJ ..
 have eu:a / (aM a b:Int)=u:=iV (by omega) hu
 have ev:b / (aM a b:Int)=v:=iV (by omega) hv
 have hc:Cop u v:=by
  have e:aM ((aM a b:Int) * u) ((aM a b:Int) * v)=aM a b * aM u v:=by rw [iF];rfl
  rw [← hu,← hv] at e
  unfold Cop
  have:aM a b * aM u v=aM a b * 1:=by omega
  exact fV hg this
 have hv0:0 < v:=by
  by_cases z:0 < v
  ·exact z
  ·have:(aM a b:Int) * v≤0:=eK (by omega) (by omega)
   omega
 unfold red
 simp only
 rw [eu,ev]
 refine ⟨⟨hv0,hc⟩,?_⟩
 show u * b=a * v
 have e1:u * b=u * ((aM a b:Int) * v):=by rw [← hv]
 have e2:a * v=(aM a b:Int) * u * v:=by rw [← hu]
 rw [e1,e2,bz (aM a b:Int) u,a9]
theorem GS {p q:Int×Int} (hp:Low p) (hq:0 < q.2) (h:p.1 * q.2=q.1 * p.2):p=red q:=by
 obtain ⟨r1,r2⟩:=pP hq
 refine uI hp r1 ?_
 have e:p.1 * (red q).2 * q.2=(red q).1 * p.2 * q.2:=by
  rw [dE,h,dE q.1,← r2,dE]
 exact fP (by omega) e
def addK (p q:Int×Int):Int×Int :=
 let d:Int:=aM p.2 q.2
 let t:=p.1 * (q.2 / d)+q.1 * (p.2 / d)
 let e:Int:=aM t d
 (t / e,p.2 / d * (q.2 / e))
def lr (p q:Int×Int):Int×Int:=red (p.1 * q.2+q.1 * p.2,p.2 * q.2)
theorem F4 {p q:Int×Int} (hp:Low p) (hq:Low q):addK p q=lr p q:=by
 obtain ⟨n1,b1⟩:=p
 obtain ⟨n2,b2⟩:=q
 obtain ⟨h1,h2⟩:=hp
 obtain ⟨h3,h4⟩:=hq
 simp only at h1 h2 h3 h4
 unfold addK lr
 simp only
 have hd:0 < aM b1 b2:=bZ _ (by omega)
 obtain ⟨u,hu⟩:(aM b1 b2:Int) ∣ b1:=fk ..
 obtain ⟨v,hv⟩:(aM b1 b2:Int) ∣ b2:=cJ ..
 have huv:Cop u v:=by
  have e:aM ((aM b1 b2:Int) * u) ((aM b1 b2:Int) * v)=aM b1 b2 * aM u v:=by rw [iF];rfl
  rw [← hu,← hv] at e
  have:aM b1 b2 * aM u v=aM b1 b2 * 1:=by omega
  exact fV hd this
 generalize hD:(aM b1 b2:Int)=d at *
 have d0:0 < d:=by omega
 subst hu
 subst hv
 rw [eE _ (by omega:d≠0),eE _ (by omega:d≠0)]
 have pos:∀ {x:Int},0 < d * x→0 < x:=fun {x} hx=>by
  by_cases z:0 < x
  ·exact z
  ·have:d * x≤0:=eK (by omega) (by omega)
   omega
 have u0:=pos h1
 have v0:=pos h3
 have ct_u:Cop (n1 * v+n2 * u) u:=A3 (uU (nZ (Int.dvd_refl _) (nZ ⟨d,bz _ _⟩ h2.symm).symm) huv.symm)
 have ct_v:Cop (n1 * v+n2 * u) v:=by
  rw [Int.add_comm]
  exact A3 (uU (nZ ⟨d,bz _ _⟩ h4.symm).symm huv)
 generalize hT:n1 * v+n2 * u=t at *
 have he:0 < aM t d:=bZ _ (by omega)
 obtain ⟨t',ht⟩:(aM t d:Int) ∣ t:=fk ..
 obtain ⟨e',hE⟩:(aM t d:Int) ∣ d:=cJ ..
 have cte:Cop t' e':=by
  have e:aM ((aM t d:Int) * t') ((aM t d:Int) * e')=aM t d * aM t' e':=by rw [iF];rfl
  rw [← ht,← hE] at e
  have:aM t d * aM t' e'=aM t d * 1:=by omega
  exact fV he this
 generalize hG:(aM t d:Int)=g at *
 have g0:0 < g:=by omega
 have e0:0 < e':=by
  by_cases z:0 < e'
  ·exact z
  ·have:g * e'≤0:=eK (by omega) (by omega)
   omega
 have q1:t / g=t':=by rw [ht];exact eE _ (by omega)
 have q2:d * v / g=e' * v:=by
  rw [hE,a9]
  exact eE _ (by omega)
 rw [q1,q2]
 refine GS ⟨bF u0 (bF e0 v0),?_⟩ (bF h1 h3) ?_
 ·have d1:t' ∣ t:=⟨g,by rw [ht];exact bz _ _⟩
  exact (uU (nZ d1 ct_u).symm (uU cte.symm (nZ d1 ct_v).symm)).symm
 ·show t' * (d * u * (d * v))=(n1 * (d * v)+n2 * (d * u)) * (u * (e' * v))
  have e1:n1 * (d * v)+n2 * (d * u)=d * t:=by
   rw [← hT,Int.mul_add,eW,eW n2]
  rw [e1]
  have e2:d * t * (u * (e' * v))=d * (g * t') * (u * (e' * v)):=by rw [← ht]
  have e3:t' * (d * u * (d * v))=t' * (d * u * (g * e' * v)):=by rw [← hE]
  rw [e2,e3]
  simp only [a9,eW,bz]
theorem sw {p q:Int×Int} (hp:Low p) (hq:Low q):Low (lr p q):=(pP (bF hp.1 hq.1)).1
end Fra
namespace L2
open PySem PySem.Spec PyProof.Rows
abbrev fzO (o:Obj):HO:=.frz o (.own 0)
def fz (H:Hp) (cs:List (ae×Obj)):Hp:=fun b=>match cs.lookup b with
 | some o=>some (fzO o)
 | none=>H b
def ufz (H:Hp) (cs:List (ae×Obj)):Hp:=fun b=>match cs.lookup b with
 | some _=>none
 | none=>H b
section
variable {H:Hp}{cs:List (ae×Obj)}{b:ae}{o:Obj}
theorem tU (h:cs.lookup b=some o):fz H cs b=some (fzO o):=by unfold fz;rw [h]
theorem lB (h:cs.lookup b=none):fz H cs b=H b:=by unfold fz;rw [h]
theorem rR (h:cs.lookup b=some o):ufz H cs b=none:=by unfold ufz;rw [h]
theorem kY (h:cs.lookup b=none):ufz H cs b=H b:=by unfold ufz;rw [h]
theorem oQ (h:H b=none):ufz H cs b=none:=by
 cases q:cs.lookup b with
 | none=>rw [kY q];exact h
 | some o=>exact rR q
theorem Cv {u:HO} (h:ufz H cs b=some u):cs.lookup b=none∧H b=some u:=by
 cases q:cs.lookup b with
 | none=>exact ⟨rfl,(kY q).symm.trans h⟩
 | some o=>rw [rR q] at h;cases h
end
def Fzd (H:Hp) (cs:List (ae×Obj)):Prop:=∀ c o,cs.lookup c=some o→H c=some (fzO o)
theorem Fzd.out {H:Hp}{cs:List (ae×Obj)} (h:Fzd H cs) {b:ae}{u:HO} (e:H b=some u) (n:∀ o,u≠fzO o):cs.lookup b=none:=by
 cases q:cs.lookup b with
 | none=>rfl
 | some o=>rw [h b o q] at e;cases e;exact absurd rfl (n o)
theorem Fzd.out0 {H:Hp}{cs:List (ae×Obj)} (h:Fzd H cs) {b:ae} (e:H b=none):cs.lookup b=none:=by
 cases q:cs.lookup b with
 | none=>rfl
 | some o=>rw [h b o q] at e;cases e
section
variable {P:aU}{w:bw}{K:aa}{mg:Str→Option af}{base:bM}{A:bL}{outer:List Env}{s s':al}{H H2:Hp}{cs:List (ae×Obj)}
theorem AW {h h1:bM} (ok:HOk P w H h) (f:Fzd H cs) (k:∀ b o,h.get? b=some o→h1.get? b=some o):HOk P w (ufz H cs) h1:=fun b u e=>by
 obtain ⟨_,e⟩:=Cv e
 refine (ok b u e).stay (fun c v _ q=>k c v q) (fun c q=>?_) fun c xs q=>?_
 ·rw [kY (f.out q fun o z=>by cases z)];exact q
 ·rw [kY (f.out q fun o z=>by cases z)];exact q
theorem un_fz (f:Fzd H cs) (fs:∀ b∈frs outer,H b=none) (ok:HOk P w H s.heap) (u:Un (frs outer) [] (ufz H cs) H2 s.heap s'.heap) (ok2:HOk P w H2 s'.heap):Un (frs outer) [] H (fz H2 cs) s.heap s'.heap∧HOk P w (fz H2 cs) s'.heap:=by
 have at0:∀ c o,cs.lookup c=some o→s.heap.get? c=some o:=fun c o e=>(ok c _ (f c o e)).1
 have at2:∀ c o,cs.lookup c=some o→s'.heap.get? c=some o∧H2 c=none:=fun c o e=>by
  have nf:c∉frs outer:=fun z=>by have:=fs c z;rw [f c o e] at this;cases this
  exact ⟨u.keep c o (at0 c o e) (rR e) nf (by simp),u.free c o (at0 c o e) (rR e) (by simp)⟩
 have out2:∀ {b:ae}{v:HO},H2 b=some v→cs.lookup b=none:=fun {b v} e=>by
  cases q:cs.lookup b with
  | none=>rfl
  | some o=>rw [(at2 b o q).2] at e;cases e
 refine ⟨⟨fun b o e n hb hx=>u.keep b o e (oQ n) hb hx,fun b o e n hb hx=>u.slot b o e (oQ n) hb hx,fun b o e n hx=>?_,u.there,fun b xs e=>?_,fun b o v e=>?_,fun b ps e=>?_⟩,fun b v e=>?_⟩
 ·rw [lB (f.out0 n)]
  exact u.free b o e (oQ n) hx
 ·have q:=f.out e fun o z=>by cases z
  rw [lB q]
  exact u.tups b xs (by rw [kY q];exact e)
 ·cases q:cs.lookup b with
  | none =>
   rw [lB q]
   exact u.frzs b o v (by rw [kY q];exact e)
  | some o' =>
   rw [tU q,← e,f b o' q]
 ·have q:=f.out e fun o z=>by cases z
  rw [lB q]
  exact u.tbls b ps (by rw [kY q];exact e)
 ·cases q:cs.lookup b with
  | none =>
   rw [lB q] at e
   refine (ok2 b v e).stay (fun c v _ q=>q) (fun c q=>?_) fun c xs q=>?_
   ·rw [lB (out2 q)];exact q
   ·rw [lB (out2 q)];exact q
  | some o =>
   rw [tU q] at e
   cases e
   exact ⟨(at2 b o q).1,o,(at2 b o q).1⟩
end
structure LamOk (scope:dR) (x:Str) (fr:List Str):Prop where
 kind:scope.kind=.function
 co:scope.isCoroutine=false
 gen:scope.isGenerator=false
 cell:∀ y∈scope.names,y.2≠.cell
 par:scope.names.lookup x=some .local
 frs:∀ y∈fr,scope.names.lookup y=some .free
 nd:(x::fr).Nodup
structure CloOk (scope:dR) (fr:List Str) (cl:List (Str×ae)) (cs:List (ae×Obj)) (caps:List V):Prop where
 has:∀ y,scope.names.lookup y=some .free→∃ c,cl.lookup y=some c
 inj:∀ y z c,cl.lookup y=some c→cl.lookup z=some c→y=z
 cel:∀ y c,cl.lookup y=some c→∃ o u,cs.lookup c=some o∧o.data=.cell u
 val:∀ (i:Nat) (y:Str) (v:V),fr[i]?=some y→caps[i]?=some v→∃ c o u,cl.lookup y=some c∧cs.lookup c=some o∧o.data=.cell (some u)∧RelV v u
 len:caps.length=fr.length
abbrev El (qual:Str) (scope:dR) (L f:ae) (cd:af) (cl:List (Str×ae)):Env:=PySem.W.envX qual scope L f cd cl
def cxL (P:aU) (w:bw) (K:aa) (mg:Str→Option af) (base:bM) (N:List Str) (qual:Str) (scope:dR) (f:ae) (cd:af) (cl:List (Str×ae)) (A:bL) (outer:List Env) (s:al) (H:Hp):Cx where
 prog:=P
 w:=w
 K:=K
 mg:=mg
 base:=base
 A:=A.deeper (El qual scope s.heap.objs.size f cd cl)
 N:=N
 s₀:=s
 H₀:=H
 env:=El qual scope s.heap.objs.size f cd cl
 outer:=outer
 stack:=El qual scope s.heap.objs.size f cd cl::outer
 ex:=[]
 calm:=true
 fn:=fun _=>false
 pn:=[]
 xe:=fun _ _=>False
section
variable {P:aU}{w:bw}{K:aa}{mg:Str→Option af}{base:bM}{CX:CXT}{k:Nat}{f c':ae}{qual x:Str}{params:ik}{body:bo}{scope:dR}{cl:List (Str×ae)}{cs:List (ae×Obj)}{pm ctv:af}{fr:List Str}{caps:List V}{oc:Obj}
def spClo (f c':ae) (of oc:Obj) (cs:List (ae×Obj)) (caps:List V) (t:TE):Sp:=fun vs H Q _=>∃ v0,vs=[v0]∧H f=some (fzO of)∧H c'=some (fzO oc)∧Fzd H cs∧t (some v0::caps.map some) (ufz H cs) fun v H2=>(∀ c o,cs.lookup c=some o→H2 c=none)→Q v (fz H2 cs)
theorem HP {t:TE} (S:LamOk scope x fr) (C:CloOk scope fr cl cs caps) (hoc:∃ vs tq,oc.data=.fields vs∧vs[1]?=some (.str qual tq))
  (hbody:∀ (A:bL) (outer:List Env) (s:al) (H:Hp),Room k (A.deeper (El qual scope s.heap.objs.size f (.ref c') cl))→PE (cxL P w K mg base (x::fr) qual scope f (.ref c') cl A outer s H) body t) :
  FnOk P w K mg base CX (k+1) f (PySem.W.kla_fn "<lambda>" qual params body scope cl pm (.ref c') ctv) [x] (spClo f c' (cV "<lambda>" qual params body scope cl pm c' ctv) oc cs caps t):=by
 refine ⟨fun vs H Q E h=>by obtain ⟨v0,rfl,_⟩:=h;rfl,fun A outer s H args us vs Q E hr e0 hb r hsp=>?_⟩
 obtain ⟨v0,rfl,hf,hc',hfz,ht⟩:=hsp
 have lim:s.heap.NoLimit:=e0.mod.nolimit.keeps fun b o e=>(e0.bs b o e).1
 have of':=(e0.hok f _ hf).1
 have oc':=(e0.hok c' _ hc').1
 obtain ⟨vsc,tq,hd,hv⟩:=hoc
 obtain ⟨u0,rfl,r0⟩:=oJ r
 refine PySem.W.kla_callFunE hr.depth of' rfl S.co S.gen rfl ⟨c',oc,vsc,tq,rfl,oc',hd,hv⟩ (hb _ _ _ _ ?_)
 refine wpAny_newFunctionEnv S.cell (fun y hy=>?_) (fun h1 hns hsb=>⟨lim.fresh _ hsb,?_⟩) S.kind
 ·have:y=(x,u0):=by simpa using hy
  rw [this];exact S.par
 have hk₁:∀ b o,s.heap.get? b=some o→h1.get? b=some o:=fun b o e=>hsb.extBut b o (aR (aH e)) (av _ e)
 show fT _ _ (.expr body (El qual scope s.heap.objs.size f (.ref c') cl)) _ _
 have at0:∀ c o,cs.lookup c=some o→s.heap.get? c=some o:=fun c o e=>(e0.hok c _ (hfz c o e)).1
 have I:Inv (cxL P w K mg base (x::fr) qual scope f (.ref c') cl A outer s (ufz H cs)) [] (some v0::caps.map some) (ufz H cs) { s with heap:=h1,toks:=s.toks+[(x,u0)].length }:=by
  have noA:∀ b:ae,b∉(cxL P w K mg base (x::fr) qual scope f (.ref c') cl A outer s (ufz H cs)).ex:=fun b z=>absurd (show b∈([]:List ae) from z) (by simp)
  refine ⟨⟨e0.mod,S.kind,rfl,rfl,aA _,C.inj,fun y hy=>?_,fun _ _ z=>Bool.noConfusion (show false=true from z),fun _=>hr.hd,jp e0.frames,.inr ⟨rfl,rfl⟩,fun b z=>absurd z (noA b),fun b o e=>⟨(e0.bs b o e).1,oQ (e0.bs b o e).2⟩,e0.bsz,fun b _ _=>noA b,fun b z=>absurd z (noA b),e0.funs,fun b hb'=>oQ (e0.frf b hb')⟩,
   rfl,e0.bare,Un.kept hk₁,⟨_,hns,fun i y v h1' h2 h3=>?_⟩,fun y c e=>?_,oQ (e0.hok.fresh (aA _)),fun y c e=>?_,fun p hp=>absurd (show p∈([]:List (ae×Obj)) from hp) (by simp),AW e0.hok hfz hk₁,?_⟩
  ·have hy:scope.names.lookup y=some .cell∨scope.names.lookup y=some .free:=hy
   rcases hy with hy | hy
   ·exact absurd rfl (S.cell _ (bS hy))
   ·exact C.has y hy
  ·cases i with
   | zero =>
    cases h1'
    cases h2
    refine ⟨u0,r0,.inl ⟨S.par,?_⟩⟩
    show cB x [(x,u0)]=some u0
    rw [bE];simp
   | succ i =>
    have h1':fr[i]?=some y:=h1'
    have h2:(caps.map some)[i]?=some (some v):=h2
    rw [bi] at h2
    obtain ⟨v',hv',e⟩:=dz.mp h2
    cases e
    obtain ⟨c,o,u,e1,e2,e3,rv⟩:=C.val i y v h1' hv'
    exact ⟨u,rv,.inr ⟨.inr (S.frs y (ck h1')),c,e1,o,hk₁ _ _ (at0 c o e2),e3⟩⟩
  ·obtain ⟨o,u,e2,e3⟩:=C.cel y c e
   exact ⟨u,o,hk₁ _ _ (at0 c o e2),e3⟩
  ·obtain ⟨o,u,e2,e3⟩:=C.cel y c e
   exact rR e2
  ·show (some v0::caps.map some).length=(x::fr).length
   rw [aB,aB,aj,C.len]
 refine PySem.W.kla_codeExpr (cr (hbody A outer s (ufz H cs) (hr.deeper _) [] _ _ _ _ I ht) (fun u s' ⟨v,H2,J,rv,q⟩=>?_) fun _ _ z=>bG z)
 obtain ⟨un,ok⟩:=un_fz hfz e0.frf e0.hok J.base J.hok
 exact ⟨v,fz H2 cs,J.os,J.bare,un,ok,rv,q fun c o e=>J.base.free c o (at0 c o e) (rR e) (fun z=>absurd z (by simp [cxL]))⟩
end
section
variable {X:Cx}{CX:CXT}{k i:Nat}{x:Str}{p pos:Pos}{e:bo}{es:List bo}{t:TA}{E:XK}
end
section
variable {X:Cx}{CX:CXT}{k:Nat}{f:ae}{fd:bV}{ps:List Str}{sp:Sp}{E:XK}
theorem GQ {pins:List (ae×Obj)}{σ:St}{H:Hp}{s:al}{Q:VK}{us:List af}{vs:List V}{cs:List (ae×Obj)} (F:FnOk X.prog X.w X.K X.mg X.base CX k f fd ps sp) (hr:Room k X.A) (hb:Binds X.K fd ps [])
  (hcx:∀ (H':Hp) (e:af) (s':al),CX X.stack H' s E e s'→X.xe e s')
  (I:Inv X pins σ H s) (hcs:∀ c o,cs.lookup c=some o→s.heap.get? c=some o∧H c=none∧X.s₀.heap.objs.size≤c∧c≠X.env.locals) (r:Vals vs us) (h:sp vs (fz H cs) (fun v H2=>Q v (ufz H2 cs)) E):bj (model X.prog X.w) X.A (call (.ref f) us) (EP X pins σ Q) X.xe s:=by
 have hl:us.length=ps.length:=by rw [← r.length];exact F.len _ _ _ _ h
 have frz:Fzd (fz H cs) cs:=fun c o e=>tU e
 have out:∀ {b:ae}{u:HO},H b=some u→cs.lookup b=none:=fun {b u} e=>by
  cases q:cs.lookup b with
  | none=>rfl
  | some o=>rw [(hcs b o q).2.1] at e;cases e
 have nofr:∀ b∈frs X.stack,cs.lookup b=none:=fun b hb'=>by
  cases q:cs.lookup b with
  | none=>rfl
  | some o =>
   obtain ⟨_,_,a3,a4⟩:=hcs b o q
   rcases ai.mp (I.stkSub b hb') with z | z
   ·exact absurd z a4
   ·obtain ⟨_,o',ho,_⟩:=I.ok.funs.mem z
    exact absurd (ay (aH ho) a3) (cE _)
 have hok:HOk X.prog X.w (fz H cs) s.heap:=fun b u e=>by
  cases q:cs.lookup b with
  | none =>
   rw [lB q] at e
   refine (I.hok b u e).stay (fun c v _ q=>q) (fun c q=>?_) fun c xs q=>?_
   ·rw [lB (out q)];exact q
   ·rw [lB (out q)];exact q
  | some o =>
   rw [tU q] at e
   cases e
   exact ⟨(hcs b o q).1,o,(hcs b o q).1⟩
 have e0:=I.env0
 have e1:Env0 X.prog X.w X.K X.mg X.base X.A X.stack s (fz H cs):=⟨e0.frames,e0.mod,fun b o e=>⟨(e0.bs b o e).1,?_⟩,e0.bsz,e0.funs,fun b hb'=>by rw [lB (nofr b hb')];exact e0.frf b hb',hok,e0.bare⟩
 ·have hb2:=hb s us I.kIn (by rw [bO];exact hl)
  rw [bO] at hb2
  refine jv (e9 (F.run X.A X.stack s (fz H cs) ⟨us,[]⟩ us vs _ E hr e1 hb2 r h) fun rr s' hq=>?_)
  cases rr with
  | error e=>exact hcx _ e s' hq
  | ok fl =>
   cases fl with
   | next=>exact bG hq
   | brk=>exact bG hq
   | cont=>exact bG hq
   | ret u =>
    obtain ⟨v,H',os,bare,un,hok',rv,q⟩:=hq
    have frz':Fzd H' cs:=fun c o e=>un.frzs c o _ (frz c o e)
    have un2:Un (frs X.stack) [] H (ufz H' cs) s.heap s'.heap:=by
     refine ⟨fun b o e n hb' hx=>?_,fun b o e n hb' hx=>?_,fun b o e n hx=>?_,un.there,fun b xs e=>?_,fun b o v e=>?_,fun b ps e=>?_⟩
     ·cases q:cs.lookup b with
      | none=>exact un.keep b o e (by rw [lB q];exact n) hb' hx
      | some o' =>
       have e2:=(hcs b o' q).1
       rw [e] at e2
       cases e2
       exact (hok' b _ (frz' b o q)).1
     ·exact un.slot b o e (by rw [lB (nofr b hb')];exact n) hb' hx
     ·cases q:cs.lookup b with
      | none =>
       rw [kY q]
       exact un.free b o e (by rw [lB q];exact n) hx
      | some o'=>exact rR q
     ·rw [kY (out e)]
      exact un.tups b xs (by rw [lB (out e)];exact e)
     ·rw [kY (out e)]
      exact un.frzs b o v (by rw [lB (out e)];exact e)
     ·rw [kY (out e)]
      exact un.tbls b ps (by rw [lB (out e)];exact e)
    have hok2:=AW hok' frz' (fun _ _ e=>e)
    exact ⟨v,ufz H' cs,I.call' (ch:=[]) os un2 hok2 bare (fun b z=>absurd z (by simp)),rv,q⟩
 ·cases q:cs.lookup b with
  | none=>rw [lB q];exact (e0.bs b o e).2
  | some o' =>
   exact absurd (ay (aH e) (aJ I.ok.bsz (hcs b o' q).2.2.1)) (cE _)
end
def Ba (H:Hp) (P:ae) (q:Str):Prop:=∃ ps,H P=some (.tbl ps)∧ii ps.toList∧∀ pos c,ig pos ps.toList=some c→∃ c' oc,c=.ref c'∧H c'=some (fzO oc)∧∃ vs tq,oc.data=.fields vs∧vs[1]?=some (.str q tq)
theorem vV {pos:Pos}{c c0:af}{a b:Int}:∀ {l:List af},ii l→ig pos (l++[dX a,dX b,c0])=some c→ig pos l=some c∨c=c0
 | l,h,e=>by
  fun_induction ii l with
  | case1 =>
   simp only [bY,ig,dX] at e
   split at e
   ·exact .inr (aZ e).symm
   ·cases e
  | case2 a' t b' u x lC ih =>
   simp only [ci,ig] at e ⊢
   split at e
   ·rename_i hh;rw [if_pos hh];exact .inl e
   ·rename_i hh;rw [if_neg hh];exact ih h e
  | case3 l h1 h2=>exact h.elim
theorem yj {c0:af}{a b:Int}:∀ {l:List af},ii l→ii (l++[dX a,dX b,c0])
 | l,h=>by
  fun_induction ii l with
  | case1=>exact trivial
  | case2 a' t b' u x lC ih=>exact ih h
  | case3 l h1 h2=>exact h.elim
section
variable {X:Cx}{params:ik}{body:bo}{scope:dR}{pos:Pos}{cd P:ae}{q:Str}
def tLam (P:ae) (q:Str) (params:ik) (body:bo) (scope:dR) (cl:List (Str×ae)):TE:=fun σ H Q=>Ba H P q∧∀ f c' oc pm ctv H1,Ba H1 P q→H1 f=some (fzO (cV "<lambda>" q params body scope cl pm c' ctv))→H1 c'=some (fzO oc)→(∃ vs tq,oc.data=.fields vs∧vs[1]?=some (.str q tq)) →
 (∀ b u,H b=some u→b≠P→H1 b=some u)→H f=none→Q (.ref f) H1
structure LamTxt (K:aa) (mg:Str→Option af) (base:bM) (cd P:ae):Prop where
 hd:∀ h:bM,K.In h→PySem.W.CodeHd h cd P
 nP:P≠aq
 bm:∃ bm o,mg "__builtins__"=some (.ref bm)∧bm≠dL∧bm≠aq∧bm≠P∧base.get? bm=some o∧o.cls=.type "module"∧o.dict=some dL∧o.data=.plain
theorem G3 (T:LamTxt X.K X.mg X.base cd P) (hcode:X.env.code=.ref cd) (hq:X.env.qual++"<lambda>"=q) (hdef:defaultsOf params X.env=([],[])) (hcells:∀ y∈scope.names,y.2=.free→X.env.scope.names.lookup y.1=some .cell∨X.env.scope.names.lookup y.1=some .free) :
  PE X (.Lambda params body scope pos) (tLam P q params body scope (lL X.env.cells scope.names [])):=by
 intro pins s σ H Q I ⟨⟨ps,hP,htr,hgood⟩,k⟩
 have hcl:closureFor scope X.env=pure (lL X.env.cells scope.names []):=oE fun y hy hf=>I.ok.has y.1 (hcells y hy hf)
 have hPh:s.heap.get? P=some (gA ps):=I.hok P _ hP
 have hg:s.heap.Ns aq X.mg:=I.mod.glob.keeps I.bk
 have C:=T.hd s.heap I.kIn
 obtain ⟨bm,ob,b1,b2,b3,b4,b5,b6,b7,b8⟩:=T.bm
 have hb:s.heap.BuiltinsAt X.mg P:=⟨bm,ob,b1,b2,b3,b4,I.bk _ _ b5,b6,b7,b8⟩
 refine PySem.W.kla_eval hdef ?_
 rw [hq]
 cases hc:ig pos ps.toList with
 | some cv =>
  obtain ⟨c',oc,rfl,hc',hrec⟩:=hgood pos cv hc
  refine PySem.W.kla_makeFunctionHit hcl I.ok.glob hg hcode C hPh htr hc hb fun ctv h' tk hk hsz=>?_
  have hf:H h'.objs.size=none:=I.hok.fresh hsz
  have hkeep:∀ b u,H b=some u→(upd H h'.objs.size (fzO (cV "<lambda>" q params body scope (lL X.env.cells scope.names []) ((X.mg "__name__").getD .none) c' ctv))) b=some u:=fun b u e=>by rw [ki (ky e hf)];exact e
  refine ⟨.ref h'.objs.size,upd H h'.objs.size (fzO (cV "<lambda>" q params body scope (lL X.env.cells scope.names []) ((X.mg "__name__").getD .none) c' ctv)),?_,rfl,k _ c' oc _ ctv _ ⟨ps,hkeep _ _ hP,htr,fun p c e=>?_⟩ km (hkeep _ _ hc') hrec (fun b u e _=>hkeep b u e) hf⟩
  ·refine I.laid (t':=tk) (h':=h'.push _) (fun b u e=>av _ (hk b u e)) hsz ?_
   have e0:(h'.push (cV "<lambda>" q params body scope (lL X.env.cells scope.names []) ((X.mg "__name__").getD .none) c' ctv)).get? h'.objs.size=some (cV "<lambda>" q params body scope (lL X.env.cells scope.names []) ((X.mg "__name__").getD .none) c' ctv):=ba _ rfl
   exact ⟨e0,_,e0⟩
  ·obtain ⟨c2,o2,e2,e3,e4⟩:=hgood p c e
   exact ⟨c2,o2,e2,hkeep _ _ e3,e4⟩
 | none =>
  refine PySem.W.kla_makeFunction hcl I.ok.glob hg hcode C hPh htr hc T.nP.symm hb fun c' ctv h' tk hx hge hlt hrec htb=>?_
  obtain ⟨c2,oc,vs,tq,e2,hoc,hd,hv⟩:=hrec
  cases e2
  generalize hof:cV "<lambda>" q params body scope (lL X.env.cells scope.names []) ((X.mg "__name__").getD .none) c' ctv=of
  have hlP:P < s.heap.objs.size:=aH hPh
  have hc'n:H c'=none:=I.hok.fresh hge
  have hfn:H h'.objs.size=none:=I.hok.fresh (cF (bc hge hlt))
  have nPc:P≠c':=aR (ay hlP hge)
  have nPf:P≠h'.objs.size:=aR (fH (ay hlP hge) hlt)
  have ncf:c'≠h'.objs.size:=aR hlt
  generalize hF:h'.objs.size=F at hfn nPf ncf
  have hk:∀ b u,b≠P→s.heap.get? b=some u→(h'.push of).get? b=some u:=fun b u n e=>av _ (hx b u n e)
  have ePh:(h'.push of).get? P=some (gA (ps++#[dX pos.line,dX pos.col,.ref c'])):=av _ htb
  have ech:(h'.push of).get? c'=some oc:=av _ hoc
  have efh:(h'.push of).get? F=some of:=by rw [← hF];exact ba _ (by rw [← hof];rfl)
  have low:∀ b u,s.heap.get? b=some u→b≠c'∧b≠F:=fun b u e=>⟨aR (ay (aH e) hge),fun z=>by rw [z,← hF] at e;exact absurd (aH e) (Nat.not_lt.mpr (cF (bc hge hlt)))⟩
  have g1:upd (upd (upd H P (.tbl (ps++#[dX pos.line,dX pos.col,.ref c']))) c' (fzO oc)) F (fzO of) P=some (.tbl (ps++#[dX pos.line,dX pos.col,.ref c'])):=by rw [ki nPf,ki nPc,km]
  have g2:upd (upd (upd H P (.tbl (ps++#[dX pos.line,dX pos.col,.ref c']))) c' (fzO oc)) F (fzO of) c'=some (fzO oc):=by rw [ki ncf,km]
  have g3:upd (upd (upd H P (.tbl (ps++#[dX pos.line,dX pos.col,.ref c']))) c' (fzO oc)) F (fzO of) F=some (fzO of):=km
  have g4:∀ b,b≠P→b≠c'→b≠F→upd (upd (upd H P (.tbl (ps++#[dX pos.line,dX pos.col,.ref c']))) c' (fzO oc)) F (fzO of) b=H b:=fun b n1 n2 n3=>by rw [ki n3,ki n2,ki n1]
  generalize upd (upd (upd H P (.tbl (ps++#[dX pos.line,dX pos.col,.ref c']))) c' (fzO oc)) F (fzO of)=H1 at g1 g2 g3 g4
  have hkeep:∀ b u,H b=some u→b≠P→H1 b=some u:=fun b u e n=>by rw [g4 b n (ky e hc'n) (ky e hfn)];exact e
  have nt:∀ {b:ae}{u:HO},H b=some u→(∀ ps,u≠.tbl ps)→b≠P:=fun {b u} e n z=>by rw [z,hP] at e;cases e;exact n _ rfl
  refine ⟨.ref F,H1,I.un (t':=tk) ⟨fun b o e n _ _=>hk b o (fun z=>by rw [z,hP] at n;cases n) e,fun b o e n _ _=>⟨o.slots,hk b o (fun z=>by rw [z,hP] at n;cases n) e⟩,fun b o e n _=>?_,fun b o e _=>?_,fun b xs e=>hkeep b _ e (nt e fun _ z=>by cases z),fun b o v e=>hkeep b _ e (nt e fun _ z=>by cases z),fun b ps' e=>?_⟩ (fun b u e=>?_),rfl,k F c' oc _ ctv H1 ⟨_,g1,?_,fun p c e=>?_⟩ (by rw [g3,← hof]) g2 ⟨vs,tq,hd,hv⟩ hkeep hfn⟩
  ·rw [g4 b (fun z=>by rw [z,hP] at n;cases n) (low b o e).1 (low b o e).2];exact n
  ·by_cases z:b=P
   ·rw [z];exact ⟨_,ePh⟩
   ·exact ⟨o,hk b o z e⟩
  ·by_cases z:b=P
   ·rw [z,hP] at e
    cases e
    exact ⟨_,by rw [z];exact g1⟩
   ·exact ⟨#[],by rw [hkeep b _ e z];simp⟩
  ·by_cases z1:b=P
   ·rw [z1,g1] at e;cases e;rw [z1];exact ePh
   by_cases z2:b=c'
   ·rw [z2,g2] at e;cases e;rw [z2];exact ⟨ech,_,ech⟩
   by_cases z3:b=F
   ·rw [z3,g3] at e;cases e;rw [z3];exact ⟨efh,_,efh⟩
   rw [g4 b z1 z2 z3] at e
   refine (I.hok b u e).stay (fun c v hc q=>?_) (fun c q=>hkeep c _ q (nt q fun _ z=>by cases z)) fun c xs q=>hkeep c _ q (nt q fun _ z=>by cases z)
   rcases hc with z | z
   ·exact hk c v (by rw [z];exact z1) q
   ·exact hk c v (nt z fun _ z=>by cases z) q
  ·rw [jK];exact yj htr
  ·rw [jK] at e
   rcases vV htr e with z | z
   ·obtain ⟨c2,o2,e2,e3,e4⟩:=hgood p c z
    exact ⟨c2,o2,e2,hkeep _ _ e3 (nt e3 fun _ z=>by cases z),e4⟩
   ·exact ⟨c',oc,z,g2,vs,tq,hd,hv⟩
end
end L2
set_option maxHeartbeats 4000000
namespace My
open PySem L2
abbrev Same:=L2.Same
theorem oS {H:Hp}{p:ae}{o:HO} (h:H p=none):Same H (upd H p o):=fun b u e=>by rw [ki (ky e h)];exact e
theorem nbT {b:Bool} (h:(!b)=true):b=false:=by cases b <;> first | rfl | cases h
theorem nbF {b:Bool} (h:¬ (!b)=true):b=true:=by cases b <;> first | rfl | exact absurd rfl h
structure Ent where
 nm:Str
 th:Int
 mr:Int
 ls:Int
 held:List (Str×Int×Int)
structure BA where
 dx:ae
 dp:ae
 dt:ae
 dm:ae
 dl:ae
 dh:ae
def bf (z:BA):List (Str×V):=[(("people":Str),V.ref z.dp),("things_of",.ref z.dt),("mark_of",.ref z.dm),("loss_of",.ref z.dl),("held_of",.ref z.dh)]
theorem lJ {g f:Str}{v:V}{r:List (Str×V)} (h:¬ f=g):cB f ((g,v)::r)=cB f r:=by
 rw [bE]
 have:(f == g)=false:=by simpa using h
 rw [this]
theorem sI {f:Str}{v:V}{r:List (Str×V)}:cB f ((f,v)::r)=some v:=by
 rw [bE]
 simp
theorem qR (z:BA):(bf z).lookup ("people":Str)=some (V.ref z.dp):=sI
theorem Cc (z:BA):(bf z).lookup ("things_of":Str)=some (V.ref z.dt):=by
 unfold bf
 rw [lJ (by decide +kernel)]
 exact sI
theorem FZ (z:BA):(bf z).lookup ("mark_of":Str)=some (V.ref z.dm):=by
 unfold bf
 rw [lJ (by decide +kernel),lJ (by decide +kernel)]
 exact sI
theorem F0 (z:BA):(bf z).lookup ("loss_of":Str)=some (V.ref z.dl):=by
 unfold bf
 rw [lJ (by decide +kernel),lJ (by decide +kernel),lJ (by decide +kernel)]
 exact sI
theorem rg (z:BA):(bf z).lookup ("held_of":Str)=some (V.ref z.dh):=by
 unfold bf
 rw [lJ (by decide +kernel),lJ (by decide +kernel),lJ (by decide +kernel),lJ (by decide +kernel)]
 exact sI
theorem pW (z:BA) {m:Str} (h1:¬ m="people") (h2:¬ m="things_of") (h3:¬ m="mark_of") (h4:¬ m="loss_of") (h5:¬ m="held_of"):(bf z).lookup m=none:=by
 unfold bf
 rw [lJ h1,lJ h2,lJ h3,lJ h4,lJ h5]
 rfl
def HeldAt (K:aa) (H:Hp) (p:ae) (l:List (Str×Int×Int)):Prop :=
 ∃ ts:List ae,ts.length=l.length∧H p=some (.dK ((l.zip ts).map fun q=>(aE q.1.1,V.ref q.2)))∧∀ q∈l.zip ts,SqT K H q.2 [.int q.1.2.1,.int q.1.2.2]
def PmAt (H:Hp) (d:ae) (S:List (Key×V)):Prop:=∃ T:List (Key×V),H d=some (.dK T)∧T.Perm S∧(S.map (·.1)).Nodup
theorem uj {k:Key}{v:V}:∀ {l:List (Key×V)},(l.map (·.1)).Nodup→(m7 l k=some v ↔ (k,v)∈l)
 | [],_=>⟨fun h=>(by cases h),fun h=>(by cases h)⟩
 | x::r,h=>by
  obtain ⟨h1,h2⟩:=aN.mp h
  have ih:=uj (k:=k) (v:=v) h2
  unfold m7 at ih ⊢
  rw [bA]
  by_cases e:x.1=k
  ·rw [decide_eq_true e]
   constructor
   ·intro q
    have q:x.2=v:=aZ q
    rw [← q,← e]
    exact am
   ·intro q
    rcases ai.mp q with q | q
    ·rw [← q];rfl
    ·exact absurd (ak.mpr ⟨(k,v),q,rfl⟩) (by rw [← e];exact h1)
  ·rw [decide_eq_false e]
   refine ih.trans ⟨fun q=>ag _ q,fun q=>?_⟩
   rcases ai.mp q with q | q
   ·exact absurd (by rw [← q]) e
   ·exact q
theorem yE {T S:List (Key×V)} (p:T.Perm S) (nd:(S.map (·.1)).Nodup) (k:Key):m7 T k=m7 S k:=by
 apply Option.ext
 intro v
 rw [uj ((p.map (·.1)).nodup_iff.mpr nd),uj nd,p.mem_iff]
theorem PmAt.keep {H H':Hp}{d:ae}{S:List (Key×V)} (h:PmAt H d S) (k:∀ o,H d=some o→H' d=some o):PmAt H' d S:=by
 obtain ⟨T,e,p,n⟩:=h
 exact ⟨T,k _ e,p,n⟩
theorem PmAt.dget {H:Hp}{d:ae}{S:List (Key×V)} (h:PmAt H d S) (x:Str):DGet H d (kV (aE x)) (m7 S (aE x)):=by
 obtain ⟨T,e,p,n⟩:=h
 rw [← yE p n]
 exact DGet.k e
theorem PmAt.keys {H:Hp}{d:ae}{α:Type}{L:List α}{key:α→Str}{v:α→V} (h:PmAt H d (L.map fun e=>((aE (key e):Key),v e))):∃ (T:List (Key×V)) (ss:List Str),H d=some (.dK T)∧T.map (·.1)=ss.map aE∧ss.Perm (L.map key):=by
 obtain ⟨T,e,p,n⟩:=h
 have q:=p.map (·.1)
 rw [aS] at q
 refine ⟨T,(T.map (·.1)).map fun k=>match k with | .inr s=>s | .inl _=>fc,e,?_,?_⟩
 ·rw [aS]
  refine ((ft _).symm.trans (bU fun k hk=>?_))
  have:=q.mem_iff.mp hk
  obtain ⟨x,_,rfl⟩:=ak.mp this
  rfl
 ·have:=q.map fun k:Key=>match k with | .inr s=>s | .inl _=>fc
  have e2:(L.map ((fun x=>x.1) ∘ fun e=>((aE (key e):Key),v e))).map (fun k:Key=>match k with | .inr s=>s | .inl _=>fc)=L.map key:=by rw [aS];rfl
  rw [e2] at this
  exact this
structure BookAt (K:aa) (C:ae) (H:Hp) (b:ae) (z:BA) (ppl:List Str) (L:List (Ent×ae)):Prop where
 ob:H b=some (.ins C z.dx (bf z))
 pp:H z.dp=some (.dK (ppl.map fun n=>(aE n,.bl true)))
 tt:H z.dt=some (.dK (L.map fun e=>(aE e.1.nm,.int e.1.th)))
 mm:H z.dm=some (.dK (L.map fun e=>(aE e.1.nm,.int e.1.mr)))
 ll:H z.dl=some (.dK (L.map fun e=>(aE e.1.nm,.int e.1.ls)))
 hh:PmAt H z.dh (L.map fun e=>(aE e.1.nm,.ref e.2))
 he:∀ e∈L,HeldAt K H e.2 e.1.held
 nd:(b::z.dp::z.dt::z.dm::z.dl::z.dh::L.map (·.2)).Nodup
 p6:ppl.length≤6
 h8:L.length≤8
def BFp (b:ae) (z:BA) (L:List (Ent×ae)):List ae:=b::z.dp::z.dt::z.dm::z.dl::z.dh::L.map (·.2)
theorem qU {K:aa}{H H':Hp}{t:ae}{xs:List V} (h:SqT K H t xs) (k:∀ c o,H c=some o→(∃ xs,o=.tup xs∨∃ ob,o=.frz ob (.tup xs))→H' c=some o):SqT K H' t xs:=by
 rcases h with (h | ⟨ob,h⟩) | h
 ·exact .inl (.inl (k _ _ h ⟨xs,.inl rfl⟩))
 ·exact .inl (.inr ⟨ob,k _ _ h ⟨xs,.inr ⟨ob,rfl⟩⟩⟩)
 ·exact .inr h
theorem HeldAt.keep {K:aa}{H H':Hp}{p:ae}{l:List (Str×Int×Int)} (h:HeldAt K H p l) (hp:∀ o,H p=some o→H' p=some o) (k:∀ c o,H c=some o→(∃ xs,o=.tup xs∨∃ ob,o=.frz ob (.tup xs))→H' c=some o):HeldAt K H' p l:=by
 obtain ⟨ts,e1,e2,e3⟩:=h
 exact ⟨ts,e1,hp _ e2,fun q hq=>qU (e3 q hq) k⟩
theorem BookAt.keep {K:aa}{C:ae}{H H':Hp}{b:ae}{z:BA}{ppl:List Str}{L:List (Ent×ae)} (B:BookAt K C H b z ppl L) (k:∀ c o,H c=some o→(c∈BFp b z L∨∃ xs,o=.tup xs∨∃ ob,o=.frz ob (.tup xs))→H' c=some o):BookAt K C H' b z ppl L:=by
 refine ⟨k _ _ B.ob (.inl (by simp [BFp])),k _ _ B.pp (.inl (by simp [BFp])),k _ _ B.tt (.inl (by simp [BFp])),k _ _ B.mm (.inl (by simp [BFp])),k _ _ B.ll (.inl (by simp [BFp])),B.hh.keep (fun o h=>k _ _ h (.inl (by simp [BFp]))),fun e he=>?_,B.nd,B.p6,B.h8⟩
 refine (B.he e he).keep (fun o h=>k _ _ h (.inl ?_)) fun c o h x=>k c o h (.inr x)
 unfold BFp
 simp only [ai]
 right;right;right;right;right;right
 exact ak.mpr ⟨e,he,rfl⟩
theorem BookAt.same {K:aa}{C:ae}{H H':Hp}{b:ae}{z:BA}{ppl:List Str}{L:List (Ent×ae)} (B:BookAt K C H b z ppl L) (s:Same H H'):BookAt K C H' b z ppl L:=B.keep fun c o h _=>s c o h
def mU (L:List (Ent×ae)) (n:Str):Bool:=(L.find? fun e=>decide (e.1.nm=n)).isSome
def lY (ppl:List Str) (n:Str):Bool:=(ppl.find? fun m=>decide (m=n)).isSome
theorem oG {α:Type} (l:List α) (key:α→Str) (v:α→V) (n:Str):m7 (l.map fun e=>((aE (key e):Key),v e)) (aE n)=(l.find? fun e=>decide (key e=n)).map v:=by
 unfold m7
 rw [fO,Option.map_map]
 have e:((fun kv:Key×V=>decide (kv.1=aE n)) ∘ fun e=>((aE (key e):Key),v e))=fun e=>decide (key e=n):=by
  funext x
  show decide ((aE (key x):Key)=aE n)=decide (key x=n)
  rw [vT]
 rw [e]
 rfl
end My
namespace L2
open PySem PySem.Spec PyProof.Rows
def Odd (u:HO):Prop:=(∃ ps,u=.tbl ps)∨∃ ob x,u=.frz ob (.own x)
def TbS (H H':Hp):Prop:=(∀ a ps,H a=some (.tbl ps)→∃ ps',H' a=some (.tbl ps'))∧∀ P q,Ba H P q→Ba H' P q
theorem TbS.of {H H':Hp} (k:∀ a o,H a=some o→Odd o→H' a=some o):TbS H H':=⟨fun a ps h=>⟨ps,k a _ h (.inl ⟨ps,rfl⟩)⟩,fun P q ⟨ps,h,t,g⟩=>⟨ps,k P _ h (.inl ⟨ps,rfl⟩),t,fun p c e=>by
 obtain ⟨c',oc,a1,a2,a3⟩:=g p c e
 exact ⟨c',oc,a1,k c' _ a2 (.inr ⟨oc,0,rfl⟩),a3⟩⟩⟩
theorem TbS.same {H H':Hp} (k:Same H H'):TbS H H':=.of fun a o h _=>k a o h
theorem TbS.upd {H:Hp}{d:ae}{u o:HO} (h:H d=some u) (n:¬ Odd u):TbS H (upd H d o):=.of fun a o' h' od=>by
 rw [ki (show a≠d from fun z=>by rw [z,h] at h';cases h';exact n od)];exact h'
theorem EB {kvs:List (Key×V)}:¬ Odd (.dK kvs):=fun z=>by rcases z with ⟨_,z⟩ | ⟨_,_,z⟩ <;> cases z
theorem vP {xs:List V}:¬ Odd (.lst xs):=fun z=>by rcases z with ⟨_,z⟩ | ⟨_,_,z⟩ <;> cases z
theorem Ee {C dx:ae}{fs:List (Str×V)}:¬ Odd (.ins C dx fs):=fun z=>by rcases z with ⟨_,z⟩ | ⟨_,_,z⟩ <;> cases z
theorem Hk {ob:Obj}{kvs:List (Key×V)}:¬ Odd (.frz ob (.dK kvs)):=fun z=>by rcases z with ⟨_,z⟩ | ⟨_,_,z⟩ <;> cases z
def vo:List Str:=["rules"]
def Tab (K:aa) (P:ae) (q:Str):Prop:=∃ x∈vo,∃ c,bW K x=some (c,P)∧q=x++".<locals>.<lambda>"
inductive PV where
 | non | bl (b:Bool) | int (i:Int) | str (x:Str) | tup (l:List PV) | lst (l:List PV) | dct (l:List (Key×PV)) | ref (n:Nat) | exc (c:ae) | seq (l:List PV) | clo (a:ae) (vs:List V) (l:List PV)
inductive Cell where
 | lst (l:List PV) | dct (l:List (Key×PV)) | book (pp:List Str) (L:List My.Ent) | obj (C:ae) (fs:List (Str×PV)) | dfz (l:List (Key×PV))
structure Sto where
 nx:Nat
 cs:List (Nat×Cell)
structure Mp where
 ad:Nat→ae
 fp:Nat→List ae
 hid:List ae
def ly:List (Nat×Cell)→Nat→Option Cell
 | [],_=>none
 | (k,c)::r,n=>if k=n then some c else ly r n
def l4 (n:Nat) (c:Cell):List (Nat×Cell)→List (Nat×Cell)
 | []=>[]
 | (k,d)::r=>if k=n then (n,c)::r else (k,d)::l4 n c r
def sN (n:Nat):List (Nat×Cell)→List (Nat×Cell)
 | []=>[]
 | (k,d)::r=>if k=n then r else (k,d)::sN n r
def Sto.get (s:Sto) (n:Nat):Option Cell:=ly s.cs n
def Sto.set (s:Sto) (n:Nat) (c:Cell):Sto:=⟨s.nx,l4 n c s.cs⟩
def Sto.del (s:Sto) (n:Nat):Sto:=⟨s.nx,sN n s.cs⟩
def Sto.add (s:Sto) (c:Cell):Sto:=⟨s.nx+1,(s.nx,c)::s.cs⟩
theorem lb {n:Nat}{c:Cell}:∀ {l:List (Nat×Cell)},ly l n=some c→(n,c)∈l
 | (k,d)::r,h=>by
  unfold ly at h
  split at h
  ·rename_i e;cases h;subst e;exact am
  ·exact ag _ (lb h)
theorem yN {n:Nat}{c:Cell}{q:Nat×Cell}:∀ {l:List (Nat×Cell)},(l.map (·.1)).Nodup→q∈l4 n c l→q=(n,c)∨(q∈l∧q.1≠n)
 | (k,d)::r,nd,h=>by
  unfold l4 at h
  obtain ⟨n1,n2⟩:=aN.mp (show (k::r.map (·.1)).Nodup from nd)
  split at h
  ·rename_i e
   rcases ai.mp h with h | h
   ·exact .inl h
   ·exact .inr ⟨ag _ h,fun z=>n1 (by rw [e,← z];exact ak.mpr ⟨q,h,rfl⟩)⟩
  ·rename_i e
   rcases ai.mp h with h | h
   ·subst h;exact .inr ⟨am,e⟩
   ·rcases yN n2 h with h | ⟨h,h'⟩
    ·exact .inl h
    ·exact .inr ⟨ag _ h,h'⟩
theorem mZ {n:Nat}{c:Cell}:∀ {l:List (Nat×Cell)},(l4 n c l).map (·.1)=l.map (·.1)
 | []=>rfl
 | (k,d)::r=>by
  unfold l4
  split
  ·rename_i e;simp [e]
  ·simp [mZ]
theorem qA {n:Nat}{q:Nat×Cell}:∀ {l:List (Nat×Cell)},q∈sN n l→q∈l
 | (k,d)::r,h=>by
  unfold sN at h
  split at h
  ·exact ag _ h
  ·rcases ai.mp h with h | h
   ·subst h;exact am
   ·exact ag _ (qA h)
theorem A0 {n:Nat}:∀ {l:List (Nat×Cell)},(l.map (·.1)).Nodup→((sN n l).map (·.1)).Nodup
 | [],_=>cT
 | (k,d)::r,nd=>by
  obtain ⟨n1,n2⟩:=aN.mp (show (k::r.map (·.1)).Nodup from nd)
  unfold sN
  split
  ·exact n2
  ·refine aN.mpr ⟨fun z=>n1 ?_,A0 n2⟩
   obtain ⟨q,hq,e⟩:=ak.mp z
   exact ak.mpr ⟨q,qA hq,e⟩
theorem AZ {n:Nat}{q:Nat×Cell}:∀ {l:List (Nat×Cell)},(l.map (·.1)).Nodup→q∈sN n l→q.1≠n
 | (k,d)::r,nd,h=>by
  obtain ⟨n1,n2⟩:=aN.mp (show (k::r.map (·.1)).Nodup from nd)
  unfold sN at h
  split at h
  ·rename_i e;intro z;exact n1 (by rw [e,← z];exact ak.mpr ⟨q,h,rfl⟩)
  ·rename_i e
   rcases ai.mp h with h | h
   ·subst h;exact e
   ·exact AZ n2 h
theorem oi {n k:Nat}{c:Cell} (h:k≠n):∀ {l:List (Nat×Cell)},ly (l4 n c l) k=ly l k
 | []=>rfl
 | (j,d)::r=>by
  unfold l4
  split
  ·rename_i e
   unfold ly
   rw [if_neg (fun z=>h z.symm),if_neg (fun z=>h (z.symm.trans e))]
  ·unfold ly
   split
   ·rfl
   ·exact oi h
theorem qj {n k:Nat} (h:k≠n):∀ {l:List (Nat×Cell)},ly (sN n l) k=ly l k
 | []=>rfl
 | (j,d)::r=>by
  unfold sN
  split
  ·rename_i e
   conv=>rhs;unfold ly
   rw [if_neg (fun z=>h (z.symm.trans e))]
  ·unfold ly
   split
   ·rfl
   ·exact qj h
def Pur (m:Mp) (s:Sto) (a:ae):Prop:=a∉m.hid∧∀ n∈s.cs.map (·.1),a∉m.fp n
def KL (K:aa) (a:ae) (xs:List V):Prop:=∃ (o:Obj) (its:Array af) (n:Nat),K.lookup a=some o∧o.cls=.type "list"∧o.dict=none∧o.data=.seq its n∧its.size≤aQ∧Vals xs its.toList
def KT' (K:aa) (a:ae) (xs:List V):Prop:=∃ (o:Obj) (its:Array af) (n:Nat),K.lookup a=some o∧o.cls=.type "tuple"∧o.data=.seq its n∧its.size≤aQ∧Vals xs its.toList
mutual
inductive Rep (K:aa) (H:Hp) (m:Mp) (s:Sto):V→PV→Prop
 | non:Rep K H m s .non .non
 | bl {b:Bool}:Rep K H m s (.bl b) (.bl b)
 | int {i:Int}:Rep K H m s (.int i) (.int i)
 | str {x:Str}:Rep K H m s (.str x) (.str x)
 | tup {a:ae}{vs:List V}{l:List PV}:(Rd H a (.tup vs)∧Pur m s a∨KT' K a vs)→Reps K H m s vs l→Rep K H m s (.ref a) (.tup l)
 | lst {a:ae}{vs:List V}{l:List PV}:H a=some (.lst vs)→Pur m s a→Reps K H m s vs l→Rep K H m s (.ref a) (.lst l)
 | seq {a:ae}{vs:List V}{l:List PV}:((∃ o,H a=some (.frz o (.lst vs)))∧Pur m s a∨KL K a vs)→Reps K H m s vs l→Rep K H m s (.ref a) (.seq l)
 | dct {a:ae}{vs:List (Key×V)}{l:List (Key×PV)}:Rd H a (.dK vs)→Pur m s a→RepKs K H m s vs l→Rep K H m s (.ref a) (.dct l)
 | ref {n:Nat}:n < s.nx→Rep K H m s (.ref (m.ad n)) (.ref n)
 | exc {a c:ae}:H a=some (excO c a)→Pur m s a→Rep K H m s (.ref a) (.exc c)
 | clo {a:ae}{vs:List V}{l:List PV}:Reps K H m s vs l→Rep K H m s (.ref a) (.clo a vs l)
inductive Reps (K:aa) (H:Hp) (m:Mp) (s:Sto):List V→List PV→Prop
 | nil:Reps K H m s [] []
 | cons {v:V}{p:PV}{vs:List V}{l:List PV}:Rep K H m s v p→Reps K H m s vs l→Reps K H m s (v::vs) (p::l)
inductive RepKs (K:aa) (H:Hp) (m:Mp) (s:Sto):List (Key×V)→List (Key×PV)→Prop
 | nil:RepKs K H m s [] []
 | cons {k:Key}{v:V}{p:PV}{vs:List (Key×V)}{l:List (Key×PV)}:Rep K H m s v p→RepKs K H m s vs l→RepKs K H m s ((k,v)::vs) ((k,p)::l)
end
structure ExtR (H:Hp) (m:Mp) (s:Sto) (H':Hp) (m':Mp) (s':Sto):Prop where
 nx:s.nx≤s'.nx
 ad:∀ n,n < s.nx→m'.ad n=m.ad n
 pu:∀ a u,Rd H a u→Pur m s a→Rd H' a u∧Pur m' s' a
 el:∀ a u,H a=some u→(∀ kvs,u≠.dK kvs)→Pur m s a→H' a=some u
structure Ext0 (H:Hp) (m:Mp) (s:Sto) (H':Hp) (m':Mp) (s':Sto):Prop extends ExtR H m s H' m' s' where
 df:∀ n l,n < s.nx→ly s.cs n=some (.dfz l)→ly s'.cs n=some (.dfz l)∧∀ o,H (m.ad n)=some o→H' (m.ad n)=some o
structure Ext (H:Hp) (m:Mp) (s:Sto) (H':Hp) (m':Mp) (s':Sto):Prop extends Ext0 H m s H' m' s' where
 hd:m'.hid=m.hid
 hk:∀ a∈m.hid,∀ o,H a=some o→(∀ ps,o≠.tbl ps)→H' a=some o
theorem Ext.refl {H:Hp}{m:Mp}{s:Sto}:Ext H m s H m s:=⟨⟨⟨aA _,fun _ _=>rfl,fun _ _ h p=>⟨h,p⟩,fun _ _ h _ _=>h⟩,fun _ _ _ h=>⟨h,fun _ h=>h⟩⟩,rfl,fun _ _ _ h _=>h⟩
theorem Ext0.trans {H H1 H2:Hp}{m m1 m2:Mp}{s s1 s2:Sto} (a:Ext0 H m s H1 m1 s1) (b:Ext0 H1 m1 s1 H2 m2 s2):Ext0 H m s H2 m2 s2 :=
 ⟨⟨aJ a.nx b.nx,fun n h=>(b.ad n (ay h a.nx)).trans (a.ad n h),fun c u h p=>let ⟨h1,p1⟩:=a.pu c u h p;b.pu c u h1 p1,fun c x h n p=>b.el c x (a.el c x h n p) n (a.pu c _ (.inl h) p).2⟩,fun n l hn h=>by
  obtain ⟨h1,k1⟩:=a.df n l hn h
  obtain ⟨h2,k2⟩:=b.df n l (ay hn a.nx) h1
  rw [a.ad n hn] at k2
  exact ⟨h2,fun o h=>k2 o (k1 o h)⟩⟩
theorem Ext.trans {H H1 H2:Hp}{m m1 m2:Mp}{s s1 s2:Sto} (a:Ext H m s H1 m1 s1) (b:Ext H1 m1 s1 H2 m2 s2):Ext H m s H2 m2 s2 :=
 ⟨a.toExt0.trans b.toExt0,b.hd.trans a.hd,fun c hc o h n=>b.hk c (by rw [a.hd];exact hc) o (a.hk c hc o h n) n⟩
theorem Rd.same {H H':Hp}{a:ae}{u:HO} (k:Same H H') (h:Rd H a u):Rd H' a u:=h.elim (fun h=>.inl (k _ _ h)) fun ⟨o,h⟩=>.inr ⟨o,k _ _ h⟩
theorem Rd.ne {H:Hp}{a b:ae}{u:HO} (h:Rd H a u) (hb:H b=none):a≠b:=h.elim (fun h=>ky h hb) fun ⟨_,h⟩=>ky h hb
theorem Ext.same {H H':Hp}{m:Mp}{s:Sto} (k:Same H H'):Ext H m s H' m s:=⟨⟨⟨aA _,fun _ _=>rfl,fun _ _ h p=>⟨h.same k,p⟩,fun _ _ h _ _=>k _ _ h⟩,fun _ _ _ h=>⟨h,fun o h=>k _ _ h⟩⟩,rfl,fun _ _ _ h _=>k _ _ h⟩
mutual
theorem Rep.ext0 {K:aa}{H H':Hp}{m m':Mp}{s s':Sto} (e:ExtR H m s H' m' s'):∀ {v:V}{p:PV},Rep K H m s v p→Rep K H' m' s' v p
 | _,_,.non=>.non
 | _,_,.bl=>.bl
 | _,_,.int=>.int
 | _,_,.str=>.str
 | _,_,.tup h r=>.tup (h.imp (fun z=>e.pu _ _ z.1 z.2) fun z=>z) (Reps.ext0 e r)
 | _,_,.lst h p r=>.lst (e.el _ _ h (by intro _ z;cases z) p) (e.pu _ _ (.inl h) p).2 (Reps.ext0 e r)
 | _,_,.seq h r=>.seq (h.imp (fun ⟨⟨o,z⟩,p⟩=>⟨⟨o,e.el _ _ z (by intro _ z;cases z) p⟩,(e.pu _ _ (.inl z) p).2⟩) fun z=>z) (Reps.ext0 e r)
 | _,_,.dct h p r=>.dct (e.pu _ _ h p).1 (e.pu _ _ h p).2 (RepKs.ext0 e r)
 | _,_,.ref (n:=n) h=>by rw [← e.ad _ h];exact .ref (ay h e.nx)
 | _,_,.exc h p=>.exc (e.el _ _ h (by intro _ z;cases z) p) (e.pu _ _ (.inl h) p).2
 | _,_,.clo r=>.clo (Reps.ext0 e r)
theorem Reps.ext0 {K:aa}{H H':Hp}{m m':Mp}{s s':Sto} (e:ExtR H m s H' m' s'):∀ {v:List V}{p:List PV},Reps K H m s v p→Reps K H' m' s' v p
 | _,_,.nil=>.nil
 | _,_,.cons a b=>.cons (Rep.ext0 e a) (Reps.ext0 e b)
theorem RepKs.ext0 {K:aa}{H H':Hp}{m m':Mp}{s s':Sto} (e:ExtR H m s H' m' s'):∀ {v:List (Key×V)}{p:List (Key×PV)},RepKs K H m s v p→RepKs K H' m' s' v p
 | _,_,.nil=>.nil
 | _,_,.cons a b=>.cons (Rep.ext0 e a) (RepKs.ext0 e b)
end
theorem Rep.ext {K:aa}{H H':Hp}{m m':Mp}{s s':Sto} (e:Ext H m s H' m' s') {v:V}{p:PV} (r:Rep K H m s v p):Rep K H' m' s' v p:=r.ext0 e.toExtR
theorem Reps.ext {K:aa}{H H':Hp}{m m':Mp}{s s':Sto} (e:Ext H m s H' m' s') {v:List V}{p:List PV} (r:Reps K H m s v p):Reps K H' m' s' v p:=r.ext0 e.toExtR
theorem RepKs.ext {K:aa}{H H':Hp}{m m':Mp}{s s':Sto} (e:Ext H m s H' m' s') {v:List (Key×V)}{p:List (Key×PV)} (r:RepKs K H m s v p):RepKs K H' m' s' v p:=r.ext0 e.toExtR
mutual
inductive Old (k:Nat):PV→Prop
 | non:Old k .non
 | bl {b:Bool}:Old k (.bl b)
 | int {i:Int}:Old k (.int i)
 | str {x:Str}:Old k (.str x)
 | tup {l:List PV}:Olds k l→Old k (.tup l)
 | lst {l:List PV}:Olds k l→Old k (.lst l)
 | seq {l:List PV}:Olds k l→Old k (.seq l)
 | dct {l:List (Key×PV)}:OldKs k l→Old k (.dct l)
 | ref {n:Nat}:n < k→Old k (.ref n)
 | exc {c:ae}:Old k (.exc c)
 | clo {a:ae}{vs:List V}{l:List PV}:Olds k l→Old k (.clo a vs l)
inductive Olds (k:Nat):List PV→Prop
 | nil:Olds k []
 | cons {p:PV}{l:List PV}:Old k p→Olds k l→Olds k (p::l)
inductive OldKs (k:Nat):List (Key×PV)→Prop
 | nil:OldKs k []
 | cons {q:Key}{p:PV}{l:List (Key×PV)}:Old k p→OldKs k l→OldKs k ((q,p)::l)
end
structure Sub (m:Mp) (s:Sto) (m':Mp) (s':Sto):Prop where
 pu:∀ a,Pur m s a→Pur m' s' a
 ad:∀ n,n < s'.nx→m'.ad n=m.ad n
mutual
theorem Rep.sub {K:aa}{H:Hp}{m m':Mp}{s s':Sto} (e:Sub m s m' s'):∀ {v:V}{p:PV},Old s'.nx p→Rep K H m s v p→Rep K H m' s' v p
 | _,_,_,.non=>.non
 | _,_,_,.bl=>.bl
 | _,_,_,.int=>.int
 | _,_,_,.str=>.str
 | _,_,.tup o,.tup h r=>.tup (h.imp (fun z=>⟨z.1,e.pu _ z.2⟩) fun z=>z) (Reps.sub e o r)
 | _,_,.lst o,.lst h p r=>.lst h (e.pu _ p) (Reps.sub e o r)
 | _,_,.seq o,.seq h r=>.seq (h.imp (fun z=>⟨z.1,e.pu _ z.2⟩) fun z=>z) (Reps.sub e o r)
 | _,_,.dct o,.dct h p r=>.dct h (e.pu _ p) (RepKs.sub e o r)
 | _,_,.ref o,.ref _=>by rw [← e.ad _ o];exact .ref o
 | _,_,_,.exc h p=>.exc h (e.pu _ p)
 | _,_,.clo o,.clo r=>.clo (Reps.sub e o r)
theorem Reps.sub {K:aa}{H:Hp}{m m':Mp}{s s':Sto} (e:Sub m s m' s'):∀ {v:List V}{p:List PV},Olds s'.nx p→Reps K H m s v p→Reps K H m' s' v p
 | _,_,_,.nil=>.nil
 | _,_,.cons o q,.cons a b=>.cons (Rep.sub e o a) (Reps.sub e q b)
theorem RepKs.sub {K:aa}{H:Hp}{m m':Mp}{s s':Sto} (e:Sub m s m' s'):∀ {v:List (Key×V)}{p:List (Key×PV)},OldKs s'.nx p→RepKs K H m s v p→RepKs K H m' s' v p
 | _,_,_,.nil=>.nil
 | _,_,.cons o q,.cons a b=>.cons (Rep.sub e o a) (RepKs.sub e q b)
end
mutual
theorem Rep.old {K:aa}{H:Hp}{m:Mp}{s:Sto}:∀ {v:V}{p:PV},Rep K H m s v p→Old s.nx p
 | _,_,.non=>.non
 | _,_,.bl=>.bl
 | _,_,.int=>.int
 | _,_,.str=>.str
 | _,_,.tup _ r=>.tup (Reps.old r)
 | _,_,.lst _ _ r=>.lst (Reps.old r)
 | _,_,.seq _ r=>.seq (Reps.old r)
 | _,_,.dct _ _ r=>.dct (RepKs.old r)
 | _,_,.ref h=>.ref h
 | _,_,.exc _ _=>.exc
 | _,_,.clo r=>.clo r.old
theorem Reps.old {K:aa}{H:Hp}{m:Mp}{s:Sto}:∀ {v:List V}{p:List PV},Reps K H m s v p→Olds s.nx p
 | _,_,.nil=>.nil
 | _,_,.cons a b=>.cons (Rep.old a) (Reps.old b)
theorem RepKs.old {K:aa}{H:Hp}{m:Mp}{s:Sto}:∀ {v:List (Key×V)}{p:List (Key×PV)},RepKs K H m s v p→OldKs s.nx p
 | _,_,.nil=>.nil
 | _,_,.cons a b=>.cons (Rep.old a) (RepKs.old b)
end
def RepFs (K:aa) (H:Hp) (m:Mp) (s:Sto) (fs':List (Str×V)) (fs:List (Str×PV)):Prop:=fs'.map (·.1)=fs.map (·.1)∧Reps K H m s (fs'.map (·.2)) (fs.map (·.2))
def CellOk (K:aa) (CB:ae) (H:Hp) (m:Mp) (s:Sto) (n:Nat):Cell→Prop
 | .lst l=>m.fp n=[m.ad n]∧∃ vs,H (m.ad n)=some (.lst vs)∧Reps K H m s vs l
 | .dct l=>m.fp n=[m.ad n]∧∃ vs,H (m.ad n)=some (.dK vs)∧RepKs K H m s vs l
 | .dfz l=>m.fp n=[m.ad n]∧∃ ob vs,H (m.ad n)=some (.frz ob (.dK vs))∧RepKs K H m s vs l
 | .book pp L=>∃ z L',My.BookAt K CB H (m.ad n) z pp L'∧L'.map (·.1)=L∧m.fp n=My.BFp (m.ad n) z L'
 | .obj C fs=>m.fp n=[m.ad n]∧∃ dx fs',H (m.ad n)=some (.ins C dx fs')∧RepFs K H m s fs' fs
structure SR (K:aa) (CB:ae) (H:Hp) (m:Mp) (s:Sto):Prop where
 nd:(s.cs.map (·.1)).Nodup
 lt:∀ n∈s.cs.map (·.1),n < s.nx
 ok:∀ q∈s.cs,CellOk K CB H m s q.1 q.2
 dj:∀ n∈s.cs.map (·.1),∀ k∈s.cs.map (·.1),n≠k→∀ a∈m.fp n,a∉m.fp k
 hx:∀ n∈s.cs.map (·.1),∀ a∈m.fp n,a∉m.hid
 hs:∀ a∈m.hid,H a≠none∧∀ xs o,H a≠some (.tup xs)∧H a≠some (.frz o (.tup xs))∧H a≠some (.frz o (.lst xs))∧∀ x,H a≠some (.frz o (.own x))
 tb:∀ P q,Tab K P q→P∈m.hid∧Ba H P q
theorem SR.tbk {K:aa}{CB:ae}{H H':Hp}{m:Mp}{s:Sto} (S:SR K CB H m s) (e:TbS H H'):∀ P q,Tab K P q→P∈m.hid∧Ba H' P q:=fun P q t=>⟨(S.tb P q t).1,e.2 P q (S.tb P q t).2⟩
theorem CellOk.kind {K:aa}{CB:ae}{H:Hp}{m:Mp}{s:Sto}{n:Nat}{c:Cell} (h:CellOk K CB H m s n c) {a:ae} (ha:a∈m.fp n):∃ o,H a=some o∧(∀ xs,o≠.tup xs)∧(∀ ob xs,o≠.frz ob (.tup xs)∧o≠.frz ob (.lst xs))∧¬ Odd o:=by
 cases c with
 | lst l=>obtain ⟨e,vs,h,_⟩:=h;rw [e,ax] at ha;subst ha;exact ⟨_,h,(by intro _ z;cases z),(fun _ _=>⟨(by intro z;cases z),(by intro z;cases z)⟩),vP⟩
 | dct l=>obtain ⟨e,vs,h,_⟩:=h;rw [e,ax] at ha;subst ha;exact ⟨_,h,(by intro _ z;cases z),(fun _ _=>⟨(by intro z;cases z),(by intro z;cases z)⟩),EB⟩
 | dfz l=>obtain ⟨e,ob,vs,h,_⟩:=h;rw [e,ax] at ha;subst ha;exact ⟨_,h,(by intro _ z;cases z),(fun _ _=>⟨(by intro z;cases z),(by intro z;cases z)⟩),Hk⟩
 | obj C fs=>obtain ⟨e,dx,vs,h,_⟩:=h;rw [e,ax] at ha;subst ha;exact ⟨_,h,(by intro _ z;cases z),(fun _ _=>⟨(by intro z;cases z),(by intro z;cases z)⟩),Ee⟩
 | book pp L =>
  obtain ⟨z,L',B,_,e⟩:=h
  rw [e] at ha
  unfold My.BFp at ha
  have d:∀ {c:ae}{kvs:List (Key×V)},H c=some (.dK kvs)→∃ o,H c=some o∧(∀ xs,o≠.tup xs)∧(∀ ob xs,o≠.frz ob (.tup xs)∧o≠.frz ob (.lst xs))∧¬ Odd o:=fun h=>⟨_,h,(by intro _ z;cases z),(fun _ _=>⟨(by intro z;cases z),(by intro z;cases z)⟩),EB⟩
  simp only [ai] at ha
  rcases ha with rfl | rfl | rfl | rfl | rfl | rfl | ha
  ·exact ⟨_,B.ob,(by intro _ z;cases z),(fun _ _=>⟨(by intro z;cases z),(by intro z;cases z)⟩),Ee⟩
  ·exact d B.pp
  ·exact d B.tt
  ·exact d B.mm
  ·exact d B.ll
  ·obtain ⟨T,e,_⟩:=B.hh
   exact d e
  ·obtain ⟨q,hq,rfl⟩:=ak.mp ha
   obtain ⟨ts,_,h2,_⟩:=B.he q hq
   exact d h2
theorem SR.pure_none {K:aa}{CB:ae}{H:Hp}{m:Mp}{s:Sto} (S:SR K CB H m s) {a:ae} (h:H a=none):Pur m s a:=⟨fun z=>(S.hs a z).1 h,fun n hn ha=>by
 obtain ⟨q,hq,rfl⟩:=ak.mp hn
 obtain ⟨o,e,_⟩:=(S.ok q hq).kind ha
 rw [h] at e;cases e⟩
theorem SR.pure_tup {K:aa}{CB:ae}{H:Hp}{m:Mp}{s:Sto} (S:SR K CB H m s) {a:ae}{xs:List V} (h:H a=some (.tup xs)):Pur m s a:=⟨fun z=>((S.hs a z).2 xs default).1 h,fun n hn ha=>by
 obtain ⟨q,hq,rfl⟩:=ak.mp hn
 obtain ⟨o,e,k,_⟩:=(S.ok q hq).kind ha
 rw [h] at e;cases e;exact k _ rfl⟩
theorem SR.pure_frz {K:aa}{CB:ae}{H:Hp}{m:Mp}{s:Sto} (S:SR K CB H m s) {a:ae}{ob:Obj}{xs:List V} (h:H a=some (.frz ob (.tup xs))∨H a=some (.frz ob (.lst xs))):Pur m s a:=⟨fun z=>h.elim (fun h=>((S.hs a z).2 xs ob).2.1 h) fun h=>((S.hs a z).2 xs ob).2.2.1 h,fun n hn ha=>by
 obtain ⟨q,hq,rfl⟩:=ak.mp hn
 obtain ⟨o,e,_,k,_⟩:=(S.ok q hq).kind ha
 rcases h with h | h <;> (rw [h] at e;cases e)
 ·exact (k _ _).1 rfl
 ·exact (k _ _).2 rfl⟩
theorem SqT.keepX {K:aa}{CB:ae}{H H':Hp}{m m':Mp}{s s':Sto} (S:SR K CB H m s) (e:ExtR H m s H' m' s') {t:ae}{xs:List V} (h:SqT K H t xs):SqT K H' t xs:=by
 rcases h with h | h
 ·exact .inl (e.pu _ _ h (h.elim (fun h=>S.pure_tup h) fun ⟨_,h⟩=>S.pure_frz (.inl h))).1
 ·exact .inr h
theorem RepFs.ext {K:aa}{H H':Hp}{m m':Mp}{s s':Sto} (e:ExtR H m s H' m' s') {a:List (Str×V)}{b:List (Str×PV)} (h:RepFs K H m s a b):RepFs K H' m' s' a b:=⟨h.1,h.2.ext0 e⟩
theorem CellOk.keep {K:aa}{CB:ae}{H H':Hp}{m m':Mp}{s s':Sto}{n:Nat}{c:Cell} (S:SR K CB H m s) (e:ExtR H m s H' m' s') (k:∀ a∈m.fp n,∀ o,H a=some o→H' a=some o) (ha:m'.ad n=m.ad n) (hf:m'.fp n=m.fp n) (h:CellOk K CB H m s n c):CellOk K CB H' m' s' n c:=by
 cases c with
 | lst l=>obtain ⟨e1,vs,h,r⟩:=h;exact ⟨by rw [ha,hf];exact e1,vs,by rw [ha];exact k _ (by rw [e1];simp) _ h,r.ext0 e⟩
 | dct l=>obtain ⟨e1,vs,h,r⟩:=h;exact ⟨by rw [ha,hf];exact e1,vs,by rw [ha];exact k _ (by rw [e1];simp) _ h,r.ext0 e⟩
 | dfz l=>obtain ⟨e1,ob,vs,h,r⟩:=h;exact ⟨by rw [ha,hf];exact e1,ob,vs,by rw [ha];exact k _ (by rw [e1];simp) _ h,r.ext0 e⟩
 | obj C fs=>obtain ⟨e1,dx,vs,h,r⟩:=h;exact ⟨by rw [ha,hf];exact e1,dx,vs,by rw [ha];exact k _ (by rw [e1];simp) _ h,RepFs.ext e r⟩
 | book pp L =>
  obtain ⟨z,L',B,e1,e2⟩:=h
  rw [e2] at k
  have kb:∀ a∈My.BFp (m.ad n) z L',∀ o,H a=some o→H' a=some o:=k
  refine ⟨z,L',?_,e1,by rw [ha,hf];exact e2⟩
  rw [ha]
  refine ⟨kb _ (by simp [My.BFp]) _ B.ob,kb _ (by simp [My.BFp]) _ B.pp,kb _ (by simp [My.BFp]) _ B.tt,kb _ (by simp [My.BFp]) _ B.mm,kb _ (by simp [My.BFp]) _ B.ll,B.hh.keep (fun o h=>kb _ (by simp [My.BFp]) _ h),fun q hq=>?_,B.nd,B.p6,B.h8⟩
  obtain ⟨ts,h1,h2,h3⟩:=B.he q hq
  refine ⟨ts,h1,kb _ ?_ _ h2,fun y hy=>(h3 y hy).keepX S e⟩
  unfold My.BFp
  simp only [ai]
  right;right;right;right;right;right
  exact ak.mpr ⟨q,hq,rfl⟩
theorem SR.same {K:aa}{CB:ae}{H H':Hp}{m:Mp}{s:Sto} (S:SR K CB H m s) (k:Same H H'):SR K CB H' m s :=
 ⟨S.nd,S.lt,fun q hq=>(S.ok q hq).keep S (Ext.same k).toExtR (fun a _ o h=>k a o h) rfl rfl,S.dj,S.hx,fun a ha=>by
  obtain ⟨h1,h2⟩:=S.hs a ha
  cases e:H a with
  | none=>exact absurd e h1
  | some o =>
   rw [k a o e]
   rw [e] at h2
   exact ⟨by simp,h2⟩,S.tbk (.same k)⟩
theorem SR.get {K:aa}{CB:ae}{H:Hp}{m:Mp}{s:Sto} (S:SR K CB H m s) {n:Nat}{c:Cell} (h:s.get n=some c):CellOk K CB H m s n c:=S.ok _ (lb h)
theorem SR.getlt {K:aa}{CB:ae}{H:Hp}{m:Mp}{s:Sto} (S:SR K CB H m s) {n:Nat}{c:Cell} (h:s.get n=some c):n < s.nx:=S.lt _ (ak.mpr ⟨_,lb h,rfl⟩)
def Mp.fput (m:Mp) (n:Nat) (f':List ae):Mp:=⟨m.ad,fun j=>if j=n then f' else m.fp j,m.hid⟩
theorem SR.hsk {K:aa}{CB:ae}{H H':Hp}{m:Mp}{s:Sto} (S:SR K CB H m s) (k:∀ a∈m.hid,∀ o,H a=some o→(∀ ps,o≠.tbl ps)→H' a=some o) (kt:TbS H H'):∀ a∈m.hid,H' a≠none∧∀ xs o,H' a≠some (.tup xs)∧H' a≠some (.frz o (.tup xs))∧H' a≠some (.frz o (.lst xs))∧∀ x,H' a≠some (.frz o (.own x)):=fun a ha=>by
 obtain ⟨h1,h2⟩:=S.hs a ha
 cases e:H a with
 | none=>exact absurd e h1
 | some o =>
  by_cases t:∃ ps,o=.tbl ps
  ·obtain ⟨ps,t⟩:=t
   rw [t] at e
   obtain ⟨ps',e'⟩:=kt.1 a ps e
   rw [e']
   exact ⟨by simp,fun _ _=>⟨by simp,by simp,by simp,by simp⟩⟩
  rw [k a ha o e fun ps z=>t ⟨ps,z⟩]
  rw [e] at h2
  exact ⟨by simp,h2⟩
theorem SR.put' {K:aa}{CB:ae}{H:Hp}{m:Mp}{s:Sto} (S:SR K CB H m s) {n:Nat}{c c':Cell} (hn:s.get n=some c) (H':Hp) (f':List ae) (k:∀ a o,H a=some o→a∉m.fp n→H' a=some o) (hnew:∀ a∈f',a∈m.fp n∨H a=none)
  (hok:ExtR H m s H' (m.fput n f') (s.set n c')→CellOk K CB H' (m.fput n f') (s.set n c') n c') :
  SR K CB H' (m.fput n f') (s.set n c')∧ExtR H m s H' (m.fput n f') (s.set n c')∧((∀ l,c≠.dfz l)→Ext H m s H' (m.fput n f') (s.set n c')):=by
 have hin:n∈s.cs.map (·.1):=ak.mpr ⟨_,lb hn,rfl⟩
 have hkd:∀ a∈m.hid,∀ o,H a=some o→(∀ ps,o≠.tbl ps)→H' a=some o:=fun a ha o h _=>k a o h fun z=>S.hx n hin a z ha
 have htb:TbS H H':=.of fun a o h od=>k a o h fun z=>by
  obtain ⟨o',e',_,_,no⟩:=(S.get hn).kind z
  rw [h] at e';cases e';exact no od
 have hx:ExtR H m s H' (m.fput n f') (s.set n c'):=by
  refine ⟨aA _,fun _ _=>rfl,fun a u h p=>?_,fun a u h _ p=>k _ _ h (p.2 n hin)⟩
  have hne:∃ o,H a=some o:=h.elim (fun h=>⟨_,h⟩) fun ⟨o,h⟩=>⟨_,h⟩
  refine ⟨h.elim (fun h=>.inl (k _ _ h (p.2 n hin))) fun ⟨o,h⟩=>.inr ⟨o,k _ _ h (p.2 n hin)⟩,p.1,fun j hj hm=>?_⟩
  have hm:a∈(if j=n then f' else m.fp j):=hm
  have hj':j∈s.cs.map (·.1):=by rw [← mZ (n:=n) (c:=c')];exact hj
  by_cases e:j=n
  ·simp only [e,if_pos] at hm
   rcases hnew a hm with z | z
   ·exact p.2 n hin z
   ·obtain ⟨o,ho⟩:=hne;rw [z] at ho;cases ho
  ·simp only [if_neg e] at hm
   exact p.2 j hj' hm
 refine ⟨⟨?_,?_,fun q hq=>?_,fun j hj i hi hne a ha hb=>?_,fun j hj a ha hb=>?_,S.hsk hkd htb,S.tbk htb⟩,hx,fun hnd=>⟨⟨hx,fun j l hj h=>?_⟩,rfl,hkd⟩⟩
 ·show ((l4 n c' s.cs).map (·.1)).Nodup
  rw [mZ];exact S.nd
 ·intro j hj
  have hj':j∈s.cs.map (·.1):=by rw [← mZ (n:=n) (c:=c')];exact hj
  exact S.lt j hj'
 ·rcases yN S.nd hq with rfl | ⟨hq,hne⟩
  ·exact hok hx
  ·refine (S.ok q hq).keep S hx (fun a ha o h=>k a o h (S.dj _ (ak.mpr ⟨q,hq,rfl⟩) _ hin hne a ha)) rfl ?_
   show (if q.1=n then f' else m.fp q.1)=_
   rw [if_neg hne]
 ·have ha:a∈(if j=n then f' else m.fp j):=ha
  have hb:a∈(if i=n then f' else m.fp i):=hb
  have hj':j∈s.cs.map (·.1):=by rw [← mZ (n:=n) (c:=c')];exact hj
  have hi':i∈s.cs.map (·.1):=by rw [← mZ (n:=n) (c:=c')];exact hi
  have none_out:∀ j∈s.cs.map (·.1),∀ a∈m.fp j,H a≠none:=fun j hj a ha z=>by
   obtain ⟨q,hq,rfl⟩:=ak.mp hj
   obtain ⟨o,e,_⟩:=(S.ok q hq).kind ha
   rw [z] at e;cases e
  by_cases e1:j=n
  ·have e2:i≠n:=fun z=>hne (e1.trans z.symm)
   simp only [e1,if_pos] at ha
   simp only [if_neg e2] at hb
   rcases hnew a ha with z | z
   ·exact S.dj _ hin _ hi' (fun z=>e2 z.symm) a z hb
   ·exact none_out i hi' a hb z
  ·simp only [if_neg e1] at ha
   by_cases e2:i=n
   ·simp only [e2,if_pos] at hb
    rcases hnew a hb with z | z
    ·exact S.dj _ hj' _ hin e1 a ha z
    ·exact none_out j hj' a ha z
   ·simp only [if_neg e2] at hb
    exact S.dj _ hj' _ hi' hne a ha hb
 ·have ha:a∈(if j=n then f' else m.fp j):=ha
  have hj':j∈s.cs.map (·.1):=by rw [← mZ (n:=n) (c:=c')];exact hj
  by_cases e1:j=n
  ·rw [if_pos e1] at ha
   rcases hnew a ha with z | z
   ·exact S.hx n hin a z hb
   ·exact (S.hs a hb).1 z
  ·rw [if_neg e1] at ha
   exact S.hx j hj' a ha hb
 ·have hjn:j≠n:=fun z=>by
   subst z
   have h:s.get j=some (.dfz l):=h
   rw [hn] at h
   exact hnd l (aZ h)
  refine ⟨(oi hjn).trans h,fun o ho=>?_⟩
  obtain ⟨e1,_⟩:=S.ok _ (lb h)
  exact k _ _ ho (S.dj j (ak.mpr ⟨_,lb h,rfl⟩) n hin hjn _ (by rw [e1];simp))
theorem SR.put {K:aa}{CB:ae}{H:Hp}{m:Mp}{s:Sto} (S:SR K CB H m s) {n:Nat}{c c':Cell} (hn:s.get n=some c) (hnd:∀ l,c≠.dfz l) (H':Hp) (f':List ae) (k:∀ a o,H a=some o→a∉m.fp n→H' a=some o) (hnew:∀ a∈f',a∈m.fp n∨H a=none)
  (hok:ExtR H m s H' (m.fput n f') (s.set n c')→CellOk K CB H' (m.fput n f') (s.set n c') n c'):SR K CB H' (m.fput n f') (s.set n c')∧Ext H m s H' (m.fput n f') (s.set n c') :=
 let ⟨a,_,b⟩:=S.put' hn H' f' k hnew hok;⟨a,b hnd⟩
def Mp.add (m:Mp) (n:Nat) (p:ae) (f:List ae):Mp:=⟨fun j=>if j=n then p else m.ad j,fun j=>if j=n then f else m.fp j,m.hid⟩
theorem SR.add {K:aa}{CB:ae}{H:Hp}{m:Mp}{s:Sto} (S:SR K CB H m s) {c:Cell} (H':Hp) (p:ae) (f:List ae) (k:Same H H') (hf:∀ a∈f,H a=none) (hok:Ext H m s H' (m.add s.nx p f) (s.add c)→CellOk K CB H' (m.add s.nx p f) (s.add c) s.nx c) :
  SR K CB H' (m.add s.nx p f) (s.add c)∧Ext H m s H' (m.add s.nx p f) (s.add c):=by
 have hlt:∀ j∈s.cs.map (·.1),j≠s.nx:=fun j hj=>aR (S.lt j hj)
 have none_out:∀ j∈s.cs.map (·.1),∀ a∈m.fp j,H a≠none:=fun j hj a ha z=>by
  obtain ⟨q,hq,rfl⟩:=ak.mp hj
  obtain ⟨o,e,_⟩:=(S.ok q hq).kind ha
  rw [z] at e;cases e
 have hx:Ext H m s H' (m.add s.nx p f) (s.add c):=by
  refine ⟨⟨⟨eL _,fun j hj=>?_,fun a u h q=>⟨h.same k,q.1,fun j hj hm=>?_⟩,fun a u h _ _=>k _ _ h⟩,fun j l hj h=>⟨?_,fun o ho=>k _ _ ho⟩⟩,rfl,fun a _ o h _=>k a o h⟩
  rotate_left 2
  ·show ly ((s.nx,c)::s.cs) j=_
   unfold ly
   rw [if_neg (fun z=>aR hj z.symm)]
   exact h
  ·show (if j=s.nx then p else m.ad j)=_
   rw [if_neg (aR hj)]
  ·have hm:a∈(if j=s.nx then f else m.fp j):=hm
   rcases ai.mp (show j∈s.nx::s.cs.map (·.1) from hj) with e | hj
   ·rw [if_pos e] at hm
    have:=hf a hm
    rcases h with h | ⟨o,h⟩ <;> (rw [this] at h;cases h)
   ·rw [if_neg (hlt j hj)] at hm
    exact q.2 j hj hm
 have hfp:∀ j∈s.cs.map (·.1),(m.add s.nx p f).fp j=m.fp j:=fun j hj=>by
  show (if j=s.nx then f else m.fp j)=_
  rw [if_neg (hlt j hj)]
 have hfn:(m.add s.nx p f).fp s.nx=f:=by show (if s.nx=s.nx then f else _)=_;rw [if_pos rfl]
 refine ⟨⟨?_,?_,fun q hq=>?_,fun j hj i hi hne a ha hb=>?_,fun j hj a ha hb=>?_,S.hsk hx.hk (.same k),S.tbk (.same k)⟩,hx⟩
 ·exact aN.mpr ⟨fun z=>hlt _ z rfl,S.nd⟩
 ·intro j hj
  rcases ai.mp (show j∈s.nx::s.cs.map (·.1) from hj) with e | hj
  ·rw [e];exact di _
  ·exact ir (S.lt j hj)
 ·rcases ai.mp (show q∈(s.nx,c)::s.cs from hq) with rfl | hq
  ·exact hok hx
  ·have hqm:q.1∈s.cs.map (·.1):=ak.mpr ⟨q,hq,rfl⟩
   exact (S.ok q hq).keep S hx.toExtR (fun a ha o h=>k a o h) (hx.ad _ (S.lt _ hqm)) (hfp _ hqm)
 ·rcases ai.mp (show j∈s.nx::s.cs.map (·.1) from hj) with e | hj <;> rcases ai.mp (show i∈s.nx::s.cs.map (·.1) from hi) with e' | hi
  ·exact hne (e.trans e'.symm)
  ·rw [e,hfn] at ha;rw [hfp i hi] at hb;exact none_out i hi a hb (hf a ha)
  ·rw [hfp j hj] at ha;rw [e',hfn] at hb;exact none_out j hj a ha (hf a hb)
  ·rw [hfp j hj] at ha;rw [hfp i hi] at hb;exact S.dj j hj i hi hne a ha hb
 ·rcases ai.mp (show j∈s.nx::s.cs.map (·.1) from hj) with e | hj
  ·rw [e,hfn] at ha;exact (S.hs a hb).1 (hf a ha)
  ·rw [hfp j hj] at ha;exact S.hx j hj a ha hb
theorem SR.del {K:aa}{CB:ae}{H:Hp}{m:Mp}{s:Sto} (S:SR K CB H m s) (n:Nat) (hnd:∀ l,s.get n≠some (.dfz l)):SR K CB H m (s.del n)∧Ext H m s H m (s.del n):=by
 have hin:∀ j∈(s.del n).cs.map (·.1),j∈s.cs.map (·.1):=fun j hj=>by
  obtain ⟨q,hq,rfl⟩:=ak.mp hj
  exact ak.mpr ⟨q,qA hq,rfl⟩
 have hx:Ext H m s H m (s.del n):=⟨⟨⟨aA _,fun _ _=>rfl,fun a u h p=>⟨h,p.1,fun j hj=>p.2 j (hin j hj)⟩,fun _ _ h _ _=>h⟩,fun j l hj h=>⟨(qj (fun z=>hnd l (by rw [← z];exact h))).trans h,fun o h=>h⟩⟩,rfl,fun _ _ _ h _=>h⟩
 exact ⟨⟨A0 S.nd,fun j hj=>S.lt j (hin j hj),fun q hq=>(S.ok q (qA hq)).keep S hx.toExtR (fun _ _ _ h=>h) rfl rfl,fun j hj i hi=>S.dj j (hin j hj) i (hin i hi),fun j hj=>S.hx j (hin j hj),S.hs,S.tb⟩,hx⟩
inductive Out (α:Type) where
 | ok (a:α) (s:Sto) | ex (c:ae) (s:Sto) | bad
def Out.bind {α β:Type} (o:Out α) (k:α→Sto→Out β):Out β:=match o with
 | .ok a s=>k a s
 | .ex c s=>.ex c s
 | .bad=>.bad
abbrev En:=List (Option PV)
abbrev XE:=En→Sto→Out PV
abbrev XT:=En→Sto→Out Bool
abbrev XA:=En→Sto→Out (List PV)
inductive SO where
 | nx (ρ:En) (s:Sto) | rt (v:PV) (s:Sto) | bk (ρ:En) (s:Sto) | ct (ρ:En) (s:Sto) | ex (c:ae) (s:Sto) | bad
abbrev XS:=En→Sto→SO
def Post {α β:Type} (K:aa) (CB:ae) (R:Hp→Mp→Sto→β→α→Prop) (E:XK) (o:Out α) (H:Hp) (m:Mp) (s:Sto) (Q:β→Hp→Prop):Prop:=match o with
 | .ok v s'=>∀ u H' m',Ext H m s H' m' s'→SR K CB H' m' s'→R H' m' s' u v→Q u H'
 | .ex c s'=>∀ H' m',Ext H m s H' m' s'→SR K CB H' m' s'→E (.ref c) none H'
 | .bad=>False
theorem Post.shift {α β:Type}{K:aa}{CB:ae}{R:Hp→Mp→Sto→β→α→Prop}{E:XK}{o:Out α}{H H1:Hp}{m m1:Mp}{s s1:Sto}{Q:β→Hp→Prop} (e:Ext H m s H1 m1 s1) (h:Post K CB R E o H m s Q):Post K CB R E o H1 m1 s1 Q:=by
 cases o with
 | ok v s'=>exact fun u H' m' x S r=>h u H' m' (e.trans x) S r
 | ex c s'=>exact fun H' m' x S=>h H' m' (e.trans x) S
 | bad=>exact h
theorem Post.bind {α β α' β':Type}{K:aa}{CB:ae}{R:Hp→Mp→Sto→β→α→Prop}{R':Hp→Mp→Sto→β'→α'→Prop}{E:XK}{o:Out α}{k:α→Sto→Out α'}{H:Hp}{m:Mp}{s:Sto}{Q:β'→Hp→Prop}{Q1:β→Hp→Prop} (h:Post K CB R' E (o.bind k) H m s Q)
  (f:∀ v s1 u H1 m1,Ext H m s H1 m1 s1→SR K CB H1 m1 s1→R H1 m1 s1 u v→Post K CB R' E (k v s1) H1 m1 s1 Q→Q1 u H1):Post K CB R E o H m s Q1:=by
 cases o with
 | ok v s1=>exact fun u H1 m1 x S r=>f v s1 u H1 m1 x S r (Post.shift x h)
 | ex c s'=>exact h
 | bad=>exact h
theorem Post.here {α β:Type}{K:aa}{CB:ae}{R:Hp→Mp→Sto→β→α→Prop}{E:XK}{v:α}{H:Hp}{m:Mp}{s:Sto}{Q:β→Hp→Prop}{u:β} (h:Post K CB R E (.ok v s) H m s Q) (S:SR K CB H m s) (r:R H m s u v):Q u H:=h u H m .refl S r
theorem Post.new {α β:Type}{K:aa}{CB:ae}{R:Hp→Mp→Sto→β→α→Prop}{E:XK}{v:α}{H:Hp}{m:Mp}{s:Sto}{Q:β→Hp→Prop}{u:β}{p:ae}{o:HO} (h:Post K CB R E (.ok v s) H m s Q) (S:SR K CB H m s) (hp:H p=none)
  (r:Ext H m s (upd H p o) m s→SR K CB (upd H p o) m s→R (upd H p o) m s u v):Q u (upd H p o):=by
 have k:Same H (upd H p o):=My.oS hp
 exact h u _ m (.same k) (S.same k) (r (.same k) (S.same k))
structure ER (K:aa) (H:Hp) (m:Mp) (s:Sto) (σ:St) (ρ:En):Prop where
 len:ρ.length=σ.length
 at_:∀ (i:Nat) (p:PV),ρ[i]?=some (some p)→∃ u,σ[i]?=some (some u)∧Rep K H m s u p
theorem ER.ext {K:aa}{H H':Hp}{m m':Mp}{s s':Sto}{σ:St}{ρ:En} (h:ER K H m s σ ρ) (e:Ext H m s H' m' s'):ER K H' m' s' σ ρ :=
 ⟨h.len,fun i p q=>let ⟨u,a,b⟩:=h.at_ i p q;⟨u,a,b.ext e⟩⟩
theorem ER.set {K:aa}{H:Hp}{m:Mp}{s:Sto}{σ:St}{ρ:En}{u:V}{p:PV} (h:ER K H m s σ ρ) (i:Nat) (r:Rep K H m s u p):ER K H m s (σ.set i (some u)) (ρ.set i (some p)):=by
 refine ⟨by simp [h.len],fun j q e=>?_⟩
 rw [List.getElem?_set] at e ⊢
 by_cases c:i=j
 ·rw [if_pos c] at e ⊢
  by_cases d:i < ρ.length
  ·rw [if_pos d] at e;rw [if_pos (by rw [← h.len];exact d)];cases e;exact ⟨u,rfl,r⟩
  ·rw [if_neg d] at e;cases e
 ·rw [if_neg c] at e ⊢;exact h.at_ j q e
theorem ER.cons {K:aa}{H:Hp}{m:Mp}{s:Sto}{σ:St}{ρ:En}{u:V}{p:PV} (h:ER K H m s σ ρ) (r:Rep K H m s u p):ER K H m s (some u::σ) (some p::ρ):=by
 refine ⟨by simp [h.len],fun j q e=>?_⟩
 cases j with
 | zero=>simp at e;subst e;exact ⟨u,rfl,r⟩
 | succ j=>exact h.at_ j q (by simpa using e)
theorem ER.start {K:aa}{H:Hp}{m:Mp}{s:Sto}:∀ {vs:List V}{ps:List PV},Reps K H m s vs ps→∀ n,ER K H m s (vs.map some++aV n none) (ps.map some++aV n none)
 | _,_,.nil,n=>⟨by simp,fun i p e=>by
   have e:(aV n (none:Option PV))[i]?=some (some p):=by simpa using e
   rw [jh] at e
   split at e <;> cases e⟩
 | _,_,.cons a b,n=>(ER.start b n).cons a
def lh (ix:List Nat) (ρ:En):En:=ix.map fun i=>(ρ[i]?).getD none
theorem ER.capt {K:aa}{H:Hp}{m:Mp}{s:Sto}{σ:St}{ρ:En} (h:ER K H m s σ ρ) (ix:List Nat):ER K H m s (capt ix σ) (lh ix ρ):=by
 refine ⟨by simp [L2.capt,lh],fun j q e=>?_⟩
 unfold lh at e
 unfold L2.capt
 rw [bi] at e ⊢
 cases c:ix[j]? with
 | none=>rw [c] at e;cases e
 | some i =>
  rw [c] at e
  have e:(ρ[i]?).getD none=some q:=aZ e
  cases d:ρ[i]? with
  | none=>rw [d] at e;cases e
  | some o =>
   rw [d] at e
   have e:o=some q:=e
   subst e
   obtain ⟨u,h1,h2⟩:=h.at_ i q d
   refine ⟨u,?_,h2⟩
   show some ((σ[i]?).getD none)=_
   rw [h1];rfl
def TDE (K:aa) (CB:ae) (E:XK) (f:XE):TE:=fun σ H Q=>∃ ρ s m,ER K H m s σ ρ∧SR K CB H m s∧Post K CB (Rep K) E (f ρ s) H m s Q
def TDT (K:aa) (CB:ae) (E:XK) (f:XT):TT:=fun σ H Q=>∃ ρ s m,ER K H m s σ ρ∧SR K CB H m s∧Post K CB (fun _ _ _ u v=>u=v) E (f ρ s) H m s Q
def TDA (K:aa) (CB:ae) (E:XK) (f:XA):TA:=fun σ H Q=>∃ ρ s m,ER K H m s σ ρ∧SR K CB H m s∧Post K CB (Reps K) E (f ρ s) H m s Q
def PostS (K:aa) (CB:ae) (E:XK) (o:SO) (H:Hp) (m:Mp) (s:Sto) (D:Ends):Prop:=match o with
 | .nx ρ' s'=>∀ σ' H' m',Ext H m s H' m' s'→SR K CB H' m' s'→ER K H' m' s' σ' ρ'→D.nx σ' H'
 | .rt v s'=>∀ u H' m',Ext H m s H' m' s'→SR K CB H' m' s'→Rep K H' m' s' u v→D.rt u H'
 | .bk ρ' s'=>∀ σ' H' m',Ext H m s H' m' s'→SR K CB H' m' s'→ER K H' m' s' σ' ρ'→D.bk σ' H'
 | .ct ρ' s'=>∀ σ' H' m',Ext H m s H' m' s'→SR K CB H' m' s'→ER K H' m' s' σ' ρ'→D.ct σ' H'
 | .ex c s'=>∀ H' m',Ext H m s H' m' s'→SR K CB H' m' s'→E (.ref c) none H'
 | .bad=>False
def TDS (K:aa) (CB:ae) (E:XK) (g:XS):TS:=fun D σ H=>∃ ρ s m,ER K H m s σ ρ∧SR K CB H m s∧PostS K CB E (g ρ s) H m s D
structure DE (X:Cx) (CB:ae) (E:XK) (e:bo) (f:XE):Prop where
 pe:PE X e (TDE X.K CB E f)
structure DT (X:Cx) (CB:ae) (E:XK) (e:bo) (f:XT):Prop where
 pt:PT X e (TDT X.K CB E f)
structure DW (X:Cx) (CB:ae) (E:XK) (e:bo) (f:XT):Prop where
 pw:PW X e (TDT X.K CB E f)
structure DA (X:Cx) (CB:ae) (E:XK) (es:List bo) (f:XA):Prop where
 pa:PA X es (TDA X.K CB E f)
structure DS (X:Cx) (CB:ae) (E:XK) (st:bX) (g:XS):Prop where
 ps:PS X st (TDS X.K CB E g)
structure DSs (X:Cx) (CB:ae) (E:XK) (st:List bX) (g:XS):Prop where
 pss:PSs X st (TDS X.K CB E g)
theorem PE.mono {X:Cx}{e:bo}{t t':TE} (h:PE X e t) (k:∀ σ H Q,t' σ H Q→t σ H Q):PE X e t':=fun pins s σ H Q I q=>h pins s σ H Q I (k σ H Q q)
theorem PT.mono {X:Cx}{e:bo}{t t':TT} (h:PT X e t) (k:∀ σ H Q,t' σ H Q→t σ H Q):PT X e t':=fun pins s σ H Q I q=>h pins s σ H Q I (k σ H Q q)
theorem PW.mono {X:Cx}{e:bo}{t t':TT} (h:PW X e t) (k:∀ σ H Q,t' σ H Q→t σ H Q):PW X e t':=fun w pins s σ H Q I q=>h w pins s σ H Q I (k σ H Q q)
theorem PA.mono {X:Cx}{e:List bo}{t t':TA} (h:PA X e t) (k:∀ σ H Q,t' σ H Q→t σ H Q):PA X e t':=fun pos pins s σ H Q I q=>h pos pins s σ H Q I (k σ H Q q)
theorem PS.mono {X:Cx}{e:bX}{t t':TS} (h:PS X e t) (k:∀ D σ H,t' D σ H→t D σ H):PS X e t':=fun pins s σ H D I q=>h pins s σ H D I (k D σ H q)
theorem PSs.mono {X:Cx}{e:List bX}{t t':TS} (h:PSs X e t) (k:∀ D σ H,t' D σ H→t D σ H):PSs X e t':=fun pins s σ H D I q=>h pins s σ H D I (k D σ H q)
def xVar (i:Nat) (ρ:En) (s:Sto):Out PV:=match ρ[i]? with
 | some (some p)=>.ok p s
 | _=>.bad
def xC (p:PV) (_:En) (s:Sto):Out PV:=.ok p s
def x1 (f:XE) (F:PV→Sto→Out PV) (ρ:En) (s:Sto):Out PV:=(f ρ s).bind F
def x2 (f g:XE) (F:PV→PV→Sto→Out PV) (ρ:En) (s:Sto):Out PV:=(f ρ s).bind fun v s1=>(g ρ s1).bind fun w s2=>F v w s2
def xNil (_:En) (s:Sto):Out (List PV):=.ok [] s
def xCons (f:XE) (g:XA) (ρ:En) (s:Sto):Out (List PV):=(f ρ s).bind fun v s1=>(g ρ s1).bind fun vs s2=>.ok (v::vs) s2
section
variable {X:Cx}{CB:ae}{E:XK}{a b c e:bo}{es:List bo}{f g h:XE}{fa:XA}{p pos apos:Pos}{x:Str}
def Op2 (K:aa) (CB:ae) (E:XK) (r:R2) (F:PV→PV→Sto→Out PV):Prop:=∀ H m s v w x y Q,SR K CB H m s→Rep K H m s x v→Rep K H m s y w→Post K CB (Rep K) E (F v w s) H m s Q→r x y H Q
def Op1 (K:aa) (CB:ae) (E:XK) (r:V→Hp→VK→Prop) (F:PV→Sto→Out PV):Prop:=∀ H m s v x Q,SR K CB H m s→Rep K H m s x v→Post K CB (Rep K) E (F v s) H m s Q→r x H Q
def OpN (K:aa) (CB:ae) (E:XK) (r:List V→Hp→VK→Prop) (F:List PV→Sto→Out PV):Prop:=∀ H m s v x Q,SR K CB H m s→Reps K H m s x v→Post K CB (Rep K) E (F v s) H m s Q→r x H Q
theorem two {r:R2}{F:PV→PV→Sto→Out PV} (o:Op2 X.K CB E r F) {σ:St}{H:Hp}{Q:VK} (q:TDE X.K CB E (x2 f g F) σ H Q):tOp r (TDE X.K CB E f) (TDE X.K CB E g) σ H Q:=by
 obtain ⟨ρ,s,m,er,S,P⟩:=q
 exact ⟨ρ,s,m,er,S,P.bind fun v s1 u H1 m1 e1 S1 r1 P1=>⟨ρ,s1,m1,er.ext e1,S1,P1.bind fun w s2 u2 H2 m2 e2 S2 r2 P2=>o H2 m2 s2 v w u u2 Q S2 (r1.ext e2) r2 P2⟩⟩
theorem kf (i:Nat) (hN:X.N[i]?=some x:=by rfl) (hv:Vis X.env.scope x:=by first | exact bv rfl | exact dO (bv rfl) | exact dO (dO rfl)) (hd:(x == ("__debug__":Str))=false:=by decide)
  (hcd:(x == ("__classdict__":Str))=false:=by decide):DE X CB E (.Name x pos) (xVar i):=⟨(xY hN hv hd hcd).mono fun σ H Q ⟨ρ,s,m,er,S,P⟩=>by
 unfold xVar at P
 split at P
 ·rename_i q hq
  obtain ⟨u,h1,h2⟩:=er.at_ i q hq
  exact ⟨u,h1,P.here S h2⟩
 ·exact P.elim⟩
theorem kq {i:Int}{j:Nat}:DE X CB E (.Constant (.int i) j pos) (xC (.int i)):=⟨pe_int.mono fun σ H Q ⟨ρ,s,m,er,S,P⟩=>P.here S .int⟩
theorem qO {i:Bool}{j:Nat}:DE X CB E (.Constant (.bool i) j pos) (xC (.bl i)):=⟨pe_bl.mono fun σ H Q ⟨ρ,s,m,er,S,P⟩=>P.here S .bl⟩
theorem Em {i:Str}{j:Nat}:DE X CB E (.Constant (.str i) j pos) (xC (.str i)):=⟨pe_str.mono fun σ H Q ⟨ρ,s,m,er,S,P⟩=>P.here S .str⟩
theorem Ep {j:Nat}:DE X CB E (.Constant .none j pos) (xC .non):=⟨pe_non.mono fun σ H Q ⟨ρ,s,m,er,S,P⟩=>P.here S .non⟩
theorem A1 {v:V}{q:PV}{u:af} (hg:Gl X x) (hm:X.mg x=some u) (r:RelV v u) (hq:∀ H m s,Rep X.K H m s v q) (hd:(x == ("__debug__":Str))=false:=by decide):DE X CB E (.Name x pos) (xC q) :=
 ⟨(nW hg hm r hd).mono fun σ H Q ⟨ρ,s,m,er,S,P⟩=>P.here S (hq H m s)⟩
theorem tV {op:Operator}{r:R2}{F:PV→PV→Sto→Out PV} (ho:OpR X (cY op) r) (o:Op2 X.K CB E r F) (ha:DE X CB E a f) (hb:DE X CB E b g):DE X CB E (.BinOp a op b pos) (x2 f g F):=⟨(pU ho ha.pe hb.pe).mono fun σ H Q q=>two o q⟩
theorem de_un {op:UnaryOp}{r:V→Hp→VK→Prop}{F:PV→Sto→Out PV} (ho:UnR X (unaryOp op) r) (o:Op1 X.K CB E r F) (ha:DE X CB E a f):DE X CB E (.UnaryOp op a pos) (x1 f F):=⟨(Gd ho ha.pe).mono fun σ H Q ⟨ρ,s,m,er,S,P⟩ =>
 ⟨ρ,s,m,er,S,P.bind fun v s1 u H1 m1 e1 S1 r1 P1=>o H1 m1 s1 v u Q S1 r1 P1⟩⟩
theorem de_cmp {op:iz}{r:R2}{F:PV→PV→Sto→Out PV} (ho:OpR X (bT op) r) (o:Op2 X.K CB E r F) (ha:DE X CB E a f) (hb:DE X CB E b g) (hm:cI op b=false):DE X CB E (.Compare a [op] [b] pos) (x2 f g F):=⟨(AQ ho ha.pe hb.pe hm).mono fun σ H Q q=>two o q⟩
def xTr (f:XE) (ρ:En) (s:Sto):Out Bool:=(f ρ s).bind fun v s1=>match v with
 | .bl b=>.ok b s1
 | _=>.bad
theorem TDT.tst {σ:St}{H:Hp}{Q:Bool→Hp→Prop} (q:TDT X.K CB E (xTr f) σ H Q):TDE X.K CB E f σ H fun x H1=>∃ k,x=.bl k∧Q k H1:=by
 obtain ⟨ρ,s,m,er,S,P⟩:=q
 refine ⟨ρ,s,m,er,S,P.bind fun v s1 u H1 m1 e1 S1 r1 P1=>?_⟩
 cases r1 <;> first | exact P1.elim | exact ⟨_,rfl,P1.here S1 rfl⟩
theorem dt_cmp {op:iz}{r:R2}{F:PV→PV→Sto→Out PV} (ho:OpR X (bT op) r) (o:Op2 X.K CB E r F) (ha:DE X CB E a f) (hb:DE X CB E b g) (hm:cI op b=false):DT X CB E (.Compare a [op] [b] pos) (xTr (x2 f g F)):=⟨(qV ho ha.pe hb.pe hm).mono fun σ H Q q=>two o (TDT.tst q)⟩
theorem oC (h:DE X CB E e f) (he:∀ whole,isTrue e X.env whole=(do let v ← whole;gs e.pos;holding [v] (truthy v)):=by intro _;rfl):DT X CB E e (xTr f):=⟨(rT h.pe he).mono fun σ H Q q=>TDT.tst q⟩
def xChain (f g h:XE) (F G:PV→PV→Sto→Out PV) (ρ:En) (s:Sto):Out PV:=(f ρ s).bind fun v s1=>(g ρ s1).bind fun w s2=>(F v w s2).bind fun z s3=>match z with
 | .bl true=>(h ρ s3).bind fun y s4=>G w y s4
 | .bl false=>.ok (.bl false) s3
 | _=>.bad
def xNot (f:XT) (ρ:En) (s:Sto):Out Bool:=(f ρ s).bind fun b s1=>.ok (!b) s1
def xAnd (f g:XT) (ρ:En) (s:Sto):Out Bool:=(f ρ s).bind fun b s1=>if b=true then g ρ s1 else .ok false s1
def xOr (f g:XT) (ρ:En) (s:Sto):Out Bool:=(f ρ s).bind fun b s1=>if b=true then .ok true s1 else g ρ s1
variable {t u:XT}{lC:List bo}
theorem t7 (h:DT X CB E a t):DT X CB E (.UnaryOp .Not a pos) (xNot t):=⟨(vz h.pt).mono fun σ H Q ⟨ρ,s,m,er,S,P⟩ =>
 ⟨ρ,s,m,er,S,P.bind fun v s1 b H1 m1 e1 S1 r1 P1=>by cases r1;exact P1.here S1 rfl⟩⟩
theorem FH (h:DT X CB E a t):DW X CB E (.BoolOp .And [a] pos) t:=⟨E3 h.pt⟩
theorem At (h:DT X CB E a t):DW X CB E (.BoolOp .Or [a] pos) t:=⟨D7 h.pt⟩
theorem HD (h:DT X CB E a t) (k:DW X CB E (.BoolOp .And (b::lC) pos) u):DW X CB E (.BoolOp .And (a::b::lC) pos) (xAnd t u):=⟨(GT h.pt k.pw).mono fun σ H Q ⟨ρ,s,m,er,S,P⟩ =>
 ⟨ρ,s,m,er,S,P.bind fun v s1 b H1 m1 e1 S1 r1 P1=>by
  cases r1
  refine rB (fun c=>?_) fun c=>?_
  ·rw [if_pos c] at P1;exact ⟨ρ,s1,m1,er.ext e1,S1,P1⟩
  ·rw [if_neg c] at P1;exact P1.here S1 rfl⟩⟩
theorem EE (h:DT X CB E a t) (k:DW X CB E (.BoolOp .Or (b::lC) pos) u):DW X CB E (.BoolOp .Or (a::b::lC) pos) (xOr t u):=⟨(Gc h.pt k.pw).mono fun σ H Q ⟨ρ,s,m,er,S,P⟩ =>
 ⟨ρ,s,m,er,S,P.bind fun v s1 b H1 m1 e1 S1 r1 P1=>by
  cases r1
  refine rB (fun c=>?_) fun c=>?_
  ·rw [if_pos c] at P1;exact P1.here S1 rfl
  ·rw [if_neg c] at P1;exact ⟨ρ,s1,m1,er.ext e1,S1,P1⟩⟩⟩
theorem DW.dt (h:DW X CB E a t):DT X CB E a t:=⟨h.pw.pt⟩
def xAndV (f g:XE) (ρ:En) (s:Sto):Out PV:=(f ρ s).bind fun v s1=>match v with
 | .bl true=>g ρ s1
 | .bl false=>.ok (.bl false) s1
 | _=>.bad
def xOrV (f g:XE) (ρ:En) (s:Sto):Out PV:=(f ρ s).bind fun v s1=>match v with
 | .bl true=>.ok (.bl true) s1
 | .bl false=>g ρ s1
 | _=>.bad
def xNotV (f:XE) (ρ:En) (s:Sto):Out PV:=(f ρ s).bind fun v s1=>match v with
 | .bl b=>.ok (.bl (!b)) s1
 | _=>.bad
theorem Eo {op:BoolOp} (h:DE X CB E a f):DE X CB E (.BoolOp op [a] pos) f:=⟨Aq h.pe⟩
theorem Er (h:DE X CB E a f) (k:DE X CB E (.BoolOp .And (b::lC) pos) g):DE X CB E (.BoolOp .And (a::b::lC) pos) (xAndV f g):=⟨(Eb h.pe k.pe).mono fun σ H Q ⟨ρ,s,m,er,S,P⟩ =>
 ⟨ρ,s,m,er,S,P.bind fun v s1 b H1 m1 e1 S1 r1 P1=>by
  cases r1 with
  | bl =>
   rename_i b
   cases b
   ·exact ⟨_,rfl,Go (P1.here S1 .bl)⟩
   ·exact ⟨_,rfl,Gn ⟨ρ,s1,m1,er.ext e1,S1,P1⟩⟩
  | _=>exact P1.elim⟩⟩
theorem kj:DA X CB E [] xNil:=⟨pa_nil.mono fun σ H Q ⟨ρ,s,m,er,S,P⟩=>P.here S .nil⟩
theorem kg (ha:DE X CB E e f) (hr:DA X CB E es fa) (hs:aP (e::es) X.env=(false,eval e X.env)::aP es X.env:=by rfl):DA X CB E (e::es) (xCons f fa):=⟨(kA ha.pe hr.pa hs).mono fun σ H Q ⟨ρ,s,m,er,S,P⟩ =>
 ⟨ρ,s,m,er,S,P.bind fun v s1 u H1 m1 e1 S1 r1 P1=>⟨ρ,s1,m1,er.ext e1,S1,P1.bind fun w s2 u2 H2 m2 e2 S2 r2 P2=>P2.here S2 (.cons (r1.ext e2) r2)⟩⟩⟩
theorem Reps.length {K:aa}{H:Hp}{m:Mp}{s:Sto}:∀ {vs:List V}{l:List PV},Reps K H m s vs l→vs.length=l.length
 | _,_,.nil=>rfl
 | _,_,.cons _ b=>congrArg Nat.succ b.length
theorem sz5 {n:Nat} (h:n≤100000):n≤aQ:=aJ h (by decide)
theorem sz6 {n:Nat} (h:n < 100000):n < aQ:=ay h (by decide)
def xTup (fa:XA) (ρ:En) (s:Sto):Out PV:=(fa ρ s).bind fun vs s1=>if vs.length≤100000 then .ok (.tup vs) s1 else .bad
def xLst (fa:XA) (ρ:En) (s:Sto):Out PV:=(fa ρ s).bind fun vs s1=>if vs.length≤100000 then .ok (.lst vs) s1 else .bad
def xLstC (fa:XA) (ρ:En) (s:Sto):Out PV:=(fa ρ s).bind fun vs s1=>if vs.length≤100000 then .ok (.ref s1.nx) (s1.add (.lst vs)) else .bad
theorem vU {x1} (h:DA X CB E es fa):DE X CB E (.Tuple es x1 pos) (xTup fa):=⟨(xZ h.pa).mono fun σ H Q ⟨ρ,s,m,er,S,P⟩ =>
 ⟨ρ,s,m,er,S,P.bind fun v s1 u H1 m1 e1 S1 r1 P1=>by
  split at P1
  ·rename_i hl
   exact ⟨by rw [r1.length];exact sz5 hl,fun p hp=>P1.new S1 hp fun ex S'=>.tup (.inl ⟨.inl km,S'.pure_tup km⟩) (r1.ext ex)⟩
  ·exact P1.elim⟩⟩
theorem nB (h:DA X CB E es fa):DE X CB E (.List es pos) (xLst fa):=⟨(D9 h.pa).mono fun σ H Q ⟨ρ,s,m,er,S,P⟩ =>
 ⟨ρ,s,m,er,S,P.bind fun v s1 u H1 m1 e1 S1 r1 P1=>by
  split at P1
  ·rename_i hl
   exact ⟨by rw [r1.length];exact sz5 hl,fun p hp=>P1.new S1 hp fun ex S'=>.lst km (S1.pure_none hp) (r1.ext ex)⟩
  ·exact P1.elim⟩⟩
theorem SR.newL {K:aa}{H:Hp}{m:Mp}{s:Sto}{vs:List V}{l:List PV}{p:ae} (S:SR K CB H m s) (hp:H p=none) (r:Reps K H m s vs l):SR K CB (upd H p (.lst vs)) (m.add s.nx p [p]) (s.add (.lst l))∧Ext H m s (upd H p (.lst vs)) (m.add s.nx p [p]) (s.add (.lst l)) :=
 S.add _ p [p] (My.oS hp) (fun a ha=>by rw [ax.mp ha];exact hp) fun ex=>by
  have e1:(m.add s.nx p [p]).ad s.nx=p:=by show (if s.nx=s.nx then p else _)=_;rw [if_pos rfl]
  have e2:(m.add s.nx p [p]).fp s.nx=[p]:=by show (if s.nx=s.nx then [p] else _)=_;rw [if_pos rfl]
  exact ⟨by rw [e1,e2],vs,by rw [e1];exact km,r.ext ex⟩
theorem SR.newD {K:aa}{H H':Hp}{m:Mp}{s:Sto}{vs:List (Key×V)}{l:List (Key×PV)}{p:ae} (S:SR K CB H m s) (hp:H p=none) (k:Same H H') (hd:H' p=some (.dK vs)) (r:RepKs K H m s vs l):SR K CB H' (m.add s.nx p [p]) (s.add (.dct l))∧Ext H m s H' (m.add s.nx p [p]) (s.add (.dct l)) :=
 S.add _ p [p] k (fun a ha=>by rw [ax.mp ha];exact hp) fun ex=>by
  have e1:(m.add s.nx p [p]).ad s.nx=p:=by show (if s.nx=s.nx then p else _)=_;rw [if_pos rfl]
  have e2:(m.add s.nx p [p]).fp s.nx=[p]:=by show (if s.nx=s.nx then [p] else _)=_;rw [if_pos rfl]
  exact ⟨by rw [e1,e2],vs,by rw [e1];exact hd,r.ext ex⟩
theorem Mp.add_ad {m:Mp}{n:Nat}{p:ae}{f:List ae}:(m.add n p f).ad n=p:=by show (if n=n then p else _)=_;rw [if_pos rfl]
theorem Rep.new {K:aa}{H:Hp}{m:Mp}{s:Sto}{p:ae}{f:List ae}{c:Cell}:Rep K H (m.add s.nx p f) (s.add c) (.ref p) (.ref s.nx):=by
 have h:Rep K H (m.add s.nx p f) (s.add c) (.ref ((m.add s.nx p f).ad s.nx)) (.ref s.nx):=.ref (di _)
 rw [Mp.add_ad] at h;exact h
theorem sO (h:DA X CB E es fa):DE X CB E (.List es pos) (xLstC fa):=⟨(D9 h.pa).mono fun σ H Q ⟨ρ,s,m,er,S,P⟩ =>
 ⟨ρ,s,m,er,S,P.bind fun v s1 u H1 m1 e1 S1 r1 P1=>by
  split at P1
  ·rename_i hl
   refine ⟨by rw [r1.length];exact sz5 hl,fun p hp=>?_⟩
   obtain ⟨S2,e2⟩:=S1.newL hp r1
   exact P1 _ _ _ e2 S2 .new
  ·exact P1.elim⟩⟩
end
def lsOf (s:Sto):PV→Option (List PV)
 | .lst l=>some l
 | .seq l=>some l
 | .ref n=>match s.get n with
  | some (.lst l)=>some l
  | _=>none
 | _=>none
def dcOf (s:Sto):PV→Option (List (Key×PV))
 | .dct l=>some l
 | .ref n=>match s.get n with
  | some (.dct l)=>some l
  | some (.dfz l)=>some l
  | _=>none
 | _=>none
def kyOf:PV→Option Key
 | .int i=>some (.inl i)
 | .str x=>some (.inr x)
 | _=>none
def toV:PV→Option V
 | .non=>some .non
 | .bl b=>some (.bl b)
 | .int i=>some (.int i)
 | .str x=>some (.str x)
 | _=>none
def toVs:List PV→Option (List V)
 | []=>some []
 | p::l=>match toV p,toVs l with
  | some v,some vs=>some (v::vs)
  | _,_=>none
def og (l:List (Key×PV)) (k:Key):Option PV:=(l.find? fun kv=>decide (kv.1=k)).map (·.2)
def Co (l:List (Key×PV)) (k:Key) (p:PV):List (Key×PV) :=
 if (l.any fun kv=>decide (kv.1=k))=true then l.map (fun kv=>if kv.1=k then (kv.1,p) else kv) else l++[(k,p)]
def uG (f:PV→Option PyData):List PV→Option (List PyData)
 | []=>some []
 | p::l=>match f p,uG f l with
  | some d,some ds=>some (d::ds)
  | _,_=>none
def PV.data (s:Sto):Nat→PV→Option PyData
 | 0,_=>none
 | _+1,.non=>some .none
 | _+1,.bl b=>some (.bool b)
 | _+1,.int i=>some (.int i)
 | _+1,.str x=>if cL x=true then some (.str x) else none
 | k+1,.tup l=>(uG (PV.data s k) l).map .tuple
 | k+1,.lst l=>(uG (PV.data s k) l).map .list
 | k+1,.seq l=>(uG (PV.data s k) l).map .list
 | k+1,.ref n=>match s.get n with
  | some (.lst l)=>(uG (PV.data s k) l).map .list
  | _=>none
 | _+1,_=>none
section
variable {K:aa}{CB:ae}{H:Hp}{m:Mp}{s:Sto}{x y:V}{v w:PV}
theorem Rep.ls (S:SR K CB H m s) (r:Rep K H m s x v) {l:List PV} (e:lsOf s v=some l):∃ a vs,x=.ref a∧SqL K H a vs∧Reps K H m s vs l:=by
 cases r with
 | lst h _ q=>cases e;exact ⟨_,_,rfl,SqL.of h,q⟩
 | seq h q=>cases e;exact ⟨_,_,rfl,h.elim (fun z=>.inl (.inr z.1)) .inr,q⟩
 | ref h =>
  rename_i n
  have e:(match s.get n with | some (.lst l)=>some l | _=>none)=some l:=e
  split at e <;> cases e
  rename_i hg
  obtain ⟨_,vs,h1,h2⟩:=S.get hg
  exact ⟨_,vs,rfl,SqL.of h1,h2⟩
 | _=>cases e
theorem Rep.tp (r:Rep K H m s x (.tup l)):∃ a vs,x=.ref a∧SqT K H a vs∧Reps K H m s vs l:=by
 cases r with
 | tup h q=>exact ⟨_,_,rfl,h.elim (fun z=>.inl z.1) .inr,q⟩
theorem Rep.dc (S:SR K CB H m s) (r:Rep K H m s x v) {l:List (Key×PV)} (e:dcOf s v=some l):∃ a vs,x=.ref a∧Rd H a (.dK vs)∧RepKs K H m s vs l:=by
 cases r with
 | dct h _ q=>cases e;exact ⟨_,_,rfl,h,q⟩
 | ref h =>
  rename_i n
  have e:(match s.get n with | some (.dct l)=>some l | some (.dfz l)=>some l | _=>none)=some l:=e
  split at e <;> cases e
  ·rename_i hg
   obtain ⟨_,vs,h1,h2⟩:=S.get hg
   exact ⟨_,vs,rfl,.inl h1,h2⟩
  ·rename_i hg
   obtain ⟨_,ob,vs,h1,h2⟩:=S.get hg
   exact ⟨_,vs,rfl,.inr ⟨ob,h1⟩,h2⟩
 | _=>cases e
theorem Rep.toV (r:Rep K H m s x v) {z:V} (e:L2.toV v=some z):x=z:=by cases r <;> first | cases e;rfl | cases e
theorem Reps.toVs:∀ {vs:List V}{l:List PV}{zs:List V},Reps K H m s vs l→L2.toVs l=some zs→vs=zs
 | _,_,_,.nil,e=>by cases e;rfl
 | _,_,_,.cons a b,e=>by
  unfold L2.toVs at e
  split at e <;> cases e
  rename_i h1 h2
  rw [a.toV h1,b.toVs h2]
theorem vd {v:PV}{z:V} (e:L2.toV v=some z):pL z=true:=by cases v <;> first | cases e;rfl | cases e
theorem sS:∀ {l:List PV}{zs:List V},L2.toVs l=some zs→zs.all pL=true
 | [],_,e=>by cases e;rfl
 | p::l,_,e=>by
  unfold L2.toVs at e
  split at e <;> cases e
  rename_i h1 h2
  rw [gW,vd h1,sS h2];rfl
theorem Reps.get:∀ {vs:List V}{l:List PV}{i:Nat}{p:PV},Reps K H m s vs l→l[i]?=some p→∃ u,vs[i]?=some u∧Rep K H m s u p
 | _,_,_,_,.nil,e=>by simp at e
 | _,_,0,_,.cons a _,e=>by simp at e;subst e;exact ⟨_,rfl,a⟩
 | _,_,i+1,p,.cons _ b,e=>by
  obtain ⟨u,h1,h2⟩:=b.get (i:=i) (p:=p) (by simpa using e)
  exact ⟨u,by simpa using h1,h2⟩
theorem Reps.atI {vs:List V}{l:List PV} (r:Reps K H m s vs l) {i:Int}{p:PV} (e:L2.atI l i=some p):∃ u,L2.atI vs i=some u∧Rep K H m s u p:=by
 unfold L2.atI at e ⊢
 rw [r.length]
 cases c:ixN l.length i with
 | none=>rw [c] at e;cases e
 | some j=>rw [c] at e;exact r.get e
theorem Reps.append:∀ {vs ws:List V}{l k:List PV},Reps K H m s vs l→Reps K H m s ws k→Reps K H m s (vs++ws) (l++k)
 | _,_,_,_,.nil,q=>q
 | _,_,_,_,.cons a b,q=>.cons a (b.append q)
theorem Reps.drop:∀ {vs:List V}{l:List PV} (n:Nat),Reps K H m s vs l→Reps K H m s (vs.drop n) (l.drop n)
 | _,_,0,r=>r
 | _,_,_+1,.nil=>.nil
 | _,_,n+1,.cons _ b=>b.drop n
theorem Reps.take:∀ {vs:List V}{l:List PV} (n:Nat),Reps K H m s vs l→Reps K H m s (vs.take n) (l.take n)
 | _,_,0,_=>.nil
 | _,_,_+1,.nil=>.nil
 | _,_,n+1,.cons a b=>.cons a (b.take n)
theorem Reps.set:∀ {vs:List V}{l:List PV}{u:V}{p:PV} (i:Nat),Reps K H m s vs l→Rep K H m s u p→Reps K H m s (vs.set i u) (l.set i p)
 | _,_,_,_,_,.nil,_=>.nil
 | _,_,_,_,0,.cons _ b,r=>.cons r b
 | _,_,_,_,i+1,.cons a b,r=>.cons a (b.set i r)
theorem Reps.strs:∀ {vs:List V}{ss:List Str},Reps K H m s vs (ss.map PV.str)→vs=ss.map V.str
 | _,[],.nil=>rfl
 | _,x::ss,.cons a b=>by cases a;rw [Reps.strs (ss:=ss) b];rfl
theorem Reps.ofStrs:∀ (ss:List Str),Reps K H m s (ss.map V.str) (ss.map PV.str)
 | []=>.nil
 | _::r=>.cons .str (Reps.ofStrs r)
theorem RepKs.keys:∀ {vs:List (Key×V)}{l:List (Key×PV)},RepKs K H m s vs l→vs.map (·.1)=l.map (·.1)
 | _,_,.nil=>rfl
 | _,_,.cons _ b=>by simp [b.keys]
theorem RepKs.length {vs:List (Key×V)}{l:List (Key×PV)} (r:RepKs K H m s vs l):vs.length=l.length:=by have:=congrArg dC r.keys;simpa using this
theorem RepKs.val:∀ {vs:List (Key×V)}{l:List (Key×PV)} (k:Key),RepKs K H m s vs l→(∀ p,og l k=some p→∃ u,m7 vs k=some u∧Rep K H m s u p)∧(og l k=none→m7 vs k=none)
 | _,_,k,.nil=>⟨fun p e=>(by cases e),fun _=>rfl⟩
 | _,_,k,.cons (k:=q) (p:=p0) (v:=v0) a b=>by
  by_cases e:q=k
  ·refine ⟨fun p h=>⟨v0,rV e,?_⟩,fun h=>?_⟩
   ·unfold og at h;simp [e] at h;subst h;exact a
   ·unfold og at h;simp [e] at h
  ·rw [rW e]
   have h2:∀ {l:List (Key×PV)},og ((q,p0)::l) k=og l k:=fun {l}=>by unfold og;simp [e]
   rw [h2]
   exact b.val k
theorem RepKs.any {vs:List (Key×V)}{l:List (Key×PV)} (r:RepKs K H m s vs l) (k:Key):(vs.any fun kv=>decide (kv.1=k))=l.any fun kv=>decide (kv.1=k):=by
 have h:∀ {β:Type} (l:List (Key×β)),(l.any fun kv=>decide (kv.1=k))=(l.map (·.1)).any fun j=>decide (j=k):=fun l=>by rw [gv];rfl
 rw [h,h,r.keys]
theorem RepKs.mapput:∀ {vs:List (Key×V)}{l:List (Key×PV)}{u:V}{p:PV} (k:Key),RepKs K H m s vs l→Rep K H m s u p→RepKs K H m s (vs.map fun kv=>if kv.1=k then (kv.1,u) else kv) (l.map fun kv=>if kv.1=k then (kv.1,p) else kv)
 | _,_,_,_,_,.nil,_=>.nil
 | _,_,u,p,k,.cons (k:=q) a b,r=>by
  rw [au,au]
  by_cases e:q=k
  ·rw [if_pos e,if_pos e];exact .cons r (b.mapput k r)
  ·rw [if_neg e,if_neg e];exact .cons a (b.mapput k r)
theorem RepKs.append:∀ {vs ws:List (Key×V)}{l k:List (Key×PV)},RepKs K H m s vs l→RepKs K H m s ws k→RepKs K H m s (vs++ws) (l++k)
 | _,_,_,_,.nil,q=>q
 | _,_,_,_,.cons a b,q=>.cons a (b.append q)
theorem RepKs.put {vs:List (Key×V)}{l:List (Key×PV)}{u:V}{p:PV} (k:Key) (q:RepKs K H m s vs l) (r:Rep K H m s u p):RepKs K H m s (pX vs k u) (Co l k p):=by
 unfold pX Co
 rw [q.any]
 split
 ·exact q.mapput k r
 ·exact q.append (.cons r .nil)
theorem qz {k:Key} (r:Rep K H m s x v) (e:kyOf v=some k):x=kV k:=by cases r <;> first | cases e;rfl | cases e
end
section
variable {X:Cx}{CB:ae}{E:XK}
theorem Reps.readss {sh:al}{H:Hp}{m:Mp}{s:Sto}{k:Nat} (ih:∀ {v:V}{p:PV}{u:af}{d:PyData},Rep X.K H m s v p→RelV v u→PV.data s k p=some d→(∃ as,Reads sh.heap u d as)∧d.canLay0=true∧d.depth≤k) :
  ∀ {v:List V}{p:List PV}{u:List af}{d:List PyData},Reps X.K H m s v p→Vals v u→uG (PV.data s k) p=some d→(∃ as,ReadsAll sh.heap u.toArray.toList d as)∧jU d=true∧PyData.depthAll d≤k
 | _,_,_,_,.nil,.nil,e=>by unfold uG at e;cases e;exact ⟨⟨_,.nil⟩,rfl,bD _⟩
 | _,_,_,_,.cons a b,.cons r rs,e=>by
  unfold uG at e
  split at e <;> cases e
  rename_i h1 h2
  obtain ⟨⟨as,r1⟩,r2,r3⟩:=ih a r h1
  obtain ⟨⟨bs,q1⟩,q2,q3⟩:=Reps.readss ih b rs h2
  refine ⟨⟨_,.cons r1 (by simpa using q1)⟩,by unfold jU;rw [r2,q2];rfl,?_⟩
  unfold PyData.depthAll
  omega
theorem Rep.reads {pins:List (ae×Obj)}{σ:St}{H:Hp}{sh:al}{m:Mp}{s:Sto} (I:Inv X pins σ H sh) (S:SR X.K CB H m s):∀ (k:Nat) {v:V}{p:PV}{u:af}{d:PyData},Rep X.K H m s v p→RelV v u→PV.data s k p=some d →
  (∃ as,Reads sh.heap u d as)∧d.canLay0=true∧d.depth≤k
 | 0,_,p,_,_,_,_,e=>by cases p <;> (unfold PV.data at e;cases e)
 | k+1,_,_,_,_,.non,ru,e=>by cases ru;unfold PV.data at e;cases e;exact ⟨⟨_,.none⟩,rfl,bD _⟩
 | k+1,_,_,_,_,.bl,ru,e=>by cases ru;unfold PV.data at e;cases e;exact ⟨⟨_,.bool _⟩,rfl,bD _⟩
 | k+1,_,_,_,_,.int,ru,e=>by obtain ⟨t,rfl⟩:=ru;unfold PV.data at e;cases e;exact ⟨⟨_,.int _ _⟩,rfl,bD _⟩
 | k+1,_,_,_,_,.str,ru,e=>by
  obtain ⟨t,rfl⟩:=ru;unfold PV.data at e
  split at e <;> cases e
  rename_i h
  exact ⟨⟨_,.str _ _⟩,h,bD _⟩
 | k+1,_,_,_,_,.tup (l:=l) h q,ru,e=>by
  cases ru;unfold PV.data at e
  cases c:uG (PV.data s k) l with
  | none=>rw [c] at e;cases e
  | some ds =>
   rw [c] at e;cases e
   obtain ⟨its,rv,⟨o,g1,g2,n,g3⟩,_⟩:=I.tuple (h.elim (fun z=>(.inl z.1:SqT X.K H _ _)) .inr)
   obtain ⟨⟨as,r1⟩,r2,r3⟩:=Reps.readss (Rep.reads I S k) q rv c
   exact ⟨⟨_,.tuple g1 g2 g3 r1⟩,by unfold gF;exact r2,by unfold gX;omega⟩
 | k+1,_,_,_,_,.lst (l:=l) h _ q,ru,e=>by
  cases ru;unfold PV.data at e
  cases c:uG (PV.data s k) l with
  | none=>rw [c] at e;cases e
  | some ds =>
   rw [c] at e;cases e
   obtain ⟨its,rv,⟨o,n,g1,g2,_,g3⟩,_⟩:=I.list (SqL.of h)
   obtain ⟨⟨as,r1⟩,r2,r3⟩:=Reps.readss (Rep.reads I S k) q rv c
   exact ⟨⟨_,.list g1 g2 g3 r1⟩,by unfold gF;exact r2,by unfold gX;omega⟩
 | k+1,_,_,_,_,.seq (l:=l) h q,ru,e=>by
  cases ru;unfold PV.data at e
  cases c:uG (PV.data s k) l with
  | none=>rw [c] at e;cases e
  | some ds =>
   rw [c] at e;cases e
   obtain ⟨its,rv,⟨o,n,g1,g2,_,g3⟩,_⟩:=I.list (h.elim (fun z=>(.inl (.inr z.1):SqL X.K H _ _)) .inr)
   obtain ⟨⟨as,r1⟩,r2,r3⟩:=Reps.readss (Rep.reads I S k) q rv c
   exact ⟨⟨_,.list g1 g2 g3 r1⟩,by unfold gF;exact r2,by unfold gX;omega⟩
 | k+1,_,_,_,_,.dct _ _ _,_,e=>by unfold PV.data at e;cases e
 | k+1,_,_,_,_,.exc _ _,_,e=>by unfold PV.data at e;cases e
 | k+1,_,_,_,_,.clo _,_,e=>by unfold PV.data at e;cases e
 | k+1,_,_,_,_,.ref _,ru,e=>by
  cases ru;unfold PV.data at e
  split at e <;> first | cases e | skip
  rename_i l hg
  cases c:uG (PV.data s k) l with
  | none=>rw [c] at e;cases e
  | some ds =>
   rw [c] at e;cases e
   obtain ⟨_,vs,h1,q⟩:=S.get hg
   obtain ⟨its,rv,⟨o,n,g1,g2,_,g3⟩,_⟩:=I.list (SqL.of h1)
   obtain ⟨⟨as,r1⟩,r2,r3⟩:=Reps.readss (Rep.reads I S k) q rv c
   exact ⟨⟨_,.list g1 g2 g3 r1⟩,by unfold gF;exact r2,by unfold gX;omega⟩
def Bt (k:Nat) (n:Int):Prop:=n.natAbs < 2 ^ k
theorem Bt.mono {k l:Nat}{n:Int} (h:Bt k n) (hl:k≤l):Bt l n:=ay h (cq (by decide) hl)
theorem Bt.mul {k l:Nat}{n m:Int} (h:Bt k n) (g:Bt l m):Bt (k+l) (n * m):=by
 unfold Bt at *
 rw [gP,Nat.pow_add]
 by_cases z:m.natAbs=0
 ·rw [z,Nat.mul_zero];exact Nat.mul_pos (eI k) (eI l)
 ·exact ay (Nat.mul_lt_mul_of_pos_right h (Nat.pos_of_ne_zero z)) (j6 _ (cF g))
theorem Bt.neg {k:Nat}{n:Int} (h:Bt k n):Bt k (-n):=by unfold Bt at *;rw [gO];exact h
theorem Bt.div {k:Nat}{n d:Int} (h:Bt k n):Bt k (n / d):=bc (Int.natAbs_ediv_le_natAbs n d) h
theorem Bt.dvd {k:Nat}{n d:Int} (h:Bt k n) (hn:n≠0) (hd:d ∣ n):Bt k d:=bc (Nat.le_of_dvd (by omega) (eZ.mpr hd)) h
theorem Bt.log {n:Int} (h:Bt 9000 n) (h0:0 < n):n.natAbs.log2 < 9000:=(Nat.log2_lt (by omega)).mpr h
theorem zp {i:Int} (h:Bt 20000 i):iT i≤2 ^ 20:=by
 unfold iT
 split
 ·exact bD _
 ·rename_i z
  have z:i≠0:=by simpa using z
  have:=(Nat.log2_lt (by omega:i.natAbs≠0)).mpr h
  omega
theorem op_mulB:OpR X (cY .Mult) (rI (fun i j=>Bt 20000 i∧Bt 20000 j) fun i j=>.int (i * j)):=opI fun _ _ _ _ _ _ _ hc q=>mul_int q (.of_bits (zp hc.1) (zp hc.2))
def Ey (K:aa):R2:=fun x y H Q=>∃ l b xs zs,x=.ref l∧y=.ref b∧SqL K H l xs∧SqL K H b zs∧xs.length+zs.length≤aQ∧∀ p,H p=none→Q (.ref p) (upd H p (.lst (xs++zs)))
theorem Fc:OpR X (cY .Add) (Ey X.K):=by
 intro pins s σ H x y v u Q I rx ry h
 obtain ⟨l,b,xs,zs,rfl,rfl,hH,hB,hz,q⟩:=h
 cases rx
 cases ry
 obtain ⟨its,r,ht,_⟩:=I.list hH
 obtain ⟨its2,r2,ht2,_⟩:=I.list hB
 have l1:=r.length
 have l2:=r2.length
 obtain ⟨⟨cls,dd,data,sl⟩,n,ho,hc,_,hd⟩:=ht
 obtain ⟨⟨cls2,dd2,data2,sl2⟩,n2,ho2,hc2,_,hd2⟩:=ht2
 simp only at hc hd hc2 hd2
 subst hc hd hc2 hd2
 refine concat_meets ⟨_,ho,rfl⟩ ⟨_,ho2,rfl⟩ noFill_list_add seq_list_add PySem.F.slot_list_add PySem.F.entry_list_add (PySem.F.args_list_add_2 _ _) (list_addW l b its.toArray its2.toArray n n2 dd dd2 sl sl2 (by rw [aT,aT];omega)) ⟨ho,ho2,?_⟩
 have ea:its.toArray++its2.toArray=(its++its2).toArray:=by simp
 rw [ea]
 exact ⟨.ref _,_,I.lnew (t':=s.toks) (r.append r2) (by rw [aC];omega),rfl,q _ I.fresh⟩
def Ic:R2:=fun x y H Q=>∃ a v,x=.ref a∧DGet H a y (some v)∧Q v H
theorem Fw (hu:X.A.units+1 < dq):IxR X Ic:=by
 intro value slice pins s σ H x y v u Q I rx ry h hs
 obtain ⟨a,z,rfl,g,q⟩:=h
 obtain rfl:v=bN a:=rx
 have hT:=tM I g
 unfold iA
 refine aF ?_
 rw [getitemInPython_of_ne hT.not_modules]
 refine aF (wpAny_specialOf hT iG.lookup ?_)
 have fin:bj (model X.prog X.w) X.A (subscripted slice false (.ref a) u) (fun r s₃=>bj (model X.prog X.w) X.A (letTemporaryGo value (.ref a) r >>= fun _=>pure r) (EP X pins σ Q) X.xe s₃) X.xe s:=by
  rw [hs]
  exact wpAny_operating (cr (wY hu I g ry fun w' s3 I3 rw'=>(⟨z,H,I3,rw',q⟩:EP X pins σ Q w' s3)) (fun r s₃ h₃=>aF (wpAny_letTemporaryGo (aX h₃))) fun _ _ x=>x)
 first
  | exact aX (aF fin)
  | exact aF (aX (aF fin))
  | exact aF fin
def rInD:R2:=fun y x H Q=>∃ a o,x=.ref a∧DGet H a y o∧Q (.bl o.isSome) H
def E1:R2:=fun y x H Q=>∃ a o,x=.ref a∧DGet H a y o∧Q (.bl (!o.isSome)) H
theorem zP (hu:X.A.units+1 < dq):OpR X (bT .In) rInD:=by
 intro pins s σ H y x v u Q I ry rx h
 obtain ⟨a,o,rfl,g,q⟩:=h
 obtain rfl:u=bN a:=rx
 exact d_in hu I g ry fun s3 I3=>⟨.bl o.isSome,H,I3,rfl,q⟩
theorem vE (hu:X.A.units+1 < dq):OpR X (bT .NotIn) E1:=by
 intro pins s σ H y x v u Q I ry rx h
 obtain ⟨a,o,rfl,g,q⟩:=h
 obtain rfl:u=bN a:=rx
 exact FV hu I g ry fun s3 I3=>⟨.bl (!o.isSome),H,I3,rfl,q⟩
theorem BY:CallR X (.builtin "len") (fun xs H Q=>∃ a kvs,xs=[V.ref a]∧Rd H a (.dK kvs)∧Q (.int kvs.length) H):=by
 intro pins s σ H xs us Q I r h
 obtain ⟨a,kvs,rfl,ha,q⟩:=h
 obtain ⟨u,rfl,ru⟩:=oJ r
 cases ru
 exact Gw I ha fun t s' I'=>⟨.int kvs.length,H,I',⟨t,rfl⟩,q⟩
def Ie (K:aa) (CB:ae) (neg:Bool):R2:=fun x y H Q=>∃ m s v w d e,SR K CB H m s∧Rep K H m s x v∧Rep K H m s y w∧PV.data s 12 v=some d∧PV.data s 12 w=some e∧Q (.bl (if neg then !du d e else du d e)) H
theorem He {CB:ae} (hu:X.A.units+12 < dq):OpR X (bT .Eq) (Ie X.K CB false):=by
 intro pins s σ H x y v u Q I rx ry h
 obtain ⟨m,t,p,q,d,e,S,r1,r2,e1,e2,k⟩:=h
 obtain ⟨⟨as,a1⟩,a2,a3⟩:=r1.reads I S 12 rx e1
 obtain ⟨⟨bs,b1⟩,b2,b3⟩:=r2.reads I S 12 ry e2
 exact SeqAt.rcAt_reads a1 b1 a2 b2 (by omega) _ _ _ _ ⟨.bl _,H,I,rfl,k⟩
theorem G9 {CB:ae} (hu:X.A.units+12 < dq):OpR X (bT .NotEq) (Ie X.K CB true):=by
 intro pins s σ H x y v u Q I rx ry h
 obtain ⟨m,t,p,q,d,e,S,r1,r2,e1,e2,k⟩:=h
 obtain ⟨⟨as,a1⟩,a2,a3⟩:=r1.reads I S 12 rx e1
 obtain ⟨⟨bs,b1⟩,b2,b3⟩:=r2.reads I S 12 ry e2
 exact SeqAt.rcNeAt_reads a1 b1 a2 b2 (by omega) _ _ _ _ ⟨.bl _,H,I,rfl,k⟩
end
def uF (i j:Int):Prop:=(Bt 20000 i∧Bt 20000 j)∨CMul i j
def Cj (j:Int):Prop:=0 < j∧Bt 9000 j
noncomputable instance (i j:Int):Decidable (uF i j):=db _
noncomputable instance (j:Int):Decidable (Cj j):=db _
def fAdd (v w:PV) (s:Sto):Out PV:=match v,w with
 | .int i,.int j=>.ok (.int (i+j)) s
 | .str x,.str y=>if x.length+y.length≤100000 then .ok (.str (x++y)) s else .bad
 | v,w=>match lsOf s v,lsOf s w with
  | some l,some k=>if l.length+k.length≤100000 then .ok (.lst (l++k)) s else .bad
  | _,_=>.bad
def fSub (v w:PV) (s:Sto):Out PV:=match v,w with
 | .int i,.int j=>.ok (.int (i - j)) s
 | _,_=>.bad
def fMul (v w:PV) (s:Sto):Out PV:=match v,w with
 | .int i,.int j=>if uF i j then .ok (.int (i * j)) s else .bad
 | .lst l,.int k=>if -(2 ^ 63)≤k∧k < 2 ^ 63∧l.length * k.toNat≤100000 then .ok (.lst (aV k.toNat l).flatten) s else .bad
 | _,_=>.bad
def fDiv (v w:PV) (s:Sto):Out PV:=match v,w with
 | .int i,.int j=>if Cj j then .ok (.int (i / j)) s else .bad
 | _,_=>.bad
def fMod (v w:PV) (s:Sto):Out PV:=match v,w with
 | .int i,.int j=>if 0 < j then .ok (.int (i % j)) s else .bad
 | _,_=>.bad
def fPow (v w:PV) (s:Sto):Out PV:=match v,w with
 | .int i,.int j=>if 0≤j∧j≤1000000∧i.natAbs < 2 ^ 64 then .ok (.int (i ^ j.toNat)) s else .bad
 | _,_=>.bad
def fCmp (p:Int→Int→Bool) (v w:PV) (s:Sto):Out PV:=match v,w with
 | .int i,.int j=>.ok (.bl (p i j)) s
 | _,_=>.bad
abbrev fLt:=fCmp fun i j=>decide (i < j)
abbrev fGt:=fCmp fun i j=>decide (j < i)
abbrev fGe:=fCmp fun i j=>decide (j≤i)
def fEqN (neg:Bool) (v w:PV) (s:Sto):Out PV:=match PV.data s 12 v,PV.data s 12 w with
 | some d,some e=>.ok (.bl (if neg then !du d e else du d e)) s
 | _,_=>.bad
abbrev fEq:=fEqN false
abbrev fNe:=fEqN true
def PV.isNon:PV→Bool
 | .non=>true
 | _=>false
def fIs (v w:PV) (s:Sto):Out PV:=match w with
 | .non=>.ok (.bl v.isNon) s
 | _=>.bad
def fIsnt (v w:PV) (s:Sto):Out PV:=match w with
 | .non=>.ok (.bl (!v.isNon)) s
 | _=>.bad
def Ck (neg b:Bool):Bool:=if neg then !b else b
def kP (neg:Bool) (v w:PV) (s:Sto):Out PV:=match dcOf s w with
 | some l=>match kyOf v with
  | some k=>.ok (.bl (Ck neg (og l k).isSome)) s
  | none=>.bad
 | none=>match toV v with
  | none=>.bad
  | some x=>match w with
   | .tup l=>match toVs l with
    | some zs=>.ok (.bl (Ck neg (inV x zs))) s
    | none=>.bad
   | w=>match lsOf s w with
    | some l=>match toVs l with
     | some zs=>.ok (.bl (Ck neg (inV x zs))) s
     | none=>.bad
    | none=>.bad
abbrev fIn:=kP false
abbrev mV:=kP true
def fIx (v w:PV) (s:Sto):Out PV:=match v with
 | .tup l=>match w with
  | .int i=>match atI l i with
   | some p=>.ok p s
   | none=>.bad
  | _=>.bad
 | .str x=>match w with
  | .int i=>match atI x.cps.toList i with
   | some c=>if x.length≤100000 then .ok (.str ⟨#[c]⟩) s else .bad
   | none=>.bad
  | _=>.bad
 | v=>match lsOf s v with
  | some l=>match w with
   | .int i=>match atI l i with
    | some p=>.ok p s
    | none=>.bad
   | _=>.bad
  | none=>match dcOf s v with
   | some l=>match kyOf w with
    | some k=>match og l k with
     | some p=>.ok p s
     | none=>.bad
    | none=>.bad
   | none=>.bad
def fNeg (v:PV) (s:Sto):Out PV:=match v with
 | .int i=>.ok (.int (-i)) s
 | _=>.bad
section
variable {X:Cx}{CB:ae}{E:XK}
theorem o_add:Op2 X.K CB E (fun x y H Q=>rI0 (fun i j=>V.int (i+j)) x y H Q∨(∃ i j,x=V.str i∧y=V.str j∧i.length+j.length≤aQ∧Q (V.str (i++j)) H)∨Ey X.K x y H Q) fAdd:=by
 intro H m s v w x y Q S rx ry P
 unfold fAdd at P
 split at P
 ·cases rx;cases ry;exact .inl ⟨_,_,rfl,rfl,P.here S .int⟩
 ·cases rx;cases ry
  split at P
  ·rename_i h;exact .inr (.inl ⟨_,_,rfl,rfl,sz5 h,P.here S .str⟩)
  ·exact P.elim
 ·split at P
  ·rename_i l k h1 h2
   split at P
   ·rename_i h
    obtain ⟨a,vs,rfl,q1,r1⟩:=rx.ls S h1
    obtain ⟨b,ws,rfl,q2,r2⟩:=ry.ls S h2
    exact .inr (.inr ⟨a,b,vs,ws,rfl,rfl,q1,q2,by rw [r1.length,r2.length];exact sz5 h,fun p hp=>P.new S hp fun ex S'=>.lst km (S.pure_none hp) ((r1.append r2).ext ex)⟩)
   ·exact P.elim
  ·exact P.elim
theorem Fd:OpR X (cY .Add) (fun x y H Q=>rI0 (fun i j=>V.int (i+j)) x y H Q∨(∃ i j,x=V.str i∧y=V.str j∧i.length+j.length≤aQ∧Q (V.str (i++j)) H)∨Ey X.K x y H Q):=op_add.or (op_add_str.or Fc)
theorem o_sub:Op2 X.K CB E (rI0 fun i j=>V.int (i - j)) fSub:=by
 intro H m s v w x y Q S rx ry P
 unfold fSub at P
 split at P
 ·cases rx;cases ry;exact ⟨_,_,rfl,rfl,P.here S .int⟩
 ·exact P.elim
theorem Reps.rep {K:aa}{H:Hp}{m:Mp}{s:Sto}{vs:List V}{l:List PV} (r:Reps K H m s vs l):∀ n,Reps K H m s (aV n vs).flatten (aV n l).flatten
 | 0=>.nil
 | n+1=>by rw [cM,cM,bQ,bQ];exact r.append (r.rep n)
theorem o_mul:Op2 X.K CB E (fun x y H Q=>(rI (fun i j=>Bt 20000 i∧Bt 20000 j) (fun i j=>V.int (i * j)) x y H Q∨rI CMul (fun i j=>V.int (i * j)) x y H Q)∨HY x y H Q) fMul:=by
 intro H m s v w x y Q S rx ry P
 unfold fMul at P
 split at P
 ·cases rx;cases ry
  split at P
  ·rename_i h
   rcases h with h | h
   ·exact .inl (.inl ⟨_,_,rfl,rfl,h,P.here S .int⟩)
   ·exact .inl (.inr ⟨_,_,rfl,rfl,h,P.here S .int⟩)
  ·exact P.elim
 ·split at P
  ·rename_i h
   cases rx with
   | lst h1 _ r1 =>
    cases ry
    exact .inr ⟨_,_,_,rfl,rfl,h1,h.1,h.2.1,by rw [r1.length];exact sz5 h.2.2,fun p hp=>P.new S hp fun ex S'=>.lst km (S.pure_none hp) ((r1.rep _).ext ex)⟩
  ·exact P.elim
 ·exact P.elim
theorem Fb:OpR X (cY .Mult) (fun x y H Q=>(rI (fun i j=>Bt 20000 i∧Bt 20000 j) (fun i j=>V.int (i * j)) x y H Q∨rI CMul (fun i j=>V.int (i * j)) x y H Q)∨HY x y H Q):=(op_mulB.or Ha).or G7
theorem o_div:Op2 X.K CB E (rI (fun _ j=>0 < j∧j.natAbs.log2 < 9000) fun i j=>V.int (i / j)) fDiv:=by
 intro H m s v w x y Q S rx ry P
 unfold fDiv at P
 split at P
 ·cases rx;cases ry
  split at P
  ·rename_i h;exact ⟨_,_,rfl,rfl,⟨h.1,h.2.log h.1⟩,P.here S .int⟩
  ·exact P.elim
 ·exact P.elim
theorem o_mod:Op2 X.K CB E (rI (fun _ j=>0 < j) fun i j=>V.int (i % j)) fMod:=by
 intro H m s v w x y Q S rx ry P
 unfold fMod at P
 split at P
 ·cases rx;cases ry
  split at P
  ·rename_i h;exact ⟨_,_,rfl,rfl,h,P.here S .int⟩
  ·exact P.elim
 ·exact P.elim
theorem o_pow:Op2 X.K CB E (rI GC fun i j=>V.int (i ^ j.toNat)) fPow:=by
 intro H m s v w x y Q S rx ry P
 unfold fPow at P
 split at P
 ·cases rx;cases ry
  split at P
  ·rename_i h;exact ⟨_,_,rfl,rfl,h,P.here S .int⟩
  ·exact P.elim
 ·exact P.elim
theorem EA {p:Int→Int→Bool}:Op2 X.K CB E (rI0 fun i j=>V.bl (p i j)) (fCmp p):=by
 intro H m s v w x y Q S rx ry P
 unfold fCmp at P
 split at P
 ·cases rx;cases ry;exact ⟨_,_,rfl,rfl,P.here S .bl⟩
 ·exact P.elim
theorem Gj {neg:Bool}:Op2 X.K CB E (Ie X.K CB neg) (fEqN neg):=by
 intro H m s v w x y Q S rx ry P
 unfold fEqN at P
 split at P
 ·rename_i d e h1 h2;exact ⟨m,s,v,w,d,e,S,rx,ry,h1,h2,P.here S .bl⟩
 ·exact P.elim
def Ig (neg:Bool):R2:=fun y x H Q=>∃ a o,x=.ref a∧DGet H a y o∧Q (.bl (Ck neg o.isSome)) H
theorem o_in {neg:Bool}:Op2 X.K CB E (fun x y H Q=>Ig neg x y H Q∨rIn X.K neg x y H Q) (kP neg):=by
 intro H m s v w x y Q S rx ry P
 unfold kP at P
 split at P
 ·rename_i l hl
  split at P
  ·rename_i k hk
   obtain ⟨a,vs,rfl,q,r⟩:=ry.dc S hl
   refine .inl ⟨a,m7 vs k,rfl,.inl ⟨vs,k,q,qz rx hk,rfl⟩,?_⟩
   obtain ⟨r1,r2⟩:=r.val k
   cases c:og l k with
   | none=>rw [r2 c];rw [c] at P;exact P.here S .bl
   | some p=>obtain ⟨u,e,_⟩:=r1 p c;rw [e];rw [c] at P;exact P.here S .bl
  ·exact P.elim
 ·split at P
  ·exact P.elim
  ·rename_i z hz
   have ez:=rx.toV hz
   subst ez
   split at P
   ·split at P
    ·rename_i l zs hzs
     obtain ⟨a,vs,rfl,q,r⟩:=ry.tp
     have e:=r.toVs hzs
     subst e
     exact .inr ⟨a,vs,rfl,.inr q,vd hz,sS hzs,P.here S .bl⟩
    ·exact P.elim
   ·split at P
    ·rename_i l hl
     split at P
     ·rename_i zs hzs
      obtain ⟨a,vs,rfl,q,r⟩:=ry.ls S hl
      have e:=r.toVs hzs
      subst e
      exact .inr ⟨a,vs,rfl,.inl q,vd hz,sS hzs,P.here S .bl⟩
     ·exact P.elim
    ·exact P.elim
theorem Hc (hu:X.A.units+1 < dq):OpR X (bT .In) (fun x y H Q=>Ig false x y H Q∨rIn X.K false x y H Q):=(zP hu).or Bu
theorem Bs (hu:X.A.units+1 < dq):OpR X (bT .NotIn) (fun x y H Q=>Ig true x y H Q∨rIn X.K true x y H Q):=(vE hu).or xq
theorem o_ix:Op2 X.K CB E (fun x y H Q=>(HZ X.K x y H Q∨Ia x y H Q)∨(Ib X.K x y H Q∨Ic x y H Q)) fIx:=by
 intro H m s v w x y Q S rx ry P
 unfold fIx at P
 split at P
 ·split at P
  ·split at P
   ·rename_i p hp
    cases ry
    obtain ⟨a,vs,rfl,q,r⟩:=rx.tp
    obtain ⟨u,e,ru⟩:=r.atI hp
    exact .inl (.inl ⟨a,vs,_,u,rfl,rfl,q,e,P.here S ru⟩)
   ·exact P.elim
  ·exact P.elim
 ·split at P
  ·split at P
   ·rename_i c hc
    split at P
    ·rename_i hl
     cases rx;cases ry
     exact .inl (.inr ⟨_,_,c,rfl,rfl,sz5 hl,hc,P.here S .str⟩)
    ·exact P.elim
   ·exact P.elim
  ·exact P.elim
 ·split at P
  ·rename_i l hl
   split at P
   ·split at P
    ·rename_i p hp
     cases ry
     obtain ⟨a,vs,rfl,q,r⟩:=rx.ls S hl
     obtain ⟨u,e,ru⟩:=r.atI hp
     exact .inr (.inl ⟨a,vs,_,u,rfl,rfl,q,e,P.here S ru⟩)
    ·exact P.elim
   ·exact P.elim
  ·split at P
   ·rename_i l hl
    split at P
    ·rename_i k hk
     split at P
     ·rename_i p hp
      obtain ⟨a,vs,rfl,q,r⟩:=rx.dc S hl
      obtain ⟨u,e,ru⟩:=(r.val k).1 p hp
      exact .inr (.inr ⟨a,u,rfl,.inl ⟨vs,k,q,qz ry hk,e.symm⟩,P.here S ru⟩)
     ·exact P.elim
    ·exact P.elim
   ·exact P.elim
theorem ix_U (hu:X.A.units+1 < dq):IxR X (fun x y H Q=>(HZ X.K x y H Q∨Ia x y H Q)∨(Ib X.K x y H Q∨Ic x y H Q)):=(ix_tup.or Ht).or (ix_list.or (Fw hu))
theorem o_neg:Op1 X.K CB E (rU fun i=>V.int (-i)) fNeg:=by
 intro H m s v x Q S rx P
 unfold fNeg at P
 split at P
 ·cases rx;exact ⟨_,rfl,P.here S .int⟩
 ·exact P.elim
variable {a b c e:bo}{es:List bo}{f g h:XE}{fa:XA}{p pos apos cpos:Pos}{x:Str}
theorem lx (ha:DE X CB E a f) (hb:DE X CB E b g):DE X CB E (.BinOp a .Add b pos) (x2 f g fAdd):=tV Fd o_add ha hb
theorem Aw (ha:DE X CB E a f) (hb:DE X CB E b g):DE X CB E (.BinOp a .Sub b pos) (x2 f g fSub):=tV G4 o_sub ha hb
theorem oY (ha:DE X CB E a f) (hb:DE X CB E b g):DE X CB E (.BinOp a .Mult b pos) (x2 f g fMul):=tV Fb o_mul ha hb
theorem Ax (ha:DE X CB E a f) (hb:DE X CB E b g):DE X CB E (.BinOp a .FloorDiv b pos) (x2 f g fDiv):=tV oU o_div ha hb
theorem t9 (ha:DE X CB E a f) (hb:DE X CB E b g):DE X CB E (.BinOp a .Mod b pos) (x2 f g fMod):=tV Ed o_mod ha hb
theorem yf (ha:DE X CB E a f) (hb:DE X CB E b g):DE X CB E (.BinOp a .Pow b pos) (x2 f g fPow):=tV G8 o_pow ha hb
theorem HK (ha:DE X CB E a f):DE X CB E (.UnaryOp .USub a pos) (x1 f fNeg):=de_un DX o_neg ha
theorem k7 (hu:X.A.units+1 < dq) (ha:DE X CB E a f) (hb:DE X CB E b g) (hs:Bb b):DE X CB E (.Subscript a b pos) (x2 f g fIx):=⟨(oK (ix_U hu) ha.pe hb.pe hs).mono fun σ H Q q=>two o_ix q⟩
structure CmpR (X:Cx) (CB:ae) (E:XK) (op:iz) (F:PV→PV→Sto→Out PV):Prop where
 ex:∃ r,OpR X (bT op) r∧Op2 X.K CB E r F
theorem c_lt:CmpR X CB E .Lt fLt:=⟨_,Gf,EA⟩
theorem Ik:CmpR X CB E .Gt fGt:=⟨_,Gh,EA⟩
theorem c_ge:CmpR X CB E .GtE fGe:=⟨_,Ez,EA⟩
theorem Gz (hu:X.A.units+12 < dq):CmpR X CB E .Eq fEq:=⟨_,He hu,Gj⟩
theorem Ij (hu:X.A.units+12 < dq):CmpR X CB E .NotEq fNe:=⟨_,G9 hu,Gj⟩
theorem Es (hu:X.A.units+1 < dq):CmpR X CB E .In fIn:=⟨_,Hc hu,o_in⟩
theorem xU (hu:X.A.units+1 < dq):CmpR X CB E .NotIn mV:=⟨_,Bs hu,o_in⟩
theorem wc {op:iz}{F:PV→PV→Sto→Out PV} (r:CmpR X CB E op F) (ha:DE X CB E a f) (hb:DE X CB E b g) (hm:cI op b=false):DE X CB E (.Compare a [op] [b] pos) (x2 f g F):=let ⟨_,r1,r2⟩:=r.ex;L2.de_cmp r1 r2 ha hb hm
theorem oj {op:iz}{F:PV→PV→Sto→Out PV} (r:CmpR X CB E op F) (ha:DE X CB E a f) (hb:DE X CB E b g) (hm:cI op b=false):DT X CB E (.Compare a [op] [b] pos) (xTr (x2 f g F)):=let ⟨_,r1,r2⟩:=r.ex;L2.dt_cmp r1 r2 ha hb hm
abbrev XO':=En→Sto→Out (Option Int)
def TDO (K:aa) (CB:ae) (E:XK) (f:XO'):TO:=fun σ H Q=>∃ ρ s m,ER K H m s σ ρ∧SR K CB H m s∧Post K CB (fun _ _ _ u v=>u=v) E (f ρ s) H m s Q
structure DO (X:Cx) (CB:ae) (E:XK) (e:Option bo) (f:XO'):Prop where
 po:PO X e (TDO X.K CB E f)
def xNoP (_:En) (s:Sto):Out (Option Int):=.ok none s
def xPart (f:XE) (ρ:En) (s:Sto):Out (Option Int):=(f ρ s).bind fun v s1=>match v with
 | .int i=>.ok (some i) s1
 | _=>.bad
theorem PO.mono {e:Option bo}{t t':TO} (h:PO X e t) (k:∀ σ H Q,t' σ H Q→t σ H Q):PO X e t':=fun pins s σ H Q I q=>h pins s σ H Q I (k σ H Q q)
theorem sM:DO X CB E none xNoP:=⟨po_none.mono fun σ H Q ⟨ρ,s,m,er,S,P⟩=>P.here S rfl⟩
theorem pS (h:DE X CB E e f):DO X CB E (some e) (xPart f):=⟨(E5 h.pe).mono fun σ H Q ⟨ρ,s,m,er,S,P⟩=>⟨ρ,s,m,er,S,P.bind fun v s1 u H1 m1 e1 S1 r1 P1=>by
 cases r1 <;> first | exact P1.elim | exact ⟨_,rfl,P1.here S1 rfl⟩⟩⟩
def rQ (l:List PV) (lo hi:Option Int):List PV:=(l.drop (HT.sIx l.length 0 lo)).take (HT.sIx l.length l.length hi - HT.sIx l.length 0 lo)
def fSl (v:PV) (lo hi:Option Int) (s:Sto):Out PV:=match v with
 | .tup l=>if HT.sIx l.length 0 lo=0∧HT.sIx l.length l.length hi=l.length then .bad else .ok (.tup (rQ l lo hi)) s
 | v=>match lsOf s v with
  | some l=>.ok (.lst (rQ l lo hi)) s
  | none=>.bad
def xSl (f:XE) (lo hi:XO') (ρ:En) (s:Sto):Out PV:=(f ρ s).bind fun v s1=>(lo ρ s1).bind fun l s2=>(hi ρ s2).bind fun u s3=>fSl v l u s3
theorem Reps.cut {K:aa}{H:Hp}{m:Mp}{s:Sto}{vs:List V}{l:List PV} (r:Reps K H m s vs l) (lo hi:Option Int):Reps K H m s (A2 vs lo hi) (rQ l lo hi):=by
 unfold A2 rQ;rw [r.length];exact (r.drop _).take _
theorem ye {lo hi:Option bo}{fl fh:XO'}{p2:Pos} (ha:DE X CB E a f) (hl:DO X CB E lo fl) (hh:DO X CB E hi fh):DE X CB E (.Subscript a (.Slice lo hi none p2) pos) (xSl f fl fh) :=
 ⟨(Db (sl_list.or GM) ha.pe hl.po hh.po).mono fun σ H Q ⟨ρ,s,m,er,S,P⟩=>⟨ρ,s,m,er,S,P.bind fun v s1 u H1 m1 e1 S1 r1 P1=>⟨ρ,s1,m1,er.ext e1,S1,P1.bind fun l s2 l' H2 m2 e2 S2 r2 P2=>by
  cases r2
  refine ⟨ρ,s2,m2,(er.ext e1).ext e2,S2,P2.bind fun k s3 k' H3 m3 e3 S3 r3 P3=>?_⟩
  cases r3
  have r1:=(r1.ext e2).ext e3
  unfold fSl at P3
  split at P3
  ·split at P3
   ·exact P3.elim
   ·rename_i hn
    obtain ⟨a,vs,rfl,q,r⟩:=r1.tp
    exact .inr ⟨a,vs,rfl,q,by rw [r.length];exact hn,fun p hp=>P3.new S3 hp fun ex S'=>.tup (.inl ⟨.inl km,S'.pure_tup km⟩) ((r.cut _ _).ext ex)⟩
  ·split at P3
   ·rename_i l hl
    obtain ⟨a,vs,rfl,q,r⟩:=r1.ls S3 hl
    exact .inl ⟨a,vs,rfl,q,fun p hp=>P3.new S3 hp fun ex S'=>.lst km (S3.pure_none hp) ((r.cut _ _).ext ex)⟩
   ·exact P3.elim⟩⟩⟩
def xB (fa:XA) (F:List PV→Sto→Out PV) (ρ:En) (s:Sto):Out PV:=(fa ρ s).bind F
theorem nOf {r:List V→Hp→VK→Prop}{F:List PV→Sto→Out PV} (o:OpN X.K CB E r F) {σ:St}{H:Hp}{Q:VK} (q:TDE X.K CB E (xB fa F) σ H Q):tCB r (TDA X.K CB E fa) σ H Q:=by
 obtain ⟨ρ,s,m,er,S,P⟩:=q
 exact ⟨ρ,s,m,er,S,P.bind fun v s1 u H1 m1 e1 S1 r1 P1=>o H1 m1 s1 v u Q S1 r1 P1⟩
structure BltR (X:Cx) (CB:ae) (E:XK) (fv:af) (F:List PV→Sto→Out PV):Prop where
 ex:∃ r,CallR X fv r∧OpN X.K CB E r F
theorem kR {id:String}{F:List PV→Sto→Out PV} (r:BltR X CB E (.builtin id) F) (hg:Gl X x) (hm:X.mg x=none) (hv:bR x=some (.builtin id)) (ha:DA X CB E (e::es) fa) (hn:x≠"__name__":=by decide) (hdb:(x == ("__debug__":Str))=false:=by decide)
  (hs:aP (e::es) X.env=(false,eval e X.env)::aP es X.env:=by rfl) (hpl:(cA pos (aP es X.env)).any (·.1)=false:=by rfl):DE X CB E (.Call (.Name x p) (e::es) [] pos) (xB fa F) :=
 let ⟨_,r1,r2⟩:=r.ex;⟨(nr r1 hg hm hv ha.pa hn hdb hs hpl).mono fun σ H Q q=>nOf r2 q⟩
theorem wW {T:String}{F:List PV→Sto→Out PV} (r:BltR X CB E (.type T) F) (hg:Gl X x) (hm:X.mg x=none) (hv:bR x=some (.type T)) (ha:DA X CB E (e::es) fa) (hn:x≠"__name__":=by decide) (hdb:(x == ("__debug__":Str))=false:=by decide)
  (hs:aP (e::es) X.env=(false,eval e X.env)::aP es X.env:=by rfl) (hpl:(cA pos (aP es X.env)).any (·.1)=false:=by rfl):DE X CB E (.Call (.Name x p) (e::es) [] pos) (xB fa F) :=
 let ⟨_,r1,r2⟩:=r.ex;⟨(Br r1 hg hm hv ha.pa hn hdb hs hpl).mono fun σ H Q q=>nOf r2 q⟩
def fLen (vs:List PV) (s:Sto):Out PV:=match vs with
 | [.tup l]=>.ok (.int l.length) s
 | [.str x]=>if x.length≤100000 then .ok (.int x.length) s else .bad
 | [v]=>match lsOf s v with
  | some l=>.ok (.int l.length) s
  | none=>match dcOf s v with
   | some l=>.ok (.int l.length) s
   | none=>.bad
 | _=>.bad
theorem b_len:BltR X CB E (.builtin "len") fLen:=⟨_,call_len_seq.or (call_len_str.or BY),by
 intro H m s v x Q S rx P
 unfold fLen at P
 split at P
 ·cases rx with
  | cons r n =>
   cases n
   obtain ⟨a,vs,rfl,q,r⟩:=r.tp
   rw [← r.length] at P
   exact .inl ⟨a,vs,rfl,.inr q,P.here S .int⟩
 ·cases rx with
  | cons r n =>
   cases n;cases r
   split at P
   ·rename_i h;exact .inr (.inl ⟨_,rfl,sz5 h,P.here S .int⟩)
   ·exact P.elim
 ·cases rx with
  | cons r n =>
   cases n
   split at P
   ·rename_i l hl
    obtain ⟨a,vs,rfl,q,r⟩:=r.ls S hl
    rw [← r.length] at P
    exact .inl ⟨a,vs,rfl,.inl q,P.here S .int⟩
   ·split at P
    ·rename_i l hl
     obtain ⟨a,vs,rfl,q,r⟩:=r.dc S hl
     rw [← r.length] at P
     exact .inr (.inr ⟨a,vs,rfl,q,P.here S .int⟩)
    ·exact P.elim
 ·exact P.elim⟩
def fAbs (vs:List PV) (s:Sto):Out PV:=match vs with
 | [.int i]=>.ok (.int (if i < 0 then -i else i)) s
 | _=>.bad
theorem b_abs:BltR X CB E (.builtin "abs") fAbs:=⟨_,DP,by
 intro H m s v x Q S rx P
 unfold fAbs at P
 split at P
 ·cases rx with
  | cons r n=>cases n;cases r;exact ⟨_,rfl,P.here S .int⟩
 ·exact P.elim⟩
def fInt (vs:List PV) (s:Sto):Out PV:=match vs with
 | [.int i]=>.ok (.int i) s
 | [.bl b]=>.ok (.int (if b=true then 1 else 0)) s
 | _=>.bad
theorem b_int:BltR X CB E (.type "int") fInt:=⟨_,BZ,by
 intro H m s v x Q S rx P
 unfold fInt at P
 split at P
 ·cases rx with
  | cons r n=>cases n;cases r;exact .inl ⟨_,rfl,P.here S .int⟩
 ·cases rx with
  | cons r n=>cases n;cases r;exact .inr ⟨_,rfl,P.here S .int⟩
 ·exact P.elim⟩
def fTuple (vs:List PV) (s:Sto):Out PV:=match vs with
 | [v]=>match lsOf s v with
  | some l=>.ok (.tup l) s
  | none=>.bad
 | _=>.bad
theorem b_tuple:BltR X CB E (.type "tuple") fTuple:=⟨_,vW,by
 intro H m s v x Q S rx P
 unfold fTuple at P
 split at P
 ·cases rx with
  | cons r n =>
   cases n
   split at P
   ·rename_i l hl
    obtain ⟨a,vs,rfl,q,r⟩:=r.ls S hl
    exact ⟨a,vs,rfl,.inl ⟨q,fun p hp=>P.new S hp fun ex S'=>.tup (.inl ⟨.inl km,S'.pure_tup km⟩) (r.ext ex)⟩⟩
   ·exact P.elim
 ·exact P.elim⟩
def fList (vs:List PV) (s:Sto):Out PV:=match vs with
 | [.tup l]=>.ok (.lst l) s
 | [v]=>match lsOf s v with
  | some l=>.ok (.lst l) s
  | none=>.bad
 | _=>.bad
theorem b_list:BltR X CB E (.type "list") fList:=⟨_,xA,by
 intro H m s v x Q S rx P
 unfold fList at P
 split at P
 ·cases rx with
  | cons r n =>
   cases n
   obtain ⟨a,vs,rfl,q,r⟩:=r.tp
   exact ⟨a,vs,rfl,.inr q,fun p hp=>P.new S hp fun ex S'=>.lst km (S.pure_none hp) (r.ext ex)⟩
 ·cases rx with
  | cons r n =>
   cases n
   split at P
   ·rename_i l hl
    obtain ⟨a,vs,rfl,q,r⟩:=r.ls S hl
    exact ⟨a,vs,rfl,.inl q,fun p hp=>P.new S hp fun ex S'=>.lst km (S.pure_none hp) (r.ext ex)⟩
   ·exact P.elim
 ·exact P.elim⟩
def pT:List PV→Option (List Str)
 | []=>some []
 | .str x::l=>(pT l).map (x::·)
 | _=>none
theorem qH:∀ {l:List PV}{ss:List Str},pT l=some ss→l=ss.map PV.str
 | [],_,e=>by cases e;rfl
 | p::l,ss,e=>by
  unfold pT at e
  split at e
  ·rename_i h;cases h
  ·rename_i x l' h
   cases h
   cases c:pT l with
   | none=>rw [c] at e;cases e
   | some t=>rw [c] at e;cases e;rw [qH c];rfl
  ·cases e
theorem nV (ss:List Str):pT (ss.map PV.str)=some ss:=by
 induction ss with
 | nil=>rfl
 | cons x r ih=>rw [au];unfold pT;rw [ih];rfl
def keysOf:List (Key×PV)→Option (List Str)
 | []=>some []
 | (.inr x,_)::l=>(keysOf l).map (x::·)
 | _=>none
theorem wI:∀ {l:List (Key×PV)}{ss:List Str},keysOf l=some ss→l.map (·.1)=ss.map aE
 | [],_,e=>by cases e;rfl
 | p::l,ss,e=>by
  unfold keysOf at e
  split at e
  ·rename_i h;cases h
  ·rename_i x _ l' h
   cases h
   cases c:keysOf l with
   | none=>rw [c] at e;cases e
   | some t=>rw [c] at e;cases e;rw [au,wI c];rfl
  ·cases e
def ko (vs:List PV) (s:Sto):Out PV:=match vs with
 | [v]=>match lsOf s v with
  | some l=>match pT l with
   | some ss=>if ss.length < 64 then .ok (.lst ((srt ss).map PV.str)) s else .bad
   | none=>.bad
  | none=>match dcOf s v with
   | some l=>match keysOf l with
    | some ss=>if ss.length < 64 then .ok (.lst ((srt ss).map PV.str)) s else .bad
    | none=>.bad
   | none=>.bad
 | _=>.bad
theorem b_sorted (hc:X.calm=true):BltR X CB E (.builtin "sorted") ko:=⟨_,call_sortedL.or (nG hc),by
 intro H m s v x Q S rx P
 unfold ko at P
 split at P
 ·cases rx with
  | cons r n =>
   cases n
   split at P
   ·rename_i l hl
    split at P
    ·rename_i ss hs
     split at P
     ·rename_i h64
      obtain ⟨a,vs,rfl,q,r⟩:=r.ls S hl
      have e:=qH hs
      subst e
      rw [r.strs] at q
      exact .inl ⟨a,ss,rfl,q,h64,fun p hp=>P.new S hp fun ex S'=>.lst km (S.pure_none hp) (.ofStrs _)⟩
     ·exact P.elim
    ·exact P.elim
   ·split at P
    ·rename_i l hl
     split at P
     ·rename_i ss hs
      split at P
      ·rename_i h64
       obtain ⟨a,vs,rfl,q,r⟩:=r.dc S hl
       exact .inr ⟨a,vs,ss,rfl,q,r.keys.trans (wI hs),h64,fun p hp=>P.new S hp fun ex S'=>.lst km (S.pure_none hp) (.ofStrs _)⟩
      ·exact P.elim
     ·exact P.elim
    ·exact P.elim
 ·exact P.elim⟩
def uY:List PV→Option (List Bool)
 | []=>some []
 | .bl x::l=>(uY l).map (x::·)
 | _=>none
theorem rD {K:aa}{H:Hp}{m:Mp}{s:Sto}:∀ {vs:List V}{l:List PV}{bs:List Bool},Reps K H m s vs l→uY l=some bs→vs=bs.map V.bl
 | _,_,_,.nil,e=>by cases e;rfl
 | _,_,_,.cons (l:=l) a b,e=>by
  unfold uY at e
  split at e
  ·rename_i h;cases h
  ·rename_i h
   cases h
   cases a
   cases c:uY l with
   | none=>rw [c] at e;cases e
   | some t=>rw [c] at e;cases e;rw [rD b c];rfl
  ·cases e
def fAll (vs:List PV) (s:Sto):Out PV:=match vs with
 | [v]=>match lsOf s v with
  | some l=>match uY l with
   | some bs=>.ok (.bl (bs.all id)) s
   | none=>.bad
  | none=>.bad
 | _=>.bad
theorem b_all (hc:X.calm=true):BltR X CB E (.builtin "all") fAll:=⟨_,zo,by
 intro H m s v x Q S rx P
 unfold fAll at P
 split at P
 ·cases rx with
  | cons r n =>
   cases n
   split at P
   ·rename_i l hl
    split at P
    ·rename_i bs hb
     obtain ⟨a,vs,rfl,q,r⟩:=r.ls S hl
     have e:=rD r hb
     subst e
     exact ⟨a,bs,rfl,q,hc,P.here S .bl⟩
    ·exact P.elim
   ·exact P.elim
 ·exact P.elim⟩
def xJoin (f:XE) (fa:XA) (ρ:En) (s:Sto):Out PV:=(f ρ s).bind fun v s1=>match v with
 | .str z=>(fa ρ s1).bind fun vs s2=>match vs with
  | [w]=>match lsOf s2 w with
   | some l=>match pT l with
    | some ys=>if (ys.map (·.length)).sum+ys.length * z.length≤16777216 then .ok (.str (gj z ys)) s2 else .bad
    | none=>.bad
   | none=>.bad
  | _=>.bad
 | _=>.bad
theorem FP (ho:DE X CB E a f) (ha:DA X CB E (e::es) fa)
  (hbase:eM a "join" X.env (eval a X.env)=eval a X.env:=by rfl)
  (hfew:((cA cpos (aP (e::es) X.env)).all (fun x=>!x.1) && (fb cpos (dg [] X.env)).all (fun x=>x.1.isSome)
   && decide ((e::es).length+([]:List fU).length+(if ([]:List fU).isEmpty then 0 else 1) < 30))=true:=by rfl)
  (hline:(apos.endLine == cpos.line)=true:=by rfl) (hs:aP (e::es) X.env=(false,eval e X.env)::aP es X.env:=by rfl) (hplain:(cA cpos (aP es X.env)).any (·.1)=false:=by rfl) :
  DE X CB E (.Call (.Attribute a "join" apos) (e::es) [] cpos) (xJoin f fa) :=
 ⟨(Ge PySem.F.plainAttrs_str PySem.F.slot_str_join PySem.F.type_str_join Fp ho.pe ha.pa hbase hfew hline hs hplain).mono fun σ H Q ⟨ρ,s,m,er,S,P⟩=>⟨ρ,s,m,er,S,P.bind fun v s1 u H1 m1 e1 S1 r1 P1=>by
  split at P1
  ·cases r1
   refine ⟨rfl,ρ,s1,m1,er.ext e1,S1,P1.bind fun vs s2 us H2 m2 e2 S2 r2 P2=>?_⟩
   split at P2
   ·cases r2 with
    | cons r n =>
     cases n
     split at P2
     ·rename_i l hl
      split at P2
      ·rename_i ys hy
       split at P2
       ·rename_i hz
        obtain ⟨b,vs,rfl,q,r⟩:=r.ls S2 hl
        have e:=qH hy
        subst e
        rw [r.strs] at q
        exact ⟨_,b,ys,rfl,rfl,q,hz,P2.here S2 .str⟩
       ·exact P2.elim
      ·exact P2.elim
     ·exact P2.elim
   ·exact P2.elim
  ·exact P1.elim⟩⟩
def xAppend (f:XE) (fa:XA) (ρ:En) (s:Sto):Out PV:=(f ρ s).bind fun v s1=>match v with
 | .ref n=>match s1.get n with
  | some (.lst _)=>(fa ρ s1).bind fun vs s2=>match vs with
   | [w]=>match s2.get n with
    | some (.lst l)=>if l.length < 100000 then .ok .non (s2.set n (.lst (l++[w]))) else .bad
    | _=>.bad
   | _=>.bad
  | _=>.bad
 | _=>.bad
theorem SR.putL {K:aa}{H:Hp}{m:Mp}{s:Sto}{n:Nat}{l l':List PV}{vs':List V} (S:SR K CB H m s) (hn:s.get n=some (.lst l)) (r:Reps K H m s vs' l') :
  SR K CB (upd H (m.ad n) (.lst vs')) (m.fput n [m.ad n]) (s.set n (.lst l'))∧Ext H m s (upd H (m.ad n) (.lst vs')) (m.fput n [m.ad n]) (s.set n (.lst l')):=by
 obtain ⟨e1,vs,h1,_⟩:=S.get hn
 refine S.put hn (by intro _ z;cases z) _ _ (fun a o h ha=>?_) (fun a ha=>.inl (by rw [e1];exact ha)) fun ex=>⟨by show (if n=n then [m.ad n] else m.fp n)=_;rw [if_pos rfl];rfl,vs',km,r.ext0 ex⟩
 rw [e1,ax] at ha
 rw [ki ha];exact h
theorem SR.putD {K:aa}{H:Hp}{m:Mp}{s:Sto}{n:Nat}{l l':List (Key×PV)}{vs':List (Key×V)} (S:SR K CB H m s) (hn:s.get n=some (.dct l)) (r:RepKs K H m s vs' l') :
  SR K CB (upd H (m.ad n) (.dK vs')) (m.fput n [m.ad n]) (s.set n (.dct l'))∧Ext H m s (upd H (m.ad n) (.dK vs')) (m.fput n [m.ad n]) (s.set n (.dct l')):=by
 obtain ⟨e1,vs,h1,_⟩:=S.get hn
 refine S.put hn (by intro _ z;cases z) _ _ (fun a o h ha=>?_) (fun a ha=>.inl (by rw [e1];exact ha)) fun ex=>⟨by show (if n=n then [m.ad n] else m.fp n)=_;rw [if_pos rfl];rfl,vs',km,r.ext0 ex⟩
 rw [e1,ax] at ha
 rw [ki ha];exact h
theorem tm (ho:DE X CB E a f) (ha:DA X CB E (e::es) fa)
  (hbase:eM a "append" X.env (eval a X.env)=eval a X.env:=by rfl)
  (hfew:((cA cpos (aP (e::es) X.env)).all (fun x=>!x.1) && (fb cpos (dg [] X.env)).all (fun x=>x.1.isSome)
   && decide ((e::es).length+([]:List fU).length+(if ([]:List fU).isEmpty then 0 else 1) < 30))=true:=by rfl)
  (hline:(apos.endLine == cpos.line)=true:=by rfl) (hs:aP (e::es) X.env=(false,eval e X.env)::aP es X.env:=by rfl) (hplain:(cA cpos (aP es X.env)).any (·.1)=false:=by rfl) :
  DE X CB E (.Call (.Attribute a "append" apos) (e::es) [] cpos) (xAppend f fa) :=
 ⟨(Ge PySem.F.plainAttrs_list jy PySem.F.type_list_append wF ho.pe ha.pa hbase hfew hline hs hplain).mono fun σ H Q ⟨ρ,s,m,er,S,P⟩=>⟨ρ,s,m,er,S,P.bind fun v s1 u H1 m1 e1 S1 r1 P1=>by
  split at P1
  ·split at P1
   ·rename_i n _ _ hg
    obtain ⟨_,vs0,h0,_⟩:=S1.get hg
    cases r1 with
    | ref hn =>
    refine ⟨.inl ⟨rfl,vs0,SqL.of h0⟩,ρ,s1,m1,er.ext e1,S1,P1.bind fun vs s2 us H2 m2 e2 S2 r2 P2=>?_⟩
    split at P2
    ·cases r2 with
     | cons r n' =>
      cases n'
      split at P2
      ·rename_i l hg2
       split at P2
       ·rename_i hl
        obtain ⟨f1,vs1,h1,q1⟩:=S2.get hg2
        obtain ⟨S3,e3⟩:=S2.putL hg2 (q1.append (.cons r .nil))
        rw [← e2.ad _ hn]
        exact ⟨_,vs1,_,rfl,rfl,h1,by rw [q1.length];exact sz6 hl,P2 _ _ _ e3 S3 .non⟩
       ·exact P2.elim
      ·exact P2.elim
    ·exact P2.elim
   ·exact P1.elim
  ·exact P1.elim⟩⟩
def xGet (f g h:XE) (ρ:En) (s:Sto):Out PV:=(f ρ s).bind fun v s1=>match dcOf s1 v with
 | some _=>(g ρ s1).bind fun w s2=>(h ρ s2).bind fun z s3=>match dcOf s3 v with
  | some l=>match kyOf w with
   | some k=>.ok ((og l k).getD z) s3
   | none=>.bad
  | none=>.bad
 | none=>.bad
theorem HL (hu:X.A.units+1 < dq) (ho:DE X CB E a f) (he:DE X CB E b g) (hf:DE X CB E c h) (mm:M2 X a "get" apos b c cpos):DE X CB E (.Call (.Attribute a "get" apos) [b,c] [] cpos) (xGet f g h) :=
 ⟨(vi hu ho.pe he.pe hf.pe mm).mono fun σ H Q ⟨ρ,s,m,er,S,P⟩=>⟨ρ,s,m,er,S,P.bind fun v s1 u H1 m1 e1 S1 r1 P1=>by
  split at P1
  ·rename_i l0 hl0
   obtain ⟨a,vs0,rfl,q0,_⟩:=r1.dc S1 hl0
   refine ⟨a,rfl,.inl ⟨vs0,q0⟩,ρ,s1,m1,er.ext e1,S1,P1.bind fun w s2 u2 H2 m2 e2 S2 r2 P2=>⟨ρ,s2,m2,(er.ext e1).ext e2,S2,P2.bind fun z s3 u3 H3 m3 e3 S3 r3 P3=>?_⟩⟩
   split at P3
   ·rename_i l hl
    split at P3
    ·rename_i k hk
     obtain ⟨a',vs,ea,q,r⟩:=((r1.ext e2).ext e3).dc S3 hl
     cases ea
     refine ⟨m7 vs k,.inl ⟨vs,k,q,qz (r2.ext e3) hk,rfl⟩,?_⟩
     obtain ⟨v1,v2⟩:=r.val k
     cases cc:og l k with
     | none=>rw [v2 cc];rw [cc] at P3;exact P3.here S3 r3
     | some p=>obtain ⟨u,e,ru⟩:=v1 p cc;rw [e];rw [cc] at P3;exact P3.here S3 ru
    ·exact P3.elim
   ·exact P3.elim
  ·exact P1.elim⟩⟩
def xNewD (_:En) (s:Sto):Out PV:=.ok (.ref s.nx) (s.add (.dct []))
theorem FN:DE X CB E (.Dict [] [] pos) xNewD:=⟨pe_dnewK.mono fun σ H Q ⟨ρ,s,m,er,S,P⟩ p hp=>by
 obtain ⟨S2,e2⟩:=S.newD hp (My.oS hp) km .nil
 exact P _ _ _ e2 S2 .new⟩
end
def Out.so {α:Type} (o:Out α) (k:α→Sto→SO):SO:=match o with
 | .ok a s=>k a s
 | .ex c s=>.ex c s
 | .bad=>.bad
def SO.noex:SO→SO
 | .ex _ _=>.bad
 | o=>o
theorem PostS.shift {K:aa}{CB:ae}{E:XK}{o:SO}{H H1:Hp}{m m1:Mp}{s s1:Sto}{D:Ends} (e:Ext H m s H1 m1 s1) (h:PostS K CB E o H m s D):PostS K CB E o H1 m1 s1 D:=by
 cases o with
 | nx=>exact fun σ' H' m' x=>h σ' H' m' (e.trans x)
 | rt=>exact fun σ' H' m' x=>h σ' H' m' (e.trans x)
 | bk=>exact fun σ' H' m' x=>h σ' H' m' (e.trans x)
 | ct=>exact fun σ' H' m' x=>h σ' H' m' (e.trans x)
 | ex=>exact fun H' m' x=>h H' m' (e.trans x)
 | bad=>exact h
theorem Post.so {α β:Type}{K:aa}{CB:ae}{R:Hp→Mp→Sto→β→α→Prop}{E:XK}{o:Out α}{k:α→Sto→SO}{H:Hp}{m:Mp}{s:Sto}{D:Ends}{Q1:β→Hp→Prop} (h:PostS K CB E (o.so k) H m s D)
  (f:∀ v s1 u H1 m1,Ext H m s H1 m1 s1→SR K CB H1 m1 s1→R H1 m1 s1 u v→PostS K CB E (k v s1) H1 m1 s1 D→Q1 u H1):Post K CB R E o H m s Q1:=by
 cases o with
 | ok v s1=>exact fun u H1 m1 x S r=>f v s1 u H1 m1 x S r (PostS.shift x h)
 | ex c s'=>exact h
 | bad=>exact h
theorem PostS.next {K:aa}{CB:ae}{E:XK}{ρ:En}{H:Hp}{m:Mp}{s:Sto}{D:Ends}{σ:St} (h:PostS K CB E (.nx ρ s) H m s D) (S:SR K CB H m s) (er:ER K H m s σ ρ):D.nx σ H:=h σ H m .refl S er
theorem PostS.noex {K:aa}{CB:ae}{E:XK}{o:SO}{H:Hp}{m:Mp}{s:Sto}{D:Ends} (h:PostS K CB E o.noex H m s D):PostS K CB E0 o H m s D:=by
 cases o <;> first | exact h | exact bG h
def xSet (i:Nat) (f:XE) (ρ:En) (s:Sto):SO:=(f ρ s).so fun v s1=>.nx (ρ.set i (some v)) s1
def xRet (f:XE) (ρ:En) (s:Sto):SO:=(f ρ s).so fun v s1=>.rt v s1
def xRetN (_:En) (s:Sto):SO:=.rt .non s
def xDo (f:XE) (ρ:En) (s:Sto):SO:=(f ρ s).so fun _ s1=>.nx ρ s1
def xIf (t:XT) (g h:XS) (ρ:En) (s:Sto):SO:=(t ρ s).so fun b s1=>if b=true then g ρ s1 else h ρ s1
def xEnd (ρ:En) (s:Sto):SO:=.nx ρ s
def xSeq (g h:XS) (ρ:En) (s:Sto):SO:=match g ρ s with
 | .nx ρ' s'=>h ρ' s'
 | o=>o
section
variable {X:Cx}{CB:ae}{E:XK}{a b c e:bo}{es:List bo}{f g h:XE}{fa:XA}{t:XT}{p pos pos' apos cpos:Pos}{x:Str}{st:bX}{lC sts sts':List bX}{u v:XS}
theorem PS.nox {t:TS} (h:PS X.nox st t):PS X st t:=fun pins s σ H D I hw=>cr (h pins s σ H D (I.wish _) hw) (fun _ _ q=>q.unwish) fun _ _ z=>bG z
theorem kF (i:Nat) (hN:X.N.Nodup) (hi:X.N[i]?=some x) (hx:Loc X.env.scope x) (he:DE X CB E e f) (hs:fA e (some (.Name x pos')) pos.line X.env=pure false:=by rfl)
  (hf:X.fn x=true∨X.env.scope.names.lookup x=some .local:=by first | exact .inl rfl | exact .inr rfl | assumption):DS X CB E (.Assign [.Name x pos'] e pos) (xSet i f) :=
 ⟨(oT hN hi hx he.pe hs hf).mono fun D σ H ⟨ρ,s,m,er,S,P⟩=>⟨ρ,s,m,er,S,Post.so P fun v s1 u H1 m1 e1 S1 r1 P1=>P1.next S1 ((er.ext e1).set i r1)⟩⟩
theorem kS (he:DE X CB E e f):DS X CB E (.Return (some e) pos) (xRet f) :=
 ⟨(oz he.pe).mono fun D σ H ⟨ρ,s,m,er,S,P⟩=>⟨ρ,s,m,er,S,Post.so P fun v s1 u H1 m1 e1 S1 r1 P1=>P1 u H1 m1 .refl S1 r1⟩⟩
theorem sg (he:DE X CB E e f) (hs:fA e none pos.line X.env=pure false:=by rfl):DS X CB E (.Expr e pos) (xDo f) :=
 ⟨(nq he.pe hs).mono fun D σ H ⟨ρ,s,m,er,S,P⟩=>⟨ρ,s,m,er,S,Post.so P fun v s1 u H1 m1 e1 S1 r1 P1=>P1.next S1 (er.ext e1)⟩⟩
theorem qN (hc:DT X CB E c t) (ha:DSs X CB E sts u) (hb:DSs X CB E sts' v):DS X CB E (.If c sts sts' pos) (xIf t u v) :=
 ⟨(r8 hc.pt ha.pss hb.pss).mono fun D σ H ⟨ρ,s,m,er,S,P⟩=>⟨ρ,s,m,er,S,Post.so P fun v s1 u H1 m1 e1 S1 r1 P1=>by
  cases r1
  refine rB (fun c=>?_) fun c=>?_
  ·rw [if_pos c] at P1;exact ⟨ρ,s1,m1,er.ext e1,S1,P1⟩
  ·rw [if_neg c] at P1;exact ⟨ρ,s1,m1,er.ext e1,S1,P1⟩⟩⟩
theorem mf:DSs X CB E [] xEnd:=⟨pss_nil.mono fun D σ H ⟨ρ,s,m,er,S,P⟩=>P.next S er⟩
theorem kr (h:DS X CB E st u):DSs X CB E [st] u:=⟨kL h.ps⟩
theorem kl (h:DS X CB E st u) (k:DSs X CB E lC v):DSs X CB E (st::lC) (xSeq u v) :=
 ⟨(kD h.ps k.pss).mono fun D σ H ⟨ρ,s,m,er,S,P⟩=>⟨ρ,s,m,er,S,by
  unfold xSeq at P
  cases c:u ρ s with
  | nx ρ' s'=>rw [c] at P;exact fun σ' H' m' x S' er'=>⟨ρ',s',m',er',S',PostS.shift x P⟩
  | rt=>rw [c] at P;exact P
  | bk=>rw [c] at P;exact P
  | ct=>rw [c] at P;exact P
  | ex=>rw [c] at P;exact P
  | bad=>rw [c] at P;exact P⟩⟩
abbrev XG:=PV→En→Sto→Option En
abbrev XGs:=List PV→En→Sto→Option En
def TDG (K:aa) (CB:ae) (h:XG):TG:=fun v σ H Q=>∃ ρ s m q ρ',ER K H m s σ ρ∧SR K CB H m s∧Rep K H m s v q∧h q ρ s=some ρ'∧∀ σ',ER K H m s σ' ρ'→Q σ' H
def TDGs (K:aa) (CB:ae) (h:XGs):TGs:=fun v σ H Q=>∃ ρ s m q ρ',ER K H m s σ ρ∧SR K CB H m s∧Reps K H m s v q∧h q ρ s=some ρ'∧∀ σ',ER K H m s σ' ρ'→Q σ' H
structure DG (X:Cx) (CB:ae) (tg:bo) (h:XG):Prop where
 pg:PG X tg (TDG X.K CB h)
structure DGs (X:Cx) (CB:ae) (tg:List bo) (h:XGs):Prop where
 pgs:PGs X tg (TDGs X.K CB h)
theorem PG.mono {tg:bo}{t t':TG} (h:PG X tg t) (k:∀ v σ H Q,t' v σ H Q→t v σ H Q):PG X tg t':=fun pins s σ H v u Q I r q=>h pins s σ H v u Q I r (k v σ H Q q)
theorem PGs.mono {tg:List bo}{t t':TGs} (h:PGs X tg t) (k:∀ v σ H Q,t' v σ H Q→t v σ H Q):PGs X tg t':=fun pins s σ H v u Q I r q=>h pins s σ H v u Q I r (k v σ H Q q)
theorem PG.or {tg:bo}{t t':TG} (h:PG X tg t) (h':PG X tg t'):PG X tg (fun v σ H Q=>t v σ H Q∨t' v σ H Q):=fun pins s σ H v u Q I r q=>q.elim (h pins s σ H v u Q I r) (h' pins s σ H v u Q I r)
def yName (i:Nat) (q:PV) (ρ:En) (_:Sto):Option En:=some (ρ.set i (some q))
def yNil (q:List PV) (ρ:En) (_:Sto):Option En:=match q with
 | []=>some ρ
 | _=>none
def yCons (h:XG) (k:XGs) (q:List PV) (ρ:En) (s:Sto):Option En:=match q with
 | p::r=>(h p ρ s).bind fun ρ'=>k r ρ' s
 | []=>none
def yTup (n:Nat) (k:XGs) (q:PV) (ρ:En) (s:Sto):Option En:=match q with
 | .tup l=>if l.length=n then k l ρ s else none
 | q=>match lsOf s q with
  | some l=>if l.length=n then k l ρ s else none
  | none=>none
theorem k9 (i:Nat) (hN:X.N.Nodup) (hi:X.N[i]?=some x) (hx:Loc X.env.scope x) (hf:X.fn x=true∨X.env.scope.names.lookup x=some .local:=by first | exact .inl rfl | exact .inr rfl | assumption):DG X CB (.Name x pos) (yName i) :=
 ⟨(AN hN hi hx hf).mono fun v σ H Q ⟨ρ,s,m,q,ρ',er,S,r,e,k⟩=>by cases e;exact k _ (er.set i r)⟩
theorem xR:DGs X CB [] yNil:=⟨pgs_nil.mono fun v σ H Q ⟨ρ,s,m,q,ρ',er,S,r,e,k⟩=>by
 unfold yNil at e
 split at e <;> cases e
 cases r
 exact ⟨rfl,k _ er⟩⟩
theorem oa {h:XG}{k:XGs} (h1:DG X CB e h) (h2:DGs X CB es k) (hs:(cH (e::es) X.env).map (·.2)=assign e X.env::(cH es X.env).map (·.2):=by rfl):DGs X CB (e::es) (yCons h k) :=
 ⟨(Da h1.pg h2.pgs hs).mono fun v σ H Q ⟨ρ,s,m,q,ρ',er,S,r,e,kk⟩=>by
  unfold yCons at e
  split at e
  ·rename_i p r'
   cases r with
   | cons a b =>
    cases c:h p ρ s with
    | none=>rw [c] at e;cases e
    | some ρ1 =>
     rw [c] at e
     exact ⟨_,_,rfl,ρ,s,m,p,ρ1,er,S,a,c,fun σ1 er1=>⟨ρ1,s,m,r',ρ',er1,S,b,e,kk⟩⟩
  ·cases e⟩
theorem Av {k:XGs}{n k0:Nat} (hc:X.calm=true) (h:DGs X CB es k) (hn:(cH es X.env).length=n:=by rfl) (hst:(cH es X.env).findIdx? (·.1)=none:=by rfl):DG X CB (.Tuple es k0 pos) (yTup n k) :=
 ⟨((GY hc h.pgs hn hst).or (G0 hc h.pgs hn hst)).mono fun v σ H Q ⟨ρ,s,m,q,ρ',er,S,r,e,kk⟩=>by
  unfold yTup at e
  split at e
  ·split at e
   ·rename_i hl
    obtain ⟨a,vs,rfl,q1,r1⟩:=r.tp
    exact .inl ⟨a,vs,rfl,q1,r1.length.trans hl,ρ,s,m,_,ρ',er,S,r1,e,kk⟩
   ·cases e
  ·split at e
   ·rename_i l hl0
    split at e
    ·rename_i hl
     obtain ⟨a,vs,rfl,q1,r1⟩:=r.ls S hl0
     exact .inr ⟨a,vs,rfl,q1,r1.length.trans hl,ρ,s,m,_,ρ',er,S,r1,e,kk⟩
    ·cases e
   ·cases e⟩
def xAsg (f:XE) (h:XG) (ρ:En) (s:Sto):SO:=(f ρ s).so fun v s1=>match h v ρ s1 with
 | some ρ'=>.nx ρ' s1
 | none=>.bad
theorem HG {h:XG}{tg:bo} (he:DE X CB E e f) (hg:DG X CB tg h) (hs:gw [tg] e pos.line X.env=pure false:=by rfl) (hw:gz [tg] e X.env=pure none:=by rfl)
  (h1:(cH [tg] X.env).map (·.2)=[assign tg X.env]:=by rfl):DS X CB E (.Assign [tg] e pos) (xAsg f h) :=
 ⟨(D8 he.pe hg.pg hs hw h1).mono fun D σ H ⟨ρ,s,m,er,S,P⟩=>⟨ρ,s,m,er,S,Post.so P fun v s1 u H1 m1 e1 S1 r1 P1=>by
  split at P1
  ·rename_i ρ' hρ
   exact ⟨ρ,s1,m1,v,ρ',er.ext e1,S1,r1,hρ,fun σ' er'=>P1.next S1 er'⟩
  ·exact P1.elim⟩⟩
def xPar (i j:Nat) (fa:XA) (ρ:En) (s:Sto):SO:=(fa ρ s).so fun vs s1=>match vs with
 | [v,w]=>.nx ((ρ.set i (some v)).set j (some w)) s1
 | _=>.bad
theorem HE {i j:Nat}{y:Str}{px py pt:Pos}{kt k2 pt2} (hc:X.calm=true) (hN:X.N.Nodup) (hi:X.N[i]?=some x) (hj:X.N[j]?=some y) (hij:i≠j) (hx:X.env.scope.names.lookup x=some .local) (hy:X.env.scope.names.lookup y=some .local) (ha:DA X CB E [a,b] fa)
  (hw:gz [.Tuple [.Name x px,.Name y py] kt pt] (.Tuple [a,b] k2 pt2) X.env=pure (some [x,y])) (hs:gw [.Tuple [.Name x px,.Name y py] kt pt] (.Tuple [a,b] k2 pt2) pos.line X.env=pure false:=by rfl):DS X CB E (.Assign [.Tuple [.Name x px,.Name y py] kt pt] (.Tuple [a,b] k2 pt2) pos) (xPar i j fa) :=
 ⟨(GV hc hN hi hj hij hx hy ha.pa hw hs).mono fun D σ H ⟨ρ,s,m,er,S,P⟩=>⟨ρ,s,m,er,S,Post.so P fun v s1 u H1 m1 e1 S1 r1 P1=>by
  split at P1
  ·cases r1 with
   | cons a b =>
    cases b with
    | cons b c=>cases c;exact ⟨_,_,rfl,P1.next S1 (((er.ext e1).set i a).set j b)⟩
  ·exact P1.elim⟩⟩
def kO (o i v:PV) (s:Sto):Option Sto:=match o with
 | .ref n=>match s.get n with
  | some (.lst l)=>match i with
   | .int k=>match ixN l.length k with
    | some j=>some (s.set n (.lst (l.set j v)))
    | none=>none
   | _=>none
  | some (.dct l)=>match kyOf i with
   | some k=>if l.length < 100000 then some (s.set n (.dct (Co l k v))) else none
   | none=>none
  | _=>none
 | _=>none
def xPut (fo fi fv:XE) (ρ:En) (s:Sto):SO:=(fv ρ s).so fun v s1=>(fo ρ s1).so fun o s2=>(fi ρ s2).so fun i s3=>match kO o i v s3 with
 | some s4=>.nx ρ s4
 | none=>.bad
def Gb:V→V→V→Hp→(Hp→Prop)→Prop:=fun o i v H Q=>∃ a H',o=.ref a∧DPut H a i v H'∧Q H'
theorem CL (hu:X.A.units+1 < dq):PSet X Gb:=by
 intro pins s σ H o i v ov iv u Q I ro ri rv h
 obtain ⟨a,H',rfl,g,q⟩:=h
 obtain rfl:ov=bN a:=ro
 exact wX hu I g ri rv fun s4 I4=>⟨H',I4,q⟩
theorem PSet.or {t t':GB} (h:PSet X t) (h':PSet X t'):PSet X (fun o i v H Q=>t o i v H Q∨t' o i v H Q):=fun pins s σ H o i v ov iv u Q I r1 r2 r3 q=>q.elim (h pins s σ H o i v ov iv u Q I r1 r2 r3) (h' pins s σ H o i v ov iv u Q I r1 r2 r3)
theorem GU {K:aa}{H:Hp}{m:Mp}{s s':Sto}{o i v:PV}{xo xi xv:V} (S:SR K CB H m s) (ro:Rep K H m s xo o) (ri:Rep K H m s xi i) (rv:Rep K H m s xv v) (e:kO o i v s=some s') {Q:Hp→Prop} (hq:∀ H' m',Ext H m s H' m' s'→SR K CB H' m' s'→Q H'):Ga xo xi xv H Q∨Gb xo xi xv H Q:=by
 unfold kO at e
 split at e
 ·split at e
  ·rename_i l hg
   split at e
   ·split at e
    ·rename_i j hj
     cases e
     cases ro;cases ri
     obtain ⟨_,vs,h1,q1⟩:=S.get hg
     obtain ⟨S2,e2⟩:=S.putL hg (q1.set j rv)
     exact .inl ⟨_,vs,_,j,rfl,rfl,h1,by rw [q1.length];exact hj,hq _ _ e2 S2⟩
    ·cases e
   ·cases e
  ·rename_i l hg
   split at e
   ·rename_i k hk
    split at e
    ·rename_i hl
     cases e
     cases ro
     obtain ⟨_,vs,h1,q1⟩:=S.get hg
     obtain ⟨S2,e2⟩:=S.putD hg (q1.put k rv)
     exact .inr ⟨_,_,rfl,.inl ⟨vs,k,h1,qz ri hk,by rw [q1.length];exact sz6 hl,rfl⟩,hq _ _ e2 S2⟩
    ·cases e
   ·cases e
  ·cases e
 ·cases e
theorem x9 {tpos:Pos} (hu:X.A.units+1 < dq) (ho:DE X CB E a f) (hi:DE X CB E b g) (hv:DE X CB E e h) (hs:gw [gL a b tpos] e pos.line X.env=pure false:=by rfl) (hw:gz [gL a b tpos] e X.env=pure none:=by rfl)
  (h1:(cH [gL a b tpos] X.env).map (·.2)=[assign (gL a b tpos) X.env]:=by rfl)
  (ha:∀ v,assign (.Subscript a b tpos) X.env v=(do
   let ov ← holding [v] (eval a X.env)
   let iv ← holding [v,ov] (eval b X.env)
   gs tpos
   holding [v,ov,iv] (setItem ov iv v)
   release [v,ov,iv] []):=by intro _;rfl):DS X CB E (.Assign [.Subscript a b tpos] e pos) (xPut f g h) :=
 ⟨(D8 hv.pe (GZ ho.pe hi.pe (set_list.or (CL hu)) ha) hs hw h1).mono fun D σ H ⟨ρ,s,m,er,S,P⟩=>⟨ρ,s,m,er,S,Post.so P fun v s1 u H1 m1 e1 S1 r1 P1 =>
  ⟨ρ,s1,m1,er.ext e1,S1,Post.so P1 fun o s2 uo H2 m2 e2 S2 r2 P2=>⟨ρ,s2,m2,(er.ext e1).ext e2,S2,Post.so P2 fun i s3 ui H3 m3 e3 S3 r3 P3=>by
   split at P3
   ·rename_i s4 h4
    exact GU S3 (r2.ext e3) r3 ((r1.ext e2).ext e3) h4 fun H' m' x S'=>P3 σ H' m' x S' ((((er.ext e1).ext e2).ext e3).ext x)
   ·exact P3.elim⟩⟩⟩⟩
def oF (K:aa) (CB:ae) (J:It) (l:List PV) (H0:Hp) (m0:Mp) (s0:Sto):Prop:=∀ i H m s,Ext0 H0 m0 s0 H m s→SR K CB H m s →
 (∀ q,l[i]?=some q→J.go i H∧∀ x H',J.yld i H x H'→Ext H m s H' m s∧SR K CB H' m s∧Rep K H' m s x q)∧(l.length≤i→J.stop i H)
def TDI (K:aa) (CB:ae) (E:XK) (f:XA):TI:=fun σ H R=>∃ ρ s m,ER K H m s σ ρ∧SR K CB H m s∧match f ρ s with
 | .ok l s'=>∀ J H' m',Ext H m s H' m' s'→SR K CB H' m' s'→oF K CB J l H' m' s'→R J H'
 | .ex c s'=>∀ H' m',Ext H m s H' m' s'→SR K CB H' m' s'→E (.ref c) none H'
 | .bad=>False
structure DI (X:Cx) (CB:ae) (E:XK) (tg e:bo) (f:XA):Prop where
 pi:PI X tg e (TDI X.K CB E f)
theorem PI.mono {tg:bo}{t t':TI} (h:PI X tg e t) (k:∀ σ H R,t' σ H R→t σ H R):PI X tg e t':=fun pins s σ H R I q=>h pins s σ H R I (k σ H R q)
end
section
variable {X:Cx}{CB:ae}{E:XK}{a b c e tg:bo}{es:List bo}{f g h:XE}{fa fi:XA}{t:XT}{p pos pos' apos cpos:Pos}{x:Str}{st:bX}{lC sts sts':List bX}{u v:XS}
def xIter (f:XE) (ρ:En) (s:Sto):Out (List PV):=(f ρ s).bind fun v s1=>match v with
 | .lst l=>.ok l s1
 | .seq l=>.ok l s1
 | .tup l=>.ok l s1
 | _=>.bad
theorem Gm {K:aa}{H0:Hp}{m0:Mp}{s0:Sto}{b:ae}{q:PV}{l:List PV} (r:Rep K H0 m0 s0 (.ref b) q) (hl:∀ s,lsOf s q=some l):oF K CB (Itl K b) l H0 m0 s0:=by
 intro i H m s ex S
 obtain ⟨b',vs,e,hq,rs⟩:=(r.ext0 ex.toExtR).ls S (hl s)
 cases e
 refine ⟨fun q' hq'=>?_,fun hi=>⟨vs,hq,by rw [rs.length];exact hi⟩⟩
 obtain ⟨u,hu,ru⟩:=rs.get hq'
 refine ⟨⟨vs,u,hq,hu⟩,fun x H' ⟨e1,e2⟩=>?_⟩
 subst e1
 have e3:=e2 vs hq
 rw [hu] at e3
 cases e3
 exact ⟨.refl,S,ru⟩
theorem iterT {K:aa}{H0:Hp}{m0:Mp}{s0:Sto}{b:ae}{l:List PV} (r:Rep K H0 m0 s0 (.ref b) (.tup l)):oF K CB (Itt K b) l H0 m0 s0:=by
 intro i H m s ex S
 obtain ⟨b',vs,e,hq,rs⟩:=(r.ext0 ex.toExtR).tp
 cases e
 refine ⟨fun q' hq'=>?_,fun hi=>⟨vs,hq,by rw [rs.length];exact hi⟩⟩
 obtain ⟨u,hu,ru⟩:=rs.get hq'
 refine ⟨⟨vs,u,hq,hu⟩,fun x H' ⟨e1,e2⟩=>?_⟩
 subst e1
 have e3:=e2 vs hq
 rw [hu] at e3
 cases e3
 exact ⟨.refl,S,ru⟩
def iLT (K:aa) (tl:TE):TI:=fun σ H R=>tl σ H fun x H1=>(∃ a,x=.ref a∧(∃ xs,SqL K H1 a xs)∧R (Itl K a) H1)∨(∃ a,x=.ref a∧(∃ xs,SqT K H1 a xs)∧R (Itt K a) H1)
theorem pi_lt {tl:TE} (hl:PE X e tl):PI X tg e (iLT X.K tl):=by
 intro pins s σ H R I h
 refine thn (hl pins s σ H _ I h) fun v s1 ⟨x,H1,I1,r1,q1⟩=>?_
 rcases q1 with ⟨a,e,⟨xs,hq⟩,q⟩ | ⟨a,e,⟨xs,hq⟩,q⟩
 ·subst e
  cases r1
  obtain ⟨its,rv,p,hz⟩:=I1.list hq
  refine e8 p.isList ?_
  refine ⟨s1.heap.objs.size,[s1.heap.objs.size],_,_,H1,rfl,I1.kept (t':=s1.toks) fun b o e=>av _ e,wn a _,⟨_,ba _ rfl,rfl,rfl⟩,fun b hb=>?_,q⟩
  have e:b=s1.heap.objs.size:=by simpa using hb
  subst e
  exact I1.fpOk (aA _) (I1.hok.fresh (aA _))
 ·subst e
  cases r1
  obtain ⟨its,rv,p,hz⟩:=I1.tuple hq
  refine wpAny_pyIter_tuple (show s1.heap.IsTuple a its.toArray from p) ?_
  refine ⟨s1.heap.objs.size,[s1.heap.objs.size],_,_,H1,rfl,I1.kept (t':=s1.toks) fun b o e=>av _ e,zu a _,⟨_,ba _ rfl,rfl,rfl⟩,fun b hb=>?_,q⟩
  have e:b=s1.heap.objs.size:=by simpa using hb
  subst e
  exact I1.fpOk (aA _) (I1.hok.fresh (aA _))
theorem TDI.bind {σ:St}{H:Hp}{R:It→Hp→Prop}{F:PV→Sto→Out (List PV)} (q:TDI X.K CB E (fun ρ s=>(f ρ s).bind F) σ H R) {Q:VK} (k:∀ v s1 u H1 m1,SR X.K CB H1 m1 s1→Rep X.K H1 m1 s1 u v→(match F v s1 with
  | .ok l s'=>∀ J H' m',Ext H1 m1 s1 H' m' s'→SR X.K CB H' m' s'→oF X.K CB J l H' m' s'→R J H'
  | .ex c s'=>∀ H' m',Ext H1 m1 s1 H' m' s'→SR X.K CB H' m' s'→E (.ref c) none H'
  | .bad=>False)→Q u H1):TDE X.K CB E f σ H Q:=by
 obtain ⟨ρ,s,m,er,S,P⟩:=q
 refine ⟨ρ,s,m,er,S,?_⟩
 cases c:f ρ s with
 | ok v s1 =>
  simp only [c,Out.bind] at P
  refine fun u H1 m1 e1 S1 r1=>k v s1 u H1 m1 S1 r1 ?_
  cases d:F v s1 with
  | ok l s'=>rw [d] at P;exact fun J H' m' x=>P J H' m' (e1.trans x)
  | ex c' s'=>rw [d] at P;exact fun H' m' x=>P H' m' (e1.trans x)
  | bad=>rw [d] at P;exact P
 | ex c' s'=>simp only [c,Out.bind] at P;exact P
 | bad=>simp only [c,Out.bind] at P
theorem mX (hl:DE X CB E e f):DI X CB E tg e (xIter f):=⟨(pi_lt hl.pe).mono fun σ H R q=>TDI.bind q fun v s1 u H1 m1 S1 r1 P=>by
 cases r1 with
 | lst h1 h2 h3=>exact .inl ⟨_,rfl,⟨_,SqL.of h1⟩,P _ _ _ .refl S1 (Gm (.lst h1 h2 h3) fun _=>rfl)⟩
 | seq h1 h3=>exact .inl ⟨_,rfl,⟨_,h1.elim (fun z=>.inl (.inr z.1)) .inr⟩,P _ _ _ .refl S1 (Gm (.seq h1 h3) fun _=>rfl)⟩
 | tup h1 h3=>exact .inr ⟨_,rfl,⟨_,h1.elim (fun z=>.inl z.1) .inr⟩,P _ _ _ .refl S1 (iterT (.tup h1 h3))⟩
 | _=>exact P.elim⟩
def strP (x:Str):List PV:=x.cps.toList.map fun c=>PV.str ⟨#[c]⟩
def xIterS (f:XE) (ρ:En) (s:Sto):Out (List PV):=(f ρ s).bind fun v s1=>match v with
 | .str x=>.ok (strP x) s1
 | _=>.bad
def qt (lo:Int) (n:Nat):List PV:=(cy n).map fun (k:Nat)=>PV.int (lo+k)
def xRng1 (fa:XA) (ρ:En) (s:Sto):Out (List PV):=(fa ρ s).bind fun vs s1=>match vs with
 | [.int j]=>if -(2 ^ 62)≤j∧j < 2 ^ 62 then .ok (qt 0 j.toNat) s1 else .bad
 | _=>.bad
theorem iterR {K:aa}{lo:Int}{n:Nat}{H0:Hp}{m0:Mp}{s0:Sto}:oF K CB (Itr lo n) (qt lo n) H0 m0 s0:=by
 intro i H m s ex S
 refine ⟨fun q hq=>?_,fun hi=>?_⟩
 ·unfold qt at hq
  rw [bi] at hq
  by_cases hi:i < n
  ·rw [jW hi] at hq
   cases hq
   exact ⟨hi,fun x H' ⟨e1,e2⟩=>by subst e1 e2;exact ⟨.refl,S,.int⟩⟩
  ·rw [jB (by simpa using hi)] at hq;cases hq
 ·unfold qt at hi;rw [aj,eS] at hi;exact hi
theorem TDI.bindA {σ:St}{H:Hp}{R:It→Hp→Prop}{F:List PV→Sto→Out (List PV)} (q:TDI X.K CB E (fun ρ s=>(fa ρ s).bind F) σ H R) {Q:List V→Hp→Prop} (k:∀ v s1 u H1 m1,SR X.K CB H1 m1 s1→Reps X.K H1 m1 s1 u v→(match F v s1 with
  | .ok l s'=>∀ J H' m',Ext H1 m1 s1 H' m' s'→SR X.K CB H' m' s'→oF X.K CB J l H' m' s'→R J H'
  | .ex c s'=>∀ H' m',Ext H1 m1 s1 H' m' s'→SR X.K CB H' m' s'→E (.ref c) none H'
  | .bad=>False)→Q u H1):TDA X.K CB E fa σ H Q:=by
 obtain ⟨ρ,s,m,er,S,P⟩:=q
 refine ⟨ρ,s,m,er,S,?_⟩
 cases c:fa ρ s with
 | ok v s1 =>
  simp only [c,Out.bind] at P
  refine fun u H1 m1 e1 S1 r1=>k v s1 u H1 m1 S1 r1 ?_
  cases d:F v s1 with
  | ok l s'=>rw [d] at P;exact fun J H' m' x=>P J H' m' (e1.trans x)
  | ex c' s'=>rw [d] at P;exact fun H' m' x=>P H' m' (e1.trans x)
  | bad=>rw [d] at P;exact P
 | ex c' s'=>simp only [c,Out.bind] at P;exact P
 | bad=>simp only [c,Out.bind] at P
theorem mh (hg:Gl X "range") (hm:X.mg "range"=none) (ha:DA X CB E [a] fa) (hs:aP [a] X.env=[(false,eval a X.env)]:=by rfl):DI X CB E tg (.Call (.Name "range" p) [a] [] pos) (xRng1 fa) :=
 ⟨(Bp hg hm ha.pa hs).mono fun σ H R q=>TDI.bindA q fun v s1 u H1 m1 S1 r1 P=>by
  split at P
  ·rename_i l s' hF
   split at hF
   ·split at hF <;> cases hF
    rename_i hj
    cases r1 with
    | cons r n=>cases n;cases r;exact ⟨_,rfl,hj.1,hj.2,P _ _ _ .refl S1 iterR⟩
   ·cases hF
  ·rename_i hF
   split at hF
   ·split at hF <;> cases hF
   ·cases hF
  ·exact P.elim⟩
def AU:Key→PV
 | .inl i=>.int i
 | .inr x=>.str x
def xIterD (f:XE) (ρ:En) (s:Sto):Out (List PV):=(f ρ s).bind fun v s1=>match v with
 | .dct l=>.ok (l.map fun kv=>AU kv.1) s1
 | _=>.bad
def iDict (tl:TE):TI:=fun σ H R=>tl σ H fun x H1=>∃ d kvs,x=.ref d∧((H1 d=some (.dK kvs)∧∀ ob,R (Itd d ob kvs) (upd H1 d (.frz ob (.dK kvs))))∨∃ ob,H1 d=some (.frz ob (.dK kvs))∧R (Itd d ob kvs) H1)
theorem E7 {tl:TE} (hl:PE X e tl):PI X tg e (iDict tl):=by
 intro pins s σ H R I h
 refine thn (hl pins s σ H _ I h) fun v s1 ⟨x,H1,I1,r1,q1⟩=>?_
 obtain ⟨d,kvs,e,q1⟩:=q1
 subst e
 cases r1
 have hd:Rd H1 d (.dK kvs):=q1.elim (fun z=>.inl z.1) fun ⟨ob,z,_⟩=>.inr ⟨ob,z⟩
 obtain ⟨z,hsys,vs,rel,dd⟩:=si I1.hok hd
 obtain ⟨ep,at_⟩:=dd.dictAt
 obtain ⟨ob,es,ho,hex,hdat,hrest⟩:=id at_
 refine wpAny_pyIter_dict hsys at_ ?_
 have hl:=rel.length
 have I2:Inv X pins σ H1 { s1 with heap:=s1.heap.push { cls:=.type "dict_keyiterator",data:=.fields #[.ref d,.int 0 0,.int vs.length 0,.int ep 0] } }:=I1.kept (t':=s1.toks) fun b o e=>av _ e
 have hne:s1.heap.objs.size≠d:=fun z=>by
  have:=aH ho
  rw [z] at this
  exact cE _ this
 have st2:(0≤kvs.length∧(s1.heap.push { cls:=.type "dict_keyiterator",data:=.fields #[.ref d,.int 0 0,.int vs.length 0,.int ep 0] }).IsKeyIter s1.heap.objs.size d 0 kvs.length ep):=by
  refine ⟨bD _,{ cls:=.type "dict_keyiterator",data:=.fields #[.ref d,.int 0 0,.int vs.length 0,.int ep 0] },ba _ rfl,rfl,?_⟩
  rw [hl]
  rfl
 rcases q1 with ⟨hd1,q⟩ | ⟨ob',hd1,q⟩
 ·refine ⟨s1.heap.objs.size,[s1.heap.objs.size],_,Itd d ob kvs,_,rfl,I2.freeze hd1 (av _ ho),wo d _ ob kvs es ep hdat,st2,fun b hb=>?_,q ob⟩
  have e:b=s1.heap.objs.size:=by simpa using hb
  subst e
  refine I1.fpOk (aA _) ?_
  rw [ki hne]
  exact I1.hok.fresh (aA _)
 ·have e0:ob'=ob:=by
   obtain ⟨e1,_⟩:=(show ObjOk X.prog X.w H1 s1.heap d (.frz ob' (.dK kvs)) from I1.hok d _ hd1)
   rw [ho] at e1
   exact (aZ e1).symm
  subst e0
  refine ⟨s1.heap.objs.size,[s1.heap.objs.size],_,Itd d ob' kvs,_,rfl,I2,wo d _ ob' kvs es ep hdat,st2,fun b hb=>?_,q⟩
  have e:b=s1.heap.objs.size:=by simpa using hb
  subst e
  exact I1.fpOk (aA _) (I1.hok.fresh (aA _))
theorem Hs {K:aa}{H:Hp}{m:Mp}{s:Sto} (k:Key):Rep K H m s (kV k) (AU k):=by
 cases k with
 | inl i=>exact .int
 | inr x=>exact .str
theorem RepKs.get:∀ {K:aa}{H:Hp}{m:Mp}{s:Sto}{vs:List (Key×V)}{l:List (Key×PV)}{i:Nat}{q:Key×PV},RepKs K H m s vs l→l[i]?=some q→∃ w,vs[i]?=some w∧w.1=q.1
 | _,_,_,_,_,_,_,_,.nil,e=>by simp at e
 | _,_,_,_,_,_,0,_,.cons _ _,e=>by simp at e;subst e;exact ⟨_,rfl,rfl⟩
 | _,_,_,_,_,_,i+1,q,.cons _ b,e=>by
  obtain ⟨w,h1,h2⟩:=b.get (i:=i) (q:=q) (by simpa using e)
  exact ⟨w,by simpa using h1,h2⟩
theorem iterD {K:aa}{H0:Hp}{m0:Mp}{s0:Sto}{d:ae}{ob:Obj}{kvs:List (Key×V)}{l:List (Key×PV)} (hd:∀ H m s,Ext0 H0 m0 s0 H m s→SR K CB H m s→H d=some (.frz ob (.dK kvs))) (r:RepKs K H0 m0 s0 kvs l):oF K CB (Itd d ob kvs) (l.map fun kv=>AU kv.1) H0 m0 s0:=by
 intro i H m s ex S
 have h:=hd H m s ex S
 refine ⟨fun q hq=>?_,fun hi=>⟨by rw [r.length];simpa using hi,h⟩⟩
 rw [bi] at hq
 cases c:l[i]? with
 | none=>rw [c] at hq;cases hq
 | some kv =>
  rw [c] at hq
  cases hq
  obtain ⟨w,h1,h2⟩:=r.get c
  refine ⟨⟨(aW.mp h1).1,h⟩,fun x H' ⟨e1,kv',e2,e3⟩=>?_⟩
  subst e1 e3
  rw [h1] at e2
  cases e2
  rw [h2]
  exact ⟨.refl,S,Hs _⟩
def li (body:PV→XS):List PV→XS
 | [],ρ,s=>.nx ρ s
 | q::l,ρ,s=>match body q ρ s with
  | .nx ρ' s'=>li body l ρ' s'
  | .ct ρ' s'=>li body l ρ' s'
  | .bk ρ' s'=>.nx ρ' s'
  | o=>o
def kK (y:XG) (u:XS) (q:PV) (ρ:En) (s:Sto):SO:=match y q ρ s with
 | some ρ'=>u ρ' s
 | none=>.bad
def xFor (fi:XA) (y:XG) (body:XS) (ρ:En) (s:Sto):SO:=((fi ρ s).so fun l s1=>li (kK y body) l ρ s1).noex
theorem DB {y:XG}{J:It}{l:List PV}{H1:Hp}{m1:Mp}{s1:Sto}{σ:St}{ρ:En}{D:Ends} (S1:SR X.K CB H1 m1 s1) (er:ER X.K H1 m1 s1 σ ρ) (it:oF X.K CB J l H1 m1 s1) (P:PostS X.K CB E0 (li (kK y u) l ρ s1) H1 m1 s1 D) :
  ∃ W:Nat→Nat→St→Hp→Prop,(∃ m,W 0 m σ H1)∧∀ i m σ H,W i m σ H →
   (J.stop i H∧D.nx σ H)∨(J.go i H∧∃ N:St→Hp→Prop,(∀ σ' H',N σ' H'→∃ m',m' < m∧W (i+1) m' σ' H')∧∀ x H',J.yld i H x H'→(TDG X.K CB y) x σ H' fun σ2 H2=>(TDS X.K CB E0 u) { D with nx:=N,ct:=N,bk:=D.nx } σ2 H2):=by
 refine ⟨fun i k σ' H'=>∃ ρ' s' m',ER X.K H' m' s' σ' ρ'∧SR X.K CB H' m' s'∧Ext H1 m1 s1 H' m' s'∧i≤l.length∧k=l.length - i∧PostS X.K CB E0 (li (kK y u) (l.drop i) ρ' s') H' m' s' D,⟨l.length,ρ,s1,m1,er,S1,.refl,bD _,rfl,P⟩,?_⟩
 rintro i k σ' H' ⟨ρ',s',m',er',S',ex',hi',rfl,P'⟩
 obtain ⟨it1,it2⟩:=it i H' m' s' ex'.toExt0 S'
 by_cases hlt:i < l.length
 ·right
  have hq:l[i]?=some l[i]:=bh hlt
  obtain ⟨go,yl⟩:=it1 _ hq
  rw [fS hlt] at P'
  refine ⟨go,fun σ2 H2=>∃ ρ2 s2 m2,ER X.K H2 m2 s2 σ2 ρ2∧SR X.K CB H2 m2 s2∧Ext H1 m1 s1 H2 m2 s2∧PostS X.K CB E0 (li (kK y u) (l.drop (i+1)) ρ2 s2) H2 m2 s2 D,fun σ2 H2 ⟨ρ2,s2,m2,a1,a2,a3,a4⟩=>⟨l.length - (i+1),by omega,ρ2,s2,m2,a1,a2,a3,hlt,rfl,a4⟩,fun x H2 hy=>?_⟩
  obtain ⟨e2,S2,r2⟩:=yl x H2 hy
  unfold li at P'
  have hbo:kK y u l[i] ρ' s'=match y l[i] ρ' s' with | some ρ'=>u ρ' s' | none=>.bad:=rfl
  rw [hbo] at P'
  cases hyq:y l[i] ρ' s' with
  | none=>rw [hyq] at P';exact P'.elim
  | some ρ2 =>
   rw [hyq] at P'
   have P':=PostS.shift e2 P'
   dsimp only at P'
   refine ⟨ρ',s',m',l[i],ρ2,er'.ext e2,S2,r2,hyq,fun σ2 er2=>⟨ρ2,s',m',er2,S2,?_⟩⟩
   cases cb:u ρ2 s' with
   | nx ρ3 s3=>rw [cb] at P';exact fun σ3 H3 m3 e3 S3 er3=>⟨ρ3,s3,m3,er3,S3,(ex'.trans e2).trans e3,PostS.shift e3 P'⟩
   | ct ρ3 s3=>rw [cb] at P';exact fun σ3 H3 m3 e3 S3 er3=>⟨ρ3,s3,m3,er3,S3,(ex'.trans e2).trans e3,PostS.shift e3 P'⟩
   | bk ρ3 s3=>rw [cb] at P';exact P'
   | rt v3 s3=>rw [cb] at P';exact P'
   | ex c3 s3=>rw [cb] at P';exact P'
   | bad=>rw [cb] at P';exact P'
 ·left
  have hle:l.length≤i:=gr hlt
  rw [dD hle] at P'
  exact ⟨it2 hle,P'.next S' er'⟩
theorem mW {y:XG} (hc:X.calm=true) (hi:DI X.nox CB E0 tg e fi) (hg:DG X.nox CB tg y) (hb:DSs X.nox CB E0 sts u) (hs:∀ x,cN e X.env x=pure x:=by intro _;rfl):DS X CB E (.For tg e sts [] pos) (xFor fi y u) :=
 ⟨PS.nox ((GW (X:=X.nox) hJ hc hi.pi hg.pg hb.pss hs).mono fun D σ H ⟨ρ,s,m,er,S,P⟩=>by
  have P:=PostS.noex P
  refine ⟨ρ,s,m,er,S,?_⟩
  cases c:fi ρ s with
  | bad=>rw [c] at P;exact P
  | ex c' s'=>rw [c] at P;exact P
  | ok l s1 =>
   rw [c] at P
   intro J H1 m1 e1 S1 it
   exact DB (X:=X.nox) S1 (er.ext e1) it (PostS.shift e1 P))⟩
def lc (c:XT) (b:XS):Nat→XS
 | 0,_,_=>.bad
 | n+1,ρ,s=>(c ρ s).so fun t s1=>if t=true then (match b ρ s1 with
  | .nx ρ' s'=>lc c b n ρ' s'
  | .ct ρ' s'=>lc c b n ρ' s'
  | .bk ρ' s'=>.nx ρ' s'
  | o=>o) else .nx ρ s1
open Classical in
def tW (c:XT) (b:XS) (ρ:En) (s:Sto):SO:=if h:∃ n,lc c b n ρ s≠.bad then (lc c b h.choose ρ s).noex else .bad
theorem zi {c:bo} (hc:DT X.nox CB E0 c t) (hb:DSs X.nox CB E0 sts u):DS X CB E (.While c sts [] pos) (tW t u) :=
 ⟨PS.nox ((yR (X:=X.nox) hJ hc.pt hb.pss).mono fun D σ H ⟨ρ,s,m,er,S,P⟩=>by
  unfold tW at P
  split at P
  ·rename_i h
   have P:=PostS.noex P
   refine ⟨fun n σ' H'=>∃ ρ' s' m',ER X.K H' m' s' σ' ρ'∧SR X.K CB H' m' s'∧PostS X.K CB E0 (lc t u n ρ' s') H' m' s' D,⟨_,ρ,s,m,er,S,P⟩,?_⟩
   rintro n σ' H' ⟨ρ',s',m',er',S',P'⟩
   cases n with
   | zero=>exact P'.elim
   | succ n =>
    refine ⟨ρ',s',m',er',S',Post.so P' fun b s1 b' H1 m1 e1 S1 r1 P1=>?_⟩
    cases r1
    refine rB (fun cb=>?_) fun cb=>?_
    ·rw [if_pos cb] at P1
     refine ⟨fun σ2 H2=>∃ ρ2 s2 m2,ER X.K H2 m2 s2 σ2 ρ2∧SR X.K CB H2 m2 s2∧PostS X.K CB E0 (lc t u n ρ2 s2) H2 m2 s2 D,fun σ2 H2 q=>⟨n,di _,q⟩,ρ',s1,m1,er'.ext e1,S1,?_⟩
     cases cu:u ρ' s1 with
     | nx ρ3 s3=>rw [cu] at P1;exact fun σ3 H3 m3 e3 S3 er3=>⟨ρ3,s3,m3,er3,S3,PostS.shift e3 P1⟩
     | ct ρ3 s3=>rw [cu] at P1;exact fun σ3 H3 m3 e3 S3 er3=>⟨ρ3,s3,m3,er3,S3,PostS.shift e3 P1⟩
     | bk ρ3 s3=>rw [cu] at P1;exact P1
     | rt v3 s3=>rw [cu] at P1;exact P1
     | ex c3 s3=>rw [cu] at P1;exact P1
     | bad=>rw [cu] at P1;exact P1
    ·rw [if_neg cb] at P1
     exact P1.next S1 (er'.ext e1)
  ·exact P.elim)⟩
theorem p4 {c:XT}{b:XS}:∀ {n:Nat}{ρ:En}{s:Sto},lc c b n ρ s≠.bad→lc c b (n+1) ρ s=lc c b n ρ s
 | 0,_,_,h=>absurd rfl h
 | n+1,ρ,s,h=>by
  unfold lc at h ⊢
  cases hc:c ρ s with
  | ok t s1 =>
   rw [hc] at h
   simp only [Out.so] at h ⊢
   by_cases ht:t=true
   ·rw [if_pos ht] at h ⊢
    rw [if_pos ht]
    cases hb:b ρ s1 with
    | nx ρ' s'=>rw [hb] at h;exact p4 h
    | ct ρ' s'=>rw [hb] at h;exact p4 h
    | _=>rfl
   ·rw [if_neg ht,if_neg ht]
  | ex=>rfl
  | bad=>rfl
theorem wg {c:XT}{b:XS}{n k:Nat}{ρ:En}{s:Sto} (h:lc c b n ρ s≠.bad):lc c b (n+k) ρ s=lc c b n ρ s:=by
 induction k with
 | zero=>rfl
 | succ k ih=>rw [← Nat.add_assoc,p4 (by rw [ih];exact h),ih]
theorem wf {c:XT}{b:XS}{n:Nat}{ρ:En}{s:Sto}{o:SO} (h:lc c b n ρ s=o) (ho:o≠.bad):tW c b ρ s=o.noex:=by
 have hx:∃ n,lc c b n ρ s≠.bad:=⟨n,by rw [h];exact ho⟩
 unfold tW
 rw [dif_pos hx]
 have h1:=wg (k:=n) hx.choose_spec
 have h2:=wg (k:=hx.choose) (show lc c b n ρ s≠.bad by rw [h];exact ho)
 rw [Nat.add_comm] at h2
 rw [← h1,h2,h]
end
def lz (c:XT) (e:XE) (cap:En):List PV→Sto→Out (List PV)
 | [],s=>.ok [] s
 | q::l,s=>match c (some q::cap) s with
  | .ok true s1=>match e (some q::cap) s1 with
   | .ok v s2=>match lz c e cap l s2 with
    | .ok vs s3=>.ok (v::vs) s3
    | _=>.bad
   | _=>.bad
  | .ok false s1=>lz c e cap l s1
  | _=>.bad
theorem l5 {c:XT}{e:XE}{cap:En}{q:PV}{l:List PV}{s:Sto}:lz c e cap (q::l) s=match c (some q::cap) s with
  | .ok true s1=>match e (some q::cap) s1 with
   | .ok v s2=>match lz c e cap l s2 with
    | .ok vs s3=>.ok (v::vs) s3
    | _=>.bad
   | _=>.bad
  | .ok false s1=>lz c e cap l s1
  | _=>.bad:=rfl
theorem sk {c:XT}{e:XE}{cap:En}:∀ {l:List PV}{s s':Sto}{k:ae},lz c e cap l s≠.ex k s'
 | [],_,_,_,h=>by cases h
 | q::l,s,s',k,h=>by
  unfold lz at h
  split at h
  ·split at h
   ·split at h <;> cases h
   ·cases h
  ·exact sk h
  ·cases h
def qT (_:En) (s:Sto):Out Bool:=.ok true s
def lu (fi:XA) (ix:List Nat) (c:XT) (e:XE) (ρ:En) (s:Sto):Out PV:=(fi ρ s).bind fun l s1=>if l.length≤100000 then (lz c e (lh ix ρ) l s1).bind fun vs s2=>.ok (.lst vs) s2 else .bad
structure DIfs (X:Cx) (CB:ae) (ifs:List bo) (t:XT):Prop where
 pifs:Et X ifs (TDT X.K CB E0 t)
section
variable {X:Cx}{CB:ae}{E:XK}{a b c e elt iter tg:bo}{es ifs:List bo}{f g h:XE}{fa fi:XA}{t:XT}{p px pos pos' apos cpos:Pos}{x:Str}{st:bX}{lC sts sts':List bX}{u v:XS}{scope:dR}{fr:List Str}{ix:List Nat}
theorem oX:DIfs X CB [] qT:=⟨fun pins s σ H Q I ⟨ρ,s',m,er,S,P⟩=>vh pins s σ H Q I (P.here S rfl)⟩
theorem mJ (h:DT X CB E0 c t):DIfs X CB [c] t:=⟨C8 h.pt⟩
def Mp.hide (m:Mp) (d:ae):Mp:=⟨m.ad,m.fp,d::m.hid⟩
def Mp.bare (m:Mp) (l:List ae):Mp:=⟨m.ad,m.fp,l⟩
theorem Ext0.hide {H:Hp}{m:Mp}{s:Sto}{d:ae}{o:HO} (hd:H d=none):Ext0 H m s (upd H d o) (m.hide d) s :=
 ⟨⟨aA _,fun _ _=>rfl,fun a u h p=>⟨h.same (My.oS hd),fun z=>(ai.mp z).elim (h.ne hd) p.1,p.2⟩,fun a u h _ _=>My.oS hd _ _ h⟩,fun j l _ h=>⟨h,fun o ho=>My.oS hd _ _ ho⟩⟩
theorem SR.hide {K:aa}{H:Hp}{m:Mp}{s:Sto}{d:ae}{xs:List V} (S:SR K CB H m s) (hd:H d=none):SR K CB (upd H d (.lst xs)) (m.hide d) s:=by
 have k:=My.oS (o:=.lst xs) hd
 have S1:=S.same k
 have e0:Ext0 H m s (upd H d (.lst xs)) (m.hide d) s:=Ext0.hide hd
 have hne:∀ n∈s.cs.map (·.1),∀ a∈m.fp n,a≠d:=fun n hn a ha z=>by
  obtain ⟨q,hq,rfl⟩:=ak.mp hn
  obtain ⟨o,e,_⟩:=(S.ok q hq).kind ha
  rw [z,hd] at e;cases e
 refine ⟨S.nd,S.lt,fun q hq=>?_,S.dj,fun n hn a ha hb=>(ai.mp hb).elim (hne n hn a ha) (S.hx n hn a ha),fun a ha=>?_,fun P q t=>⟨ag _ (S1.tb P q t).1,(S1.tb P q t).2⟩⟩
 ·have:=S.ok q hq
  cases c:q.2 with
  | lst l=>rw [c] at this;obtain ⟨a1,vs,a2,a3⟩:=this;exact ⟨a1,vs,k _ _ a2,a3.ext0 e0.toExtR⟩
  | dct l=>rw [c] at this;obtain ⟨a1,vs,a2,a3⟩:=this;exact ⟨a1,vs,k _ _ a2,a3.ext0 e0.toExtR⟩
  | dfz l=>rw [c] at this;obtain ⟨a1,ob,vs,a2,a3⟩:=this;exact ⟨a1,ob,vs,k _ _ a2,a3.ext0 e0.toExtR⟩
  | obj C fs=>rw [c] at this;obtain ⟨a1,dx,vs,a2,a3,a4⟩:=this;exact ⟨a1,dx,vs,k _ _ a2,a3,a4.ext0 e0.toExtR⟩
  | book pp L =>
   have:=S1.ok q hq
   rw [c] at this
   exact this
 ·rcases ai.mp ha with rfl | ha
  ·rw [km];exact ⟨by simp,fun _ _=>⟨by simp,by simp,by simp,by simp⟩⟩
  ·exact S1.hs a ha
theorem Ext0.redo {K:aa}{H:Hp}{m:Mp}{s:Sto}{d:ae}{o u0:HO} (S:SR K CB H m s) (hd:d∈m.hid) (hu:H d=some u0) (hno:¬ Odd u0):Ext0 H m s (upd H d o) m s:=by
 have ne:∀ a,Pur m s a→a≠d:=fun a p z=>p.1 (z ▸ hd)
 refine ⟨⟨aA _,fun _ _=>rfl,fun a u h p=>⟨?_,p⟩,fun a u h _ p=>by rw [ki (ne a p)];exact h⟩,fun j l _ h=>⟨h,fun o ho=>?_⟩⟩
 rotate_left
 ·obtain ⟨e1,_⟩:=S.ok _ (lb h)
  rw [ki (show m.ad j≠d from fun z=>S.hx j (ak.mpr ⟨_,lb h,rfl⟩) (m.ad j) (by rw [e1];simp) (by rw [z];exact hd))];exact ho
 exact h.elim (fun h=>.inl (by rw [ki (ne a p)];exact h)) fun ⟨o,h⟩=>.inr ⟨o,by rw [ki (ne a p)];exact h⟩
theorem SR.redo {K:aa}{H:Hp}{m:Mp}{s:Sto}{d:ae}{xs ys:List V} (S:SR K CB H m s) (hd:d∈m.hid) (hl:H d=some (.lst xs)):SR K CB (upd H d (.lst ys)) m s:=by
 have e0:Ext0 H m s (upd H d (.lst ys)) m s:=Ext0.redo S hd hl vP
 have nt:∀ (t:ae) (us:List V),SqT K H t us→SqT K (upd H d (.lst ys)) t us:=fun t us h=>by
  rcases h with h | h
  ·refine .inl (e0.pu _ _ h ?_).1
   exact h.elim (fun h=>S.pure_tup h) fun ⟨_,h⟩=>S.pure_frz (.inl h)
  ·exact .inr h
 refine ⟨S.nd,S.lt,fun q hq=>?_,S.dj,S.hx,fun a ha=>?_,S.tbk (.upd hl vP)⟩
 ·have hn:q.1∈s.cs.map (·.1):=ak.mpr ⟨q,hq,rfl⟩
  have kp:∀ a∈m.fp q.1,∀ o,H a=some o→upd H d (.lst ys) a=some o:=fun a ha o h=>by
   rw [ki (show a≠d from fun z=>S.hx _ hn a ha (by rw [z];exact hd))];exact h
  have:=S.ok q hq
  cases c:q.2 with
  | lst l=>rw [c] at this;obtain ⟨a1,vs,a2,a3⟩:=this;exact ⟨a1,vs,kp _ (by rw [a1];simp) _ a2,a3.ext0 e0.toExtR⟩
  | dct l=>rw [c] at this;obtain ⟨a1,vs,a2,a3⟩:=this;exact ⟨a1,vs,kp _ (by rw [a1];simp) _ a2,a3.ext0 e0.toExtR⟩
  | dfz l=>rw [c] at this;obtain ⟨a1,ob,vs,a2,a3⟩:=this;exact ⟨a1,ob,vs,kp _ (by rw [a1];simp) _ a2,a3.ext0 e0.toExtR⟩
  | obj C fs=>rw [c] at this;obtain ⟨a1,dx,vs,a2,a3,a4⟩:=this;exact ⟨a1,dx,vs,kp _ (by rw [a1];simp) _ a2,a3,a4.ext0 e0.toExtR⟩
  | book pp L =>
   rw [c] at this
   obtain ⟨z,L',B,e1,e2⟩:=this
   rw [e2] at kp
   have kb:∀ a∈My.BFp (m.ad q.1) z L',∀ o,H a=some o→upd H d (.lst ys) a=some o:=kp
   refine ⟨z,L',⟨kb _ (by simp [My.BFp]) _ B.ob,kb _ (by simp [My.BFp]) _ B.pp,kb _ (by simp [My.BFp]) _ B.tt,kb _ (by simp [My.BFp]) _ B.mm,kb _ (by simp [My.BFp]) _ B.ll,B.hh.keep (fun o h=>kb _ (by simp [My.BFp]) _ h),fun q' hq'=>?_,B.nd,B.p6,B.h8⟩,e1,e2⟩
   obtain ⟨ts,h1,h2,h3⟩:=B.he q' hq'
   refine ⟨ts,h1,kb _ ?_ _ h2,fun y hy=>nt _ _ (h3 y hy)⟩
   unfold My.BFp
   simp only [ai]
   right;right;right;right;right;right
   exact ak.mpr ⟨q',hq',rfl⟩
 ·by_cases e:a=d
  ·subst e;rw [km];exact ⟨by simp,fun _ _=>⟨by simp,by simp,by simp,by simp⟩⟩
  ·rw [ki e];exact S.hs a ha
theorem Ext0.show {H:Hp}{m:Mp}{s:Sto}{d:ae}{l:List ae} (hm:m.hid=d::l):Ext0 H m s H (m.bare l) s :=
 ⟨⟨aA _,fun _ _=>rfl,fun a u h p=>⟨h,fun z=>p.1 (by rw [hm];exact ag _ z),p.2⟩,fun a u h _ _=>h⟩,fun j l _ h=>⟨h,fun o h=>h⟩⟩
theorem SR.show {K:aa}{H:Hp}{m:Mp}{s:Sto}{d:ae}{l:List ae}{u0:HO} (S:SR K CB H m s) (hm:m.hid=d::l) (hu:H d=some u0) (hno:¬ Odd u0):SR K CB H (m.bare l) s:=by
 have e0:Ext0 H m s H (m.bare l) s:=Ext0.show hm
 refine ⟨S.nd,S.lt,fun q hq=>?_,S.dj,fun n hn a ha hb=>S.hx n hn a ha (by rw [hm];exact ag _ hb),fun a ha=>S.hs a (by rw [hm];exact ag _ ha),fun P q t=>⟨?_,(S.tb P q t).2⟩⟩
 rotate_left
 ·obtain ⟨h1,ps,h2,_⟩:=S.tb P q t
  rw [hm] at h1
  rcases ai.mp h1 with z | z
  ·rw [z,hu] at h2;cases h2;exact absurd (.inl ⟨_,rfl⟩) hno
  ·exact z
 have:=S.ok q hq
 cases c:q.2 with
 | lst l=>rw [c] at this;obtain ⟨a1,vs,a2,a3⟩:=this;exact ⟨a1,vs,a2,a3.ext0 e0.toExtR⟩
 | dct l=>rw [c] at this;obtain ⟨a1,vs,a2,a3⟩:=this;exact ⟨a1,vs,a2,a3.ext0 e0.toExtR⟩
 | dfz l=>rw [c] at this;obtain ⟨a1,ob,vs,a2,a3⟩:=this;exact ⟨a1,ob,vs,a2,a3.ext0 e0.toExtR⟩
 | obj C fs=>rw [c] at this;obtain ⟨a1,dx,vs,a2,a3,a4⟩:=this;exact ⟨a1,dx,vs,a2,a3,a4.ext0 e0.toExtR⟩
 | book pp L=>rw [c] at this;exact this
theorem ER.ext0 {K:aa}{H H':Hp}{m m':Mp}{s s':Sto}{σ:St}{ρ:En} (h:ER K H m s σ ρ) (e:ExtR H m s H' m' s'):ER K H' m' s' σ ρ :=
 ⟨h.len,fun i p q=>let ⟨u,a,b⟩:=h.at_ i p q;⟨u,a,b.ext0 e⟩⟩
structure Cmp (K:aa) (CB:ae) (D:ae) (H1:Hp) (m1:Mp) (s1:Sto) (cap:St) (ρ:En) (ys:List V) (done:List PV) (H2:Hp) (m2:Mp) (s2:Sto):Prop where
 hid:m2.hid=D::m1.hid
 at_:H2 D=some (.lst ys)
 sr:SR K CB H2 m2 s2
 er:ER K H2 m2 s2 cap ρ
 rs:Reps K H2 m2 s2 ys done
 ex:Ext H1 m1 s1 H2 (m2.bare m1.hid) s2
 e0:Ext0 H1 m1 s1 H2 m2 s2
theorem Cmp.start {K:aa}{D:ae}{H1:Hp}{m1:Mp}{s1:Sto}{cap:St}{ρ:En} (S:SR K CB H1 m1 s1) (er:ER K H1 m1 s1 cap ρ) (hD:H1 D=none):Cmp K CB D H1 m1 s1 cap ρ [] [] (upd H1 D (.lst [])) (m1.hide D) s1 :=
 ⟨rfl,km,S.hide hD,er.ext0 (Ext0.hide hD).toExtR,.nil,Ext.same (My.oS hD),Ext0.hide hD⟩
theorem Ext.into {K:aa}{D:ae}{H1 H2 H5:Hp}{m1 m2 m5:Mp}{s1 s2 s5:Sto} (hid:m2.hid=D::m1.hid) (S2:SR K CB H2 m2 s2) (hD:H1 D=none) (a:Ext H1 m1 s1 H2 (m2.bare m1.hid) s2) (b:Ext H2 m2 s2 H5 m5 s5):Ext H1 m1 s1 H5 (m5.bare m1.hid) s5:=by
 have pr:∀ c u,Rd H1 c u→Pur m1 s1 c→Rd H2 c u∧Pur m2 s2 c:=fun c u h p=>by
  obtain ⟨h1,p1⟩:=a.pu c u h p
  refine ⟨h1,fun z=>?_,p1.2⟩
  rw [hid] at z
  exact (ai.mp z).elim (h.ne hD) p.1
 refine ⟨⟨⟨aJ a.nx b.nx,fun n h=>(b.ad n (ay h a.nx)).trans (a.ad n h),fun c u h p=>?_,fun c u h n p=>?_⟩,fun j l hj h=>?_⟩,rfl,fun c hc o h n=>?_⟩
 ·obtain ⟨h1,p1⟩:=pr c u h p
  obtain ⟨h2,p2⟩:=b.pu c u h1 p1
  exact ⟨h2,p.1,p2.2⟩
 ·obtain ⟨_,p1⟩:=pr c _ (.inl h) p
  exact b.el c u (a.el c u h n p) n p1
 ·obtain ⟨h1,k1⟩:=a.df j l hj h
  obtain ⟨h2,k2⟩:=b.df j l (ay hj a.nx) h1
  have e:m2.ad j=m1.ad j:=a.ad j hj
  rw [e] at k2
  exact ⟨h2,fun o h=>k2 o (k1 o h)⟩
 ·exact b.hk c (by rw [hid];exact ag _ hc) o (a.hk c hc o h n) n
theorem Cmp.step {K:aa}{D:ae}{H1 H2 H5:Hp}{m1 m2 m5:Mp}{s1 s2 s5:Sto}{cap:St}{ρ:En}{ys:List V}{done:List PV} (C:Cmp K CB D H1 m1 s1 cap ρ ys done H2 m2 s2) (hD:H1 D=none) (b:Ext H2 m2 s2 H5 m5 s5) (S5:SR K CB H5 m5 s5):Cmp K CB D H1 m1 s1 cap ρ ys done H5 m5 s5 :=
 ⟨b.hd.trans C.hid,b.hk D (by rw [C.hid];exact am) _ C.at_ (by intro _ z;cases z),S5,C.er.ext b,C.rs.ext b,Ext.into C.hid C.sr hD C.ex b,C.e0.trans b.toExt0⟩
theorem Cmp.push {K:aa}{D:ae}{H1 H2:Hp}{m1 m2:Mp}{s1 s2:Sto}{cap:St}{ρ:En}{ys:List V}{done:List PV}{v:V}{q:PV} (C:Cmp K CB D H1 m1 s1 cap ρ ys done H2 m2 s2) (hD:H1 D=none) (r:Rep K H2 m2 s2 v q):Cmp K CB D H1 m1 s1 cap ρ (ys++[v]) (done++[q]) (upd H2 D (.lst (ys++[v]))) m2 s2:=by
 have hm:D∈m2.hid:=by rw [C.hid];exact am
 have e0:Ext0 H2 m2 s2 (upd H2 D (.lst (ys++[v]))) m2 s2:=Ext0.redo C.sr hm C.at_ vP
 refine ⟨C.hid,km,C.sr.redo hm C.at_,C.er.ext0 e0.toExtR,(C.rs.append (.cons r .nil)).ext0 e0.toExtR,⟨⟨⟨C.ex.nx,C.ex.ad,fun c u h p=>?_,fun c u h n p=>?_⟩,fun j l hj h=>⟨(C.ex.df j l hj h).1,fun o ho=>?_⟩⟩,rfl,fun c hc o h n=>?_⟩,C.e0.trans e0⟩
 ·obtain ⟨h1,p1⟩:=C.ex.pu c u h p
  have ne:=h.ne hD
  exact ⟨h1.elim (fun h=>.inl (by rw [ki ne];exact h)) fun ⟨o,h⟩=>.inr ⟨o,by rw [ki ne];exact h⟩,p1⟩
 ·rw [ki (ky h hD)];exact C.ex.el c u h n p
 ·rw [ki (ky ho hD)];exact (C.ex.df j l hj h).2 o ho
 ·rw [ki (ky h hD)];exact C.ex.hk c hc o h n
theorem Cmp.done {K:aa}{D:ae}{H1 H2:Hp}{m1 m2:Mp}{s1 s2:Sto}{cap:St}{ρ:En}{ys:List V}{done:List PV} (C:Cmp K CB D H1 m1 s1 cap ρ ys done H2 m2 s2):SR K CB H2 (m2.bare m1.hid) s2∧(D∉m1.hid→Rep K H2 (m2.bare m1.hid) s2 (.ref D) (.lst done)):=by
 refine ⟨C.sr.show C.hid C.at_ vP,fun hn=>.lst C.at_ ⟨hn,fun n hh z=>C.sr.hx n hh D z (by rw [C.hid];exact am)⟩ (C.rs.ext0 (Ext0.show C.hid).toExtR)⟩
theorem zl {σ:St}{H1:Hp}{m1:Mp}{s1:Sto}{ρ:En}{J:It}{l:List PV}{D:ae}{Q:VK}{t:XT} (S1:SR X.K CB H1 m1 s1) (er:ER X.K H1 m1 s1 σ ρ) (it:oF X.K CB J l H1 m1 s1) (hD:H1 D=none) (hlen:l.length≤100000)
  (P:Post X.K CB (Rep X.K) E ((lz t f (lh ix ρ) l s1).bind fun vs s2=>.ok (.lst vs) s2) H1 m1 s1 Q):Ai J (TDT X.K CB E0 t) (TDE X.K CB E0 f) (capt ix σ) D H1 Q:=by
 refine ⟨fun i k ys H2=>∃ done m2 s2,Cmp X.K CB D H1 m1 s1 (capt ix σ) (lh ix ρ) ys done H2 m2 s2∧i≤l.length∧ys.length≤i∧k=l.length - i∧(lz t f (lh ix ρ) l s1).bind (fun vs s2=>.ok (PV.lst vs) s2)=(lz t f (lh ix ρ) (l.drop i) s2).bind fun vs s2=>.ok (.lst (done++vs)) s2,⟨l.length,[],m1.hide D,s1,Cmp.start S1 (er.capt ix) hD,bD _,bD _,rfl,?_⟩,?_⟩
 ·simp
 rintro i k ys H2 ⟨done,m2,s2,C,hi,hy,rfl,eq⟩
 obtain ⟨it1,it2⟩:=it i H2 m2 s2 C.e0 C.sr
 by_cases hlt:i < l.length
 ·right
  have hq:l[i]?=some l[i]:=bh hlt
  obtain ⟨go,yl⟩:=it1 _ hq
  refine ⟨go,fun x H3 hyl=>?_⟩
  obtain ⟨e3,S3,r3⟩:=yl x H3 hyl
  have C3:=C.step hD e3 S3
  rw [fS hlt] at eq
  rw [eq] at P
  rw [l5] at P eq
  refine ⟨some l[i]::lh ix ρ,s2,m2,C3.er.cons r3,S3,?_⟩
  cases ct:t (some l[i]::lh ix ρ) s2 with
  | bad=>rw [ct] at P;exact P.elim
  | ex c3 s3=>rw [ct] at P;exact P.elim
  | ok bt s3 =>
   rw [ct] at P eq
   intro b4 H4 m4 e4 S4 hb
   subst hb
   have C4:=C3.step hD e4 S4
   cases b4 with
   | false =>
    exact Go ⟨l.length - (i+1),by omega,done,m4,s3,C4,hlt,by omega,rfl,eq⟩
   | true =>
    refine Gn ⟨some l[i]::lh ix ρ,s3,m4,C4.er.cons (r3.ext e4),S4,?_⟩
    dsimp only at P eq
    cases cf:f (some l[i]::lh ix ρ) s3 with
    | bad=>rw [cf] at P;exact P.elim
    | ex c5 s5=>rw [cf] at P;exact P.elim
    | ok v s5 =>
     rw [cf] at eq
     intro w H5 m5 e5 S5 r5
     have C5:=C4.step hD e5 S5
     refine ⟨C5.at_,bc (aJ hy (aJ hi hlen)) (by decide),l.length - (i+1),by omega,done++[v],m5,s5,C5.push hD r5,hlt,by simp;omega,rfl,?_⟩
     rw [eq]
     dsimp only
     cases hh:lz t f (lh ix ρ) (l.drop (i+1)) s5 with
     | ok vs s6=>simp [Out.bind]
     | ex c6 s6=>exact absurd hh sk
     | bad=>rfl
 ·left
  have hle:l.length≤i:=gr hlt
  rw [dD hle] at eq
  rw [eq] at P
  unfold lz at P
  obtain ⟨S2',rd⟩:=C.done
  refine ⟨it2 hle,C.at_,P (.ref D) H2 (m2.bare m1.hid) C.ex S2' ?_⟩
  rw [bO]
  exact rd fun z=>(S1.hs D z).1 hD
theorem uV {σ:St}{H:Hp}{Q:VK}{t:XT} (q:TDE X.K CB E (lu fi ix t f) σ H Q):Cf (TDI X.K CB E fi) ix (TDT X.K CB E0 t) (TDE X.K CB E0 f) σ H Q:=by
 obtain ⟨ρ,s,m,er,S,P⟩:=q
 refine ⟨ρ,s,m,er,S,?_⟩
 unfold lu at P
 cases c:fi ρ s with
 | bad=>rw [c] at P;exact P
 | ex c' s'=>rw [c] at P;exact P
 | ok l s1 =>
  rw [c] at P
  dsimp only [Out.bind] at P
  split at P
  ·rename_i hlen
   intro J H1 m1 e1 S1 it D hD
   exact zl S1 (er.ext e1) it hD hlen (Post.shift e1 P)
  ·exact P.elim
theorem mi (hc:X.calm=true) (S:CompOk X.N X.env.scope scope x fr ix) (hi:DI X CB E (.Name x px) iter fi)
  (ht:∀ cl C s₃ H₃ fp,DIfs (blk X scope cl C (x::fr) s₃ H₃ fp) CB ifs t) (he:∀ cl C s₃ H₃ fp,DE (blk X scope cl C (x::fr) s₃ H₃ fp) CB E0 elt f)
  (hs:∀ v,cN iter X.env v=pure v:=by intro _;rfl):DE X CB E (.ListComp elt [⟨.Name x px,iter,ifs,0⟩] scope pos) (lu fi ix t f) :=
 ⟨(uB hc S hi.pi (fun cl C s₃ H₃ fp=>(ht cl C s₃ H₃ fp).pifs) (fun cl C s₃ H₃ fp=>(he cl C s₃ H₃ fp).pe) hs).mono fun σ H Q q=>uV q⟩
theorem Ab {i:Nat}{y:Str}{py spos:Pos} (hN:X.N.Nodup) (hiy:X.N[i]?=some y) (hly:X.env.scope.names.lookup y=some .local) (hc:X.calm=true) (S:CompOk X.N X.env.scope scope x fr ix) (hi:DI X CB E (.Name x px) iter fi)
  (ht:∀ cl C s₃ H₃ fp,DIfs (blk X scope cl C (x::fr) s₃ H₃ fp) CB ifs t) (he:∀ cl C s₃ H₃ fp,DE (blk X scope cl C (x::fr) s₃ H₃ fp) CB E0 elt f)
  (hsw:fA (.ListComp elt [⟨.Name x px,iter,ifs,0⟩] scope pos) (some (.Name y py)) spos.line X.env=pure true:=by rfl)
  (hs:∀ v,cN iter X.env v=pure v:=by intro _;rfl):DS X CB E (.Assign [.Name y py] (.ListComp elt [⟨.Name x px,iter,ifs,0⟩] scope pos) spos) (xSet i (lu fi ix t f)) :=
 ⟨(uy hN hiy hly hc S hi.pi (fun cl C s₃ H₃ fp=>(ht cl C s₃ H₃ fp).pifs) (fun cl C s₃ H₃ fp=>(he cl C s₃ H₃ fp).pe) hsw hs).mono fun D σ H ⟨ρ,s,m,er,S,P⟩ =>
  uV ⟨ρ,s,m,er,S,Post.so P fun v s1 u H1 m1 e1 S1 r1 P1=>P1.next S1 ((er.ext e1).set i r1)⟩⟩
end
abbrev XF:=List PV→Sto→Out PV
def spD (K:aa) (CB:ae) (n:Nat) (D:XF):Sp:=fun vs H Q E=>vs.length=n∧∃ ps s m,Reps K H m s vs ps∧SR K CB H m s∧Post K CB (Rep K) E (D ps s) H m s Q
def xCall (n:Nat) (D:XF) (fa:XA) (ρ:En) (s:Sto):Out PV:=(fa ρ s).bind fun vs s1=>if vs.length=n then D vs s1 else .bad
def fnD (N:Nat) (g:XS) (vs:List PV) (s:Sto):Out PV:=match g (vs.map some++aV (N - vs.length) none) s with
 | .nx _ s'=>.ok .non s'
 | .rt v s'=>.ok v s'
 | .ex c s'=>.ex c s'
 | _=>.bad
section
variable {X:Cx}{CB:ae}{E:XK}{a b c e elt iter tg:bo}{es ifs:List bo}{f g h:XE}{fa fi:XA}{t:XT}{p px py pos pos' apos cpos:Pos}{x y:Str}{st:bX}{lC sts sts':List bX}{u v:XS}{scope:dR}{fr:List Str}{ix:List Nat}{n k:Nat}{D:XF}{ps:List Str}
theorem kN (F:Fn X.prog X.w X.K X.mg X.base x k ps (spD X.K CB n D)) (hr:Room k X.A) (hg:Gl X x) (hx:l9 (CXo X.prog X.w) X E) (ha:DA X CB E (e::es) fa) (hdb:(x == ("__debug__":Str))=false:=by decide)
  (he:aP (e::es) X.env=(false,eval e X.env)::aP es X.env:=by rfl) (hpl:(cA pos (aP es X.env)).any (·.1)=false:=by rfl):DE X CB E (.Call (.Name x p) (e::es) [] pos) (xCall n D fa) :=
 ⟨(sd F hr hg hx ha.pa hdb he hpl).mono fun σ H Q ⟨ρ,s,m,er,S,P⟩=>⟨ρ,s,m,er,S,P.bind fun v s1 u H1 m1 e1 S1 r1 P1=>by
  split at P1
  ·rename_i hl
   rw [bO]
   exact ⟨by rw [r1.length];exact hl,v,s1,m1,r1,S1,P1⟩
  ·exact P1.elim⟩⟩
def xBM (n:Nat) (D:XF) (f:XE) (fa:XA) (ρ:En) (s:Sto):Out PV:=(f ρ s).bind fun o s1=>match o with
 | .ref k=>match s1.get k with
  | some (.book _ _)=>(fa ρ s1).bind fun vs s2=>if vs.length+1=n then D (.ref k::vs) s2 else .bad
  | _=>.bad
 | _=>.bad
theorem sj {pl:Sem Bool}{m:Str} (ho:DE X CB E a f) (M:Mt X.prog X.w X.K X.mg X.base CB m k ps (spD X.K CB n D)) (hno:∀ z,(My.bf z).lookup m=none) (hr:Room k X.A) (hx:l9 (CXo X.prog X.w) X E) (ha:DA X CB E (e::es) fa)
  (hst:aP (e::es) X.env=(false,eval e X.env)::aP es X.env:=by rfl) (hpl:(cA pos (aP es X.env)).any (·.1)=false:=by rfl)
  (ht:eval (.Call (.Attribute a m apos) (e::es) [] pos) X.env=(do
   let ov ← eval a X.env
   gs apos.atName
   let (f,first) ← holding [ov] (fX ov m pl)
   iL pos f first (cA pos (aP (e::es) X.env)) (fb pos (dg [] X.env))):=by rfl):DE X CB E (.Call (.Attribute a m apos) (e::es) [] pos) (xBM n D f fa) :=
 ⟨(qL (pl:=pl) ho.pe M hr hx ha.pa hst hpl ht).mono fun σ H Q ⟨ρ,s,m,er,S,P⟩=>⟨ρ,s,m,er,S,P.bind fun v s1 u H1 m1 e1 S1 r1 P1=>by
  split at P1
  ·split at P1
   ·rename_i hg
    obtain ⟨z,L',B,_,_⟩:=S1.get hg
    cases r1 with
    | ref hn =>
    refine ⟨_,_,_,rfl,B.ob,hno z,ρ,s1,m1,er.ext e1,S1,P1.bind fun vs s2 us H2 m2 e2 S2 r2 P2=>?_⟩
    split at P2
    ·rename_i hl
     rw [bO]
     refine ⟨by rw [aB,r2.length];exact hl,_,s2,m2,.cons ?_ r2,S2,P2⟩
     exact (Rep.ref hn).ext e2
    ·exact P2.elim
   ·exact P1.elim
  ·exact P1.elim⟩⟩
theorem Ay {pl:Sem Bool}{m:Str} (ho:DE X CB E a f) (M:Mt X.prog X.w X.K X.mg X.base CB m k ps (spD X.K CB n D)) (hno:∀ z,(My.bf z).lookup m=none) (hr:Room k X.A) (hx:l9 (CXo X.prog X.w) X E)
  (ht:eval (.Call (.Attribute a m apos) [] [] pos) X.env=(do
   let ov ← eval a X.env
   gs apos.atName
   let (f,first) ← holding [ov] (fX ov m pl)
   iL pos f first (cA pos (aP [] X.env)) (fb pos (dg [] X.env))):=by rfl):DE X CB E (.Call (.Attribute a m apos) [] [] pos) (xBM n D f xNil) :=
 ⟨(G1 (pl:=pl) ho.pe M hr hx ht).mono fun σ H Q ⟨ρ,s,m,er,S,P⟩=>⟨ρ,s,m,er,S,P.bind fun v s1 u H1 m1 e1 S1 r1 P1=>by
  split at P1
  ·split at P1
   ·rename_i hg
    obtain ⟨z,L',B,_,_⟩:=S1.get hg
    cases r1 with
    | ref hn =>
    refine ⟨_,_,_,rfl,B.ob,hno z,?_⟩
    simp only [xNil,Out.bind] at P1
    split at P1
    ·rename_i hl
     exact ⟨hl,_,s1,m1,.cons (.ref hn) .nil,S1,P1⟩
    ·exact P1.elim
   ·exact P1.elim
  ·exact P1.elim⟩⟩
def xBook (_:En) (s:Sto):Out PV:=.ok (.ref s.nx) (s.add (.book [] []))
def Ak (K:aa) (C:ae):Sp:=fun vs H Q _=>∃ (p dx:ae),vs=[.ref p]∧H p=some (.ins C dx [])∧∀ z H',(∀ c∈[z.dp,z.dt,z.dm,z.dl,z.dh],H c=none)→My.BookAt K C H' p z [] []→(∀ c o,H c=some o→c≠p→H' c=some o)→Q .non H'
theorem FS (M:MkB X.prog X.w X.K X.mg X.base x CB k ps (Ak X.K CB)) (hr:Room (k+1) X.A) (hg:Gl X x) (hx:l9 (CXo X.prog X.w) X E) (hdb:(x == ("__debug__":Str))=false:=by decide):DE X CB E (.Call (.Name x p) [] [] pos) xBook :=
 ⟨(G2 M hr hg hx hdb).mono fun σ H Q ⟨ρ,s,m,er,S,P⟩ b dx hb hdx hne=>by
  refine ⟨b,dx,rfl,km,fun z H' hz B kp=>⟨rfl,?_⟩⟩
  have hk:Same H H':=fun c o h=>by
   have h1:c≠b:=ky h hb
   have h2:c≠dx:=ky h hdx
   exact kp c o (by rw [ki h1,ki h2];exact h) h1
  have hzn:∀ c∈[z.dp,z.dt,z.dm,z.dl,z.dh],H c=none:=fun c hc=>by
   have h:=hz c hc
   have n1:c≠b:=fun e=>by rw [e,km] at h;cases h
   have n2:c≠dx:=fun e=>by rw [ki n1,e,km] at h;cases h
   rw [ki n1,ki n2] at h;exact h
  obtain ⟨S2,e2⟩:=S.add (c:=.book [] []) H' b (My.BFp b z []) hk (fun a ha=>by
   unfold My.BFp at ha
   rcases ai.mp ha with rfl | ha
   ·exact hb
   ·exact hzn a (by simpa using ha)) fun ex=>by
    refine ⟨z,[],?_,rfl,?_⟩
    ·rw [Mp.add_ad];exact B
    ·rw [Mp.add_ad];show (if s.nx=s.nx then _ else _)=_;rw [if_pos rfl]
  exact P _ _ _ e2 S2 .new⟩
theorem mv {P:aU}{w:bw}{K:aa}{mg:Str→Option af}{base:bM}{qual:Str}{fa:ae}{fd:bV}{N:List Str} (F:Fun K x qual st fa fd) (S:FnScope N ps (kh st)) (hps:ps.length=n)
  (hb:∀ (cdv:af) (A:bL) (outer:List Env) (s:al) (H:Hp) (E:XK),Room k (A.deeper (dY qual (kh st) s.heap.objs.size fa cdv))→DSs (wZ (CXo P w) P w K mg base N qual (kh st) fa cdv A outer s H E) CB E (mR st) u) :
  FnOk P w K mg base (CXo P w) (k+1) fa fd ps (spD K CB n (fnD N.length u)):=by
 refine F.okX S (fun vs H Q E h=>by rw [hps];exact h.1) (fun cdv A outer s H vs Q E hr h=>?_)
 obtain ⟨hl,ps',s',m,r,S',P'⟩:=h
 refine ⟨_,(hb cdv A outer s H E hr).pss,ps'.map some++aV (N.length - ps'.length) none,s',m,?_,S',?_⟩
 ·unfold start
  rw [r.length]
  exact ER.start r _
 ·unfold fnD at P'
  cases cc:u (ps'.map some++aV (N.length - ps'.length) none) s' with
  | nx ρ1 s1=>rw [cc] at P';exact fun σ' H' m' x S1 er=>P' .non H' m' x S1 .non
  | rt v1 s1=>rw [cc] at P';exact fun u' H' m' x S1 r1=>P' u' H' m' x S1 r1
  | ex c1 s1=>rw [cc] at P';exact P'
  | bk=>rw [cc] at P';exact P'.elim
  | ct=>rw [cc] at P';exact P'.elim
  | bad=>rw [cc] at P';exact P'.elim
open Classical in
def Sto.only (s:Sto) (n:Nat):Sto:=⟨s.nx,s.cs.filter fun q=>decide (q.1 < n)⟩
def xOnly (f:XE) (ρ:En) (s:Sto):Out PV:=(f ρ s).bind fun v s1=>.ok v (s1.only s.nx)
def frz1 (v:PV) (s:Sto):Out PV:=match v with
 | .ref n=>match s.get n with
  | some (.lst l)=>.ok (.lst l) (s.del n)
  | some (.dct l)=>.ok (.dct l) (s.del n)
  | _=>.bad
 | _=>.bad
def xFrz (f:XE) (ρ:En) (s:Sto):Out PV:=(f ρ s).bind frz1
theorem SR.frz {K:aa}{H:Hp}{m:Mp}{s s':Sto}{x:V}{v w:PV} (S:SR K CB H m s) (r:Rep K H m s x v) (e:frz1 v s=.ok w s'):SR K CB H m s'∧Ext H m s H m s'∧Rep K H m s' x w:=by
 unfold frz1 at e
 split at e
 ·rename_i n
  have pu:∀ c,s.get n=some c→m.fp n=[m.ad n]→Pur m (s.del n) (m.ad n):=fun c hg e1=>by
   have hin:n∈s.cs.map (·.1):=ak.mpr ⟨_,lb hg,rfl⟩
   refine ⟨S.hx n hin _ (by rw [e1];simp),fun j hj z=>?_⟩
   obtain ⟨q,hq,rfl⟩:=ak.mp hj
   have hne:=AZ S.nd hq
   exact S.dj n hin q.1 (ak.mpr ⟨q,qA hq,rfl⟩) (fun z=>hne z.symm) _ (by rw [e1];simp) z
  split at e
  ·rename_i l hg
   cases e
   cases r
   obtain ⟨e1,vs,h1,h2⟩:=S.get hg
   have hnd:∀ l,s.get n≠some (.dfz l):=fun l z=>by rw [hg] at z;cases z
   exact ⟨(S.del n hnd).1,(S.del n hnd).2,.lst h1 (pu _ hg e1) (h2.ext (S.del n hnd).2)⟩
  ·rename_i l hg
   cases e
   cases r
   obtain ⟨e1,vs,h1,h2⟩:=S.get hg
   have hnd:∀ l,s.get n≠some (.dfz l):=fun l z=>by rw [hg] at z;cases z
   exact ⟨(S.del n hnd).1,(S.del n hnd).2,.dct (.inl h1) (pu _ hg e1) (h2.ext (S.del n hnd).2)⟩
  ·cases e
 ·cases e
theorem HM (h:DE X CB E e f):DE X CB E e (xFrz f):=⟨h.pe.mono fun σ H Q ⟨ρ,s,m,er,S,P⟩=>⟨ρ,s,m,er,S,P.bind fun v s1 u H1 m1 e1 S1 r1 P1=>by
 cases cc:frz1 v s1 with
 | ok w s2 =>
  rw [cc] at P1
  obtain ⟨S2,e2,r2⟩:=S1.frz r1 cc
  exact P1 u H1 m1 e2 S2 r2
 | ex c' s' =>
  exfalso
  unfold frz1 at cc
  split at cc
  ·split at cc <;> cases cc
  ·cases cc
 | bad=>rw [cc] at P1;exact P1.elim⟩⟩
theorem E8 {tt:TE} (h:PE X e tt):PE X e (fun σ H Q=>∃ d kvs0,H d=some (.dK kvs0)∧tt σ H (fun v H'=>∃ ob kvs,H' d=some (.frz ob (.dK kvs))∧Q v (upd H' d (.dK kvs)))):=by
 intro pins s σ H Q I ⟨d,kvs0,hd,q⟩
 have n3:∀ o v,X.H₀ d≠some (.frz o v):=fun o v z=>by rw [I.base.frzs d o v z] at hd;cases hd
 refine thn (h pins s σ H _ I q) fun u s1 ⟨v,H1,I1,r1,ob,kvs,e1,q1⟩=>?_
 exact ⟨v,_,I1.thaw e1 n3,r1,q1⟩
theorem SR.freezeC {K:aa}{H:Hp}{m:Mp}{s:Sto}{n:Nat}{l:List (Key×PV)} (S:SR K CB H m s) (hg:s.get n=some (.dct l)):∃ vs,H (m.ad n)=some (.dK vs)∧∀ ob,∃ m',m'.ad=m.ad∧SR K CB (upd H (m.ad n) (.frz ob (.dK vs))) m' (s.set n (.dfz l))∧Ext H m s (upd H (m.ad n) (.frz ob (.dK vs))) m' (s.set n (.dfz l))∧RepKs K (upd H (m.ad n) (.frz ob (.dK vs))) m' (s.set n (.dfz l)) vs l:=by
 obtain ⟨e1,vs,h1,r1⟩:=S.get hg
 refine ⟨vs,h1,fun ob=>⟨m.fput n [m.ad n],rfl,?_⟩⟩
 have:=S.put (c':=.dfz l) hg (by intro _ z;cases z) (upd H (m.ad n) (.frz ob (.dK vs))) [m.ad n] (fun a o h ha=>by
  rw [e1,ax] at ha
  rw [ki ha];exact h) (fun a ha=>.inl (by rw [e1];exact ha)) fun ex=>⟨by show (if n=n then [m.ad n] else m.fp n)=_;rw [if_pos rfl];rfl,ob,vs,km,r1.ext0 ex⟩
 exact ⟨this.1,this.2,r1.ext this.2⟩
theorem ExtR.trans {H H1 H2:Hp}{m m1 m2:Mp}{s s1 s2:Sto} (a:ExtR H m s H1 m1 s1) (b:ExtR H1 m1 s1 H2 m2 s2):ExtR H m s H2 m2 s2 :=
 ⟨aJ a.nx b.nx,fun n h=>(b.ad n (ay h a.nx)).trans (a.ad n h),fun c u h p=>let ⟨h1,p1⟩:=a.pu c u h p;b.pu c u h1 p1,fun c x h n p=>b.el c x (a.el c x h n p) n (a.pu c _ (.inl h) p).2⟩
theorem SR.thawC {K:aa}{H H1:Hp}{m m1:Mp}{s s1:Sto}{n:Nat}{l:List (Key×PV)} (h0:∀ l,s.get n≠some (.dfz l)) (hn:n < s.nx) (e:Ext H m s H1 m1 s1) (S:SR K CB H1 m1 s1) (hg:s1.get n=some (.dfz l)) :
  ∃ ob vs,H1 (m.ad n)=some (.frz ob (.dK vs))∧∃ m2,SR K CB (upd H1 (m.ad n) (.dK vs)) m2 (s1.set n (.dct l))∧Ext H m s (upd H1 (m.ad n) (.dK vs)) m2 (s1.set n (.dct l))∧ExtR H1 m1 s1 (upd H1 (m.ad n) (.dK vs)) m2 (s1.set n (.dct l)):=by
 have ea:m1.ad n=m.ad n:=e.ad n hn
 have hin:n∈s1.cs.map (·.1):=ak.mpr ⟨_,lb hg,rfl⟩
 obtain ⟨e1,ob,vs,h1,r1⟩:=S.get hg
 rw [ea] at e1 h1
 refine ⟨ob,vs,h1,m1.fput n [m.ad n],?_⟩
 obtain ⟨S2,x2,_⟩:=S.put' (c':=.dct l) hg (upd H1 (m.ad n) (.dK vs)) [m.ad n] (fun a o h ha=>by
  rw [e1,ax] at ha
  rw [ki ha];exact h) (fun a ha=>.inl (by rw [e1];exact ha)) fun ex=>⟨by show (if n=n then [m.ad n] else m1.fp n)=[m1.ad n];rw [if_pos rfl,ea],vs,by show upd H1 (m.ad n) (.dK vs) (m1.ad n)=_;rw [ea];exact km,r1.ext0 ex⟩
 refine ⟨S2,⟨⟨e.toExtR.trans x2,fun j l' hj h=>?_⟩,e.hd,fun a ha o h n0=>?_⟩,x2⟩
 ·have hjn:j≠n:=fun z=>h0 l' (by rw [← z];exact h)
  obtain ⟨g1,g2⟩:=e.df j l' hj h
  refine ⟨(oi hjn).trans g1,fun o ho=>?_⟩
  obtain ⟨e3,_⟩:=S.ok _ (lb g1)
  have hne:m.ad j≠m.ad n:=fun z=>S.dj j (ak.mpr ⟨_,lb g1,rfl⟩) n hin hjn (m1.ad j) (by rw [e3];simp) (by rw [e1,e.ad j hj,z];simp)
  rw [ki hne];exact g2 o ho
 ·have ha':a∈m1.hid:=by rw [e.hd];exact ha
  have hne:a≠m.ad n:=fun z=>S.hx n hin a (by rw [e1,z];simp) ha'
  rw [ki hne];exact e.hk a ha o h n0
def thw (n:Nat) (s:Sto):Option Sto:=match s.get n with
 | some (.dfz l)=>some (s.set n (.dct l))
 | _=>none
def vp (j:Nat) (ix:List Nat) (c:XT) (e:XE) (ρ:En) (s:Sto):Out PV:=match ρ[j]? with
 | some (some (.ref n))=>match s.get n with
  | some (.dct l)=>if l.length≤100000 then (lz c e (lh ix ρ) (l.map fun kv=>AU kv.1) (s.set n (.dfz l))).bind fun vs s2=>match thw n s2 with
    | some s3=>.ok (.lst vs) s3
    | none=>.bad
   else .bad
  | _=>.bad
 | _=>.bad
theorem xI {s:Sto}{n:Nat}{c c':Cell} (h:s.get n=some c):(s.set n c').get n=some c':=by
 have:∀ {l:List (Nat×Cell)},ly l n=some c→ly (l4 n c' l) n=some c':=by
  intro l
  induction l with
  | nil=>intro h;cases h
  | cons q r ih =>
   intro h
   obtain ⟨k,d⟩:=q
   unfold l4
   split
   ·unfold ly;rw [if_pos rfl]
   ·rename_i hk
    unfold ly at h ⊢
    rw [if_neg hk] at h ⊢
    exact ih h
 exact this h
theorem iterC {K:aa}{H1:Hp}{m1:Mp}{s1:Sto}{n:Nat}{ob:Obj}{vs:List (Key×V)}{l:List (Key×PV)} (S1:SR K CB H1 m1 s1) (hg:s1.get n=some (.dfz l)) {d:ae} (ea:m1.ad n=d) (h1:H1 d=some (.frz ob (.dK vs))) (r:RepKs K H1 m1 s1 vs l):oF K CB (Itd d ob vs) (l.map fun kv=>AU kv.1) H1 m1 s1 :=
 iterD (fun H m s ex S=>by
  have:=(ex.df n l (S1.getlt hg) hg).2
  rw [ea] at this
  exact this _ h1) r
theorem DF (j:Nat) (hc:X.calm=true) (hN:X.N[j]?=some y) (hv:Vis X.env.scope y) (S:CompOk X.N X.env.scope scope x fr ix)
  (ht:∀ cl C s₃ H₃ fp,DIfs (blk X scope cl C (x::fr) s₃ H₃ fp) CB ifs t) (he:∀ cl C s₃ H₃ fp,DE (blk X scope cl C (x::fr) s₃ H₃ fp) CB E0 elt f)
  (hs:∀ v,cN (.Name y py) X.env v=pure v:=by intro _;rfl) (hd:(y == ("__debug__":Str))=false:=by decide) (hcd:(y == ("__classdict__":Str))=false:=by decide):DE X CB E (.ListComp elt [⟨.Name x px,.Name y py,ifs,0⟩] scope pos) (vp j ix t f) :=
 ⟨(E8 (uB hc S (E7 (xY hN hv hd hcd)) (fun cl C s₃ H₃ fp=>(ht cl C s₃ H₃ fp).pifs) (fun cl C s₃ H₃ fp=>(he cl C s₃ H₃ fp).pe) hs)).mono fun σ H Q ⟨ρ,s,m,er,S,P⟩=>by
  unfold vp at P
  split at P
  ·rename_i n hρ
   split at P
   ·rename_i l hg
    split at P
    ·rename_i hlen
     obtain ⟨u,hu,ru⟩:=er.at_ j _ hρ
     cases ru with
     | ref hn =>
     obtain ⟨vs,h1,hf⟩:=S.freezeC hg
     refine ⟨m.ad n,vs,h1,_,hu,m.ad n,vs,rfl,.inl ⟨h1,fun ob D hD=>?_⟩⟩
     obtain ⟨m1,ea,S1,e1,r1⟩:=hf ob
     have hg1:(s.set n (.dfz l)).get n=some (.dfz l):=xI hg
     have ea':m1.ad n=m.ad n:=by rw [ea]
     refine zl (E:=E0) (t:=t) (f:=f) S1 (er.ext e1) (iterC S1 hg1 ea' km r1) hD (by simpa using hlen) ?_
     cases cc:lz t f (lh ix ρ) (l.map fun kv=>AU kv.1) (s.set n (.dfz l)) with
     | bad=>rw [cc] at P;exact P.elim
     | ex c' s'=>exact absurd cc sk
     | ok vs2 s2 =>
      rw [cc] at P
      intro u2 H2 m2 e2 S2 r2
      simp only [Out.bind] at P
      unfold thw at P
      split at P
      ·rename_i s3 h3
       split at h3 <;> cases h3
       rename_i l2 hg2
       obtain ⟨ob',vs',q1,m3,S3,e3,x3⟩:=SR.thawC (fun l' z=>by rw [hg] at z;cases z) hn (e1.trans e2) S2 hg2
       exact ⟨ob',vs',q1,P u2 _ m3 e3 S3 (r2.ext0 x3)⟩
      ·exact P.elim
    ·exact P.elim
   ·exact P.elim
  ·exact P.elim⟩
end
def erH (H:Hp) (d:ae):Hp:=fun b=>if b=d then none else H b
theorem pV {H:Hp}{a d:ae} (h:a≠d):erH H d a=H a:=by unfold erH;rw [if_neg h]
theorem zf {H:Hp}{d:ae}:erH H d d=none:=by unfold erH;rw [if_pos rfl]
section
variable {X:Cx}{CB:ae}{E:XK}{a b c e elt iter tg:bo}{es ifs:List bo}{f g h:XE}{fa fi:XA}{t:XT}{p px py pos pos' apos cpos:Pos}{x y:Str}{st:bX}{lC sts sts':List bX}{u v:XS}{n k:Nat}{D:XF}{ps:List Str}
theorem SR.hideD {K:aa}{H:Hp}{m:Mp}{s:Sto}{d:ae}{xs:List (Key×V)} (S:SR K CB H m s) (hd:H d=none):SR K CB (upd H d (.dK xs)) (m.hide d) s:=by
 have k:=My.oS (o:=.dK xs) hd
 have S1:=S.same k
 have e0:Ext0 H m s (upd H d (.dK xs)) (m.hide d) s:=Ext0.hide hd
 have hne:∀ n∈s.cs.map (·.1),∀ a∈m.fp n,a≠d:=fun n hn a ha z=>by
  obtain ⟨q,hq,rfl⟩:=ak.mp hn
  obtain ⟨o,e,_⟩:=(S.ok q hq).kind ha
  rw [z,hd] at e;cases e
 refine ⟨S.nd,S.lt,fun q hq=>(S.ok q hq).keep S e0.toExtR (fun a _ o h=>k a o h) rfl rfl,S.dj,fun n hn a ha hb=>(ai.mp hb).elim (hne n hn a ha) (S.hx n hn a ha),fun a ha=>?_,fun P q t=>⟨ag _ (S1.tb P q t).1,(S1.tb P q t).2⟩⟩
 rcases ai.mp ha with rfl | ha
 ·rw [km];exact ⟨by simp,fun _ _=>⟨by simp,by simp,by simp,by simp⟩⟩
 ·exact S1.hs a ha
theorem Fx {K:aa}{H H2:Hp}{m m2:Mp}{s s2:Sto}{d:ae}{xs:List (Key×V)} (S:SR K CB H m s) (hd:H d=none) (e:Ext (upd H d (.dK xs)) (m.hide d) s H2 m2 s2) (S2:SR K CB H2 m2 s2) :
  SR K CB (erH H2 d) (m2.bare m.hid) s2∧Ext H m s (erH H2 d) (m2.bare m.hid) s2∧ExtR H2 m2 s2 (erH H2 d) (m2.bare m.hid) s2∧H2 d=some (.dK xs):=by
 have hh:m2.hid=d::m.hid:=e.hd
 have hin:d∈m2.hid:=by rw [hh];exact am
 have hD:H2 d=some (.dK xs):=e.hk d am _ km (by intro _ z;cases z)
 have tbE:TbS H2 (erH H2 d):=.of fun a o h od=>by
  rw [pV (show a≠d from fun z=>by rw [z,hD] at h;cases h;exact EB od)];exact h
 have x2:ExtR H2 m2 s2 (erH H2 d) (m2.bare m.hid) s2:=by
  have ne:∀ a,Pur m2 s2 a→a≠d:=fun a p z=>p.1 (by rw [z];exact hin)
  refine ⟨aA _,fun _ _=>rfl,fun a u h p=>⟨?_,fun z=>p.1 (by rw [hh];exact ag _ z),p.2⟩,fun a u h _ p=>by rw [pV (ne a p)];exact h⟩
  exact h.elim (fun h=>.inl (by rw [pV (ne a p)];exact h)) fun ⟨o,h⟩=>.inr ⟨o,by rw [pV (ne a p)];exact h⟩
 have fne:∀ n∈s2.cs.map (·.1),∀ a∈m2.fp n,a≠d:=fun n hn a ha z=>S2.hx n hn a ha (by rw [z];exact hin)
 have dn:d∉m.hid:=fun z=>(S.hs d z).1 hd
 have h2:∀ a∈m.hid,a≠d:=fun a ha z=>dn (by rw [← z];exact ha)
 refine ⟨⟨S2.nd,S2.lt,fun q hq=>(S2.ok q hq).keep S2 x2 (fun a ha o h=>by rw [pV (fne q.1 (ak.mpr ⟨q,hq,rfl⟩) a ha)];exact h) rfl rfl,S2.dj,fun n hn a ha hb=>S2.hx n hn a ha (by rw [hh];exact ag _ hb),fun a ha=>?_,fun P q t=>⟨?_,tbE.2 P q (S2.tb P q t).2⟩⟩,?_,x2,hD⟩
 ·rw [pV (h2 a ha)];exact S2.hs a (by rw [hh];exact ag _ ha)
 ·obtain ⟨h1,ps,h3,_⟩:=S2.tb P q t
  rw [hh] at h1
  rcases ai.mp h1 with z | z
  ·rw [z,hD] at h3;cases h3
  ·exact z
 ·have e1:=(Ext0.hide (m:=m) (s:=s) (o:=.dK xs) hd).trans e.toExt0
  refine ⟨⟨e1.toExtR.trans x2,fun j l hj h=>⟨(e1.df j l hj h).1,fun o ho=>?_⟩⟩,rfl,fun a ha o h n0=>?_⟩
  ·rw [pV (ky ho hd)];exact (e1.df j l hj h).2 o ho
  ·rw [pV (h2 a ha)];exact e.hk a (ag _ ha) o (My.oS hd _ _ h) n0
def xDisp (f g:XE) (ρ:En) (s:Sto):Out PV:=match f ρ s with
 | .ok v s1=>match g ρ s1 with
  | .ok w s2=>match kyOf v with
   | some k=>.ok (.ref s2.nx) (s2.add (.dct [(k,w)]))
   | none=>.bad
  | _=>.bad
 | _=>.bad
theorem FR (hk:DE X CB E a f) (hv:DE X CB E b g):DE X CB E (.Dict [some a] [b] pos) (xDisp f g) :=
 ⟨(AO (yS hk.pe hv.pe AM) rfl rfl (by simp) (by simp)).mono fun σ H Q ⟨ρ,s,m,er,S,P⟩ p0 hp=>by
  have e0:Ext0 H m s (upd H p0 (.dK [])) (m.hide p0) s:=Ext0.hide hp
  have hm:SR X.K CB (upd H p0 (.dK [])) (m.hide p0) s:=S.hideD hp
  refine ⟨ρ,s,m.hide p0,er.ext0 e0.toExtR,hm,?_⟩
  unfold xDisp at P
  cases c1:f ρ s with
  | bad=>rw [c1] at P;exact P.elim
  | ex c' s'=>rw [c1] at P;exact P.elim
  | ok v s1 =>
   rw [c1] at P
   intro u1 H1 m1 e1 S1 r1
   refine ⟨ρ,s1,m1,(er.ext0 e0.toExtR).ext e1,S1,?_⟩
   dsimp only at P
   cases c2:g ρ s1 with
   | bad=>rw [c2] at P;exact P.elim
   | ex c' s'=>rw [c2] at P;exact P.elim
   | ok w s2 =>
    rw [c2] at P
    intro u2 H2 m2 e2 S2 r2
    dsimp only at P
    split at P
    ·rename_i k hk
     obtain ⟨S3,e3,x3,hD⟩:=Fx S hp (e1.trans e2) S2
     have ek:u1=kV k:=qz r1 hk
     refine ⟨hD,[(k,u2)],by rw [ek];rfl,by simp,?_⟩
     have hk':Same (erH H2 p0) (upd H2 p0 (.dK [(k,u2)])):=fun c o h=>by
      have hne:c≠p0:=fun z=>by rw [z,zf] at h;cases h
      rw [ki hne];rw [pV hne] at h;exact h
     obtain ⟨S4,e4⟩:=S3.newD (l:=[(k,w)]) zf hk' km (.cons (r2.ext0 x3) .nil)
     exact P _ _ _ (e3.trans e4) S4 .new
    ·exact P.elim⟩
def xIfe (t:XT) (f g:XE) (ρ:En) (s:Sto):Out PV:=(t ρ s).bind fun b s1=>if b=true then f ρ s1 else g ρ s1
inductive Ty5 where
 | int | bool | str | tuple | list
inductive Ty7 where
 | int | bool | str | tuple | list | non | dict
def kitT:Ty7→Ty5→Bool
 | .int,.int=>true | .bool,.bool=>true | .bool,.int=>true | .str,.str=>true | .tuple,.tuple=>true | .list,.list=>true
 | _,_=>false
def tyOf (s:Sto):PV→Option Ty7
 | .int _=>some .int
 | .bl _=>some .bool
 | .str _=>some .str
 | .non=>some .non
 | .tup _=>some .tuple
 | v=>match lsOf s v with
  | some _=>some .list
  | none=>none
def xIsiT (T:Ty5) (f:XE) (ρ:En) (s:Sto):Out PV:=(f ρ s).bind fun v s1=>match tyOf s1 v with
 | some k=>.ok (.bl (kitT k T)) s1
 | none=>.bad
def oM:List (Key×PV)→Sto→Option (List (Key×PV)×Sto)
 | [],s=>some ([],s)
 | (k,v)::r,s=>match frz1 v s with
  | .ok w s1=>match oM r s1 with
   | some (r',s2)=>some ((k,w)::r',s2)
   | none=>none
  | _=>none
def Gs (v:PV) (s:Sto):Out PV:=match frz1 v s with
 | .ok (.dct l) s1=>match oM l s1 with
  | some (l',s2)=>.ok (.dct l') s2
  | none=>.bad
 | _=>.bad
def Eu (f:XE) (ρ:En) (s:Sto):Out PV:=(f ρ s).bind Gs
theorem zc {K:aa}{H:Hp}{m:Mp}:∀ {l l':List (Key×PV)}{vs:List (Key×V)}{s s':Sto},SR K CB H m s→RepKs K H m s vs l→oM l s=some (l',s')→SR K CB H m s'∧Ext H m s H m s'∧RepKs K H m s' vs l'
 | [],_,_,_,_,S,r,e=>by cases e;cases r;exact ⟨S,.refl,.nil⟩
 | (k,v)::l,l',_,s,s',S,.cons r1 r2,e=>by
  unfold oM at e
  split at e
  ·rename_i w s1 h1
   split at e
   ·rename_i r' s2 h2
    cases e
    obtain ⟨S1,x1,q1⟩:=S.frz r1 h1
    obtain ⟨S2,x2,q2⟩:=zc S1 (r2.ext x1) h2
    exact ⟨S2,x1.trans x2,.cons (q1.ext x2) q2⟩
   ·cases e
  ·cases e
theorem FQ (h:DE X CB E e f):DE X CB E e (Eu f):=⟨h.pe.mono fun σ H Q ⟨ρ,s,m,er,S,P⟩=>⟨ρ,s,m,er,S,P.bind fun v s1 u H1 m1 e1 S1 r1 P1=>by
 unfold Gs at P1
 split at P1
 ·rename_i l s2 h2
  obtain ⟨S2,x2,r2⟩:=S1.frz r1 h2
  split at P1
  ·rename_i l' s3 h3
   cases r2 with
   | dct g1 g2 g3 =>
    obtain ⟨S3,x3,r3⟩:=zc S2 g3 h3
    exact P1 _ H1 m1 (x2.trans x3) S3 (.dct g1 (x3.pu _ _ g1 g2).2 r3)
  ·exact P1.elim
 ·exact P1.elim⟩⟩
end
def zr (σ:List Str) (k:Str):List Str:=if k∈σ then σ else σ++[k]
def qY (ss:List Str):List Str:=ss.foldl zr []
theorem wC (ss:List Str) (x:Str):qY (ss++[x])=zr (qY ss) x:=by unfold qY;rw [List.foldl_append];rfl
theorem Dq {σ:List Str}{k x:Str}:x∈zr σ k ↔ x∈σ∨x=k:=by
 unfold zr
 split
 ·rename_i h
  exact ⟨.inl,fun z=>z.elim id fun e=>by rw [e];exact h⟩
 ·rw [aO,ax]
theorem yW:∀ (ss σ:List Str) (x:Str),x∈ss.foldl zr σ ↔ x∈σ∨x∈ss
 | [],σ,x=>by simp
 | y::r,σ,x=>by rw [gD,yW r,Dq,ai,or_assoc]
theorem mem_once {ss:List Str}{x:Str}:x∈qY ss ↔ x∈ss:=by unfold qY;rw [yW];simp
theorem yU (ss:List Str):(qY ss).length≤ss.length:=by
 have:∀ (r σ:List Str),(r.foldl zr σ).length≤σ.length+r.length:=by
  intro r
  induction r with
  | nil=>intro σ;exact aA _
  | cons y r ih =>
   intro σ
   rw [gD]
   refine aJ (ih _) ?_
   have:(zr σ y).length≤σ.length+1:=by unfold zr;split <;> simp
   rw [aB]
   omega
 have:=this ss []
 rw [a8,Nat.zero_add] at this
 exact this
section
variable {prog:aU}{w:bw}{A:bL}{R:Result→al→Prop}{I:ae}{fp wr:List ae}{G:Array GenState→Array GenState→Prop}{n:Nat}{P:Nat→af→Prop}{St:Nat→al→Prop}
theorem SetOf.moved {h h':bM}{T:ae}{S:Str→Bool}{c:Nat} (q:h.SetOf (strKind prog w) T S c) (k:∀ o,h.get? T=some o→h'.get? T=some o):h'.SetOf (strKind prog w) T S c:=by
 obtain ⟨o,es,ep,t,ho,r⟩:=q
 exact ⟨o,es,ep,t,k o ho,r⟩
theorem CH (W:WalksS prog w A.in1 I fp wr G n P St) {T:ae} (hT:T∉fp) {ss:List Str} (hn:ss.length=n) (hv:∀ i v,P i v→∃ t x,ss[i]?=some x∧v=.str x t) (hb:n+1 < gH) :
  ∀ (d i:Nat) (s:al),i+d=n→St i s→s.heap.SetOf (strKind prog w) T (fun k=>decide (k∈ss.take i)) (qY (ss.take i)).length →
   (∀ s',Moved (T::wr) G s s'→s'.heap.SetOf (strKind prog w) T (fun k=>decide (k∈ss)) (qY ss).length→R (.ok (.ret .none)) s')→fT (model prog w) A (.builtin "set.update.loop" ⟨[.ref T,.ref I],[]⟩) R s:=by
 have hw:T∉wr:=fun z=>hT (W.sub _ z)
 have up:∀ b∈wr,b∈T::wr:=fun b z=>ag _ z
 intro d
 induction d with
 | zero =>
  intro i s e st q hR
  have ei:i=ss.length:=by omega
  subst hn
  rw [ei] at st q
  rw [d7] at q
  refine jf jF ?_
  rw [jo gC _];show bj _ _ (pyNext _ >>= _) _ _ _
  exact aF (W.done s _ _ st fun s' m=>aX (hR s' (m.mono up) (SetOf.moved q fun o=>m.heap T o hw)))
 | succ d ih =>
  intro i s e st q hR
  refine jf jF ?_
  rw [jo gC _];show bj _ _ (pyNext _ >>= _) _ _ _
  refine aF (W.item i s _ _ (by omega) st fun v s1 p st1 m=>?_)
  obtain ⟨t,x,hx,rfl⟩:=hv i v p
  have q1:=SetOf.moved q fun o=>m.heap T o hw
  show bj _ _ (holding _ (setAdd T (.str x t)) >>= _) _ _ s1
  refine aF (dU ?_);unfold setAdd
  refine dU (aF ((strKind prog w).pyHash (k:=x) (strKind_is _ _ x t) ?_))
  have room:(qY (ss.take i)).length+1 < gH:=by
   have:=yU (ss.take i)
   rw [cg] at this
   omega
  refine wpAny_setAddHashed_of (s:={ s1 with toks:=s1.toks+1 }) (strKind_is _ _ x t) rfl q1 room fun h2 sb q2=>?_
  have et:ss.take (i+1)=ss.take i++[x]:=by rw [cZ,hx];rfl
  have q3:h2.SetOf (strKind prog w) T (fun k=>decide (k∈ss.take (i+1))) (qY (ss.take (i+1))).length:=by
   refine SetOf_congr q2 (fun k=>?_) ?_
   ·rw [et,← Bool.decide_or]
    exact decide_eq_decide.mpr (by rw [aO,ax])
   ·rw [et,wC]
    unfold zr
    by_cases z:x∈ss.take i
    ·rw [if_pos (decide_eq_true z),if_pos (mem_once.mpr z)]
    ·rw [if_neg (by simpa using z),if_neg fun y=>z (mem_once.mp y)]
     simp
  refine aX ⟨plainId_quiet gC _,ih (i+1) _ (by omega) (W.frame _ s1 _ _ st1 (eL _) fun b hb o z=>?_) q3 fun s3 m3 q4=>?_⟩
  ·rw [sb.2 b fun y:b=T=>hT (by rw [← y];exact hb)]
   exact z
  ·refine hR s3 (Moved.trans W.gtrans ((m.mono up).then_heap (eL _) fun b o hb z=>?_) m3) q4
   rw [sb.2 b fun y:b=T=>hb (by rw [y];exact am)]
   exact z
end
section
variable {prog:aU}{w:bw}{A:bL}{E:af→al→Prop}{s:al}
abbrev rh (led:Bool):Obj:={ cls:=.type "set",dict:=none,data:=.set #[] 0 (.fresh 0 0 led) }
theorem CK {l T:ae}{its:Array af}{ss:List Str}{led:Bool}{Q:af→al→Prop} (hh:A.handled=none) (hl:s.heap.IsList l its) (hv:∀ (i:Nat) (v:af),its[i]?=some v→∃ t x,ss[i]?=some x∧v=.str x t) (hz:ss.length=its.size) (hb:its.size+1 < gH)
  (hg:s.heap.get? T=some (rh led)) (ne:l≠T)
  (h:∀ (h':bM) (tk:Nat),h'.SetOf (strKind prog w) T (fun k=>decide (k∈ss)) (qY ss).length→(∀ b o,b≠T→s.heap.get? b=some o→h'.get? b=some o)→Q .none { s with heap:=h',toks:=tk }) :
  fT (model prog w) A (.call (.builtin "set.__init__") ⟨[.ref T,.ref l],[]⟩) (wants Q E) s:=by
 have hTy:Shared.TypeIs s (.ref T) "set":=⟨_,hg,rfl⟩
 refine codeAny_call_builtin cC.init.plain PySem.F.entry_set_init (check_set_init_1 hTy ?_)
 have hl0:=hl
 obtain ⟨⟨c,dk,da,sl⟩,ho,e1,nl,e2⟩:=hl0
 simp only at e1 e2
 subst e1 e2
 have a1:=PySem.F.sub_list_set
 have a2:=PySem.F.sub_list_frozenset
 have a3:(iM "list" == iM "dict")=false:=by decide
 unfold Builtin.«set.__init__» noKeywords Builtin.Frozenset.updateFrom
 generalize hI:pyIter=it
 wp_walk
 subst hI
 refine e8 hl (aF (wpAny_runValue ?_))
 have ll:=aH ho
 have lT:=aH hg
 refine CH (ss:=ss) (T:=T) ((jO (by simp [hh]) _ l (aR ll) its).toS) ?_ hz (fun i v p=>hv i v p) hb (its.size - 0) 0 _ (by omega) ⟨⟨_,ba _ rfl,rfl,rfl⟩,hl.push _⟩ ?_ fun s2 m2 q2=>?_
 ·simp only [ai,eY,or_false,not_or]
  exact ⟨aR lT,fun z=>ne z.symm⟩
 ·have g2:=av { cls:=.type "list_iterator",data:=.fields #[.ref l,.int 0 0] } hg
  exact SetOf_congr ((setObjOf_fresh (knd:=PySem.strKind prog w) led).setOf g2 (by unfold gH;omega)) (fun k=>by simp) (by rfl)
 ·obtain ⟨h2,g2,d2,t2,o2⟩:=s2
  have e1:g2=s.gens:=m2.gens
  have e2:d2=s.drawn:=m2.drawn
  have e3:o2=s.os:=m2.os
  subst e1 e2 e3
  refine aX (aX ?_)
  refine h h2 t2 q2 fun b o hb e=>m2.heap b o ?_ (av _ e)
  simp only [ai,eY,or_false,not_or]
  exact ⟨hb,aR (aH e)⟩
theorem CI {l:ae}{its:Array af}{ss:List Str}{Q:af→al→Prop} (hh:A.handled=none) (hl:s.heap.IsList l its) (hv:∀ (i:Nat) (v:af),its[i]?=some v→∃ t x,ss[i]?=some x∧v=.str x t) (hz:ss.length=its.size) (hb:its.size+1 < gH)
  (h:∀ (T:ae) (h':bM) (tk:Nat),h'.SetOf (strKind prog w) T (fun k=>decide (k∈ss)) (qY ss).length→(∀ b o,s.heap.get? b=some o→h'.get? b=some o)→Q (.ref T) { s with heap:=h',toks:=tk }) :
  bj (model prog w) A (call (.type "set") [.ref l]) Q E s:=by
 have ll:l < s.heap.objs.size:=by obtain ⟨o,ho,_⟩:=hl;exact aH ho
 obtain ⟨mc,mt,hmro⟩:=cC.mro
 have z1:=cC.made
 have z2:=cC.sub
 have z3:=cC.notType
 have z4:=cC.canCreate
 have z5:=PySem.F.typeCall_set_1 (.ref l)
 refine jv (codeAny_of_tree ?_);show bj _ _ (callAny (.type "set") _) _ _ s
 refine aX ⟨Code.quiet_builtin _ (by decide +kernel),jf F.entry_type_call ?_⟩;rw [Around.under_plain (weight_type_call_type "set" [.ref l] []) rfl]
 repeat (any_goals (first | assumption | wp_step))
 refine e9 (code_set_new_1 (.ref l) (E:=E) (Q₁:=fun v s1=>∃ led:Bool,v=.ref s.heap.objs.size∧s1={ s with heap:=s.heap.push (rh led) }) fun led=>⟨led,rfl,rfl⟩) fun r s1 hr=>?_
 cases r with
 | error e=>exact hr
 | ok fl=>cases fl with
  | ret v =>
   obtain ⟨led,rfl,rfl⟩:=hr
   have hg:(s.heap.push (rh led)).get? s.heap.objs.size=some (rh led):=ba _ rfl
   have hTy:Shared.TypeIs { s with heap:=s.heap.push (rh led) } (.ref s.heap.objs.size) "set":=⟨_,hg,rfl⟩
   have y1:=cC.init.lookup
   have y2:=cC.init.bind (.ref s.heap.objs.size)
   repeat (any_goals (first | assumption | wp_step))
   refine e9 (CK (E:=E) (s:={ s with heap:=s.heap.push (rh led) }) (Q:=fun v s2=>v=.none∧∃ h' tk,s2={ s with heap:=h',toks:=tk }∧h'.SetOf (strKind prog w) s.heap.objs.size (fun k=>decide (k∈ss)) (qY ss).length∧∀ b o,s.heap.get? b=some o→h'.get? b=some o)
    (by simp [hh]) (hl.push _) hv hz hb hg (aR ll) fun h' tk q k=>⟨rfl,h',tk,rfl,q,fun b o e=>k b o (aR (aH e)) (av _ e)⟩) fun r2 s2 hr2=>?_
   cases r2 with
   | error e=>exact hr2
   | ok f2=>cases f2 with
    | ret v2 =>
     obtain ⟨rfl,h',tk,rfl,q,k⟩:=hr2
     repeat (any_goals (first | assumption | wp_step))
     exact h _ h' tk q k
    | _=>exact hr2.elim
  | _=>exact hr.elim
end
section
variable {X:Cx}{x y:Str}{p q pos pos2:Pos}{e:bo}{te:TE}
def EO (K:aa) (te:TE):TE:=fun σ H Q=>te σ H fun v H1=>∃ p ss,v=.ref p∧SqL K H1 p (ss.map V.str)∧ss.length < 4000∧Q (.int (qY ss).length) H1
theorem Bq (hc:X.calm=true) (ha:PE X e te) (gx:Gl X x) (mx:X.mg x=none) (bx:bR x=some (.builtin "len")) (gy:Gl X y) (my:X.mg y=none) (by':bR y=some (.type "set"))
  (nx:x≠"__name__":=by decide) (dx:(x == ("__debug__":Str))=false:=by decide) (ny:y≠"__name__":=by decide) (dy:(y == ("__debug__":Str))=false:=by decide)
  (he:aP [e] X.env=[(false,eval e X.env)]:=by rfl):PE X (.Call (.Name x p) [.Call (.Name y q) [e] [] pos2] [] pos) (EO X.K te):=by
 intro pins s σ H Q I h
 refine cG (vS I gx mx bx ?_ nx dx)
 refine gM ?_ rfl rfl
 show bj _ _ (spliced ((false,eval (.Call (.Name y q) [e] [] pos2) X.env)::cA pos (aP [] X.env))) _ _ s
 refine dA ?_
 refine cG (vS I gy my by' ?_ ny dy)
 refine eX (thn (kA (t:=Cn) ha pa_nil he pos2 pins s σ H (fun vs H1=>match vs with
  | [v]=>∃ p ss,v=.ref p∧SqL X.K H1 p (ss.map V.str)∧ss.length < 4000∧Q (.int (qY ss).length) H1
  | _=>False) I h) fun us s1 ⟨vs,H1,I1,r1,q1⟩=>?_) he rfl
 match vs,r1,q1 with
 | [],_,q1=>exact q1.elim
 | _::_::_,_,q1=>exact q1.elim
 | [v],r1,q1 =>
  obtain ⟨l,ss,rfl,hq,hz,qq⟩:=q1
  obtain ⟨u,rfl,ru⟩:=oJ r1
  cases ru
  obtain ⟨its,rv,pl,hz2⟩:=I1.list hq
  have hl:=rv.length
  rw [aj] at hl
  refine CI (ss:=ss) (I1.ok.hd hc) pl.isList (fun i v hv=>?_) (by simpa using hl) ?_ fun T h' tk qs k=>?_
  ·have e1:its[i]?=some v:=by simpa using hv
   have hi:i < ss.length:=by rw [hl];exact (aW.mp e1).1
   obtain ⟨u,e2,t,e3⟩:=Vals.get rv (i:=i) (x:=.str ss[i]) (by simp [hi])
   rw [e1] at e2
   cases e2
   exact ⟨t,ss[i],bh hi,e3⟩
  ·unfold gH
   simp only [aT]
   omega
  ·refine eO ?_
   have I2:Inv X pins σ H1 { s1 with heap:=h',toks:=tk }:=I1.kept k
   obtain ⟨o,es,ep,t,ho,hex,hd,_,_,hsb,hf,hn⟩:=qs
   refine PySem.call_len_set ho hex hd hf ?_ ⟨.int _,H1,I2.tok _,⟨_,by rw [hn]⟩,qq⟩
   unfold gH at hsb
   have:(es.size:Int) < 4096:=by omega
   exact Int.lt_of_lt_of_le this (by decide)
end
section
variable {X:Cx}{e st:bo}{te:TE}{ts:TO}{pos p2:Pos}
end
section
variable {X:Cx}{CB:ae}{E:XK}{a b c e st:bo}{es:List bo}{f g h:XE}{fa:XA}{t:XT}{p q p2 pos pos2:Pos}{x y:Str}
def xD (f:XE) (ρ:En) (s:Sto):Out PV:=(f ρ s).bind fun v s1=>match lsOf s1 v with
 | some l=>match pT l with
  | some ss=>if ss.length < 4000 then .ok (.int (qY ss).length) s1 else .bad
  | none=>.bad
 | none=>.bad
theorem BV (hc:X.calm=true) (gx:Gl X x) (mx:X.mg x=none) (bx:bR x=some (.builtin "len")) (gy:Gl X y) (my:X.mg y=none) (by':bR y=some (.type "set")) (ha:DE X CB E e f)
  (nx:x≠"__name__":=by decide) (dx:(x == ("__debug__":Str))=false:=by decide) (ny:y≠"__name__":=by decide) (dy:(y == ("__debug__":Str))=false:=by decide)
  (he:aP [e] X.env=[(false,eval e X.env)]:=by rfl):DE X CB E (.Call (.Name x p) [.Call (.Name y q) [e] [] pos2] [] pos) (xD f) :=
 ⟨(Bq hc ha.pe gx mx bx gy my by' nx dx ny dy he).mono fun σ H Q ⟨ρ,s,m,er,S,P⟩=>⟨ρ,s,m,er,S,P.bind fun v s1 u H1 m1 e1 S1 r1 P1=>by
  split at P1
  ·rename_i l hl
   split at P1
   ·rename_i ss hs
    split at P1
    ·rename_i hz
     obtain ⟨a,vs,rfl,q,r⟩:=r1.ls S1 hl
     have e:=qH hs
     subst e
     rw [r.strs] at q
     exact ⟨a,ss,rfl,q,hz,P1.here S1 .int⟩
    ·exact P1.elim
   ·exact P1.elim
  ·exact P1.elim⟩⟩
def Cr (v w:PV) (s:Sto):Out PV:=match v,w with
 | .int i,.int j=>if 0≤j then .ok (.int (i / 2 ^ j.toNat)) s else .bad
 | _,_=>.bad
theorem o_shr:Op2 X.K CB E (rI (fun _ j=>0≤j) fun i j=>V.int (i / 2 ^ j.toNat)) Cr:=by
 intro H m s v w x y Q S rx ry P
 unfold Cr at P
 split at P
 ·cases rx;cases ry
  split at P
  ·rename_i h;exact ⟨_,_,rfl,rfl,h,P.here S .int⟩
  ·exact P.elim
 ·exact P.elim
theorem HI (ha:DE X CB E a f) (hb:DE X CB E b g):DE X CB E (.BinOp a .RShift b pos) (x2 f g Cr):=tV G5 o_shr ha hb
def v8 (v w:PV) (s:Sto):Out PV:=match v,w with
 | .int i,.int j=>.ok (.int (cD i j)) s
 | _,_=>.bad
theorem Hj:Op2 X.K CB E (rI0 fun i j=>V.int (cD i j)) v8:=by
 intro H m s v w x y Q S rx ry P
 unfold v8 at P
 split at P
 ·cases rx;cases ry
  exact ⟨_,_,rfl,rfl,P.here S .int⟩
 ·exact P.elim
theorem FT (ha:DE X CB E a f) (hb:DE X CB E b g):DE X CB E (.BinOp a .BitAnd b pos) (x2 f g v8):=tV Hf Hj ha hb
end
def NOw (u:HO):Prop:=∀ o x,u≠.frz o (.own x)
section
variable {K:aa}{CB:ae}{H H':Hp}{m:Mp}{s:Sto}
mutual
theorem Rep.now (k:∀ a u,H a=some u→NOw u→H' a=some u):∀ {v:V}{p:PV},Rep K H m s v p→Rep K H' m s v p
 | _,_,.non=>.non
 | _,_,.bl=>.bl
 | _,_,.int=>.int
 | _,_,.str=>.str
 | _,_,.tup h r=>.tup (h.imp (fun z=>⟨z.1.imp (fun h=>k _ _ h (by intro _ _ z;cases z)) fun ⟨o,h⟩=>⟨o,k _ _ h (by intro _ _ z;cases z)⟩,z.2⟩) fun z=>z) (Reps.now k r)
 | _,_,.lst h p r=>.lst (k _ _ h (by intro _ _ z;cases z)) p (Reps.now k r)
 | _,_,.seq h r=>.seq (h.imp (fun ⟨⟨o,z⟩,p⟩=>⟨⟨o,k _ _ z (by intro _ _ z;cases z)⟩,p⟩) fun z=>z) (Reps.now k r)
 | _,_,.dct h p r=>.dct (h.imp (fun h=>k _ _ h (by intro _ _ z;cases z)) fun ⟨o,h⟩=>⟨o,k _ _ h (by intro _ _ z;cases z)⟩) p (RepKs.now k r)
 | _,_,.ref h=>.ref h
 | _,_,.exc h p=>.exc (k _ _ h (by intro _ _ z;cases z)) p
 | _,_,.clo r=>.clo (Reps.now k r)
theorem Reps.now (k:∀ a u,H a=some u→NOw u→H' a=some u):∀ {v:List V}{p:List PV},Reps K H m s v p→Reps K H' m s v p
 | _,_,.nil=>.nil
 | _,_,.cons a b=>.cons (Rep.now k a) (Reps.now k b)
theorem RepKs.now (k:∀ a u,H a=some u→NOw u→H' a=some u):∀ {v:List (Key×V)}{p:List (Key×PV)},RepKs K H m s v p→RepKs K H' m s v p
 | _,_,.nil=>.nil
 | _,_,.cons a b=>.cons (Rep.now k a) (RepKs.now k b)
end
theorem CellOk.now {n:Nat}{c:Cell} (k:∀ a u,H a=some u→NOw u→H' a=some u) (h:CellOk K CB H m s n c):CellOk K CB H' m s n c:=by
 cases c with
 | lst l=>obtain ⟨e1,vs,h,r⟩:=h;exact ⟨e1,vs,k _ _ h (by intro _ _ z;cases z),r.now k⟩
 | dct l=>obtain ⟨e1,vs,h,r⟩:=h;exact ⟨e1,vs,k _ _ h (by intro _ _ z;cases z),r.now k⟩
 | dfz l=>obtain ⟨e1,ob,vs,h,r⟩:=h;exact ⟨e1,ob,vs,k _ _ h (by intro _ _ z;cases z),r.now k⟩
 | obj C fs=>obtain ⟨e1,dx,vs,h,r1,r2⟩:=h;exact ⟨e1,dx,vs,k _ _ h (by intro _ _ z;cases z),r1,r2.now k⟩
 | book pp L =>
  obtain ⟨z,L',B,e1,e2⟩:=h
  have kd:∀ {a:ae}{kvs:List (Key×V)},H a=some (.dK kvs)→H' a=some (.dK kvs):=fun h=>k _ _ h (by intro _ _ z;cases z)
  refine ⟨z,L',⟨k _ _ B.ob (by intro _ _ z;cases z),kd B.pp,kd B.tt,kd B.mm,kd B.ll,(let ⟨T,e,p⟩:=B.hh;⟨T,kd e,p⟩),fun q hq=>?_,B.nd,B.p6,B.h8⟩,e1,e2⟩
  obtain ⟨ts,h1,h2,h3⟩:=B.he q hq
  refine ⟨ts,h1,kd h2,fun y hy=>?_⟩
  rcases h3 y hy with h | h
  ·exact .inl (h.imp (fun h=>k _ _ h (by intro _ _ z;cases z)) fun ⟨o,h⟩=>⟨o,k _ _ h (by intro _ _ z;cases z)⟩)
  ·exact .inr h
variable {cs:List (ae×Obj)}
theorem pO (f:Fzd H cs):∀ a u,H a=some u→NOw u→ufz H cs a=some u:=fun a u h n=>by
 rw [kY (f.out h fun o z=>n o 0 z)];exact h
theorem SR.ufz (S:SR K CB H m s) (f:Fzd H cs) (hc:∀ c o,cs.lookup c=some o→∃ u,o.data=.cell u):SR K CB (ufz H cs) m s:=by
 refine ⟨S.nd,S.lt,fun q hq=>(S.ok q hq).now (pO f),S.dj,S.hx,fun a ha=>?_,fun P q t=>⟨(S.tb P q t).1,?_⟩⟩
 ·obtain ⟨h1,h2⟩:=S.hs a ha
  rw [kY (show cs.lookup a=none from by
   cases q:cs.lookup a with
   | none=>rfl
   | some o=>exact absurd (f a o q) ((h2 [] o).2.2.2 0))]
  exact ⟨h1,h2⟩
 ·obtain ⟨ps,e1,e2,e3⟩:=(S.tb P q t).2
  refine ⟨ps,pO f _ _ e1 (by intro _ _ z;cases z),e2,fun p c e=>?_⟩
  obtain ⟨c',oc,a1,a2,vs,tq,a3,a4⟩:=e3 p c e
  refine ⟨c',oc,a1,?_,vs,tq,a3,a4⟩
  rw [kY (show cs.lookup c'=none from by
   cases q:cs.lookup c' with
   | none=>rfl
   | some o =>
    obtain ⟨u,hu⟩:=hc c' o q
    have:=f c' o q
    rw [a2] at this
    cases this
    rw [a3] at hu;cases hu)]
  exact a2
theorem Ext.fzd {H2:Hp}{m2:Mp}{s2:Sto} (S:SR K CB H m s) (f:Fzd H cs) (e:Ext (L2.ufz H cs) m s H2 m2 s2) (S2:SR K CB H2 m2 s2) (h0:∀ c o,cs.lookup c=some o→H2 c=none):SR K CB (fz H2 cs) m2 s2∧Ext H m s (fz H2 cs) m2 s2∧Same H2 (fz H2 cs):=by
 have k:Same H2 (fz H2 cs):=fun a o h=>by
  rw [lB (show cs.lookup a=none from by
   cases q:cs.lookup a with
   | none=>rfl
   | some o'=>rw [h0 a o' q] at h;cases h)]
  exact h
 refine ⟨S2.same k,⟨⟨⟨e.nx,e.ad,fun a u h p=>?_,fun a u h n p=>?_⟩,fun n l hn h=>⟨(e.df n l hn h).1,fun o ho=>?_⟩⟩,e.hd,fun a ha o h n=>?_⟩,k⟩
 ·cases q:cs.lookup a with
  | none =>
   obtain ⟨h1,p1⟩:=e.pu a u (h.imp (fun h=>by rw [kY q];exact h) fun ⟨o,h⟩=>⟨o,by rw [kY q];exact h⟩) p
   exact ⟨h1.same k,p1⟩
  | some o =>
   refine ⟨?_,S2.pure_none (h0 a o q)⟩
   have:=f a o q
   rcases h with h | ⟨o',h⟩
   ·rw [this] at h;exact .inl (by rw [tU q];exact h)
   ·rw [this] at h;exact .inr ⟨o',by rw [tU q];exact h⟩
 ·cases q:cs.lookup a with
  | none=>exact k _ _ (e.el a u (by rw [kY q];exact h) n p)
  | some o=>rw [tU q,← f a o q];exact h
 ·obtain ⟨_,ob,vs,hd,_⟩:=S.ok _ (lb h)
  have hd':H (m.ad n)=some (.frz ob (.dK vs)):=hd
  exact k _ _ ((e.df n l hn h).2 o (pO f _ _ ho (by intro o' x z;rw [z,hd'] at ho;cases ho)))
 ·exact k _ _ (e.hk a ha o (pO f _ _ h (by intro o' x z;rw [z] at h;exact ((S.hs a ha).2 [] o').2.2.2 x h)) n)
end
def Fro (H H':Hp):Prop:=∀ a o u,H a=some (.frz o u)→H' a=some (.frz o u)
structure CloC (P:aU) (w:bw) (K:aa) (mg:Str→Option af) (base:bM) (k:Nat) (CB f:ae) (vs:List V) (H:Hp) (dr:List PV→PV→Sto→Out PV):Prop where
 ex:∃ of fd0 fd ps sp,H f=some (fzO of)∧of.data=.func fd0∧FnOk P w K mg base (CXo P w) k f fd ps sp∧Binds K fd ps [] ∧
  ∀ H' m s v p l Q,Fro H H'→SR K CB H' m s→Reps K H' m s vs l→Rep K H' m s v p→Post K CB (Rep K) E0 (dr l p s) H' m s Q→sp [v] H' Q E0
def noX (o:Out PV):Out PV:=match o with
 | .ok v s=>.ok v s
 | _=>.bad
theorem Post.noX {K:aa}{CB:ae}{R:Hp→Mp→Sto→V→PV→Prop}{E E':XK}{o:Out PV}{H:Hp}{m:Mp}{s:Sto}{Q:V→Hp→Prop} (h:Post K CB R E (L2.noX o) H m s Q):Post K CB R E' o H m s Q:=by
 cases o with
 | ok v s'=>exact h
 | ex c s'=>exact bG h
 | bad=>exact h
open Classical in
def tY (i:Nat) (f:ae) (vs:List V) (dr:List PV→PV→Sto→Out PV) (g:XE) (ρ:En) (s:Sto):Out PV:=match ρ[i]? with
 | some (some (.clo a ws l))=>if a=f∧ws=vs then (g ρ s).bind fun p s1=>noX (dr l p s1) else .bad
 | _=>.bad
section
variable {X:Cx}{CB:ae}{E:XK}{k i:Nat}{x:Str}{p pos:Pos}{e:bo}{g:XE}{f:ae}{vs:List V}{dr:List PV→PV→Sto→Out PV}
theorem DH (C:CloC X.prog X.w X.K X.mg X.base k CB f vs X.H₀ dr) (i:Nat) (hN:X.N[i]?=some x) (hv:Vis X.env.scope x) (hr:Room k X.A) (ha:DE X CB E e g) (hd:(x == ("__debug__":Str))=false:=by decide) (hcd:(x == ("__classdict__":Str))=false:=by decide)
  (hst:aP [e] X.env=(false,eval e X.env)::aP [] X.env:=by rfl) (hpl:(cA pos (aP [] X.env)).any (·.1)=false:=by rfl):DE X CB E (.Call (.Name x p) [e] [] pos) (tY i f vs dr g):=by
 refine ⟨fun pins s σ H Q I ⟨ρ,s',m,er,S,P⟩=>?_⟩
 unfold tY at P
 split at P
 case h_2=>exact P.elim
 rename_i a ws l ha'
 split at P
 case isFalse=>exact P.elim
 rename_i hf
 obtain ⟨hf,hw⟩:=hf
 subst hf hw
 obtain ⟨u,hu,ru⟩:=er.at_ i _ ha'
 cases ru
 rename_i rl
 obtain ⟨of,fd0,fd,ps,sp,h1,h2,F,hb,hsp⟩:=C.ex
 have fnAt:∀ {H2:Hp}{s2:al}{σ2:St},Inv X pins σ2 H2 s2→PySem.W.FnAt a s2.heap:=fun I2=>by
  have:=(I2.hok a _ (I2.base.frzs _ _ _ h1)).1
  obtain ⟨oc,od,od',sl⟩:=of
  simp only at h2
  subst h2
  exact ⟨_,_,_,_,this⟩
 refine cG (thn (xY hN hv hd hcd pins s σ H (fun v H1=>v=.ref a∧H1=H) I ⟨_,hu,rfl,rfl⟩) fun u s1 ⟨v,H1,I1,r1,e1,e2⟩=>?_)
 subst e1 e2
 obtain rfl:u=bN a:=r1
 refine PySem.W.callWith_F (first:=[]) (fnAt I1) (thn (kA ha.pe pa_nil hst pos pins s1 σ H1 (fun vs H2=>∃ v,vs=[v]∧∃ m2 s2 p2,Ext H1 m s' H2 m2 s2∧SR X.K CB H2 m2 s2∧Rep X.K H2 m2 s2 v p2∧Post X.K CB (Rep X.K) E0 (dr l p2 s2) H2 m2 s2 Q) I1 ?_) fun us s2 ⟨vs,H2,I2,r,v,hvs,m2,s2',p2,x2,S2,r2,P2⟩=>⟨fnAt I2,?_⟩) hst hpl
 ·refine ⟨ρ,s',m,er,S,?_⟩
  exact P.bind fun p1 s1' u1 H1' m1 x1 S1 r1 P1=>⟨u1,rfl,m1,s1',p1,x1,S1,r1,P1.noX⟩
 ·subst hvs
  have q':sp ([v]++[]) H2 Q E0:=hsp H2 m2 s2' v p2 l Q (fun b o u z=>I2.base.frzs b o u z) S2 (rl.ext x2) r2 P2
  exact xW F hr hb .nil kM I2 r q'
end
def F6 (P:aU) (w:bw) (K:aa) (mg:Str→Option af) (base:bM) (k:Nat) (CB:ae) (D:ae→List V→(List PV→PV→Sto→Out PV)→XF):Sp:=fun vs H Q E =>
 ∃ f ws dr l s m,vs=[.ref f]∧CloC P w K mg base k CB f ws H dr∧Reps K H m s ws l∧SR K CB H m s∧Post K CB (Rep K) E (D f ws dr [.clo f ws l] s) H m s Q
theorem HA {P:aU}{w:bw}{K:aa}{mg:Str→Option af}{base:bM}{x qual y:Str}{st:bX}{fa CB:ae}{fd:bV}{N:List Str}{k kc:Nat}{u:ae→List V→(List PV→PV→Sto→Out PV)→XS} (F:Fun K x qual st fa fd) (S:FnScope N [y] (kh st))
  (hb:∀ (f:ae) (ws:List V) (dr:List PV→PV→Sto→Out PV) (cdv:af) (A:bL) (outer:List Env) (s:al) (H:Hp) (E:XK),CloC P w K mg base kc CB f ws H dr→Room k (A.deeper (dY qual (kh st) s.heap.objs.size fa cdv))→DSs (wZ (CXo P w) P w K mg base N qual (kh st) fa cdv A outer s H E) CB E (mR st) (u f ws dr)) :
  FnOk P w K mg base (CXo P w) (k+1) fa fd [y] (F6 P w K mg base kc CB fun f ws dr=>fnD N.length (u f ws dr)):=by
 refine F.okX S (fun vs H Q E h=>by obtain ⟨f,ws,dr,l,s,m,rfl,_⟩:=h;rfl) (fun cdv A outer s H vs Q E hr h=>?_)
 obtain ⟨f,ws,dr,l,s',m,rfl,C,rl,S',P'⟩:=h
 have r:Reps K H m s' [V.ref f] [.clo f ws l]:=.cons (.clo rl) .nil
 refine ⟨_,(hb f ws dr cdv A outer s H E C hr).pss,[PV.clo f ws l].map some++aV (N.length - 1) none,s',m,?_,S',?_⟩
 ·exact ER.start r _
 ·have P':Post K CB (Rep K) E (fnD N.length (u f ws dr) [.clo f ws l] s') H m s' Q:=P'
  unfold fnD at P'
  have hl:([PV.clo f ws l]:List PV).length=1:=rfl
  rw [hl] at P'
  cases cc:u f ws dr ([PV.clo f ws l].map some++aV (N.length - 1) none) s' with
  | nx ρ1 s1=>rw [cc] at P';exact fun σ' H' m' x S1 er=>P' .non H' m' x S1 .non
  | rt v1 s1=>rw [cc] at P';exact fun u' H' m' x S1 r1=>P' u' H' m' x S1 r1
  | ex c1 s1=>rw [cc] at P';exact P'
  | bk=>rw [cc] at P';exact P'.elim
  | ct=>rw [cc] at P';exact P'.elim
  | bad=>rw [cc] at P';exact P'.elim
open Classical in
def yB (F:ae→List V→Out PV):Out PV:=if h:∃ o,∀ f ws,F f ws=o then jD h else .bad
theorem EG {F:ae→List V→Out PV}{o:Out PV} (h:∀ f ws,F f ws=o):yB F=o:=by
 unfold yB
 rw [dif_pos ⟨o,h⟩]
 have:=gd (⟨o,h⟩:∃ o,∀ f ws,F f ws=o) 0 []
 rw [← this];exact h 0 []
theorem EH {F:ae→List V→Out PV} (h:yB F≠.bad) (f:ae) (ws:List V):F f ws=yB F:=by
 unfold yB at h ⊢
 split
 ·rename_i q;exact gd q f ws
 ·rename_i q;rw [dif_neg q] at h;exact absurd rfl h
def Ae (ρ:En):List Nat→Option (List PV)
 | []=>some []
 | j::r=>match ρ[j]?,Ae ρ r with
  | some (some p),some l=>some (p::l)
  | _,_=>none
def Cd (ix:List Nat) (D:ae→List V→(List PV→PV→Sto→Out PV)→XF) (g:XE) (ρ:En) (s:Sto):Out PV:=match Ae ρ ix with
 | some l=>noX (yB fun f ws=>D f ws (fun l p s=>noX (g (some p::l.map some) s)) [.clo f ws l] s)
 | none=>.bad
theorem A6 {K:aa}{H:Hp}{m:Mp}{s:Sto}{σ:St}{ρ:En} (er:ER K H m s σ ρ):∀ {ix:List Nat}{l:List PV},Ae ρ ix=some l→∃ caps:List V,caps.length=ix.length∧Reps K H m s caps l∧∀ (i j:Nat) (v:V),ix[i]?=some j→caps[i]?=some v→σ[j]?=some (some v)
 | [],l,h=>by cases h;exact ⟨[],rfl,.nil,fun i j v e=>by cases e⟩
 | j::r,l,h=>by
  unfold Ae at h
  split at h
  ·rename_i p l' h1 h2
   cases h
   obtain ⟨u,hu,ru⟩:=er.at_ j p h1
   obtain ⟨caps,c1,c2,c3⟩:=A6 er h2
   refine ⟨u::caps,by rw [aB,aB,c1],.cons ru c2,fun i j' v e1 e2=>?_⟩
   cases i with
   | zero=>cases e1;cases e2;exact hu
   | succ i=>exact c3 i j' v e1 e2
  ·cases h
theorem lk1 {F:ae→Obj}{c:ae}{o:Obj}:∀ {l:List (Str×ae)},(l.map fun y=>(y.2,F y.2)).lookup c=some o→o=F c∧∃ y,(y,c)∈l
 | [],h=>by cases h
 | (y,d)::r,h=>by
  rw [au,bE] at h
  by_cases e:c=d
  ·subst e
   simp at h
   exact ⟨h.symm,y,am⟩
  ·have e':(c == d)=false:=by simpa using e
   simp only [e'] at h
   obtain ⟨h1,y',h2⟩:=lk1 h
   exact ⟨h1,y',ag _ h2⟩
theorem lk2 {F:ae→Obj}{c:ae}{y:Str}:∀ {l:List (Str×ae)},(y,c)∈l→(l.map fun y=>(y.2,F y.2)).lookup c=some (F c)
 | (z,d)::r,h=>by
  rw [au,bE]
  by_cases e:c=d
  ·subst e;simp
  ·have e':(c == d)=false:=by simpa using e
   simp only [e']
   rcases ai.mp h with q | q
   ·cases q;exact absurd rfl e
   ·exact lk2 q
theorem w5 {cells:List (Str×ae)}{y:Str}{c:ae}:∀ {names:List (Str×dS)}{cs:List (Str×ae)},(y,c)∈lL cells names cs→(y,c)∈cs∨((y,bC)∈names∧c=(cells.lookup y).getD 0)
 | [],cs,h=>.inl h
 | (n,k)::r,cs,h=>by
  unfold lL at h
  rcases w5 h with h | ⟨h1,h2⟩
  ·by_cases hk:k=.free
   ·subst hk
    rw [if_pos ff] at h
    rcases ai.mp h with q | q
    ·cases q;exact .inr ⟨am,rfl⟩
    ·exact .inl q
   ·have hb:(k == bC)=false:=by simpa using hk
    rw [hb,if_neg a7] at h
    exact .inl h
  ·exact .inr ⟨ag _ h1,h2⟩
theorem Tab.one {K:aa}{P P':ae}{q q':Str} (a:Tab K P q) (b:Tab K P' q'):P'=P∧q'=q:=by
 obtain ⟨x,hx,c,h1,h2⟩:=a
 obtain ⟨y,hy,d,h3,h4⟩:=b
 simp only [vo,ax] at hx hy
 subst hx hy
 rw [h1] at h3
 cases h3
 exact ⟨rfl,h4.trans h2.symm⟩
theorem SR.lam {K:aa}{CB:ae}{H H1:Hp}{m:Mp}{s:Sto}{P:ae}{q:Str} (S:SR K CB H m s) (t:Tab K P q) (T1:Ba H1 P q) (k:∀ b u,H b=some u→b≠P→H1 b=some u):SR K CB H1 m s∧Ext H m s H1 m s:=by
 have hP:=(S.tb P q t).1
 have nf:∀ n∈s.cs.map (·.1),∀ a∈m.fp n,a≠P:=fun n hn a ha z=>S.hx n hn a ha (z ▸ hP)
 have np:∀ a,Pur m s a→a≠P:=fun a p z=>p.1 (z ▸ hP)
 have x:ExtR H m s H1 m s:=⟨aA _,fun _ _=>rfl,fun a u h p=>⟨h.imp (fun h=>k _ _ h (np a p)) fun ⟨o,h⟩=>⟨o,k _ _ h (np a p)⟩,p⟩,fun a u h _ p=>k _ _ h (np a p)⟩
 have hk:∀ a∈m.hid,∀ o,H a=some o→(∀ ps,o≠.tbl ps)→H1 a=some o:=fun a _ o h n=>k _ _ h fun z=>by
  obtain ⟨_,ps,h2,_⟩:=S.tb P q t
  rw [z,h2] at h;cases h;exact n _ rfl
 refine ⟨⟨S.nd,S.lt,fun r hr=>(S.ok r hr).keep S x (fun a ha o h=>k _ _ h (nf _ (ak.mpr ⟨r,hr,rfl⟩) a ha)) rfl rfl,S.dj,S.hx,fun a ha=>?_,fun P' q' t'=>?_⟩,⟨⟨x,fun n l hn h=>⟨h,fun o ho=>?_⟩⟩,rfl,hk⟩⟩
 ·by_cases z:a=P
  ·obtain ⟨ps,h2,_⟩:=T1
   rw [z,h2]
   exact ⟨by simp,fun _ _=>⟨by simp,by simp,by simp,by simp⟩⟩
  ·obtain ⟨h1,h2⟩:=S.hs a ha
   cases e:H a with
   | none=>exact absurd e h1
   | some o =>
    rw [k a o e z]
    rw [e] at h2
    exact ⟨by simp,h2⟩
 ·obtain ⟨rfl,rfl⟩:=t.one t'
  exact ⟨hP,T1⟩
 ·obtain ⟨e1,_⟩:=S.ok _ (lb h)
  exact k _ _ ho (nf n (ak.mpr ⟨_,lb h,rfl⟩) _ (by rw [e1];simp))
theorem Ext.unfz {H1 H2:Hp}{m m2:Mp}{s s2:Sto}{cs:List (ae×Obj)} (h0:∀ c o,cs.lookup c=some o→H1 c=none) (x:Ext (fz H1 cs) m s H2 m2 s2):Ext H1 m s (L2.ufz H2 cs) m2 s2:=by
 have out:∀ {a:ae}{u:HO},H1 a=some u→cs.lookup a=none:=fun {a u} h=>by
  cases q:cs.lookup a with
  | none=>rfl
  | some o=>rw [h0 a o q] at h;cases h
 have up:∀ {a:ae}{u:HO},H1 a=some u→fz H1 cs a=some u:=fun {a u} h=>by rw [lB (out h)];exact h
 refine ⟨⟨⟨x.nx,x.ad,fun a u h p=>?_,fun a u h n p=>?_⟩,fun n l hn h=>⟨(x.df n l hn h).1,fun o ho=>?_⟩⟩,x.hd,fun a ha o h n=>?_⟩
 ·obtain ⟨h1,p1⟩:=x.pu a u (h.imp (fun h=>up h) fun ⟨o,h⟩=>⟨o,up h⟩) p
  have o':cs.lookup a=none:=h.elim (fun h=>out h) fun ⟨_,h⟩=>out h
  exact ⟨h1.imp (fun h=>by rw [kY o'];exact h) fun ⟨o,h⟩=>⟨o,by rw [kY o'];exact h⟩,p1⟩
 ·rw [kY (out h)];exact x.el a u (up h) n p
 ·rw [kY (out ho)];exact (x.df n l hn h).2 o (up ho)
 ·rw [kY (out h)];exact x.hk a ha o (up h) n
section
variable {X:Cx}{CB:ae}{E:XK}{k kb:Nat}{fn y q:Str}{p pos lpos:Pos}{g:XE}{params:ik}{body:bo}{scope:dR}{fr:List Str}{ix:List Nat}{cd P:ae}{D:ae→List V→(List PV→PV→Sto→Out PV)→XF}{pn:Str}
theorem FO (ix:List Nat) (F:Fn X.prog X.w X.K X.mg X.base fn k [pn] (F6 X.prog X.w X.K X.mg X.base (kb+1) CB D)) (hr:Room k X.A) (hg:Gl X fn) (T:LamTxt X.K X.mg X.base cd P) (hcode:X.env.code=.ref cd) (hq:X.env.qual++"<lambda>"=q) (hT:Tab X.K P q) (hdef:defaultsOf params X.env=([],[]))
  (hcells:∀ y∈scope.names,y.2=.free→X.env.scope.names.lookup y.1=some .cell) (hfn:∀ x,X.fn x=true) (S:LamOk scope y fr) (hlen:ix.length=fr.length) (hix:∀ (i j:Nat) (z:Str),fr[i]?=some z→ix[i]?=some j→X.N[j]?=some z)
  (hbind:∀ (cl:List (Str×ae)) (pm c ctv:af),Binds X.K (PySem.W.kla_fn "<lambda>" q params body scope cl pm c ctv) [y] [])
  (hbody:∀ (f:ae) (c':af) (cl:List (Str×ae)) (A:bL) (outer:List Env) (s:al) (H:Hp),Room kb (A.deeper (El q scope s.heap.objs.size f c' cl))→DE (cxL X.prog X.w X.K X.mg X.base (y::fr) q scope f c' cl A outer s H) CB E0 body g)
  (hdb:(fn == ("__debug__":Str))=false:=by decide)
  (he:aP [.Lambda params body scope lpos] X.env=(false,eval (.Lambda params body scope lpos) X.env)::aP [] X.env:=by rfl) (hpl:(cA pos (aP [] X.env)).any (·.1)=false:=by rfl) :
  DE X CB E (.Call (.Name fn p) [.Lambda params body scope lpos] [] pos) (Cd ix D g):=by
 refine ⟨fun pins s σ H Q I ⟨ρ,s',m,er,SS,PP⟩=>?_⟩
 unfold Cd at PP
 split at PP
 case h_2=>exact PP.elim
 rename_i l hl
 obtain ⟨caps,c1,c2,c3⟩:=A6 er hl
 have PP:Post X.K CB (Rep X.K) E0 (yB fun f ws=>D f ws (fun l p s=>noX (g (some p::l.map some) s)) [.clo f ws l] s') H m s' Q:=PP.noX
 have hnb:(yB fun f ws=>D f ws (fun l p s=>noX (g (some p::l.map some) s)) [.clo f ws l] s')≠.bad:=fun z=>by rw [z] at PP;exact PP
 obtain ⟨fa,fd,F,hm,hk,hb⟩:=F
 refine cG (sJ I hg hm ?_ hdb)
 have hcells':∀ y∈scope.names,y.2=.free→X.env.scope.names.lookup y.1=some .cell∨X.env.scope.names.lookup y.1=some .free:=fun y hy hf=>.inl (hcells y hy hf)
 have hcx:∀ z∈scope.names,z.2=.free→∃ c,X.env.cells.lookup z.1=some c:=fun z hz hf=>I.ok.has z.1 (.inl (hcells z hz hf))
 refine gN (h₀:=X.base) I.ok.mod.kin hk (thn (kA (G3 (pos:=lpos) (body:=body) T hcode hq hdef hcells') pa_nil he pos pins s σ H (fun vs H1=>∃ f c' oc pm ctv,vs=[.ref f]∧Ba H1 P q∧H1 f=some (fzO (cV "<lambda>" q params body scope (lL X.env.cells scope.names []) pm c' ctv))∧H1 c'=some (fzO oc)∧(∃ vs tq,oc.data=.fields vs∧vs[1]?=some (.str q tq))∧∀ b u,H b=some u→b≠P→H1 b=some u) I
  ⟨(SS.tb P q hT).2,fun f c' oc pm ctv H1 a1 a2 a3 a4 a5 a6=>⟨f,c',oc,pm,ctv,rfl,a1,a2,a3,a4,a5⟩⟩) fun us s1 ⟨vs,H1,I1,r,f,c',oc,pm,ctv,hvs,a1,a2,a3,a4,a5⟩=>⟨I1.kIn,?_⟩) he hpl
 subst hvs
 obtain ⟨S1,x1⟩:=SS.lam hT a1 a5
 generalize hcl:lL X.env.cells scope.names []=cl at a2
 have clC:∀ {z:Str}{c:ae},(z,c)∈cl→X.env.cells.lookup z=some c:=fun {z c} h=>by
  rw [← hcl] at h
  rcases w5 h with h | ⟨h1,h2⟩
  ·cases h
  ·obtain ⟨c0,h0⟩:=hcx (z,.free) h1 rfl
   rw [h2,h0];rfl
 have clL:∀ {z:Str}{c:ae},cl.lookup z=some c→(z,c)∈cl:=fun h=>bS h
 have hcell:∀ {z:Str}{c:ae},X.env.cells.lookup z=some c→∃ o u,s1.heap.get? c=some o∧o.data=.cell u:=fun {z c} h=>by
  obtain ⟨v,o,h1,h2⟩:=I1.cell z c h
  exact ⟨o,v,h1,h2⟩
 let Fo:ae→Obj:=fun c=>(s1.heap.get? c).getD default
 have hFo:∀ {c:ae}{o:Obj},s1.heap.get? c=some o→Fo c=o:=fun {c o} h=>by show (s1.heap.get? c).getD default=o;rw [h];rfl
 generalize hcs:(cl.map fun z=>(z.2,Fo z.2))=cs
 have csO:∀ c o,cs.lookup c=some o→∃ z,(z,c)∈cl∧s1.heap.get? c=some o∧∃ u,o.data=.cell u:=fun c o h=>by
  rw [← hcs] at h
  obtain ⟨h1,z,h2⟩:=lk1 h
  obtain ⟨o',u,h3,h4⟩:=hcell (clC h2)
  rw [hFo h3] at h1
  subst h1
  exact ⟨z,h2,h3,u,h4⟩
 have csI:∀ {z:Str}{c:ae},cl.lookup z=some c→∀ {o:Obj},s1.heap.get? c=some o→cs.lookup c=some o:=fun {z c} h {o} ho=>by
  rw [← hcs,lk2 (clL h),hFo ho]
 have csN:∀ c o,cs.lookup c=some o→H1 c=none:=fun c o h=>by
  obtain ⟨z,h1,_⟩:=csO c o h
  exact I1.freeC z c (clC h1)
 have same:Same H1 (fz H1 cs):=fun a o h=>by
  rw [lB (show cs.lookup a=none from by
   cases q:cs.lookup a with
   | none=>rfl
   | some o'=>rw [csN a o' q] at h;cases h)]
  exact h
 have clo:CloOk scope fr cl cs caps:=by
  refine ⟨fun z hz=>?_,fun z z' c h1 h2=>I.ok.inj z z' c (clC (clL h1)) (clC (clL h2)),fun z c h=>?_,fun i z v h1 h2=>?_,by rw [c1,hlen]⟩
  ·have:=qQ (cells:=X.env.cells) (y:=z) scope.names [] (bS hz)
   rw [hcl] at this
   exact ee.mp this
  ·obtain ⟨o,u,h3,h4⟩:=hcell (clC (clL h))
   exact ⟨o,u,csI h h3,h4⟩
  ·have hi:i < ix.length:=by rw [hlen];exact (aW.mp h1).1
   have hj:ix[i]?=some ix[i]:=bh hi
   have hσ:=c3 i _ v hj h2
   have hfree:=S.frs z (ck h1)
   have hsc:X.env.scope.names.lookup z=some .cell:=hcells (z,.free) (bS hfree) rfl
   obtain ⟨mL,_,hloc⟩:=I1.loc
   obtain ⟨u,ru,hu⟩:=hloc _ z v (hix i _ z h1 hj) hσ (.inr (.inl hsc))
   rcases hu with ⟨h3,_⟩ | ⟨_,c,h3,o,h4,h5⟩
   ·have h3:X.env.scope.names.lookup z=some .local:=h3
    rw [hsc] at h3;cases h3
   ·obtain ⟨c',hc'⟩:=ee.mp (by have:=qQ (cells:=X.env.cells) (y:=z) scope.names [] (bS hfree);rw [hcl] at this;exact this)
    have e:=clC (clL hc')
    rw [h3] at e
    cases e
    exact ⟨c,o,u,hc',csI hc' h4,h5,ru⟩
 have FC:=HP (P:=X.prog) (w:=X.w) (K:=X.K) (mg:=X.mg) (base:=X.base) (CX:=CXo X.prog X.w) (k:=kb) (f:=f) (c':=c') (params:=params) (pm:=pm) (ctv:=ctv) (t:=TDE X.K CB E0 g) S clo a4 fun A outer s H hr=>(hbody f (.ref c') cl A outer s H hr).pe
 have CC:CloC X.prog X.w X.K X.mg X.base (kb+1) CB f caps (fz H1 cs) (fun l p s=>noX (g (some p::l.map some) s)):=by
  refine ⟨_,_,_,_,_,same _ _ a2,rfl,FC,hbind cl pm (.ref c') ctv,fun H' m' s2 v p1 l1 Q' fro S' rl rp PQ=>?_⟩
  have fzd:Fzd H' cs:=fun c o h=>fro c o _ (tU h)
  have hcd:∀ c o,cs.lookup c=some o→∃ u,o.data=.cell u:=fun c o h=>(csO c o h).elim fun z h=>h.2.2
  refine ⟨v,rfl,fro _ _ _ (same _ _ a2),fro _ _ _ (same _ _ a3),fzd,some p1::l1.map some,s2,m',⟨?_,?_⟩,S'.ufz fzd hcd,?_⟩
  ·rw [aB,aB,aj,aj,rl.length]
  ·intro i p2 e2
   cases i with
   | zero=>cases e2;exact ⟨v,rfl,rp.now (pO fzd)⟩
   | succ i =>
    have e2:(l1.map some)[i]?=some (some p2):=e2
    rw [bi] at e2
    obtain ⟨p3,h3,h4⟩:=dz.mp e2
    cases h4
    obtain ⟨v3,h5,h6⟩:=(rl.now (pO fzd)).get h3
    exact ⟨v3,by show (caps.map some)[i]?=_;rw [bi,h5];rfl,h6⟩
  ·cases o:g (some p1::l1.map some) s2 with
   | ok v2 s3 =>
    rw [o] at PQ
    intro u2 H2 m2 x2 S2 r2 h0
    obtain ⟨S3,x3,k3⟩:=Ext.fzd S' fzd x2 S2 h0
    exact PQ u2 _ m2 x3 S3 (r2.ext (Ext.same k3))
   | ex c s3=>rw [o] at PQ;exact bG PQ
   | bad=>rw [o] at PQ;exact PQ
 refine GQ F hr hb (E:=E0) (cs:=cs) (fun H' e s2 h=>?_) I1 (fun c o h=>?_) r ⟨f,caps,_,l,s',m,rfl,CC,(c2.ext x1).ext (Ext.same same),S1.same same,?_⟩
 ·obtain ⟨_,_,_,_,_,_,_,_,_,_,_,_,_,z⟩:=h
  exact z.elim
 ·obtain ⟨z,h1,h2,u,h3⟩:=csO c o h
  refine ⟨h2,csN c o h,I.ok.cab z c (hfn z) (clC h1),fun e=>?_⟩
  obtain ⟨mL,⟨oL,es,ep,hL,hd,_⟩,_⟩:=I1.loc
  rw [e,hL] at h2
  cases h2
  rw [hd] at h3;cases h3
 ·rw [EH hnb f caps]
  cases o:(yB fun f ws=>D f ws (fun l p s=>noX (g (some p::l.map some) s)) [.clo f ws l] s') with
  | bad=>exact absurd o hnb
  | ex c s3=>rw [o] at PP;exact fun H2 m2 x2 S2=>bG (PP H2 m2 ((x1.trans (Ext.same same)).trans x2) S2)
  | ok v2 s3 =>
   rw [o] at PP
   intro u2 H2 m2 x2 S2 r2
   have fzd:Fzd H2 cs:=fun c o h=>x2.el c _ (tU h) (by intro _ z;cases z) (S1.pure_none (csN c o h))
   exact PP u2 _ m2 (x1.trans (Ext.unfz csN x2)) (S2.ufz fzd fun c o h=>(csO c o h).elim fun z h=>h.2.2) (r2.now (pO fzd))
end
theorem HB {P:aU}{w:bw}{K:aa}{mg:Str→Option af}{base:bM}{x qual:Str}{st:bX}{fa CB cd PT:ae}{fd:bV}{N ps:List Str}{n k:Nat}{u:XS} (F:Fun K x qual st fa fd) (hns:aw K aq x=some (some (.ref fa))) (ht:bW K x=some (cd,PT)) (S:FnScope N ps (kh st)) (hps:ps.length=n)
  (hb:∀ (A:bL) (outer:List Env) (s:al) (H:Hp) (E:XK),Room k (A.deeper (dY qual (kh st) s.heap.objs.size fa (.ref cd)))→DSs (wZ (CXo P w) P w K mg base N qual (kh st) fa (.ref cd) A outer s H E) CB E (mR st) u) :
  FnOk P w K mg base (CXo P w) (k+1) fa fd ps (spD K CB n (fnD N.length u)):=by
 obtain ⟨oc,od,kV,doc,pm,an,cdv,ct,osl,rfl,lk,hcd⟩:=F.ex
 have hc:cdv=.ref cd:=by
  unfold bW at ht
  rw [hns] at ht
  simp only [lk] at ht
  split at ht
  ·split at ht
   ·split at ht
    ·cases ht;rfl
    ·cases ht
   ·cases ht
  ·cases ht
 subst hc
 refine ED lk hcd S (fun vs H Q E h=>by rw [hps];exact h.1) fun A outer s H vs Q E hr h=>?_
 obtain ⟨hl,ps',s',m,r,S',P'⟩:=h
 refine ⟨_,(hb A outer s H E hr).pss,ps'.map some++aV (N.length - ps'.length) none,s',m,?_,S',?_⟩
 ·unfold start
  rw [r.length]
  exact ER.start r _
 ·unfold fnD at P'
  cases cc:u (ps'.map some++aV (N.length - ps'.length) none) s' with
  | nx ρ1 s1=>rw [cc] at P';exact fun σ' H' m' x S1 er=>P' .non H' m' x S1 .non
  | rt v1 s1=>rw [cc] at P';exact fun u' H' m' x S1 r1=>P' u' H' m' x S1 r1
  | ex c1 s1=>rw [cc] at P';exact P'
  | bk=>rw [cc] at P';exact P'.elim
  | ct=>rw [cc] at P';exact P'.elim
  | bad=>rw [cc] at P';exact P'.elim
def we (mg:Str→Option af) (base:bM) (P:ae):Prop:=∃ bm o,mg "__builtins__"=some (.ref bm)∧bm≠dL∧bm≠aq∧bm≠P∧base.get? bm=some o∧o.cls=.type "module"∧o.dict=some dL∧o.data=.plain
theorem BI {K:aa}{mg:Str→Option af}{base:bM}{cd P:ae} (h1:g9 K cd P=true) (h2:P≠aq) (h3:we mg base P):LamTxt K mg base cd P:=⟨fun h X=>PySem.W.codeHd_of_K X h1,h2,h3⟩
def tX (fi:XA) (ix:List Nat) (c:XT) (e:XE) (ρ:En) (s:Sto):Out PV:=(fi ρ s).bind fun l s1=>if l.length≤100000 then (lz c e (lh ix ρ) l s1).bind fun vs s2=>.ok (.ref s2.nx) (s2.add (.lst vs)) else .bad
section
variable {X:Cx}{CB:ae}{E:XK}{a b c e elt iter tg:bo}{es ifs:List bo}{f g h:XE}{fa fi:XA}{t:XT}{p px pos pos' apos cpos:Pos}{x:Str}{st:bX}{lC sts sts':List bX}{u v:XS}{scope:dR}{fr:List Str}{ix:List Nat}
theorem Cmp.cell {K:aa}{D:ae}{H1 H2:Hp}{m1 m2:Mp}{s1 s2:Sto}{cap:St}{ρ:En}{ys:List V}{done:List PV} (C:Cmp K CB D H1 m1 s1 cap ρ ys done H2 m2 s2) (hD:H1 D=none) (hn:D∉m1.hid) :
  SR K CB H2 ((m2.bare m1.hid).add s2.nx D [D]) (s2.add (.lst done))∧Ext H1 m1 s1 H2 ((m2.bare m1.hid).add s2.nx D [D]) (s2.add (.lst done)):=by
 have S:=C.sr
 have hin:D∈m2.hid:=by rw [C.hid];exact am
 have hlt:∀ j∈s2.cs.map (·.1),j≠s2.nx:=fun j hj=>aR (S.lt j hj)
 have hfp:∀ j∈s2.cs.map (·.1),((m2.bare m1.hid).add s2.nx D [D]).fp j=m2.fp j:=fun j hj=>if_neg (hlt j hj)
 have hfn:((m2.bare m1.hid).add s2.nx D [D]).fp s2.nx=[D]:=if_pos rfl
 have had:((m2.bare m1.hid).add s2.nx D [D]).ad s2.nx=D:=if_pos rfl
 have nD:∀ j∈s2.cs.map (·.1),D∉m2.fp j:=fun j hj z=>S.hx j hj D z hin
 have hk:∀ {j:Nat},j∈(s2.add (.lst done)).cs.map (·.1)→j=s2.nx∨j∈s2.cs.map (·.1):=fun {j} hj=>ai.mp (show j∈s2.nx::s2.cs.map (·.1) from hj)
 have hsub:∀ a,a∈m1.hid→a∈m2.hid:=fun a ha=>by rw [C.hid];exact ag _ ha
 have pur:∀ a,a≠D→a∉m1.hid→(∀ n∈s2.cs.map (·.1),a∉m2.fp n)→Pur ((m2.bare m1.hid).add s2.nx D [D]) (s2.add (.lst done)) a:=fun a h1 h2 h3=>⟨h2,fun j hj ha=>by
  rcases hk hj with rfl | hj
  ·rw [hfn,ax] at ha;exact h1 ha
  ·rw [hfp j hj] at ha;exact h3 j hj ha⟩
 have x:ExtR H2 m2 s2 H2 ((m2.bare m1.hid).add s2.nx D [D]) (s2.add (.lst done)):=⟨eL _,fun j hj=>if_neg (aR hj),fun a u h p=>⟨h,pur a (fun z=>p.1 (z ▸ hin)) (fun z=>p.1 (hsub a z)) p.2⟩,fun a u h _ _=>h⟩
 have e1:s1.nx≤s2.nx:=C.ex.nx
 refine ⟨⟨?_,?_,fun q hq=>?_,fun j hj i hi hne a ha hb=>?_,fun j hj a ha hb=>?_,fun a ha=>S.hs a (hsub a ha),fun P q t=>⟨?_,(S.tb P q t).2⟩⟩,⟨⟨⟨Nat.le_succ_of_le e1,fun n hn=>?_,fun a u h p=>?_,C.ex.el⟩,fun n l hn h=>?_⟩,rfl,C.ex.hk⟩⟩
 ·exact aN.mpr ⟨fun z=>hlt _ z rfl,S.nd⟩
 ·intro j hj
  rcases hk hj with rfl | hj
  ·exact di _
  ·exact ir (S.lt j hj)
 ·rcases ai.mp (show q∈(s2.nx,Cell.lst done)::s2.cs from hq) with rfl | hq
  ·exact ⟨by rw [hfn,had],ys,by rw [had];exact C.at_,C.rs.ext0 x⟩
  ·have hqm:q.1∈s2.cs.map (·.1):=ak.mpr ⟨q,hq,rfl⟩
   exact (S.ok q hq).keep S x (fun a _ o h=>h) (x.ad _ (S.lt _ hqm)) (hfp _ hqm)
 ·rcases hk hj with e | hj <;> rcases hk hi with e' | hi
  ·exact hne (e.trans e'.symm)
  ·rw [e,hfn,ax] at ha;rw [hfp i hi,ha] at hb;exact nD i hi hb
  ·rw [e',hfn,ax] at hb;rw [hfp j hj,hb] at ha;exact nD j hj ha
  ·rw [hfp j hj] at ha;rw [hfp i hi] at hb;exact S.dj j hj i hi hne a ha hb
 ·have hb:a∈m1.hid:=hb
  rcases hk hj with e | hj
  ·rw [e,hfn,ax] at ha;rw [ha] at hb;exact hn hb
  ·rw [hfp j hj] at ha;exact S.hx j hj a ha (hsub a hb)
 ·obtain ⟨h1,ps,h2,_⟩:=S.tb P q t
  rw [C.hid] at h1
  rcases ai.mp h1 with z | z
  ·rw [z,C.at_] at h2;cases h2
  ·exact z
 ·have:n≠s2.nx:=aR (ay hn e1)
  exact (if_neg this).trans (C.ex.ad n hn)
 ·obtain ⟨h1,p1⟩:=C.ex.pu a u h p
  exact ⟨h1,pur a (h.ne hD) p1.1 p1.2⟩
 ·obtain ⟨h1,h2⟩:=C.ex.df n l hn h
  refine ⟨?_,h2⟩
  show ly ((s2.nx,Cell.lst done)::s2.cs) n=_
  unfold ly
  rw [if_neg (fun z=>aR (ay hn e1) z.symm)]
  exact h1
theorem BW {σ:St}{H1:Hp}{m1:Mp}{s1:Sto}{ρ:En}{J:It}{l:List PV}{D:ae}{Q:VK}{t:XT} (S1:SR X.K CB H1 m1 s1) (er:ER X.K H1 m1 s1 σ ρ) (it:oF X.K CB J l H1 m1 s1) (hD:H1 D=none) (hlen:l.length≤100000)
  (P:Post X.K CB (Rep X.K) E ((lz t f (lh ix ρ) l s1).bind fun vs s2=>.ok (.ref s2.nx) (s2.add (.lst vs))) H1 m1 s1 Q):Ai J (TDT X.K CB E0 t) (TDE X.K CB E0 f) (capt ix σ) D H1 Q:=by
 refine ⟨fun i k ys H2=>∃ done m2 s2,Cmp X.K CB D H1 m1 s1 (capt ix σ) (lh ix ρ) ys done H2 m2 s2∧i≤l.length∧ys.length≤i∧k=l.length - i∧(lz t f (lh ix ρ) l s1).bind (fun vs s2=>.ok (PV.ref s2.nx) (s2.add (.lst vs)))=(lz t f (lh ix ρ) (l.drop i) s2).bind fun vs s2=>.ok (.ref s2.nx) (s2.add (.lst (done++vs))),⟨l.length,[],m1.hide D,s1,Cmp.start S1 (er.capt ix) hD,bD _,bD _,rfl,?_⟩,?_⟩
 ·simp
 rintro i k ys H2 ⟨done,m2,s2,C,hi,hy,rfl,eq⟩
 obtain ⟨it1,it2⟩:=it i H2 m2 s2 C.e0 C.sr
 by_cases hlt:i < l.length
 ·right
  have hq:l[i]?=some l[i]:=bh hlt
  obtain ⟨go,yl⟩:=it1 _ hq
  refine ⟨go,fun x H3 hyl=>?_⟩
  obtain ⟨e3,S3,r3⟩:=yl x H3 hyl
  have C3:=C.step hD e3 S3
  rw [fS hlt] at eq
  rw [eq] at P
  rw [l5] at P eq
  refine ⟨some l[i]::lh ix ρ,s2,m2,C3.er.cons r3,S3,?_⟩
  cases ct:t (some l[i]::lh ix ρ) s2 with
  | bad=>rw [ct] at P;exact P.elim
  | ex c3 s3=>rw [ct] at P;exact P.elim
  | ok bt s3 =>
   rw [ct] at P eq
   intro b4 H4 m4 e4 S4 hb
   subst hb
   have C4:=C3.step hD e4 S4
   cases b4 with
   | false =>
    exact Go ⟨l.length - (i+1),by omega,done,m4,s3,C4,hlt,by omega,rfl,eq⟩
   | true =>
    refine Gn ⟨some l[i]::lh ix ρ,s3,m4,C4.er.cons (r3.ext e4),S4,?_⟩
    dsimp only at P eq
    cases cf:f (some l[i]::lh ix ρ) s3 with
    | bad=>rw [cf] at P;exact P.elim
    | ex c5 s5=>rw [cf] at P;exact P.elim
    | ok v s5 =>
     rw [cf] at eq
     intro w H5 m5 e5 S5 r5
     have C5:=C4.step hD e5 S5
     refine ⟨C5.at_,bc (aJ hy (aJ hi hlen)) (by decide),l.length - (i+1),by omega,done++[v],m5,s5,C5.push hD r5,hlt,by simp;omega,rfl,?_⟩
     rw [eq]
     dsimp only
     cases hh:lz t f (lh ix ρ) (l.drop (i+1)) s5 with
     | ok vs s6=>simp [Out.bind]
     | ex c6 s6=>exact absurd hh sk
     | bad=>rfl
 ·left
  have hle:l.length≤i:=gr hlt
  rw [dD hle] at eq
  rw [eq] at P
  unfold lz at P
  obtain ⟨S2',x2'⟩:=C.cell hD fun z=>(S1.hs D z).1 hD
  have P:Post X.K CB (Rep X.K) E (.ok (.ref s2.nx) (s2.add (.lst (done++[])))) H1 m1 s1 Q:=P
  rw [bO] at P
  refine ⟨it2 hle,C.at_,?_⟩
  have P:=P (.ref D) H2 ((m2.bare m1.hid).add s2.nx D [D]) x2' S2'
  have e0:((m2.bare m1.hid).add s2.nx D [D]).ad s2.nx=D:=if_pos rfl
  refine P ?_
  have r:=Rep.ref (K:=X.K) (H:=H2) (m:=(m2.bare m1.hid).add s2.nx D [D]) (s:=s2.add (.lst done)) (n:=s2.nx) (di _)
  rw [e0] at r
  exact r
theorem yA {σ:St}{H:Hp}{Q:VK}{t:XT} (q:TDE X.K CB E (tX fi ix t f) σ H Q):Cf (TDI X.K CB E fi) ix (TDT X.K CB E0 t) (TDE X.K CB E0 f) σ H Q:=by
 obtain ⟨ρ,s,m,er,S,P⟩:=q
 refine ⟨ρ,s,m,er,S,?_⟩
 unfold tX at P
 cases c:fi ρ s with
 | bad=>rw [c] at P;exact P
 | ex c' s'=>rw [c] at P;exact P
 | ok l s1 =>
  rw [c] at P
  dsimp only [Out.bind] at P
  split at P
  ·rename_i hlen
   intro J H1 m1 e1 S1 it D hD
   exact BW S1 (er.ext e1) it hD hlen (Post.shift e1 P)
  ·exact P.elim
theorem yz {i:Nat}{y:Str}{py spos:Pos} (hN:X.N.Nodup) (hiy:X.N[i]?=some y) (hly:X.env.scope.names.lookup y=some .local) (hc:X.calm=true) (S:CompOk X.N X.env.scope scope x fr ix) (hi:DI X CB E (.Name x px) iter fi)
  (ht:∀ cl C s₃ H₃ fp,DIfs (blk X scope cl C (x::fr) s₃ H₃ fp) CB ifs t) (he:∀ cl C s₃ H₃ fp,DE (blk X scope cl C (x::fr) s₃ H₃ fp) CB E0 elt f)
  (hsw:fA (.ListComp elt [⟨.Name x px,iter,ifs,0⟩] scope pos) (some (.Name y py)) spos.line X.env=pure true:=by rfl)
  (hs:∀ v,cN iter X.env v=pure v:=by intro _;rfl):DS X CB E (.Assign [.Name y py] (.ListComp elt [⟨.Name x px,iter,ifs,0⟩] scope pos) spos) (xSet i (tX fi ix t f)) :=
 ⟨(uy hN hiy hly hc S hi.pi (fun cl C s₃ H₃ fp=>(ht cl C s₃ H₃ fp).pifs) (fun cl C s₃ H₃ fp=>(he cl C s₃ H₃ fp).pe) hsw hs).mono fun D σ H ⟨ρ,s,m,er,S,P⟩ =>
  yA ⟨ρ,s,m,er,S,Post.so P fun v s1 u H1 m1 e1 S1 r1 P1=>P1.next S1 ((er.ext e1).set i r1)⟩⟩
theorem DN:CallR X (.builtin "any") (fun xs H Q=>∃ (p:ae) (bs:List Bool),xs=[.ref p]∧SqL X.K H p (bs.map V.bl)∧X.calm=true∧Q (.bl (bs.any id)) H):=by
 intro pins s σ H xs us Q I r h
 obtain ⟨p,bs,rfl,hq,hc,q⟩:=h
 obtain ⟨u,rfl,ru⟩:=oJ r
 cases ru
 obtain ⟨its,rv,pl,hz2⟩:=I.list hq
 have hl:its.length=bs.length:=by have:=rv.length;rw [aj] at this;exact this.symm
 have hne:p≠s.heap.objs.size:=by obtain ⟨o,ho,_⟩:=pl.isList;exact aR (aH ho)
 refine call_any_walk (e8 pl.isList ?_)
 refine ⟨s.heap.objs.size,_,_,its.toArray.size,_,_,fun i=>(bs[i]?).getD false,rfl,jO (show X.A.in1.handled=none from I.ok.hd hc) _ p hne its.toArray,⟨⟨_,ba _ rfl,rfl,rfl⟩,pl.isList.push _⟩,?_,fun h' tk hk=>?_⟩
 ·intro i v s' Q' E' hP hQ
  have hP:its.toArray[i]?=some v:=hP
  have hv:its[i]?=some v:=by simpa using hP
  have hi:i < its.length:=(aW.mp hv).1
  obtain ⟨u',hu',ru'⟩:=rv.get (i:=i) (x:=.bl bs[i]) (by simp [← hl,hi])
  rw [hv] at hu'
  cases hu'
  cases ru'
  refine de ?_
  have e:(bs[i]?).getD false=bs[i]:=by simp [← hl,hi]
  rw [← e]
  exact hQ
 ·have I1:Inv X pins σ H { s with heap:=h',toks:=tk }:=I.kept fun b o e=>hk b o (fun z=>by
   have e1:b=s.heap.objs.size:=by simpa using z
   exact absurd (aH e) (by rw [e1];exact cE _)) (av _ e)
  refine ⟨.bl _,H,I1,rfl,?_⟩
  have e:(cy its.toArray.size).any (fun i=>(bs[i]?).getD false)=bs.any id:=by
   rw [aT,hl,bP,cR,cR]
   constructor
   ·rintro ⟨i,hi,z⟩
    have hi:=ce.mp hi
    exact ⟨bs[i],cm hi,by simpa [hi] using z⟩
   ·rintro ⟨b,hb,z⟩
    obtain ⟨i,hi,rfl⟩:=jG.mp hb
    exact ⟨i,ce.mpr hi,by simpa [hi] using z⟩
  rw [e]
  exact q
theorem Hb {X:Cx}:OpR X (bT .Is) (fun x y H Q=>∃ b c,x=.bl b∧y=.bl c∧Q (.bl (b == c)) H):=by
 intro pins s σ H x y v u Q I rx ry h
 obtain ⟨b,c,rfl,rfl,q⟩:=h
 cases rx
 cases ry
 exact wpAny_is_plain rfl (l6 I q (by cases b <;> cases c <;> rfl))
def FE (v w:PV) (s:Sto):Out PV:=match v,w with
 | .bl b,.bl c=>.ok (.bl (b == c)) s
 | _,_=>.bad
theorem Gy:CmpR X CB E .Is FE:=⟨_,Hb,by
 intro H m s v w x y Q S rx ry P
 unfold FE at P
 split at P
 ·cases rx;cases ry
  exact ⟨_,_,rfl,rfl,P.here S .bl⟩
 ·exact P.elim⟩
def Gu (vs:List PV) (s:Sto):Out PV:=match vs with
 | [v]=>match lsOf s v with
  | some l=>match uY l with
   | some bs=>.ok (.bl (bs.any id)) s
   | none=>.bad
  | none=>.bad
 | _=>.bad
theorem b_any (hc:X.calm=true):BltR X CB E (.builtin "any") Gu:=⟨_,DN,by
 intro H m s v x Q S rx P
 unfold Gu at P
 split at P
 ·cases rx with
  | cons r n =>
   cases n
   split at P
   ·rename_i l hl
    split at P
    ·rename_i bs hb
     obtain ⟨a,vs,rfl,q,r⟩:=r.ls S hl
     have e:=rD r hb
     subst e
     exact ⟨a,bs,rfl,q,hc,P.here S .bl⟩
    ·exact P.elim
   ·exact P.elim
 ·exact P.elim⟩
def FD (v w:PV) (s:Sto):Out PV:=match v,w with
 | .int i,.int j=>if 0≤j∧j≤1000000∧i.natAbs < 2 ^ 64 then .ok (.int (i * 2 ^ j.toNat)) s else .bad
 | _,_=>.bad
theorem o_shl:Op2 X.K CB E (rI GC fun i j=>V.int (i * 2 ^ j.toNat)) FD:=by
 intro H m s v w x y Q S rx ry P
 unfold FD at P
 split at P
 ·cases rx;cases ry
  split at P
  ·rename_i h;exact ⟨_,_,rfl,rfl,h,P.here S .int⟩
  ·exact P.elim
 ·exact P.elim
theorem HJ {a b:bo}{g:XE}{pos:Pos} (ha:DE X CB E a f) (hb:DE X CB E b g):DE X CB E (.BinOp a .LShift b pos) (x2 f g FD):=tV G6 o_shl ha hb
def x6:List PV→Sto→Option (List PV×Sto)
 | [],s=>some ([],s)
 | v::r,s=>match frz1 v s with
  | .ok w s1=>match x6 r s1 with
   | some (r',s2)=>some (w::r',s2)
   | none=>none
  | _=>none
def Gq (v:PV) (s:Sto):Out PV:=match frz1 v s with
 | .ok (.lst l) s1=>match x6 l s1 with
  | some (l',s2)=>.ok (.lst l') s2
  | none=>.bad
 | _=>.bad
def tO (f:XE) (ρ:En) (s:Sto):Out PV:=(f ρ s).bind Gq
theorem zb {K:aa}{H:Hp}{m:Mp}:∀ {l l':List PV}{vs:List V}{s s':Sto},SR K CB H m s→Reps K H m s vs l→x6 l s=some (l',s')→SR K CB H m s'∧Ext H m s H m s'∧Reps K H m s' vs l'
 | [],_,_,_,_,S,r,e=>by cases e;cases r;exact ⟨S,.refl,.nil⟩
 | v::l,l',_,s,s',S,.cons r1 r2,e=>by
  unfold x6 at e
  split at e
  ·rename_i w s1 h1
   split at e
   ·rename_i r' s2 h2
    cases e
    obtain ⟨S1,x1,q1⟩:=S.frz r1 h1
    obtain ⟨S2,x2,q2⟩:=zb S1 (r2.ext x1) h2
    exact ⟨S2,x1.trans x2,.cons (q1.ext x2) q2⟩
   ·cases e
  ·cases e
theorem xS (h:DE X CB E e f):DE X CB E e (tO f):=⟨h.pe.mono fun σ H Q ⟨ρ,s,m,er,S,P⟩=>⟨ρ,s,m,er,S,P.bind fun v s1 u H1 m1 e1 S1 r1 P1=>by
 unfold Gq at P1
 split at P1
 ·rename_i l s2 h2
  obtain ⟨S2,x2,r2⟩:=S1.frz r1 h2
  split at P1
  ·rename_i l' s3 h3
   cases r2 with
   | lst g1 g2 g3 =>
    obtain ⟨S3,x3,r3⟩:=zb S2 g3 h3
    have r4:=Rep.ext x3 (Rep.lst g1 g2 g3)
    cases r4 with
    | lst k1 k2 k3=>exact P1 _ H1 m1 (x2.trans x3) S3 (.lst g1 k2 r3)
  ·exact P1.elim
 ·exact P1.elim⟩⟩
end
def Ag (PT:ae) (H:Hp):Prop:=H PT=some (.tbl #[])∧∀ b,b≠PT→H b=none∨∃ o xs,H b=some (.frz o (.lst xs))
theorem Ca {mg:Str→Option af}{h:bM}{H:Hp}{a PT:ae}{vs:List af} (ha:h.get? a=some { cls:=.type "list",data:=.seq vs.toArray }) (hPT:h.get? PT=some (gA #[])) (hns:h.Ns aq mg)
  (hbm:∃ bm ob,mg "__builtins__"=some (.ref bm)∧bm≠dL∧h.get? bm=some ob∧ob.cls=.type "module"∧ob.dict=some dL∧ob.data=.plain) (hA:∀ b,H b≠none→b=a∨b=PT):we mg (xP h H) PT:=by
 obtain ⟨bm,ob,h1,h2,h3,h4,h5,h6⟩:=hbm
 have nP:bm≠PT:=fun z=>by
  rw [z,hPT] at h3;cases h3;cases h4
 refine ⟨bm,ob,h1,h2,fun z=>?_,nP,y3 h3 ?_,h4,h5,h6⟩
 ·obtain ⟨o,es,ep,e,d,_⟩:=hns
  rw [z,e] at h3
  cases h3
  rw [h6] at d;cases d
 ·cases q:H bm with
  | none=>rfl
  | some u =>
   rcases hA bm (by rw [q];simp) with e | e
   ·rw [e,ha] at h3;cases h3;cases h5
   ·exact absurd e nP
theorem BH {P:aU}{w:bw}{K:aa}{mg mb:Str→Option af}{CX:CXT}{k:Nat}{fa a:ae}{fd:bV}{x:Str}{sp:Sp}{s₁:al}{vs:List af}{ns:List Int}
  (KX:K.In s₁.heap) (hns:s₁.heap.Ns aq mg) (hb:s₁.heap.Ns dL mb) (hbb:∀ x:Str,x≠"__name__"→mb x=bR x) (hlim:s₁.heap.NoLimit) (hg:s₁.gens=#[])
  (ha:s₁.heap.get? a=some { cls:=.type "list",data:=.seq vs.toArray }) (hi:IntsAre vs ns) (hl:ns.length≤aQ) (hr:Room k iK)
  (hbm:∃ bm ob,mg "__builtins__"=some (.ref bm)∧bm≠dL∧s₁.heap.get? bm=some ob∧ob.cls=.type "module"∧ob.dict=some dL∧ob.data=.plain) {PT:ae} (F:∀ base:bM,K.In base→base.Ns aq mg→we mg base PT→FnOk P w K mg base CX k fa fd [x] sp) (hbind:∀ (s:al) (u:af),iO s fd ⟨[u],[]⟩ [(x,u)])
  (hPT:s₁.heap.get? PT=some (gA #[])) (hPK:K.lookup PT=none) (hct:isCodeTable s₁.heap PT) (hsp:∀ H:Hp,Ag PT H→SqL K H a (ns.map V.int)→sp [.ref a] H (fun v _=>v=.bl true) fun _ _ _=>False)
  (hCX:∀ H e s',CX [] H s₁ (fun _ _ _=>False) e s'→False) :
  fT (model P w) iK (.call (.ref fa) ⟨[.ref a],[]⟩) (fun r s'=>r=.ok (.ret (.bool true))∧OldK s₁.heap s'.heap∧s'.os=s₁.os∧gu s'.gens) s₁:=by
 have rv:=wl hi
 have lenV:=hi.length
 have core:∀ H:Hp,Ag PT H→SqL K H a (ns.map V.int)→HOk P w H s₁.heap→(∀ b,H b≠none→b=a∨b=PT)→(H a≠none→K.lookup a=none) →
   fT (model P w) iK (.call (.ref fa) ⟨[.ref a],[]⟩) (fun r s'=>r=.ok (.ret (.bool true))∧OldK s₁.heap s'.heap∧s'.os=s₁.os∧gu s'.gens) s₁:=by
  intro H hO hS hok hA hK
  have base_of:∀ {b:ae}{o:Obj},s₁.heap.get? b=some o→H b=none→(xP s₁.heap H).get? b=some o:=fun e n=>y3 e n
  have noA:∀ {b:ae}{o:Obj}{es:Array DictEntry}{ep:Nat},s₁.heap.get? b=some o→o.data=.dict es ep→H b=none:=fun {b o es ep} e d=>by
   cases q:H b with
   | none=>rfl
   | some u =>
    rcases hA b (by rw [q];simp) with e' | e'
    ·subst e'
     rw [ha] at e;cases e
     have d':Data.seq vs.toArray _=Data.dict es ep:=d
     cases d'
    ·subst e'
     rw [hPT] at e;cases e
     have d':Data.fields #[]=Data.dict es ep:=d
     cases d'
  have nsK:∀ {b:ae}{m:Str→Option af},s₁.heap.Ns b m→(xP s₁.heap H).Ns b m:=fun {b m} ⟨o,es,ep,e,d,r⟩=>⟨o,es,ep,base_of e (noA e d),d,r⟩
  have hKb:K.In (xP s₁.heap H):=fun b o e=>base_of (KX b o e) (by
   cases q:H b with
   | none=>rfl
   | some u =>
    rcases hA b (by rw [q];simp) with e' | e'
    ·subst e'
     rw [hK (by rw [q];simp)] at e;cases e
    ·subst e'
     rw [hPK] at e;cases e)
  have hM:Mod K mg (xP s₁.heap H):=⟨hKb,nsK hns,⟨mb,nsK hb,hbb⟩,let ⟨mc,h1,h2⟩:=hlim;⟨mc,nsK h1,h2⟩⟩
  have e0:Env0 P w K mg (xP s₁.heap H) iK [] s₁ H:=⟨rfl,hM,fun b o e=>Fi e,jz (BP _ _),trivial,fun b hb=>absurd (show b∈([]:List ae) from hb) (by simp),hok,.of_eq hg⟩
  have hBM:we mg (xP s₁.heap H) PT:=Ca ha hPT hns hbm hA
  refine e9 ((F _ hKb (nsK hns) hBM).run iK [] s₁ H ⟨[.ref a],[]⟩ [.ref a] [.ref a] _ _ hr e0 (hbind s₁ (.ref a)) (.cons rfl .nil) (hsp H hO hS)) fun r s' h=>?_
  cases r with
  | error e=>exact (hCX H e s' h).elim
  | ok fl =>
   cases fl with
   | next=>exact bG h
   | brk=>exact bG h
   | cont=>exact bG h
   | ret u =>
    obtain ⟨v,H',os,bare,un,hok',r',q⟩:=h
    have q':v=.bl true:=q
    subst q'
    obtain rfl:u=jS true:=r'
    obtain ⟨more,hm⟩:=un.tbls PT _ hO.1
    have hm':s'.heap.get? PT=some { cls:=.none,data:=.fields (#[]++more) }:=hok' PT _ hm
    have keep:∀ b o,b≠PT→s₁.heap.get? b=some o→s'.heap.get? b=some o:=fun b o hb e=>by
     cases q:H b with
     | none=>exact un.keep b o e q (by intro z;exact absurd (show b∈([]:List ae) from z) (by simp)) (by simp)
     | some u =>
      rcases hO.2 b hb with z | ⟨ob,xs,z⟩
      ·rw [q] at z;cases z
      ·have z2:=un.frzs b ob _ z
       obtain ⟨e1,_⟩:=hok b _ z
       obtain ⟨e2,_⟩:=hok' b _ z2
       rw [e] at e1;cases e1
       exact e2
    refine ⟨rfl,⟨fun b o e=>?_,fun b o e=>?_⟩,os,bare⟩
    ·by_cases hb:b=PT
     ·subst hb
      rw [hPT] at e;cases e
      exact .inr (.inl ⟨hct,rfl,#[],more,rfl,hm'⟩)
     ·exact .inl (keep b o hb e)
    ·by_cases hb:b=PT
     ·subst hb;exact ⟨_,hm'⟩
     ·exact ⟨o,keep b o hb e⟩
 have nPa:PT≠a:=fun z=>by rw [z,ha] at hPT;cases hPT
 cases hk:K.lookup a with
 | some o =>
  have e:=KX a o hk
  rw [ha] at e
  cases e
  have g1:(fun b=>if b=PT then some (HO.tbl #[]) else none:Hp) PT=some (.tbl #[]):=if_pos rfl
  have g2:∀ b,b≠PT→(fun b=>if b=PT then some (HO.tbl #[]) else none:Hp) b=none:=fun b h=>if_neg h
  generalize (fun b=>if b=PT then some (HO.tbl #[]) else none:Hp)=H at g1 g2
  refine core H ⟨g1,fun b hb=>.inl (g2 b hb)⟩ (.inr ⟨_,vs.toArray,_,hk,rfl,rfl,rfl,by rw [aT,lenV];exact hl,by simpa using rv⟩) (fun b u z=>?_) (fun b z=>?_) fun z=>absurd (g2 a nPa.symm) z
  ·by_cases hb:b=PT
   ·subst hb;rw [g1] at z;cases z;exact hPT
   ·rw [g2 b hb] at z;cases z
  ·by_cases hb:b=PT
   ·exact .inr hb
   ·exact absurd (g2 b hb) z
 | none =>
  have g1:(fun b=>if b=PT then some (HO.tbl #[]) else if b=a then some (.frz { cls:=.type "list",data:=.seq vs.toArray } (.lst (ns.map V.int))) else none:Hp) PT=some (.tbl #[]):=if_pos rfl
  have g3:(fun b=>if b=PT then some (HO.tbl #[]) else if b=a then some (.frz { cls:=.type "list",data:=.seq vs.toArray } (.lst (ns.map V.int))) else none:Hp) a=some (.frz { cls:=.type "list",data:=.seq vs.toArray } (.lst (ns.map V.int))):=(if_neg nPa.symm).trans (if_pos rfl)
  have g2:∀ b,b≠PT→b≠a→(fun b=>if b=PT then some (HO.tbl #[]) else if b=a then some (.frz { cls:=.type "list",data:=.seq vs.toArray } (.lst (ns.map V.int))) else none:Hp) b=none:=fun b h h'=>(if_neg h).trans (if_neg h')
  generalize (fun b=>if b=PT then some (HO.tbl #[]) else if b=a then some (.frz { cls:=.type "list",data:=.seq vs.toArray } (.lst (ns.map V.int))) else none:Hp)=H at g1 g2 g3
  refine core H ⟨g1,fun b hb=>?_⟩ (.inl (.inr ⟨{ cls:=.type "list",data:=.seq vs.toArray },g3⟩)) (fun b u z=>?_) (fun b z=>?_) fun _=>hk
  ·by_cases h:b=a
   ·subst h;exact .inr ⟨_,_,g3⟩
   ·exact .inl (g2 b hb h)
  ·by_cases hb:b=PT
   ·subst hb;rw [g1] at z;cases z;exact hPT
   ·by_cases h:b=a
    ·subst h
     rw [g3] at z
     cases z
     exact ⟨ha,by rw [aj];exact hl,vs,_,rv,ha⟩
    ·rw [g2 b hb h] at z;cases z
  ·by_cases hb:b=PT
   ·exact .inr hb
   ·by_cases h:b=a
    ·exact .inl h
    ·exact absurd (g2 b hb h) z
theorem walk_ofT {l:fY}{n k:Nat}{q:aU}{loose:List Str}{XP:(Str→Option af)→bM→Prop}{YP:bw→bM→Prop}{d d':DefRec}{K:Params→aa}{CX:bw→CXT}{sp:bw→Sp}{x lam:Str}
  (hn:l.most=some n) (hn2:n≤aQ) (hdf:d.params.defaults=[]) (hr:Room k iK) (hY:∀ (w:bw) (h:bM),YP w h→(K w.params).In h)
  (hrec:(recsOf q).find? (fun e=>e.name == lam)=some d')
  (F:∀ (w:bw) (mg:Str→Option af) (fa:ae) (h:bM),(K w.params).In h→h.Ns aq mg→mg d.name=some (.ref fa) →
   ∃ (fd:bV) (c P:ae),bW (K w.params) lam=some (c,P)∧(K w.params).lookup P=none∧(∀ (s:al) (u:af),iO s fd ⟨[u],[]⟩ [(x,u)]) ∧
    ∀ base:bM,(K w.params).In base→base.Ns aq mg→(∀ c P,bW (K w.params) lam=some (c,P)→we mg base P)→FnOk l.prog w (K w.params) mg base (CX w) k fa fd [x] (sp w))
  (hsp:∀ (w:bw) (H:Hp) (a:ae) (ns:List Int) (c P:ae),ns.length≤n→bW (K w.params) lam=some (c,P)→Ag P H→SqL (K w.params) H a (ns.map V.int)→sp w [.ref a] H (fun v _=>v=.bl true) fun _ _ _=>False)
  (hCX:∀ (w:bw) (H:Hp) (s:al) (e:af) (s':al),CX w [] H s (fun _ _ _=>False) e s'→False) :
  jQ q loose XP YP l.row.toRowW d [] (fun f vs=>jM f vs):=by
 refine Att.attach_call hn hdf fun w s₀ s₁ mg mb fa o pm cd doc a vs ns G Y ho hd hcd hmg hobj hints hlen hg=>?_
 have KX:=hY w _ Y
 obtain ⟨fd,c,P,ht,hPK,hb,hF⟩:=F w mg fa _ KX G.T.g hmg
 obtain ⟨hc,hP⟩:=PySem.W.tab_of G.T KX hrec ht
 exact BH KX G.T.g G.T.b G.T.builtins G.T.nolimit hg hobj hints (aJ hlen hn2) hr G.T.bmain (fun base b1 b2 b3=>hF base b1 b2 fun c' P' t'=>by rw [ht] at t';cases t';exact b3) hb hP hPK (hc.tab hP).isCodeTable (fun H hO hS=>hsp w H a ns c P hlen ht hO hS) fun H e s'=>hCX w H s₁ e s'
def hdOk (vs:Array af) (c P:ae):Bool:=(match (vs[11]?:Option af) with | some (.ref P')=>P' == P | _=>false) &&
 (match vs.getD 18 .none with | .str _ _=>true | _=>false) && (match vs.getD 7 .none with | .int _ _=>true | _=>false) &&
 (match vs.getD 9 .none with | .bool _=>true | _=>false) && (match vs.getD 10 .none with | .int _ _=>true | _=>false) && c != P
theorem BX {K:aa}{c P:ae}{od:Option ae}{vs:Array af}{sl:Array (Option af)} (h:K.lookup c=some ⟨.type "code",od,.fields vs,sl⟩) (e:hdOk vs c P=true):g9 K c P=true:=by
 unfold g9
 rw [h]
 exact e
theorem Cy {K:aa}{x:Str}{f c P:ae}{oc:af}{od od':Option ae}{fd:bV}{sl sl':Array (Option af)}{cl:af}{vs:Array af} (h1:aw K aq x=some (some (.ref f))) (h2:K.lookup f=some ⟨oc,od,.func fd,sl⟩) (h3:fd.code=.ref c) (h4:K.lookup c=some ⟨cl,od',.fields vs,sl'⟩) (h5:(vs[11]?:Option af)=some (.ref P)):bW K x=some (c,P):=by
 unfold bW
 rw [h1]
 simp only [h2,h3,h4,h5]
end L2
namespace My
open PySem L2
def top (i:Nat):bX:=PySem.Challenge.pw_wholeowners_k36_whole_least_shut_lots.main.body.getD i (.Pass ⟨0,0,0,0⟩)
structure Adr where
 OwnError:ae
 NoName:ae
 Twice:ae
 TooMany:ae
 NoHolder:ae
 NoHouse:ae
 NoLoss:ae
 NoShare:ae
 NoText:ae
 Whole:ae
 Book:ae
 ZERO:ae
 ONE:ae
 HALF:ae
 t8:Tok
 t6:Tok
 u8:Tok
 kx:ae→ae→Bool
def GA (K:aa) (a:ae) (i j:Int):Prop:=∃ (o:Obj) (its:Array af) (n:Nat),K.lookup a=some o∧o.cls=.type "tuple"∧o.data=.seq its n∧its.size≤aQ∧Vals [.int i,.int j] its.toList
structure Txt (K:aa) (mg:Str→Option af) (a:Adr):Prop where
 b_len:mg "len"=none
 b_range:mg "range"=none
 b_all:mg "all"=none
 b_int:mg "int"=none
 b_abs:mg "abs"=none
 b_sorted:mg "sorted"=none
 b_tuple:mg "tuple"=none
 b_list:mg "list"=none
 b_str:mg "str"=none
 b_bool:mg "bool"=none
 b_isinstance:mg "isinstance"=none
 b_ValueError:mg "ValueError"=none
 b_any:mg "any"=none
 b_set:mg "set"=none
 b_max:mg "max"=none
 c_OwnError:mg "OwnError"=some (.ref a.OwnError)
 c_NoName:mg "NoName"=some (.ref a.NoName)
 c_Twice:mg "Twice"=some (.ref a.Twice)
 c_TooMany:mg "TooMany"=some (.ref a.TooMany)
 c_NoHolder:mg "NoHolder"=some (.ref a.NoHolder)
 c_NoHouse:mg "NoHouse"=some (.ref a.NoHouse)
 c_NoLoss:mg "NoLoss"=some (.ref a.NoLoss)
 c_NoShare:mg "NoShare"=some (.ref a.NoShare)
 x_OwnError:Exc K a.OwnError
 x_NoName:Exc K a.NoName
 x_Twice:Exc K a.Twice
 x_TooMany:Exc K a.TooMany
 x_NoHolder:Exc K a.NoHolder
 x_NoHouse:Exc K a.NoHouse
 x_NoLoss:Exc K a.NoLoss
 x_NoShare:Exc K a.NoShare
 g_LONGEST_NAME:mg "LONGEST_NAME"=some (.int 8 a.t8)
 g_MOST_PERSONS:mg "MOST_PERSONS"=some (.int 6 a.t6)
 g_MOST_HOUSES:mg "MOST_HOUSES"=some (.int 8 a.u8)
 g_ZERO:mg "ZERO"=some (.ref a.ZERO)
 g_ONE:mg "ONE"=some (.ref a.ONE)
 g_HALF:mg "HALF"=some (.ref a.HALF)
 zero:GA K a.ZERO 0 1
 one:GA K a.ONE 1 1
 half:GA K a.HALF 1 2
 cl:Cls K a.Book
 nA_people:NoAttr K a.Book "people"
 nA_things_of:NoAttr K a.Book "things_of"
 nA_mark_of:NoAttr K a.Book "mark_of"
 nA_loss_of:NoAttr K a.Book "loss_of"
 nA_held_of:NoAttr K a.Book "held_of"
theorem Txt.r_LONGEST_NAME {K:aa}{mg:Str→Option af}{a:Adr} (T:Txt K mg a):RelV (.int 8) (.int 8 a.t8):=⟨_,rfl⟩
theorem Txt.r_MOST_PERSONS {K:aa}{mg:Str→Option af}{a:Adr} (T:Txt K mg a):RelV (.int 6) (.int 6 a.t6):=⟨_,rfl⟩
theorem Txt.r_MOST_HOUSES {K:aa}{mg:Str→Option af}{a:Adr} (T:Txt K mg a):RelV (.int 8) (.int 8 a.u8):=⟨_,rfl⟩
theorem Txt.r_ZERO {K:aa}{mg:Str→Option af}{a:Adr} (T:Txt K mg a):RelV (.ref a.ZERO) (.ref a.ZERO):=rfl
theorem Txt.r_ONE {K:aa}{mg:Str→Option af}{a:Adr} (T:Txt K mg a):RelV (.ref a.ONE) (.ref a.ONE):=rfl
theorem Txt.r_HALF {K:aa}{mg:Str→Option af}{a:Adr} (T:Txt K mg a):RelV (.ref a.HALF) (.ref a.HALF):=rfl
theorem yF {K:aa}{p:ae}{i j:Int} (h:GA K p i j) (H:Hp) (m:Mp) (s:Sto):Rep K H m s (.ref p) (.tup [.int i,.int j]):=.tup (.inr h) (.cons .int (.cons .int .nil))
def Az:PV:=.tup [.int 0,.int 1]
def AA:PV:=.tup [.int 1,.int 2]
theorem Txt.p_ZERO {K:aa}{mg:Str→Option af}{a:Adr} (T:Txt K mg a) (H:Hp) (m:Mp) (s:Sto):Rep K H m s (.ref a.ZERO) Az:=yF T.zero H m s
theorem Txt.p_HALF {K:aa}{mg:Str→Option af}{a:Adr} (T:Txt K mg a) (H:Hp) (m:Mp) (s:Sto):Rep K H m s (.ref a.HALF) AA:=yF T.half H m s
theorem Cq {A:bL}{k:Nat} (hr:Room k A):A.units+12 < dq:=bc (j7 (by decide:12≤64) _) hr.units
theorem HU:bR "any"=some (.builtin "any"):=by decide +kernel
theorem yesT {te:TE}{cap:St}{H:Hp}{Kt:VK}{Kf:Hp→Prop} (h:te cap H Kt):tYes cap H fun b H4=>if b=true then te cap H4 Kt else Kf H4:=by
 show if true=true then te cap H Kt else Kf H
 rw [if_pos rfl]
 exact h
theorem wy (c:Nat):(!decide ((⟨#[c]⟩:Str).cps.toList < (aD "a").cps.toList))=decide (97≤c):=by
 show (!decide ([c] < [97]))=decide (97≤c)
 rw [bP]
 simp [jC]
theorem Bh (c:Nat):(!decide ((aD "z").cps.toList < (⟨#[c]⟩:Str).cps.toList))=decide (c≤122):=by
 show (!decide ([122] < [c]))=decide (c≤122)
 rw [bP]
 simp [jC]
theorem vq {x:Str}{i c:Nat}{g:Nat→V} (hc:x.cps[i]?=some c):(x.cps.toList.take i).map g++[g c]=(x.cps.toList.take (i+1)).map g:=by
 have hc:x.cps.toList[i]?=some c:=by simpa using hc
 rw [cZ,hc,aY]
 rfl
section
variable {P:aU}{w:bw}{K:aa}{mg:Str→Option af}{base:bM}{a:Adr}{f:ae}{fd:bV}
abbrev qK:bX:=top 35
theorem zI:FnScope ["text"] ["text"] (kh qK):=fsc
def low (c:Nat):Bool:=decide (97≤c) && decide (c≤122)
def sK (x:Str):Bool:=decide (1≤x.length) && decide (x.length≤8) && x.cps.toList.all low
def um:Sp:=fun vs H Q _=>∃ x,vs=[.str x]∧Nm x∧∀ H',Same H H'→Q (.bl (sK x)) H'
theorem zU (F:Fun K "is_name" "is_name" qK f fd) (T:Txt K mg a):FnOk P w K mg base (CXo P w) 1 f fd ["text"] um:=by
 refine F.okN zI (fun vs H Q E h=>?_) (fun cdv A outer s H vs Q E hr h=>?_)
 ·obtain ⟨x,rfl,_⟩:=h
  rfl
 ·obtain ⟨x,rfl,nm,k⟩:=h
  have hu:=kC hr
  refine ⟨_,(@kL _ _ _ (@oz _ _ _ _ (@Eb _ _ _ _ _ _ _ (yT Gg Gg pe_int (@nr _ _ _ _ _ _ _ _ _ call_len_str rfl T.b_len lV (@kA _ _ _ _ _ (pv 0) pa_nil (by rfl)) (by decide) (by decide) (by rfl) (by rfl)) (nW rfl T.g_LONGEST_NAME T.r_LONGEST_NAME)) (@Aq _ _ _ _ _ (@nr _ _ _ _ _ _ _ _ _ zo rfl T.b_all yg (@kA _ _ _ _ _ (uB (fr:=[]) (ix:=[]) rfl (by exact (show CompOk ["text"] (kh qK) _ _ _ _ from cok)) (GX (pv 0)) (fun _ _ _ _ _=>vh) (fun _ _ _ _ _=>(yT wB wB pe_str (pv 0) pe_str))) pa_nil (by rfl)) (by decide) (by decide) (by rfl) (by rfl)))))),?_⟩
  have hlen:x.length≤aQ:=aJ nm.1 (by decide)
  refine ⟨_,rfl,_,rfl,hlen,_,_,rfl,rfl,_,rfl,rB (fun h=>?_) (fun h=>?_)⟩
  ·have h1:(1:Int)≤(x.length:Int):=of_decide_eq_true h
   refine ⟨_,_,rfl,rfl,_,rfl,rB (fun h=>?_) (fun h=>?_)⟩
   ·have h2:(x.length:Int)≤8:=of_decide_eq_true h
    refine ⟨_,rfl,x,rfl,fun D hD=>?_⟩
    refine A4 (J:=Its x) x.cps.size (fun i ys H'=>H'=upd H D (.lst ys)∧ys=(x.cps.toList.take i).map fun c=>V.bl (low c)) ⟨rfl,rfl⟩ hlen (fun i ys H' r=>by rw [r.1];exact km) (fun i ys H' hi _=>hi) ?_ ?_
    ·rintro i ys H' v H'' hi ⟨rfl,rfl⟩ ⟨rfl,c,hc,rfl⟩ Kt Kf k1 k2
     have fin:∀ b,b=low c→Kt (V.bl b) (upd H D (.lst ((x.cps.toList.take i).map fun c=>V.bl (low c)))):=fun b hb=>by
      refine k1 _ _ km ⟨by rw [EK],?_⟩
      rw [hb,vq hc]
     refine yesT ⟨_,rfl,_,_,rfl,rfl,_,rfl,rB (fun h=>?_) (fun h=>?_)⟩
     ·refine ⟨_,_,rfl,rfl,fin _ ?_⟩
      rw [wy] at h
      rw [Bh]
      unfold low
      rw [h,cP]
     ·refine fin _ ?_
      rw [wy] at h
      unfold low
      rw [cz.mpr h,dW]
    ·rintro ys H' hl ⟨rfl,rfl⟩
     have e:List.take x.cps.size x.cps.toList=x.cps.toList:=jq (by simp)
     rw [e]
     refine ⟨aA _,D,x.cps.toList.map low,rfl,SqL.of (by rw [km,aS];rfl),rfl,?_⟩
     have e2:(x.cps.toList.map low).all id=sK x:=by
      have h1:1≤x.length:=by omega
      have h2:x.length≤8:=by omega
      unfold sK
      rw [decide_eq_true h1,decide_eq_true h2,fE,cP,cP]
      rfl
     rw [e2]
     exact k _ (oS hD)
   ·have h2:¬ x.length≤8:=fun z=>h (decide_eq_true (by omega))
    have e2:false=sK x:=by unfold sK;rw [decide_eq_false h2,Bool.and_false,dW]
    show Q (.bl false) H
    rw [e2]
    exact k _ fun _ _ z=>z
  ·have h2:¬ 1≤x.length:=fun z=>h (decide_eq_true (by omega))
   have e2:false=sK x:=by unfold sK;rw [decide_eq_false h2,dW,dW]
   refine ⟨_,rfl,Go ?_⟩
   show Q (.bl false) H
   rw [e2]
   exact k _ fun _ _ z=>z
abbrev p8:bX:=top 36
theorem xl:FnScope ["number"] ["number"] (kh p8):=fsc
def rF (a:Adr):Sp:=fun vs H Q E=>∃ n,vs=[.int n]∧(n < 0→E (.ref a.NoLoss) none H)∧(0≤n→Q .non H)
theorem xr (F:Fun K "need_loss" "need_loss" p8 f fd) (T:Txt K mg a):FnOk P w K mg base (CXo P w) 1 f fd ["number"] (rF a):=by
 refine F.okX xl (fun vs H Q E h=>?_) (fun cdv A outer s H vs Q E hr h=>?_)
 ·obtain ⟨x,rfl,_⟩:=h
  rfl
 ·obtain ⟨n,rfl,k1,k2⟩:=h
  have hu:=kC hr
  refine ⟨_,(@kL _ _ _ (@r8 _ _ _ _ _ _ _ _ (@qV _ _ _ _ _ _ _ _ Gf (pv 0) pe_int (lI _)) (@kL _ _ _ (nk T.x_NoLoss rfl T.c_NoLoss rfl pe_str uH)) pss_nil)),?_⟩
  refine ⟨_,rfl,_,_,rfl,rfl,_,rfl,rB (fun h=>?_) (fun h=>?_)⟩
  ·exact k1 (of_decide_eq_true h)
  ·exact k2 (Int.not_lt.mp fun z=>h (decide_eq_true z))
abbrev qf:bX:=me (top 37) 0
theorem xn:FnScope ["self"] ["self"] (kh qf):=fsc
theorem C1 (dp dt dm dl dh dx:ae):pI "held_of" (.ref dh) (pI "loss_of" (.ref dl) (pI "mark_of" (.ref dm) (pI "things_of" (.ref dt) (pI "people" (.ref dp) []))))=bf ⟨dx,dp,dt,dm,dl,dh⟩:=by
 simp only [pI,if_neg (show ¬ ((aD "people")=aD "things_of") by decide +kernel),if_neg (show ¬ ((aD "people")=aD "mark_of") by decide +kernel),if_neg (show ¬ ((aD "people")=aD "loss_of") by decide +kernel),if_neg (show ¬ ((aD "people")=aD "held_of") by decide +kernel),if_neg (show ¬ ((aD "things_of")=aD "mark_of") by decide +kernel),if_neg (show ¬ ((aD "things_of")=aD "loss_of") by decide +kernel),if_neg (show ¬ ((aD "things_of")=aD "held_of") by decide +kernel),if_neg (show ¬ ((aD "mark_of")=aD "loss_of") by decide +kernel),if_neg (show ¬ ((aD "mark_of")=aD "held_of") by decide +kernel),if_neg (show ¬ ((aD "loss_of")=aD "held_of") by decide +kernel)]
 rfl
structure IniAt (C:ae) (H0 H:Hp) (p dx:ae) (fs:List (Str×V)) (ds:List ae):Prop where
 ob:H p=some (.ins C dx fs)
 dd:∀ c∈ds,H c=some (.dK [])
 fr:∀ c∈ds,H0 c=none
 nd:(p::ds).Nodup
 kp:∀ c o,H0 c=some o→c≠p→H c=some o
 len:fs.length≤ds.length
theorem IniAt.at_ {C:ae}{H0 H:Hp}{p dx d:ae}{fs:List (Str×V)}{ds:List ae} (I:IniAt C H0 H p dx fs ds) (h:H d=none):(upd H d (.dK [])) p=some (.ins C dx fs):=by
 rw [ki (ky I.ob h)]
 exact I.ob
theorem IniAt.step {C:ae}{H0 H:Hp}{p dx d:ae}{fs:List (Str×V)}{ds:List ae}{f:Str} (I:IniAt C H0 H p dx fs ds) (h:H d=none) :
  IniAt C H0 (upd (upd H d (.dK [])) p (.ins C dx (pI f (.ref d) fs))) p dx (pI f (.ref d) fs) (ds++[d]):=by
 have n1:p≠d:=ky I.ob h
 obtain ⟨m1,m2⟩:=aN.mp I.nd
 have m3:d∉ds:=fun z=>by rw [I.dd d z] at h;cases h
 refine ⟨km,fun c hc=>?_,fun c hc=>?_,?_,fun c o e hc=>?_,?_⟩
 ·rcases aO.mp hc with hc | hc
  ·have c1:c≠p:=fun z=>m1 (by rw [← z];exact hc)
   have c2:c≠d:=fun z=>m3 (by rw [← z];exact hc)
   rw [ki c1,ki c2]
   exact I.dd c hc
  ·rw [ax.mp hc,ki n1.symm,km]
 ·rcases aO.mp hc with hc | hc
  ·exact I.fr c hc
  ·rw [ax.mp hc]
   cases q:H0 d with
   | none=>rfl
   | some o=>rw [I.kp d o q n1.symm] at h;cases h
 ·refine aN.mpr ⟨fun z=>?_,sG m2 m3⟩
  rcases aO.mp z with z | z
  ·exact m1 z
  ·exact n1 (ax.mp z)
 ·rw [ki hc,ki (fun z=>by rw [z] at e;rw [I.kp d o e (z ▸ hc)] at h;cases h)]
  exact I.kp c o e hc
 ·rw [aC]
  exact aJ (qi _ _ _) (Nat.add_le_add_right I.len 1)
def ET (K:aa) (C:ae):Sp:=fun vs H Q _=>∃ (p dx:ae),vs=[.ref p]∧H p=some (.ins C dx [])∧∀ z H',(∀ c∈[z.dp,z.dt,z.dm,z.dl,z.dh],H c=none)→BookAt K C H' p z [] []→(∀ c o,H c=some o→c≠p→H' c=some o)→Q .non H'
theorem Fh (F:Fun K "__init__" "Book.__init__" qf f fd) (T:Txt K mg a):FnOk P w K mg base (CXo P w) 1 f fd ["self"] (ET K a.Book):=by
 refine F.okN xn (fun vs H Q E h=>?_) (fun cdv A outer s H vs Q E hr h=>?_)
 ·obtain ⟨p,dx,rfl,_⟩:=h
  rfl
 ·obtain ⟨p,dx,rfl,hp,k⟩:=h
  have hu:=kC hr
  refine ⟨_,(@kD _ _ _ _ _ (vA (pv 0) pe_dnewK rfl) (@kD _ _ _ _ _ (vA (pv 0) pe_dnewK rfl) (@kD _ _ _ _ _ (vA (pv 0) pe_dnewK rfl) (@kD _ _ _ _ _ (vA (pv 0) pe_dnewK rfl) (@kL _ _ _ (vA (pv 0) pe_dnewK rfl)))))),?_⟩
  have I0:IniAt a.Book H H p dx [] []:=⟨hp,by simp,by simp,by simp,fun c o e _=>e,aA _⟩
  intro dp h1
  refine ⟨_,rfl,p,_,dx,_,rfl,I0.at_ h1,T.cl,T.nA_people,bc I0.len (show 0 < 1000 by decide),?_⟩
  have I1:=I0.step (f:="people") h1
  intro dt h2
  refine ⟨_,rfl,p,_,dx,_,rfl,I1.at_ h2,T.cl,T.nA_things_of,bc I1.len (show 1 < 1000 by decide),?_⟩
  have I2:=I1.step (f:="things_of") h2
  intro dm h3
  refine ⟨_,rfl,p,_,dx,_,rfl,I2.at_ h3,T.cl,T.nA_mark_of,bc I2.len (show 2 < 1000 by decide),?_⟩
  have I3:=I2.step (f:="mark_of") h3
  intro dl h4
  refine ⟨_,rfl,p,_,dx,_,rfl,I3.at_ h4,T.cl,T.nA_loss_of,bc I3.len (show 3 < 1000 by decide),?_⟩
  have I4:=I3.step (f:="loss_of") h4
  intro dh h5
  refine ⟨_,rfl,p,_,dx,_,rfl,I4.at_ h5,T.cl,T.nA_held_of,bc I4.len (show 4 < 1000 by decide),?_⟩
  have I5:=I4.step (f:="held_of") h5
  refine k ⟨dx,dp,dt,dm,dl,dh⟩ _ (fun c hc=>I5.fr c (by simpa using hc)) ⟨?_,I5.dd dp (by simp),I5.dd dt (by simp),I5.dd dm (by simp),I5.dd dl (by simp),⟨[],I5.dd dh (by simp),.nil,cT⟩,fun e he=>(by cases he),I5.nd,bD _,bD _⟩ I5.kp
  rw [← C1]
  exact I5.ob
abbrev nc:bX:=me (top 37) 1
theorem sD:FnScope ["self","name"] ["self","name"] (kh nc):=fsc
def oh (K:aa) (C:ae):Sp:=fun vs H Q _=>∃ b z ppl L x,vs=[.ref b,.str x]∧BookAt K C H b z ppl L∧Q (.bl (mU L x)) H
theorem yu (F:Fun K "is_house" "Book.is_house" nc f fd) (T:Txt K mg a):FnOk P w K mg base (CXo P w) 1 f fd ["self","name"] (oh K a.Book):=by
 refine F.okN sD (fun vs H Q E h=>?_) (fun cdv A outer s H vs Q E hr h=>?_)
 ·obtain ⟨b,z,ppl,L,x,rfl,_⟩:=h
  rfl
 ·obtain ⟨b,z,ppl,L,x,rfl,B,k⟩:=h
  have hu:=kC hr
  refine ⟨_,(@kL _ _ _ (@oz _ _ _ _ (Ea (Ec hu (pv 1) (nA (pv 0) rfl))))),?_⟩
  refine ⟨_,rfl,_,rfl,b,_,_,_,_,rfl,B.ob,T.cl,T.nA_held_of,rg z,_,_,rfl,B.hh.dget x,?_⟩
  rw [oG,cX]
  exact k
abbrev mQ:bX:=me (top 37) 2
theorem rE:FnScope ["self","name"] ["self","name"] (kh mQ):=fsc
def pf (K:aa) (C:ae):Sp:=fun vs H Q _=>∃ b z ppl L x,vs=[.ref b,.str x]∧BookAt K C H b z ppl L∧Q (.bl (lY ppl x || mU L x)) H
theorem xt (F:Fun K "is_holder" "Book.is_holder" mQ f fd) (T:Txt K mg a) (M_is_house:Mt P w K mg base a.Book "is_house" 1 ["self","name"] (oh K a.Book)):FnOk P w K mg base (CXo P w) 2 f fd ["self","name"] (pf K a.Book):=by
 refine F.okN rE (fun vs H Q E h=>?_) (fun cdv A outer s H vs Q E hr h=>?_)
 ·obtain ⟨b,z,ppl,L,x,rfl,_⟩:=h
  rfl
 ·obtain ⟨b,z,ppl,L,x,rfl,B,k⟩:=h
  have hu:=kC hr
  refine ⟨_,(@kL _ _ _ (@oz _ _ _ _ (@pe_or _ _ _ _ _ _ _ (Ea (Ec hu (pv 1) (nA (pv 0) rfl))) (@Aq _ _ _ _ _ (qL (pv 0) M_is_house (hr.mono (by first | decide | omega)) kM (@kA _ _ _ _ _ (pv 1) pa_nil (by rfl))))))),?_⟩
  refine ⟨_,rfl,_,rfl,b,_,_,_,_,rfl,B.ob,T.cl,T.nA_people,qR z,_,_,rfl,DGet.k (k:=aE x) B.pp,_,rfl,rB (fun h=>?_) (fun h=>?_)⟩
  ·rw [oG (key:=fun n=>n),cX] at h
   unfold lY at k
   rw [h] at k
   exact k
  ·rw [oG (key:=fun n=>n),cX] at h
   unfold lY at k
   rw [cz.mpr h] at k
   exact ⟨_,rfl,b,_,_,rfl,B.ob,pW z (by decide +kernel) (by decide +kernel) (by decide +kernel) (by decide +kernel) (by decide +kernel),_,rfl,b,z,ppl,L,x,rfl,B,k⟩
abbrev mn:bX:=me (top 37) 3
theorem rj:FnScope ["self","name"] ["self","name"] (kh mn):=fsc
def mS (K:aa) (a:Adr):Sp:=fun vs H Q E=>∃ b z ppl L x,vs=[.ref b,.str x]∧BookAt K a.Book H b z ppl L∧Nm x∧(mU L x=true→Q .non H)∧(mU L x=false→E (.ref a.NoHouse) none H)
theorem vG (F:Fun K "need_house" "Book.need_house" mn f fd) (T:Txt K mg a) (M_is_house:Mt P w K mg base a.Book "is_house" 1 ["self","name"] (oh K a.Book)):FnOk P w K mg base (CXo P w) 2 f fd ["self","name"] (mS K a):=by
 refine F.okX rj (fun vs H Q E h=>?_) (fun cdv A outer s H vs Q E hr h=>?_)
 ·obtain ⟨b,z,ppl,L,x,rfl,_⟩:=h
  rfl
 ·obtain ⟨b,z,ppl,L,x,rfl,B,nm,k1,k2⟩:=h
  have hu:=kC hr
  refine ⟨_,(@kL _ _ _ (@r8 _ _ _ _ _ _ _ _ (vz (rT (qL (pv 0) M_is_house (hr.mono (by first | decide | omega)) kQ (@kA _ _ _ _ _ (pv 1) pa_nil (by rfl))))) (@kL _ _ _ (nk T.x_NoHouse rfl T.c_NoHouse rfl (zN (vB (tZ (pv 1) vC))) uH)) pss_nil)),?_⟩
  refine ⟨_,rfl,b,_,_,rfl,B.ob,pW z (by decide +kernel) (by decide +kernel) (by decide +kernel) (by decide +kernel) (by decide +kernel),_,rfl,b,z,ppl,L,x,rfl,B,_,rfl,rB (fun h=>?_) (fun h=>?_)⟩
  ·exact ⟨_,rfl,⟨x,rfl,nm⟩,fun y=>k2 (nbT h)⟩
  ·exact k1 (nbF h)
abbrev lX:bX:=me (top 37) 4
theorem qp:FnScope ["self","name"] ["self","name"] (kh lX):=fsc
def mq (K:aa) (a:Adr):Sp:=fun vs H Q E=>∃ b z ppl L x,vs=[.ref b,.str x]∧BookAt K a.Book H b z ppl L∧Nm x∧((lY ppl x || mU L x)=true→Q .non H)∧((lY ppl x || mU L x)=false→E (.ref a.NoHolder) none H)
theorem uf (F:Fun K "need_holder" "Book.need_holder" lX f fd) (T:Txt K mg a) (M_is_holder:Mt P w K mg base a.Book "is_holder" 2 ["self","name"] (pf K a.Book)):FnOk P w K mg base (CXo P w) 3 f fd ["self","name"] (mq K a):=by
 refine F.okX qp (fun vs H Q E h=>?_) (fun cdv A outer s H vs Q E hr h=>?_)
 ·obtain ⟨b,z,ppl,L,x,rfl,_⟩:=h
  rfl
 ·obtain ⟨b,z,ppl,L,x,rfl,B,nm,k1,k2⟩:=h
  have hu:=kC hr
  refine ⟨_,(@kL _ _ _ (@r8 _ _ _ _ _ _ _ _ (vz (rT (qL (pv 0) M_is_holder (hr.mono (by first | decide | omega)) kQ (@kA _ _ _ _ _ (pv 1) pa_nil (by rfl))))) (@kL _ _ _ (nk T.x_NoHolder rfl T.c_NoHolder rfl (zN (vB (tZ (pv 1) vC))) uH)) pss_nil)),?_⟩
  refine ⟨_,rfl,b,_,_,rfl,B.ob,pW z (by decide +kernel) (by decide +kernel) (by decide +kernel) (by decide +kernel) (by decide +kernel),_,rfl,b,z,ppl,L,x,rfl,B,_,rfl,rB (fun h=>?_) (fun h=>?_)⟩
  ·exact ⟨_,rfl,⟨x,rfl,nm⟩,fun y=>k2 (nbT h)⟩
  ·exact k1 (nbF h)
abbrev lK:bX:=me (top 37) 5
theorem pN:FnScope ["self","name"] ["self","name"] (kh lK):=fsc
def oA (a:Adr) (ppl:List Str) (L:List (Ent×ae)) (x:Str):Option ae:=if sK x=false then some a.NoName else if (lY ppl x || mU L x)=true then some a.Twice else none
def p7 (K:aa) (a:Adr):Sp:=fun vs H Q E=>∃ b z ppl L x,vs=[.ref b,.str x]∧BookAt K a.Book H b z ppl L∧Nm x∧(oA a ppl L x=none→∀ H',Same H H'→Q .non H')∧(∀ c,oA a ppl L x=some c→∀ H',Same H H'→E (.ref c) none H')
theorem yr (F:Fun K "need_new_name" "Book.need_new_name" lK f fd) (T:Txt K mg a) (F_is_name:Fn P w K mg base "is_name" 1 ["text"] um) (M_is_holder:Mt P w K mg base a.Book "is_holder" 2 ["self","name"] (pf K a.Book)):FnOk P w K mg base (CXo P w) 3 f fd ["self","name"] (p7 K a):=by
 refine F.okX pN (fun vs H Q E h=>?_) (fun cdv A outer s H vs Q E hr h=>?_)
 ·obtain ⟨b,z,ppl,L,x,rfl,_⟩:=h
  rfl
 ·obtain ⟨b,z,ppl,L,x,rfl,B,nm,k1,k2⟩:=h
  have hu:=kC hr
  refine ⟨_,(@kD _ _ _ _ _ (@r8 _ _ _ _ _ _ _ _ (vz (rT (@sd _ _ _ _ _ _ _ _ _ _ _ F_is_name (hr.mono (by first | decide | omega)) rfl kQ (@kA _ _ _ _ _ (pv 1) pa_nil (by rfl)) (by decide) (by rfl) (by rfl)))) (@kL _ _ _ (nk T.x_NoName rfl T.c_NoName rfl (zN (vB (tZ (pv 1) vC))) uH)) pss_nil) (@kL _ _ _ (@r8 _ _ _ _ _ _ _ _ (rT (qL (pv 0) M_is_holder (hr.mono (by first | decide | omega)) kQ (@kA _ _ _ _ _ (pv 1) pa_nil (by rfl)))) (@kL _ _ _ (nk T.x_Twice rfl T.c_Twice rfl (zN (vB (tZ (pv 1) vC))) uH)) pss_nil))),?_⟩
  refine ⟨_,rfl,x,rfl,nm,fun H1 s1=>⟨_,rfl,rB (fun h=>?_) (fun h=>?_)⟩⟩
  ·refine ⟨_,rfl,⟨x,rfl,nm⟩,fun y=>k2 _ ?_ H1 s1⟩
   have h:sK x=false:=nbT h
   unfold oA
   rw [if_pos h]
  ·have h:sK x=true:=nbF h
   have B1:=B.same s1
   refine ⟨_,rfl,b,_,_,rfl,B1.ob,pW z (by decide +kernel) (by decide +kernel) (by decide +kernel) (by decide +kernel) (by decide +kernel),_,rfl,b,z,ppl,L,x,rfl,B1,_,rfl,rB (fun h2=>?_) (fun h2=>?_)⟩
   ·refine ⟨_,rfl,⟨x,rfl,nm⟩,fun y=>k2 _ ?_ H1 s1⟩
    unfold oA
    rw [if_neg (by rw [h];decide),if_pos h2]
   ·refine k1 ?_ H1 s1
    unfold oA
    rw [if_neg (by rw [h];decide),if_neg h2]
end
mutual
inductive D where
 | i (n:Int)
 | s (x:Str)
 | l (xs:DL)
 | t (xs:DL)
inductive DL where
 | nil
 | cons (x:D) (xs:DL)
end
mutual
def DAt (K:aa) (H:Hp):D→V→Prop
 | .i n,v=>v=.int n
 | .s x,v=>v=.str x
 | .l xs,v=>∃ a vs,v=.ref a∧SqL K H a vs∧DLAt K H xs vs
 | .t xs,v=>∃ a vs,v=.ref a∧SqT K H a vs∧DLAt K H xs vs
def DLAt (K:aa) (H:Hp):DL→List V→Prop
 | .nil,vs=>vs=[]
 | .cons x xs,vs=>∃ v r,vs=v::r∧DAt K H x v∧DLAt K H xs r
end
theorem CS {K:aa}{H H':Hp}{a:ae}{xs:List V} (s:Same H H') (h:SqL K H a xs):SqL K H' a xs:=Same.seq s h
theorem yO {K:aa}{H H':Hp}{a:ae}{xs:List V} (s:Same H H') (h:SqT K H a xs):SqT K H' a xs:=qU h fun c o e _=>s c o e
mutual
theorem DAt.same {K:aa}{H H':Hp} (s:Same H H'):∀ (d:D) (v:V),DAt K H d v→DAt K H' d v
 | .i n,v,h=>h
 | .s x,v,h=>h
 | .l xs,v,h=>by
  obtain ⟨a,vs,e,q,r⟩:=h
  exact ⟨a,vs,e,CS s q,DLAt.same s xs vs r⟩
 | .t xs,v,h=>by
  obtain ⟨a,vs,e,q,r⟩:=h
  exact ⟨a,vs,e,yO s q,DLAt.same s xs vs r⟩
theorem DLAt.same {K:aa}{H H':Hp} (s:Same H H'):∀ (d:DL) (vs:List V),DLAt K H d vs→DLAt K H' d vs
 | .nil,vs,h=>h
 | .cons x xs,vs,h=>by
  obtain ⟨v,r,e,h1,h2⟩:=h
  exact ⟨v,r,e,DAt.same s x v h1,DLAt.same s xs r h2⟩
end
def lv (l:List (Str×Int×Int)) (n:Str):Str×Int×Int:=(l.find? fun q=>decide (q.1=n)).getD (n,0,1)
def ms (L:List (Ent×ae)) (n:Str):Option (Ent×ae):=L.find? fun e=>decide (e.1.nm=n)
theorem oO {L:List (Ent×ae)}{n:Str}{e:Ent×ae} (h:ms L n=some e):e∈L:=d8 h
section
variable {P:aU}{w:bw}{K:aa}{mg:Str→Option af}{base:bM}{a:Adr}{f:ae}{fd:bV}
abbrev ou:bX:=me (top 37) 6
theorem ud:FnScope ["self","name"] ["self","name"] (kh ou):=fsc
def qX (a:Adr) (ppl:List Str) (L:List (Ent×ae)) (x:Str):Option ae:=match oA a ppl L x with
 | some c=>some c
 | none=>if 6≤ppl.length then some a.TooMany else none
def ww (K:aa) (a:Adr):Sp:=fun vs H Q E=>∃ b z ppl L x,vs=[.ref b,.str x]∧BookAt K a.Book H b z ppl L∧Nm x ∧
 (qX a ppl L x=none→∀ H',BookAt K a.Book H' b z (ppl++[x]) L→(∀ c o,H c=some o→c≠z.dp→H' c=some o)→Q .non H')∧(∀ c,qX a ppl L x=some c→∀ H',Same H H'→E (.ref c) none H')
theorem tD {ppl:List Str}{L:List (Ent×ae)}{x:Str} (h:oA a ppl L x=none):sK x=true∧lY ppl x=false∧mU L x=false:=by
 unfold oA at h
 split at h
 ·cases h
 ·split at h
  ·cases h
  ·rename_i h1 h2
   have h2:¬ (lY ppl x || mU L x)=true:=h2
   refine ⟨by simpa using h1,?_,?_⟩
   ·cases q:lY ppl x with
    | false=>rfl
    | true=>rw [q] at h2;exact absurd rfl h2
   ·cases q:mU L x with
    | false=>rfl
    | true=>rw [q,Bool.or_true] at h2;exact absurd rfl h2
theorem Bx (F:Fun K "person" "Book.person" ou f fd) (T:Txt K mg a) (M_need_new_name:Mt P w K mg base a.Book "need_new_name" 3 ["self","name"] (p7 K a)):FnOk P w K mg base (CXo P w) 4 f fd ["self","name"] (ww K a):=by
 refine F.okX ud (fun vs H Q E h=>?_) (fun cdv A outer s H vs Q E hr h=>?_)
 ·obtain ⟨b,z,ppl,L,x,rfl,_⟩:=h
  rfl
 ·obtain ⟨b,z,ppl,L,x,rfl,B,nm,k1,k2⟩:=h
  have hu:=kC hr
  refine ⟨_,(@kD _ _ _ _ _ (@nq _ _ _ _ (qL (pv 0) M_need_new_name (hr.mono (by first | decide | omega)) kQ (@kA _ _ _ _ _ (pv 1) pa_nil (by rfl))) (by rfl)) (@kD _ _ _ _ _ (@r8 _ _ _ _ _ _ _ _ (@qV _ _ _ _ _ _ _ _ Ez (@nr _ _ _ _ _ _ _ _ _ w6 rfl T.b_len lV (@kA _ _ _ _ _ (nA (pv 0) rfl) pa_nil (by rfl)) (by decide) (by decide) (by rfl) (by rfl)) (nW rfl T.g_MOST_PERSONS T.r_MOST_PERSONS) (lI _)) (@kL _ _ _ (nk T.x_TooMany rfl T.c_TooMany rfl pe_str uH)) pss_nil) (@kL _ _ _ (pQ hu (nA (pv 0) rfl) (pv 1) pe_bl rfl)))),?_⟩
  refine ⟨_,rfl,b,_,_,rfl,B.ob,pW z (by decide +kernel) (by decide +kernel) (by decide +kernel) (by decide +kernel) (by decide +kernel),_,rfl,b,z,ppl,L,x,rfl,B,nm,fun hd H1 s1=>?_,fun c hc H1 s1=>?_⟩
  ·have B1:=B.same s1
   refine ⟨_,rfl,b,_,_,_,_,rfl,B1.ob,T.cl,T.nA_people,qR z,_,_,rfl,B1.pp,_,_,rfl,rfl,_,rfl,rB (fun h=>?_) (fun h=>?_)⟩
   ·refine k2 _ ?_ H1 s1
    unfold qX
    rw [hd]
    have h:(6:Int)≤((ppl.map fun n=>((aE n:Key),V.bl true)).length:Int):=of_decide_eq_true h
    rw [aj] at h
    exact if_pos (by omega)
   ·have h:¬ (6:Int)≤((ppl.map fun n=>((aE n:Key),V.bl true)).length:Int):=fun z=>h (decide_eq_true z)
    rw [aj] at h
    have hl:ppl.length < 6:=by omega
    have hno:m7 (ppl.map fun n=>((aE n:Key),V.bl true)) (aE x)=none:=by
     rw [oG (key:=fun n=>n)]
     have:=(tD hd).2.1
     unfold lY at this
     rw [gh]
     exact fD.mp this |> fL.mp
    refine ⟨_,rfl,b,_,_,_,_,rfl,B1.ob,T.cl,T.nA_people,qR z,_,rfl,_,_,rfl,DPut.k (k:=aE x) B1.pp (by rw [aj];exact ay hl (by decide)),?_⟩
    have hdue:qX a ppl L x=none:=by
     unfold qX
     rw [hd]
     exact if_neg (by omega)
    refine k1 hdue _ ?_ fun c o e hc=>by rw [ki hc];exact s1 c o e
    obtain ⟨hb,hr1⟩:=aN.mp B1.nd
    obtain ⟨hp,hr2⟩:=aN.mp hr1
    have ne:∀ c,c∈z.dt::z.dm::z.dl::z.dh::L.map (·.2)→c≠z.dp:=fun c hc e=>hp (e ▸ hc)
    refine ⟨?_,?_,?_,?_,?_,?_,fun e he=>?_,B1.nd,by rw [aC];simp;omega,B1.h8⟩
    ·rw [ki (fun e=>hb (by rw [e];simp))];exact B1.ob
    ·rw [km,qw _ hno,aY];rfl
    ·rw [ki (ne _ (by simp))];exact B1.tt
    ·rw [ki (ne _ (by simp))];exact B1.mm
    ·rw [ki (ne _ (by simp))];exact B1.ll
    ·exact B1.hh.keep fun o h=>by rw [ki (ne _ (by simp))];exact h
    ·refine (B1.he e he).keep (fun o h=>?_) fun c o h x=>?_
     ·rw [ki (ne _ (by simp only [ai];right;right;right;right;exact ak.mpr ⟨e,he,rfl⟩))];exact h
     ·rw [ki (zX h B1.pp (by rcases x with ⟨xs,rfl | ⟨ob,rfl⟩⟩ <;> intro z <;> cases z))];exact h
  ·refine k2 c ?_ H1 s1
   unfold qX
   rw [hc]
abbrev pA:bX:=me (top 37) 7
theorem vy:FnScope ["self","name","owner","things","mark","loss"] ["self","name","owner","things","mark","loss"] (kh pA):=fsc
def oV (a:Adr) (ppl:List Str) (L:List (Ent×ae)) (x o:Str) (l:Int):Option ae:=match oA a ppl L x with
 | some c=>some c
 | none=>if (lY ppl o || mU L o)=false then some a.NoHolder else if l < 0 then some a.NoLoss else if 8≤L.length then some a.TooMany else none
def yL (K:aa) (a:Adr):Sp:=fun vs H Q E=>∃ b z ppl L x o t m l,vs=[.ref b,.str x,.str o,.int t,.int m,.int l]∧BookAt K a.Book H b z ppl L∧Nm x∧Nm o ∧
 (oV a ppl L x o l=none→∀ p H',H p=none→BookAt K a.Book H' b z ppl (L++[(⟨x,t,m,l,[(o,1,1)]⟩,p)])→(∀ c u,H c=some u→c∉[z.dt,z.dm,z.dl,z.dh]→H' c=some u)→Q .non H')∧(∀ c,oV a ppl L x o l=some c→∀ H',Same H H'→E (.ref c) none H')
theorem m8 {L:List (Ent×ae)}{x:Str} (v:Ent×ae→V) (h:mU L x=false):m7 (L.map fun e=>((aE e.1.nm:Key),v e)) (aE x)=none:=by
 rw [oG (key:=fun e:Ent×ae=>e.1.nm)]
 unfold mU at h
 rw [gh]
 exact fD.mp h |> fL.mp
theorem Dk (F:Fun K "house" "Book.house" pA f fd) (T:Txt K mg a) (M_need_new_name:Mt P w K mg base a.Book "need_new_name" 3 ["self","name"] (p7 K a)) (M_need_holder:Mt P w K mg base a.Book "need_holder" 3 ["self","name"] (mq K a))
  (F_need_loss:Fn P w K mg base "need_loss" 1 ["number"] (rF a)):FnOk P w K mg base (CXo P w) 4 f fd ["self","name","owner","things","mark","loss"] (yL K a):=by
 refine F.okX vy (fun vs H Q E h=>?_) (fun cdv A outer s H vs Q E hr h=>?_)
 ·obtain ⟨b,z,ppl,L,x,o,t,m,l,rfl,_⟩:=h
  rfl
 ·obtain ⟨b,z,ppl,L,x,o,t,m,l,rfl,B,nm,no,k1,k2⟩:=h
  have hu:=kC hr
  refine ⟨_,(@kD _ _ _ _ _ (@nq _ _ _ _ (qL (pv 0) M_need_new_name (hr.mono (by first | decide | omega)) kQ (@kA _ _ _ _ _ (pv 1) pa_nil (by rfl))) (by rfl)) (@kD _ _ _ _ _ (@nq _ _ _ _ (qL (pv 0) M_need_holder (hr.mono (by first | decide | omega)) kQ (@kA _ _ _ _ _ (pv 2) pa_nil (by rfl))) (by rfl)) (@kD _ _ _ _ _ (@nq _ _ _ _ (@sd _ _ _ _ _ _ _ _ _ _ _ F_need_loss (hr.mono (by first | decide | omega)) rfl kQ (@kA _ _ _ _ _ (pv 5) pa_nil (by rfl)) (by decide) (by rfl) (by rfl)) (by rfl)) (@kD _ _ _ _ _ (@r8 _ _ _ _ _ _ _ _ (@qV _ _ _ _ _ _ _ _ Ez (@nr _ _ _ _ _ _ _ _ _ w6 rfl T.b_len lV (@kA _ _ _ _ _ (nA (pv 0) rfl) pa_nil (by rfl)) (by decide) (by decide) (by rfl) (by rfl)) (nW rfl T.g_MOST_HOUSES T.r_MOST_HOUSES) (lI _)) (@kL _ _ _ (nk T.x_TooMany rfl T.c_TooMany rfl pe_str uH)) pss_nil) (@kD _ _ _ _ _ (pQ hu (nA (pv 0) rfl) (pv 1) (pv 3) rfl) (@kD _ _ _ _ _ (pQ hu (nA (pv 0) rfl) (pv 1) (pv 4) rfl) (@kD _ _ _ _ _ (pQ hu (nA (pv 0) rfl) (pv 1) (pv 5) rfl) (@kL _ _ _ (pQ hu (nA (pv 0) rfl) (pv 1) (AO (yS (pv 2) (nW rfl T.g_ONE T.r_ONE) AM) rfl rfl (by decide) (by decide)) rfl))))))))),?_⟩
  refine ⟨_,rfl,b,_,_,rfl,B.ob,pW z (by decide +kernel) (by decide +kernel) (by decide +kernel) (by decide +kernel) (by decide +kernel),_,rfl,b,z,ppl,L,x,rfl,B,nm,fun hd H1 s1=>?_,fun c hc H1 s1=>?_⟩
  ·have B1:=B.same s1
   refine ⟨_,rfl,b,_,_,rfl,B1.ob,pW z (by decide +kernel) (by decide +kernel) (by decide +kernel) (by decide +kernel) (by decide +kernel),_,rfl,b,z,ppl,L,o,rfl,B1,no,fun ho=>?_,fun ho=>?_⟩
   ·refine ⟨_,rfl,l,rfl,fun hl=>?_,fun hl=>?_⟩
    ·refine k2 _ ?_ H1 s1
     unfold oV
     rw [hd]
     show (if (lY ppl o || mU L o)=false then some a.NoHolder else _)=_
     rw [if_neg (by rw [ho];decide),if_pos hl]
    ·obtain ⟨Th,eh,ph,nh⟩:=B1.hh
     have lTh:Th.length=L.length:=by rw [ph.length_eq,aj]
     refine ⟨_,rfl,b,_,_,_,_,rfl,B1.ob,T.cl,T.nA_held_of,rg z,_,_,rfl,eh,_,_,rfl,rfl,_,rfl,rB (fun h=>?_) (fun h=>?_)⟩
     ·refine k2 _ ?_ H1 s1
      have h:(8:Int)≤(Th.length:Int):=of_decide_eq_true h
      rw [lTh] at h
      unfold oV
      rw [hd]
      show (if (lY ppl o || mU L o)=false then some a.NoHolder else _)=_
      rw [if_neg (by rw [ho];decide),if_neg (by omega),if_pos (by omega)]
     ·have h:¬ (8:Int)≤(Th.length:Int):=fun z=>h (decide_eq_true z)
      rw [lTh] at h
      have hl8:L.length < 8:=by omega
      have hdue:oV a ppl L x o l=none:=by
       unfold oV
       rw [hd]
       show (if (lY ppl o || mU L o)=false then some a.NoHolder else _)=_
       rw [if_neg (by rw [ho];decide),if_neg (by omega),if_neg (by omega)]
      have hx:=(tD hd).2.2
      have sz:∀ {v:Ent×ae→V},(L.map fun e=>((aE e.1.nm:Key),v e)).length < aQ:=fun {v}=>by rw [aj];exact ay hl8 (by decide)
      obtain ⟨hb,r1⟩:=aN.mp B1.nd
      obtain ⟨hp,r2⟩:=aN.mp r1
      obtain ⟨ht,r3⟩:=aN.mp r2
      obtain ⟨hm,r4⟩:=aN.mp r3
      obtain ⟨hll,r5⟩:=aN.mp r4
      obtain ⟨hh,r6⟩:=aN.mp r5
      refine ⟨_,rfl,_,rfl,b,_,_,_,_,rfl,B1.ob,T.cl,T.nA_things_of,Cc z,_,rfl,_,_,rfl,DPut.k (k:=aE x) B1.tt sz,?_⟩
      have b_t:b≠z.dt:=fun e=>hb (by rw [e];simp)
      have b_m:b≠z.dm:=fun e=>hb (by rw [e];simp)
      have b_l:b≠z.dl:=fun e=>hb (by rw [e];simp)
      have b_h:b≠z.dh:=fun e=>hb (by rw [e];simp)
      have p_t:z.dp≠z.dt:=fun e=>hp (by rw [e];simp)
      have p_m:z.dp≠z.dm:=fun e=>hp (by rw [e];simp)
      have p_l:z.dp≠z.dl:=fun e=>hp (by rw [e];simp)
      have p_h:z.dp≠z.dh:=fun e=>hp (by rw [e];simp)
      have t_m:z.dt≠z.dm:=fun e=>ht (by rw [e];simp)
      have t_l:z.dt≠z.dl:=fun e=>ht (by rw [e];simp)
      have t_h:z.dt≠z.dh:=fun e=>ht (by rw [e];simp)
      have m_l:z.dm≠z.dl:=fun e=>hm (by rw [e];simp)
      have m_h:z.dm≠z.dh:=fun e=>hm (by rw [e];simp)
      have l_h:z.dl≠z.dh:=fun e=>hll (by rw [e];simp)
      refine ⟨_,rfl,_,rfl,b,_,_,_,_,rfl,(by rw [ki b_t];exact B1.ob),T.cl,T.nA_mark_of,FZ z,_,rfl,_,_,rfl,DPut.k (k:=aE x) (by rw [ki t_m.symm];exact B1.mm) sz,?_⟩
      refine ⟨_,rfl,_,rfl,b,_,_,_,_,rfl,(by rw [ki b_m,ki b_t];exact B1.ob),T.cl,T.nA_loss_of,F0 z,_,rfl,_,_,rfl,DPut.k (k:=aE x) (by rw [ki m_l.symm,ki t_l.symm];exact B1.ll) sz,?_⟩
      intro p hpn
      have e0:∀ c,c≠z.dt→c≠z.dm→c≠z.dl→∀ A B C,(upd (upd (upd H1 z.dt A) z.dm B) z.dl C) c=H1 c:=fun c c1 c2 c3 A B C=>by rw [ki c3,ki c2,ki c1]
      have q_t:p≠z.dt:=fun e=>by rw [e,ki t_l,ki t_m,km] at hpn;cases hpn
      have q_m:p≠z.dm:=fun e=>by rw [e,ki m_l,km] at hpn;cases hpn
      have q_l:p≠z.dl:=fun e=>by rw [e,km] at hpn;cases hpn
      have hp1:H1 p=none:=by rw [e0 p q_t q_m q_l] at hpn;exact hpn
      have hp0:H p=none:=s1.free hp1
      have q_h:p≠z.dh:=fun e=>by rw [e,eh] at hp1;cases hp1
      have q_b:p≠b:=fun e=>by rw [e,B1.ob] at hp1;cases hp1
      have q_p:p≠z.dp:=fun e=>by rw [e,B1.pp] at hp1;cases hp1
      refine ⟨_,rfl,km,[(aE o,.ref a.ONE)],rfl,(show 1≤15 by decide),_,rfl,b,_,_,_,_,rfl,(by rw [ki q_b.symm,ki q_b.symm,e0 b b_t b_m b_l];exact B1.ob),T.cl,T.nA_held_of,rg z,_,rfl,_,_,rfl,DPut.k (k:=aE x) (by rw [ki q_h.symm,ki q_h.symm,e0 z.dh t_h.symm m_h.symm l_h.symm];exact eh) (by rw [lTh];exact ay hl8 (by decide)),?_⟩
      have far:∀ c,c≠p→c≠z.dh→c≠z.dt→c≠z.dm→c≠z.dl→∀ A B C D E F,(upd (upd (upd (upd (upd (upd H1 z.dt A) z.dm B) z.dl C) p D) p E) z.dh F) c=H1 c:=fun c c1 c2 c3 c4 c5 A B C D E F=>by rw [ki c2,ki c1,ki c1,ki c5,ki c4,ki c3]
      refine k1 hdue p _ hp0 ?_ fun c u e hc=>?_
      ·refine ⟨?_,?_,?_,?_,?_,?_,fun e he=>?_,?_,B1.p6,by rw [aC];exact hl8⟩
       ·rw [far b q_b.symm b_h b_t b_m b_l];exact B1.ob
       ·rw [far z.dp q_p.symm p_h p_t p_m p_l];exact B1.pp
       ·rw [ki t_h,ki q_t.symm,ki q_t.symm,ki t_l,ki t_m,km,qw _ (m8 _ hx),aY];rfl
       ·rw [ki m_h,ki q_m.symm,ki q_m.symm,ki m_l,km,qw _ (m8 _ hx),aY];rfl
       ·rw [ki l_h,ki q_l.symm,ki q_l.symm,km,qw _ (m8 _ hx),aY];rfl
       ·have hv:m7 Th (aE x)=none:=by rw [yE ph nh];exact m8 _ hx
        refine ⟨_,km,?_,?_⟩
        ·rw [qw _ hv,aY]
         exact ph.append_right _
        ·rw [aY,aY,au,cO]
         refine sG nh fun hq=>?_
         obtain ⟨kv,hkv,ekv⟩:=ak.mp hq
         have e1:=(uj (k:=kv.1) (v:=kv.2) nh).mpr hkv
         rw [ekv,m8 _ hx] at e1
         cases e1
       ·rcases aO.mp he with he | he
        ·have he2:e.2∈L.map (·.2):=ak.mpr ⟨e,he,rfl⟩
         have d1:e.2≠z.dh:=fun q=>hh (q ▸ he2)
         have d2:e.2≠z.dt:=fun q=>ht (by rw [← q];simp only [ai];right;right;right;exact he2)
         have d3:e.2≠z.dm:=fun q=>hm (by rw [← q];simp only [ai];right;right;exact he2)
         have d4:e.2≠z.dl:=fun q=>hll (by rw [← q];simp only [ai];right;exact he2)
         have d5:e.2≠p:=fun q=>by
          obtain ⟨ts,_,q2,_⟩:=B1.he e he
          rw [q,hp1] at q2
          cases q2
         refine (B1.he e he).keep (fun u h=>?_) fun c u h y=>?_
         ·rw [far e.2 d5 d1 d2 d3 d4];exact h
         ·have nt:∀ {q:ae}{kv:List (Key×V)},H1 q=some (.dK kv)→c≠q:=fun hq=>zX h hq (by rcases y with ⟨xs,rfl | ⟨ob,rfl⟩⟩ <;> intro z <;> cases z)
          rw [far c (ky h hp1) (nt eh) (nt B1.tt) (nt B1.mm) (nt B1.ll)];exact h
        ·rw [ax.mp he]
         refine ⟨[a.ONE],rfl,?_,fun q hq=>?_⟩
         ·rw [ki q_h,km];rfl
         ·rw [ax.mp hq]
          exact .inr T.one
       ·have hpL:p∉L.map (·.2):=fun hq=>by
         obtain ⟨e,he,rfl⟩:=ak.mp hq
         obtain ⟨ts,_,q2,_⟩:=B1.he e he
         rw [hp1] at q2
         cases q2
        have:=sG (k:=p) B1.nd (by
         intro hq
         simp only [ai] at hq
         rcases hq with e | e | e | e | e | e | e
         ·exact q_b e
         ·exact q_p e
         ·exact q_t e
         ·exact q_m e
         ·exact q_l e
         ·exact q_h e
         ·exact hpL e)
        rw [aY]
        exact this
      ·have e1:=s1 c u e
       have c0:c≠p:=ky e1 hp1
       simp only [ai,eY,or_false,not_or] at hc
       rw [far c c0 hc.2.2.2 hc.1 hc.2.1 hc.2.2.1]
       exact e1
   ·refine k2 _ ?_ H1 s1
    unfold oV
    rw [hd]
    exact if_pos ho
  ·refine k2 c ?_ H1 s1
   unfold oV
   rw [hc]
def PairAt (K:aa) (H:Hp) (q:Str×Int×Int) (v:V):Prop:=∃ t u,v=.ref t∧SqT K H t [.str q.1,.ref u]∧SqT K H u [.int q.2.1,.int q.2.2]
theorem PairAt.keep {K:aa}{H H':Hp}{q:Str×Int×Int}{v:V} (h:PairAt K H q v) (k:∀ c o,H c=some o→(∃ xs,o=.tup xs∨∃ ob,o=.frz ob (.tup xs))→H' c=some o):PairAt K H' q v:=by
 obtain ⟨t,u,e,h1,h2⟩:=h
 exact ⟨t,u,e,qU h1 k,qU h2 k⟩
theorem EL {H:Hp}{p:ae}{xs:List V}{o':HO} (hp:H p=some (.lst xs)):∀ c o,H c=some o→(∃ xs,o=.tup xs∨∃ ob,o=.frz ob (.tup xs))→(upd H p o') c=some o:=fun c o h x=>by
 rw [ki (zX h hp (by rcases x with ⟨xs,rfl | ⟨ob,rfl⟩⟩ <;> intro z <;> cases z))]
 exact h
theorem Cs {l:List (Str×Int×Int)}{ts:List ae} (hl:ts.length=l.length) {n:Str} (hn:n∈l.map (·.1)):∃ q,(l.zip ts).find? (fun q=>decide (q.1.1=n))=some q∧q∈l.zip ts∧q.1=lv l n∧(lv l n).1=n:=by
 have e:(l.zip ts).map (·.1)=l:=iB (by omega)
 cases h:(l.zip ts).find? (fun q=>decide (q.1.1=n)) with
 | none =>
  exfalso
  rw [cj] at h
  rw [← e,aS] at hn
  obtain ⟨q,hq,e2⟩:=ak.mp hn
  exact h q hq (decide_eq_true e2)
 | some q =>
  have e2:l.find? (fun q=>decide (q.1=n))=some q.1:=by
   rw [← e,fO]
   show ((l.zip ts).find? (fun q=>decide (q.1.1=n))).map (·.1)=some q.1
   rw [h]
   rfl
  have e3:lv l n=q.1:=by unfold lv;rw [e2];rfl
  exact ⟨q,rfl,d8 h,e3.symm,by rw [e3];simpa using gE h⟩
def ul (K:aa) (C:ae):Sp:=fun vs H Q _=>∃ b z ppl L,vs=[.ref b]∧BookAt K C H b z ppl L∧∀ l,H l=none→Q (.ref l) (upd H l (.lst ((srt ppl).map V.str)))
abbrev nM:bX:=me (top 37) 12
theorem tR:FnScope ["self"] ["self"] (kh nM):=fsc
theorem zQ (F:Fun K "persons" "Book.persons" nM f fd) (T:Txt K mg a):FnOk P w K mg base (CXo P w) 1 f fd ["self"] (ul K a.Book):=by
 refine F.okN tR (fun vs H Q E h=>?_) (fun cdv A outer s H vs Q E hr h=>?_)
 ·obtain ⟨b,z,ppl,L,rfl,_⟩:=h
  rfl
 ·obtain ⟨b,z,ppl,L,rfl,B,k⟩:=h
  have hu:=kC hr
  refine ⟨_,(@kL _ _ _ (@oz _ _ _ _ (@nr _ _ _ _ _ _ _ _ _ (nG rfl) rfl T.b_sorted nS (@kA _ _ _ _ _ (nA (pv 0) rfl) pa_nil (by rfl)) (by decide) (by decide) (by rfl) (by rfl)))),?_⟩
  exact ⟨_,rfl,b,_,_,_,_,rfl,B.ob,T.cl,T.nA_people,qR z,_,_,ppl,rfl,.inl B.pp,by rw [aS];rfl,bc B.p6 (by decide),k⟩
def wx (K:aa) (C:ae):Sp:=fun vs H Q _=>∃ b z ppl L,vs=[.ref b]∧BookAt K C H b z ppl L∧∀ l,H l=none→Q (.ref l) (upd H l (.lst ((srt (L.map (·.1.nm))).map V.str)))
abbrev oy:bX:=me (top 37) 13
theorem ue:FnScope ["self"] ["self"] (kh oy):=fsc
theorem By (F:Fun K "houses" "Book.houses" oy f fd) (T:Txt K mg a):FnOk P w K mg base (CXo P w) 1 f fd ["self"] (wx K a.Book):=by
 refine F.okN ue (fun vs H Q E h=>?_) (fun cdv A outer s H vs Q E hr h=>?_)
 ·obtain ⟨b,z,ppl,L,rfl,_⟩:=h
  rfl
 ·obtain ⟨b,z,ppl,L,rfl,B,k⟩:=h
  have hu:=kC hr
  refine ⟨_,(@kL _ _ _ (@oz _ _ _ _ (@nr _ _ _ _ _ _ _ _ _ (nG rfl) rfl T.b_sorted nS (@kA _ _ _ _ _ (nA (pv 0) rfl) pa_nil (by rfl)) (by decide) (by decide) (by rfl) (by rfl)))),?_⟩
  obtain ⟨Th,ss,eh,ek,ps⟩:=B.hh.keys
  rw [← yk ps] at k
  exact ⟨_,rfl,b,_,_,_,_,rfl,B.ob,T.cl,T.nA_held_of,rg z,_,_,ss,rfl,.inl eh,ek,by rw [ps.length_eq,aj];exact bc B.h8 (by decide),k⟩
theorem DV {L:List (Ent×ae)}{x:Str}{e:Ent×ae} (v:Ent×ae→V) (h:ms L x=some e):m7 (L.map fun e=>((aE e.1.nm:Key),v e)) (aE x)=some (v e):=by
 rw [oG (key:=fun e:Ent×ae=>e.1.nm)]
 unfold ms at h
 rw [h]
 rfl
abbrev mT:bX:=me (top 37) 14
theorem sc_Book_shares:FnScope ["self","house","held"] ["self","house"] (kh mT):=fsc
def wv (K:aa) (a:Adr):Sp:=fun vs H Q E=>∃ b z ppl L x,vs=[.ref b,.str x]∧BookAt K a.Book H b z ppl L∧Nm x ∧
 (∀ e,ms L x=some e→e.1.held.length < 64∧∀ l ys H',H l=none→Same H H'→H' l=some (.lst ys)→fB (PairAt K H') ((srt (e.1.held.map (·.1))).map (lv e.1.held)) ys→Q (.ref l) H')∧(ms L x=none→E (.ref a.NoHouse) none H)
theorem Bv (F:Fun K "shares" "Book.shares" mT f fd) (T:Txt K mg a) (M_need_house:Mt P w K mg base a.Book "need_house" 2 ["self","name"] (mS K a)):FnOk P w K mg base (CXo P w) 3 f fd ["self","house"] (wv K a):=by
 refine F.okX sc_Book_shares (fun vs H Q E h=>?_) (fun cdv A outer s H vs Q E hr h=>?_)
 ·obtain ⟨b,z,ppl,L,x,rfl,_⟩:=h
  rfl
 ·obtain ⟨b,z,ppl,L,x,rfl,B,nm,k1,k2⟩:=h
  have hu:=kC hr
  refine ⟨_,(@kD _ _ _ _ _ (@nq _ _ _ _ (qL (pv 0) M_need_house (hr.mono (by first | decide | omega)) kQ (@kA _ _ _ _ _ (pv 1) pa_nil (by rfl))) (by rfl)) (@kD _ _ _ _ _ (@oT _ _ (2) _ _ _ _ sc_Book_shares.nd rfl (dO rfl) (@uA _ _ _ _ _ _ hu (nA (pv 0) rfl) (pv 1) (fun _ _=>rfl)) (by rfl) (by first | exact .inl rfl | exact .inr rfl | assumption)) (@kL _ _ _ (@oz _ _ _ _ (uB (fr:=["held"]) (ix:=[2]) rfl (by exact (show CompOk ["self","house","held"] (kh mT) _ _ _ _ from cok)) (E6 (@nr _ _ _ _ _ _ _ _ _ (nG rfl) rfl T.b_sorted nS (@kA _ _ _ _ _ (pv 2) pa_nil (by rfl)) (by decide) (by decide) (by rfl) (by rfl))) (fun _ _ _ _ _=>vh) (fun _ _ _ _ _=>(xZ (kA (pv 0) (kA (uA hu (pv 1) (pv 0) (fun _ _=>rfl)) pa_nil))))))))),?_⟩
  refine ⟨_,rfl,b,_,_,rfl,B.ob,pW z (by decide +kernel) (by decide +kernel) (by decide +kernel) (by decide +kernel) (by decide +kernel),_,rfl,b,z,ppl,L,x,rfl,B,nm,fun h=>?_,fun h=>k2 ?_⟩
  ·cases he:ms L x with
   | none=>unfold mU at h;unfold ms at he;rw [he] at h;cases h
   | some e =>
    obtain ⟨h64,k1⟩:=k1 e he
    obtain ⟨ts,hl,hd,hts⟩:=B.he e (oO he)
    have hkeys:(((e.1.held.zip ts).map fun q=>((aE q.1.1:Key),V.ref q.2)).map (·.1))=(e.1.held.map (·.1)).map aE:=by
     rw [aS,aS]
     have e1:(e.1.held.zip ts).map (·.1)=e.1.held:=iB (by omega)
     conv=>rhs;rw [← e1,aS]
     rfl
    refine ⟨_,rfl,b,_,_,_,_,rfl,B.ob,T.cl,T.nA_held_of,rg z,_,rfl,_,.ref e.2,rfl,?_,_,rfl,e.2,_,e.1.held.map (·.1),rfl,.inl hd,hkeys,by rw [aj];exact h64,fun l hl0=>?_⟩
    ·have:=B.hh.dget x;rw [DV _ he] at this;exact this
    ·refine ⟨l,rfl,⟨_,SqL.of km⟩,fun D hD=>?_⟩
     have lD:l≠D:=ky km hD
     have hD0:H D=none:=by rw [ki lD.symm] at hD;exact hD
     have hDp:e.2≠D:=ky hd hD0
     refine A4 (J:=Itl K l) (srt (e.1.held.map (·.1))).length (fun i ys H'=>Same H H'∧H' D=some (.lst ys)∧H' l=some (.lst ((srt (e.1.held.map (·.1))).map V.str))∧fB (PairAt K H') (((srt (e.1.held.map (·.1))).take i).map (lv e.1.held)) ys)
      ⟨?_,km,?_,.nil⟩ ?_ (fun i ys H' r=>r.2.1) (fun i ys H' hi r=>⟨_,.str ((srt (e.1.held.map (·.1)))[i]),SqL.of r.2.2.1,by simp [hi]⟩) ?_ ?_
     ·exact (oS hl0).trans (oS hD)
     ·rw [ki lD,km]
     ·rw [kE,aj];exact aJ (cF h64) (by decide)
     ·rintro i ys Hx v H' hi ⟨s1,h1,h2,h3⟩ ⟨rfl,hy⟩ Kt Kf q1 q2
      have hv:=hy _ (SqL.of h2)
      have ev:v=.str ((srt (e.1.held.map (·.1)))[i]):=by
       rw [bi,bh hi] at hv
       exact (aZ hv).symm
      subst ev
      have hmem:(srt (e.1.held.map (·.1)))[i]∈e.1.held.map (·.1):=(kI _).mem_iff.mp (cm hi)
      obtain ⟨q,f1,f2,f3,f4⟩:=Cs hl hmem
      have hval:m7 ((e.1.held.zip ts).map fun q=>((aE q.1.1:Key),V.ref q.2)) (aE ((srt (e.1.held.map (·.1)))[i]))=some (.ref q.2):=by
       rw [oG (key:=fun q:(Str×Int×Int)×ae=>q.1.1),f1]
       rfl
      refine yesT ⟨_,rfl,_,rfl,_,rfl,e.2,.ref q.2,rfl,?_,(show 2≤aQ by decide),fun p hp=>?_⟩
      ·have:=DGet.k (k:=aE ((srt (e.1.held.map (·.1)))[i])) (s1 _ _ hd);rw [hval] at this;exact this
      ·have pD:D≠p:=ky h1 hp
       have pl:l≠p:=ky h2 hp
       refine q1 _ _ (by rw [ki pD];exact h1) ⟨?_,km,?_,?_⟩
       ·intro c o hc
        rw [ki (fun z=>by rw [z] at hc;rw [hD0] at hc;cases hc),ki (ky (s1 c o hc) hp)]
        exact s1 c o hc
       ·rw [ki lD,ki pl];exact h2
       ·have kp:∀ c o,H' c=some o→(∃ xs,o=.tup xs∨∃ ob,o=.frz ob (.tup xs))→(upd (upd H' p (.tup [.str ((srt (e.1.held.map (·.1)))[i]),.ref q.2])) D (.lst (ys++[.ref p]))) c=some o:=fun c o hc x=>by
         rw [EL (xs:=ys) (by rw [ki pD];exact h1) c o (by rw [ki (ky hc hp)];exact hc) x]
        have e5:((srt (e.1.held.map (·.1))).take (i+1)).map (lv e.1.held)=((srt (e.1.held.map (·.1))).take i).map (lv e.1.held)++[lv e.1.held ((srt (e.1.held.map (·.1)))[i])]:=by
         rw [cZ,bh hi,aY]
         rfl
        rw [e5]
        refine jl (fB.mapP h3 fun q v hq=>hq.keep kp) ⟨p,q.2,rfl,?_,?_⟩
        ·refine SqT.of ?_
         rw [ki pD.symm,km,f4]
        ·rw [← f3]
         exact qU (hts q f2) fun c o hc x=>kp c o (s1 c o hc) x
     ·rintro ys H' hy ⟨s1,h1,h2,h3⟩
      refine ⟨⟨_,SqL.of h2,by rw [aj];exact aA _⟩,k1 D ys H' hD0 s1 h1 ?_⟩
      rw [d7] at h3
      exact h3
  ·unfold mU at h
   unfold ms
   exact fD.mp h |> fL.mp
end
end My
namespace L2
open PySem PySem.Spec PyProof.Rows
section
variable {X:Cx}
def rEqT (K:aa):R2:=fun x y H Q=>∃ p q xs ys,x=.ref p∧y=.ref q∧SqT K H p xs∧SqT K H q ys∧xs.length=ys.length∧xs.all pL=true∧ys.all pL=true∧Q (.bl (FG xs ys)) H
theorem Hd (hu:X.A.units < dq):OpR X (bT .Eq) (rEqT X.K):=by
 intro pins s σ H x y v u Q I rx ry h
 obtain ⟨p,q,xs,ys,rfl,rfl,hp,hq,hl,fx,fy,k⟩:=h
 cases rx
 cases ry
 obtain ⟨its,r,pl,_⟩:=I.tuple hp
 obtain ⟨its2,r2,pl2,_⟩:=I.tuple hq
 have e1:=r.length
 have e2:=r2.length
 refine SeqAt.eq_tupleAt pl pl2 hu (z7 r r2 hl fx fy) ⟨.bl _,H,I,rfl,?_⟩
 have e3:its.toArray.size=its2.toArray.size:=by simp;omega
 rw [e3,Nat.min_self,beq_self_eq_true,Bool.and_true,aT,← e2,← hl,← zg hl]
 exact k
end
end L2
namespace My
open PySem L2 Fra
theorem y8 (x y:Int) (h:0 < y):aM y (x % y)=aM x y:=by
 have e:x % y=x - (x / y) * y:=by rw [Int.emod_def,bz]
 rw [e,Int.gcd_comm,Int.gcd_sub_mul_right_left]
theorem Dz {x:Int} (h:0≤x):(aM x 0:Int)=x:=by rw [Int.gcd_zero_right];omega
structure Sz (q:Int×Int):Prop where
 low:Low q
 bt:Bt 8900 q.1
 bb:Bt 8900 q.2
def FrAt (K:aa) (H:Hp) (p:ae) (q:Int×Int):Prop:=SqT K H p [.int q.1,.int q.2]
theorem FrAt.same {K:aa}{H H':Hp}{p:ae}{q:Int×Int} (h:FrAt K H p q) (s:Same H H'):FrAt K H' p q:=yO s h
section
variable {P:aU}{w:bw}{K:aa}{mg:Str→Option af}{base:bM}{a:Adr}{f:ae}{fd:bV}
abbrev mP:bX:=top 5
theorem sc_common_divisor:FnScope ["number","other","rest"] ["number","other"] (kh mP):=fsc
def D3:Sp:=fun vs H Q _=>∃ n m,vs=[.int n,.int m]∧0 < m∧Q (.int (aM n m)) H
theorem Hi (F:Fun K "common_divisor" "common_divisor" mP f fd) (T:Txt K mg a):FnOk P w K mg base (CXo P w) 1 f fd ["number","other"] D3:=by
 refine F.okN sc_common_divisor (fun vs H Q E h=>?_) (fun cdv A outer s H vs Q E hr h=>?_)
 ·obtain ⟨n,m,rfl,_⟩:=h
  rfl
 ·obtain ⟨n,m,rfl,hm,k⟩:=h
  have hu:=kC hr
  refine ⟨_,(@kD _ _ _ _ _ (yR hJ (@qV _ _ _ _ _ _ _ _ op_ne (pv 1) pe_int (lI _)) (@kD _ _ _ _ _ (@oT _ _ (2) _ _ _ _ sc_common_divisor.nd rfl (bv rfl) (@pU _ _ _ _ _ _ _ _ Ed (pv 0) (pv 1)) (by rfl) (by first | exact .inl rfl | exact .inr rfl | assumption)) (@kD _ _ _ _ _ (@oT _ _ (0) _ _ _ _ sc_common_divisor.nd rfl (bv rfl) (pv 1) (by rfl) (by first | exact .inl rfl | exact .inr rfl | assumption)) (@kL _ _ _ (@oT _ _ (1) _ _ _ _ sc_common_divisor.nd rfl (bv rfl) (pv 2) (by rfl) (by first | exact .inl rfl | exact .inr rfl | assumption)))))) (@kL _ _ _ (@oz _ _ _ _ (pv 0)))),?_⟩
  refine ⟨fun c σ H'=>H'=H∧∃ x y v,σ=[some (.int x),some (.int y),v]∧0≤y∧c=y.toNat∧aM x y=aM n m∧(y=0→0≤x),⟨_,rfl,n,m,_,rfl,by omega,rfl,rfl,by omega⟩,?_⟩
  rintro c σ H' ⟨rfl,x,y,v,rfl,hy,rfl,hg,hx⟩
  refine ⟨_,rfl,rfl,_,rfl,rB (fun h=>?_) (fun h=>?_)⟩
  ·have hy0:0 < y:=by
    have:¬ (V.int y=V.int 0):=of_decide_eq_false (nbT h)
    have:y≠0:=fun z=>this (by rw [z])
    omega
   refine ⟨fun σ' H''=>H''=H'∧∃ v',σ'=[some (.int y),some (.int (x % y)),v'],?_,?_⟩
   ·rintro σ' H'' ⟨rfl,v',rfl⟩
    have m0:=dI x (show y≠0 by omega)
    have m1:=cU x hy0
    exact ⟨(x % y).toNat,by omega,rfl,_,_,_,rfl,m0,rfl,(y8 x y hy0).trans hg,fun _=>hy⟩
   ·exact ⟨_,rfl,_,rfl,_,_,rfl,rfl,hy0,_,rfl,_,rfl,rfl,_,rfl⟩
  ·have hy0:y=0:=V.int.inj (of_decide_eq_true (nbF h))
   subst hy0
   refine ⟨_,rfl,?_⟩
   rw [Dz (hx rfl) |>.symm,hg]
   exact k
abbrev Am:bX:=top 6
theorem sc_plus:FnScope ["first","second","common","top","shared"] ["first","second"] (kh Am):=fsc
def sA (K:aa):Sp:=fun vs H Q _=>∃ p1 p2 q1 q2,vs=[.ref p1,.ref p2]∧FrAt K H p1 q1∧FrAt K H p2 q2∧Sz q1∧Sz q2∧∀ x,H x=none→Q (.ref x) (upd H x (.tup [.int (lr q1 q2).1,.int (lr q1 q2).2]))
theorem Fg (F:Fun K "plus" "plus" Am f fd) (T:Txt K mg a) (F_common_divisor:Fn P w K mg base "common_divisor" 1 ["number","other"] D3):FnOk P w K mg base (CXo P w) 2 f fd ["first","second"] (sA K):=by
 refine F.okN sc_plus (fun vs H Q E h=>?_) (fun cdv A outer s H vs Q E hr h=>?_)
 ·obtain ⟨p1,p2,q1,q2,rfl,_⟩:=h
  rfl
 ·obtain ⟨p1,p2,⟨t1,b1⟩,⟨t2,b2⟩,rfl,h1,h2,s1,s2,k⟩:=h
  have hu:=kC hr
  refine ⟨_,(@kD _ _ _ _ _ (@oT _ _ (2) _ _ _ _ sc_plus.nd rfl (bv rfl) (@sd _ _ _ _ _ _ _ _ _ _ _ F_common_divisor (hr.mono (by first | decide | omega)) rfl kM (@kA _ _ _ _ _ (@oK _ _ _ _ _ _ _ ix_tup (pv 0) pe_int (fun _ _=>rfl)) (@kA _ _ _ _ _ (@oK _ _ _ _ _ _ _ ix_tup (pv 1) pe_int (fun _ _=>rfl)) pa_nil (by rfl)) (by rfl)) (by decide) (by rfl) (by rfl)) (by rfl) (by first | exact .inl rfl | exact .inr rfl | assumption)) (@kD _ _ _ _ _ (@oT _ _ (3) _ _ _ _ sc_plus.nd rfl (bv rfl) (@pU _ _ _ _ _ _ _ _ op_add (@pU _ _ _ _ _ _ _ _ op_mulB (@oK _ _ _ _ _ _ _ ix_tup (pv 0) pe_int (fun _ _=>rfl)) (@pU _ _ _ _ _ _ _ _ oU (@oK _ _ _ _ _ _ _ ix_tup (pv 1) pe_int (fun _ _=>rfl)) (pv 2))) (@pU _ _ _ _ _ _ _ _ op_mulB (@oK _ _ _ _ _ _ _ ix_tup (pv 1) pe_int (fun _ _=>rfl)) (@pU _ _ _ _ _ _ _ _ oU (@oK _ _ _ _ _ _ _ ix_tup (pv 0) pe_int (fun _ _=>rfl)) (pv 2)))) (by rfl) (by first | exact .inl rfl | exact .inr rfl | assumption)) (@kD _ _ _ _ _ (@oT _ _ (4) _ _ _ _ sc_plus.nd rfl (bv rfl) (@sd _ _ _ _ _ _ _ _ _ _ _ F_common_divisor (hr.mono (by first | decide | omega)) rfl kM (@kA _ _ _ _ _ (pv 3) (@kA _ _ _ _ _ (pv 2) pa_nil (by rfl)) (by rfl)) (by decide) (by rfl) (by rfl)) (by rfl) (by first | exact .inl rfl | exact .inr rfl | assumption)) (@kL _ _ _ (@oz _ _ _ _ (@xZ _ _ _ _ _ (@kA _ _ _ _ _ (@pU _ _ _ _ _ _ _ _ oU (pv 3) (pv 4)) (@kA _ _ _ _ _ (@pU _ _ _ _ _ _ _ _ op_mulB (@pU _ _ _ _ _ _ _ _ oU (@oK _ _ _ _ _ _ _ ix_tup (pv 0) pe_int (fun _ _=>rfl)) (pv 2)) (@pU _ _ _ _ _ _ _ _ oU (@oK _ _ _ _ _ _ _ ix_tup (pv 1) pe_int (fun _ _=>rfl)) (pv 4))) pa_nil (by rfl)) (by rfl)))))))),?_⟩
  rw [← F4 s1.low s2.low] at k
  have b10:0 < b1:=s1.low.1
  have b20:0 < b2:=s2.low.1
  have hd:0 < aM b1 b2:=bZ _ (by omega)
  have hd0:(0:Int) < (aM b1 b2:Int):=by omega
  have bd:Bt 8900 (aM b1 b2:Int):=s1.bb.dvd (show b1≠0 by omega) (fk ..)
  have ld:=(bd.mono (by decide)).log hd0
  refine ⟨_,rfl,p1,_,1,_,rfl,rfl,h1,kZ (j:=1) rfl,_,rfl,p2,_,1,_,rfl,rfl,h2,kZ (j:=1) rfl,b1,b2,rfl,b20,?_⟩
  refine ⟨_,rfl,p1,_,0,_,rfl,rfl,h1,kZ (j:=0) rfl,_,rfl,p2,_,1,_,rfl,rfl,h2,kZ (j:=1) rfl,_,rfl,_,_,rfl,rfl,⟨hd0,ld⟩,_,_,rfl,rfl,⟨s1.bt.mono (by decide),(s2.bb.div).mono (by decide)⟩,?_⟩
  refine ⟨_,rfl,p2,_,0,_,rfl,rfl,h2,kZ (j:=0) rfl,_,rfl,p1,_,1,_,rfl,rfl,h1,kZ (j:=1) rfl,_,rfl,_,_,rfl,rfl,⟨hd0,ld⟩,_,_,rfl,rfl,⟨s2.bt.mono (by decide),(s1.bb.div).mono (by decide)⟩,_,_,rfl,rfl,?_⟩
  have he:0 < aM (t1 * (b2 / (aM b1 b2:Int))+t2 * (b1 / (aM b1 b2:Int))) (aM b1 b2:Int):=bZ _ (by omega)
  have he0:(0:Int) < (aM (t1 * (b2 / (aM b1 b2:Int))+t2 * (b1 / (aM b1 b2:Int))) (aM b1 b2:Int):Int):=by omega
  have be:Bt 8900 (aM (t1 * (b2 / (aM b1 b2:Int))+t2 * (b1 / (aM b1 b2:Int))) (aM b1 b2:Int):Int):=bd.dvd (by omega) (cJ ..)
  have le:=(be.mono (by decide)).log he0
  refine ⟨_,rfl,_,rfl,_,_,rfl,hd0,?_⟩
  refine ⟨_,rfl,_,rfl,_,_,rfl,rfl,⟨he0,le⟩,_,rfl,p1,_,1,_,rfl,rfl,h1,kZ (j:=1) rfl,_,rfl,_,_,rfl,rfl,⟨hd0,ld⟩,_,rfl,p2,_,1,_,rfl,rfl,h2,kZ (j:=1) rfl,_,rfl,_,_,rfl,rfl,⟨he0,le⟩,_,_,rfl,rfl,⟨(s1.bb.div).mono (by decide),(s2.bb.div).mono (by decide)⟩,(show 2≤aQ by decide),fun x hx=>?_⟩
  exact k x hx
abbrev xK:bX:=top 7
theorem CQ:FnScope ["first","second"] ["first","second"] (kh xK):=fsc
def yK (K:aa):Sp:=fun vs H Q _=>∃ p1 p2 q1 q2,vs=[.ref p1,.ref p2]∧FrAt K H p1 q1∧FrAt K H p2 q2∧Sz q1∧Sz q2∧∀ x H',H x=none→Same H H'→H' x=some (.tup [.int (lr q1 (-q2.1,q2.2)).1,.int (lr q1 (-q2.1,q2.2)).2])→Q (.ref x) H'
theorem Sz.neg {q:Int×Int} (h:Sz q):Sz (-q.1,q.2):=⟨⟨h.low.1,by have:=h.low.2;unfold Cop aM at *;simp only [gO];exact this⟩,h.bt.neg,h.bb⟩
theorem Dj (F:Fun K "minus" "minus" xK f fd) (T:Txt K mg a) (F_plus:Fn P w K mg base "plus" 2 ["first","second"] (sA K)):FnOk P w K mg base (CXo P w) 3 f fd ["first","second"] (yK K):=by
 refine F.okN CQ (fun vs H Q E h=>?_) (fun cdv A outer s H vs Q E hr h=>?_)
 ·obtain ⟨p1,p2,q1,q2,rfl,_⟩:=h
  rfl
 ·obtain ⟨p1,p2,⟨t1,b1⟩,⟨t2,b2⟩,rfl,h1,h2,s1,s2,k⟩:=h
  have hu:=kC hr
  refine ⟨_,(@kL _ _ _ (@oz _ _ _ _ (@sd _ _ _ _ _ _ _ _ _ _ _ F_plus (hr.mono (by first | decide | omega)) rfl kM (@kA _ _ _ _ _ (pv 0) (@kA _ _ _ _ _ (@xZ _ _ _ _ _ (@kA _ _ _ _ _ (@Gd _ _ _ _ _ _ DX (@oK _ _ _ _ _ _ _ ix_tup (pv 1) pe_int (fun _ _=>rfl))) (@kA _ _ _ _ _ (@oK _ _ _ _ _ _ _ ix_tup (pv 1) pe_int (fun _ _=>rfl)) pa_nil (by rfl)) (by rfl))) pa_nil (by rfl)) (by rfl)) (by decide) (by rfl) (by rfl)))),?_⟩
  refine ⟨_,rfl,_,rfl,p2,_,0,_,rfl,rfl,h2,kZ (j:=0) rfl,_,rfl,_,rfl,p2,_,1,_,rfl,rfl,h2,kZ (j:=1) rfl,(show 2≤aQ by decide),fun y hy=>?_⟩
  have sy:=oS (o:=.tup [.int (-t2),.int b2]) hy
  refine ⟨p1,y,(t1,b1),(-t2,b2),rfl,h1.same sy,SqT.of km,s1,s2.neg,fun x hx=>?_⟩
  refine k x _ (sy.free hx) (sy.trans (oS hx)) km
abbrev rm:bX:=top 8
theorem yp:FnScope ["first","second"] ["first","second"] (kh rm):=fsc
def ve (K:aa):Sp:=fun vs H Q _=>∃ p1 p2 q1 q2,vs=[.ref p1,.ref p2]∧FrAt K H p1 q1∧FrAt K H p2 q2∧Sz q1∧Sz q2∧Q (.bl (decide (q1.1 * q2.2 > q2.1 * q1.2))) H
theorem Dl (F:Fun K "is_above" "is_above" rm f fd) (T:Txt K mg a):FnOk P w K mg base (CXo P w) 1 f fd ["first","second"] (ve K):=by
 refine F.okN yp (fun vs H Q E h=>?_) (fun cdv A outer s H vs Q E hr h=>?_)
 ·obtain ⟨p1,p2,q1,q2,rfl,_⟩:=h
  rfl
 ·obtain ⟨p1,p2,⟨t1,b1⟩,⟨t2,b2⟩,rfl,h1,h2,s1,s2,k⟩:=h
  have hu:=kC hr
  refine ⟨_,(@kL _ _ _ (@oz _ _ _ _ (@AQ _ _ _ _ _ _ _ _ Gh (@pU _ _ _ _ _ _ _ _ op_mulB (@oK _ _ _ _ _ _ _ ix_tup (pv 0) pe_int (fun _ _=>rfl)) (@oK _ _ _ _ _ _ _ ix_tup (pv 1) pe_int (fun _ _=>rfl))) (@pU _ _ _ _ _ _ _ _ op_mulB (@oK _ _ _ _ _ _ _ ix_tup (pv 1) pe_int (fun _ _=>rfl)) (@oK _ _ _ _ _ _ _ ix_tup (pv 0) pe_int (fun _ _=>rfl))) (lI _)))),?_⟩
  refine ⟨_,rfl,p1,_,0,_,rfl,rfl,h1,kZ (j:=0) rfl,_,rfl,p2,_,1,_,rfl,rfl,h2,kZ (j:=1) rfl,_,_,rfl,rfl,⟨s1.bt.mono (by decide),s2.bb.mono (by decide)⟩,_,rfl,p2,_,0,_,rfl,rfl,h2,kZ (j:=0) rfl,_,rfl,p1,_,1,_,rfl,rfl,h1,kZ (j:=1) rfl,_,_,rfl,rfl,⟨s2.bt.mono (by decide),s1.bb.mono (by decide)⟩,_,_,rfl,rfl,?_⟩
  exact k
end
structure Two (q1 q2:Int×Int):Prop where
 p1:0 < q1.2
 p2:0 < q2.2
 t1:Bt 9000 q1.1
 t2:Bt 9000 q2.1
 b1:Bt 9000 q1.2
 b2:Bt 9000 q2.2
 bb:Bt 9000 (q1.2 * q2.2)
abbrev Hl:=List (Str×Int×Int)
def kB (l:Hl) (n:Str):Int×Int:=(lv l n).2
def mF (l:Hl) (n:Str) (q:Int×Int):Hl:=if (l.any fun x=>decide (x.1=n))=true then l.map (fun x=>if x.1=n then (n,q) else x) else l++[(n,q)]
def rC (l:Hl) (n:Str):Hl:=l.filter fun x=>decide (x.1≠n)
def HeldZ (K:aa) (H:Hp) (p:ae) (l:Hl) (z:List ((Str×Int×Int)×ae)):Prop :=
 z.map (·.1)=l∧H p=some (.dK (z.map fun q=>(aE q.1.1,V.ref q.2)))∧∀ q∈z,FrAt K H q.2 q.1.2
theorem HeldAt.toZ {K:aa}{H:Hp}{p:ae}{l:Hl} (h:HeldAt K H p l):∃ z,HeldZ K H p l z:=by
 obtain ⟨ts,hl,hd,ht⟩:=h
 exact ⟨l.zip ts,iB (by omega),hd,ht⟩
theorem sR {α β:Type}:∀ z:List (α×β),(z.map (·.1)).zip (z.map (·.2))=z
 | []=>rfl
 | x::r=>congrArg (x::·) (sR r)
theorem HeldZ.held {K:aa}{H:Hp}{p:ae}{l:Hl}{z:List ((Str×Int×Int)×ae)} (h:HeldZ K H p l z):HeldAt K H p l:=by
 obtain ⟨rfl,hd,ht⟩:=h
 refine ⟨z.map (·.2),by rw [aj,aj],?_,?_⟩
 ·rw [sR];exact hd
 ·rw [sR];exact ht
theorem x8 {K:aa}{H:Hp}{p x:ae}{q:Int×Int}{kvs:List (Key×V)}{o:HO} (hp:H p=some (.dK kvs)) (h:FrAt K H x q):FrAt K (upd H p o) x q :=
 qU h fun c u e y=>by
  rw [ki (zX e hp (by rcases y with ⟨xs,rfl | ⟨ob,rfl⟩⟩ <;> intro z <;> cases z))]
  exact e
theorem HeldZ.val {K:aa}{H:Hp}{p:ae}{l:Hl}{z:List ((Str×Int×Int)×ae)} (h:HeldZ K H p l z) (n:Str) :
  (n∉l.map (·.1)∧m7 (z.map fun q=>((aE q.1.1:Key),V.ref q.2)) (aE n)=none∧kB l n=(0,1))∨(n∈l.map (·.1)∧∃ x,m7 (z.map fun q=>((aE q.1.1:Key),V.ref q.2)) (aE n)=some (.ref x)∧FrAt K H x (kB l n)):=by
 obtain ⟨rfl,hd,ht⟩:=h
 rw [oG (key:=fun q:(Str×Int×Int)×ae=>q.1.1)]
 unfold kB lv
 rw [fO]
 have e:((fun q:Str×Int×Int=>decide (q.1=n)) ∘ fun x:(Str×Int×Int)×ae=>x.1)=fun x=>decide (x.1.1=n):=rfl
 rw [e]
 cases hf:z.find? (fun x=>decide (x.1.1=n)) with
 | none =>
  left
  refine ⟨fun hn=>?_,rfl,rfl⟩
  rw [cj] at hf
  rw [aS] at hn
  obtain ⟨q,hq,e2⟩:=ak.mp hn
  exact hf q hq (decide_eq_true e2)
 | some q =>
  right
  have hq:=d8 hf
  refine ⟨?_,q.2,rfl,ht q hq⟩
  rw [aS]
  exact ak.mpr ⟨q,hq,by simpa using gE hf⟩
theorem HeldZ.put {K:aa}{H:Hp}{p x:ae}{l:Hl}{z:List ((Str×Int×Int)×ae)}{n:Str}{q:Int×Int} (h:HeldZ K H p l z) (hx:FrAt K H x q) :
  ∃ z',HeldZ K (upd H p (.dK (pX (z.map fun q=>((aE q.1.1:Key),V.ref q.2)) (aE n) (.ref x)))) p (mF l n q) z':=by
 obtain ⟨rfl,hd,ht⟩:=h
 refine ⟨if (z.any fun y=>decide (y.1.1=n))=true then z.map (fun y=>if y.1.1=n then ((n,q),x) else y) else z++[((n,q),x)],?_,?_,?_⟩
 ·unfold mF
  rw [gv]
  by_cases hb:(z.any fun y=>decide (y.1.1=n))=true
  ·rw [if_pos hb,if_pos (by exact hb),aS,aS]
   refine bU fun y _=>?_
   show (if y.1.1=n then ((n,q),x) else y).1=if y.1.1=n then (n,q) else y.1
   by_cases e:y.1.1=n
   ·rw [if_pos e,if_pos e]
   ·rw [if_neg e,if_neg e]
  ·rw [if_neg hb,if_neg (by exact hb),aY]
   rfl
 ·rw [km]
  unfold pX
  rw [gv]
  have eb:((fun kv:Key×V=>decide (kv.1=aE n)) ∘ fun q:(Str×Int×Int)×ae=>((aE q.1.1:Key),V.ref q.2))=fun y=>decide (y.1.1=n):=by
   funext y
   show decide ((aE y.1.1:Key)=aE n)=_
   rw [vT]
  rw [eb]
  by_cases hb:(z.any fun y=>decide (y.1.1=n))=true
  ·rw [if_pos hb,if_pos hb,aS,aS]
   congr 2
   refine bU fun y _=>?_
   show (if (aE y.1.1:Key)=aE n then ((aE y.1.1:Key),V.ref x) else ((aE y.1.1:Key),V.ref y.2))=((aE (if y.1.1=n then ((n,q),x) else y).1.1:Key),V.ref (if y.1.1=n then ((n,q),x) else y).2)
   by_cases e:y.1.1=n
   ·rw [if_pos (by rw [e]),if_pos e,e]
   ·rw [if_neg (fun w=>e (jc w)),if_neg e]
  ·rw [if_neg hb,if_neg hb,aY]
   rfl
 ·intro y hy
  refine x8 hd ?_
  by_cases hb:(z.any fun y=>decide (y.1.1=n))=true
  ·rw [if_pos hb] at hy
   obtain ⟨u,hu,rfl⟩:=ak.mp hy
   by_cases e:u.1.1=n
   ·rw [if_pos e];exact hx
   ·rw [if_neg e];exact ht u hu
  ·rw [if_neg hb] at hy
   rcases aO.mp hy with hy | hy
   ·exact ht y hy
   ·rw [ax.mp hy];exact hx
theorem HeldZ.drop {K:aa}{H:Hp}{p:ae}{l:Hl}{z:List ((Str×Int×Int)×ae)}{n:Str} (h:HeldZ K H p l z) :
  ∃ z',HeldZ K (upd H p (.dK (wb (z.map fun q=>((aE q.1.1:Key),V.ref q.2)) (aE n)))) p (rC l n) z':=by
 obtain ⟨rfl,hd,ht⟩:=h
 refine ⟨z.filter (fun y=>decide (y.1.1≠n)),?_,?_,fun y hy=>x8 hd (ht y (bg.mp hy).1)⟩
 ·unfold rC
  rw [dG]
  rfl
 ·rw [km]
  unfold wb
  rw [dG]
  have eb:((fun kv:Key×V=>decide (kv.1≠aE n)) ∘ fun q:(Str×Int×Int)×ae=>((aE q.1.1:Key),V.ref q.2))=fun y=>decide (y.1.1≠n):=by
   funext y
   show decide ((aE y.1.1:Key)≠aE n)=_
   rw [bP,decide_eq_true_iff,decide_eq_true_iff]
   exact ⟨fun h w=>h (by rw [w]),fun h w=>h (jc w)⟩
  rw [eb]
theorem wK (l:Hl) (n:Str):lv l n=(n,kB l n):=by
 unfold kB lv
 cases h:l.find? fun q=>decide (q.1=n) with
 | none=>rfl
 | some q =>
  have:q.1=n:=by simpa using gE h
  show q=(n,q.2)
  rw [← this]
theorem lA (l:Hl) (n m:Str) (q:Int×Int):kB (mF l n q) m=if m=n then q else kB l m:=by
 unfold kB lv mF
 by_cases hb:(l.any fun x=>decide (x.1=n))=true
 ·rw [if_pos hb]
  induction l with
  | nil=>cases hb
  | cons x r ih =>
   rw [au,bA,bA]
   by_cases e:x.1=n
   ·rw [if_pos e]
    by_cases em:m=n
    ·subst em
     rw [if_pos rfl,decide_eq_true (show m=m from rfl)]
     rfl
    ·rw [if_neg em]
     have e1:decide ((n,q).1=m)=false:=decide_eq_false fun z=>em z.symm
     have e2:decide (x.1=m)=false:=decide_eq_false fun z=>em (z.symm.trans e)
     rw [e1,e2]
     by_cases hr:(r.any fun x=>decide (x.1=n))=true
     ·have:=ih hr
      rw [if_neg em] at this
      exact this
     ·have er:r.map (fun x=>if x.1=n then (n,q) else x)=r:=by
       conv=>rhs;rw [← ft r]
       refine bU fun y hy=>if_neg fun z=>hr (cR.mpr ⟨y,hy,decide_eq_true z⟩)
      show (Option.getD ((r.map fun x=>if x.1=n then (n,q) else x).find? fun q=>decide (q.1=m)) (m,0,1)).2=_
      rw [er]
   ·rw [if_neg e]
    have hr:(r.any fun x=>decide (x.1=n))=true:=by
     rw [eC,decide_eq_false e,gb] at hb
     exact hb
    by_cases em:x.1=m
    ·rw [decide_eq_true em]
     have:¬ m=n:=fun z=>e (em.trans z)
     rw [if_neg this]
    ·rw [decide_eq_false em]
     exact ih hr
 ·rw [if_neg hb,fW]
  by_cases em:m=n
  ·subst em
   rw [if_pos rfl]
   have:l.find? (fun q=>decide (q.1=m))=none:=by
    rw [cj]
    intro x hx z
    exact hb (cR.mpr ⟨x,hx,z⟩)
   rw [this,Option.none_or,bA,decide_eq_true (show (m,q).1=m from rfl)]
   rfl
  ·rw [if_neg em]
   have:[(n,q)].find? (fun q=>decide (q.1=m))=none:=by
    rw [bA,decide_eq_false (show ¬ (n,q).1=m from fun z=>em z.symm)]
    rfl
   rw [this,Option.or_none]
theorem wM (l:Hl) (n m:Str):kB (rC l n) m=if m=n then (0,1) else kB l m:=by
 unfold kB lv rC
 rw [List.find?_filter]
 by_cases em:m=n
 ·subst em
  rw [if_pos rfl]
  have:l.find? (fun a=>decide (decide (a.1≠m)=true∧decide (a.1=m)=true))=none:=by
   rw [cj]
   intro x hx z
   have z:=of_decide_eq_true z
   exact of_decide_eq_true z.1 (of_decide_eq_true z.2)
  rw [this]
  rfl
 ·rw [if_neg em]
  have:(fun a:Str×Int×Int=>decide (decide (a.1≠n)=true∧decide (a.1=m)=true))=fun a=>decide (a.1=m):=by
   funext x
   rw [bP]
   simp only [decide_eq_true_iff]
   exact ⟨fun h=>h.2,fun h=>⟨fun z=>em (h.symm.trans z),h⟩⟩
  rw [this]
theorem lj (l:Hl) (n:Str) (q:Int×Int):(mF l n q).map (·.1)=if n∈l.map (·.1) then l.map (·.1) else l.map (·.1)++[n]:=by
 unfold mF
 by_cases hb:(l.any fun x=>decide (x.1=n))=true
 ·have:n∈l.map (·.1):=by
   obtain ⟨x,hx,e⟩:=cR.mp hb
   exact ak.mpr ⟨x,hx,of_decide_eq_true e⟩
  rw [if_pos hb,if_pos this,aS]
  refine bU fun x _=>?_
  show (if x.1=n then (n,q) else x).1=x.1
  by_cases e:x.1=n
  ·rw [if_pos e,e]
  ·rw [if_neg e]
 ·have:¬ n∈l.map (·.1):=fun z=>by
   obtain ⟨x,hx,e⟩:=ak.mp z
   exact hb (cR.mpr ⟨x,hx,decide_eq_true e⟩)
  rw [if_neg hb,if_neg this,aY]
  rfl
theorem vQ {l:Hl} (n:Str) (q:Int×Int) (h:(l.map (·.1)).Nodup):((mF l n q).map (·.1)).Nodup:=by
 rw [lj]
 by_cases hn:n∈l.map (·.1)
 ·rw [if_pos hn];exact h
 ·rw [if_neg hn];exact sG h hn
theorem uE (l:Hl) (n:Str):(rC l n).map (·.1)=(l.map (·.1)).filter fun x=>decide (x≠n):=by
 unfold rC
 rw [dG]
 rfl
theorem Fm {l:Hl} (n:Str) (h:(l.map (·.1)).Nodup):((rC l n).map (·.1)).Nodup:=by
 rw [uE]
 exact h.filter _
theorem xN (l:Hl) (n:Str) (q:Int×Int):(mF l n q).length≤l.length+1:=by
 have:=congrArg dC (lj l n q)
 rw [aj] at this
 rw [this]
 split
 ·rw [aj];omega
 ·rw [aC,aj];exact aA _
theorem yY (l:Hl) (n:Str):(rC l n).length≤l.length:=ca _ _
def rG (l:Hl) (o1 o2:Str) (q:Int×Int):Hl :=
 let r:=lr (kB l o1) (-q.1,q.2)
 let l1:=if r=(0,1) then rC l o1 else mF l o1 r
 mF l1 o2 (lr (kB l1 o2) q)
def vZ (l:Hl) (o1 o2:Str) (q:Int×Int):Hl :=
 let l1:=mF l o1 (lr (kB l o1) (-q.1,q.2))
 mF l1 o2 (lr (kB l1 o2) q)
def wz {β:Type} (L:List (Ent×β)) (h:Str) (g:Ent→Ent):List (Ent×β):=L.map fun x=>if x.1.nm=h then (g x.1,x.2) else x
theorem qo {β γ:Type}{L:List (Ent×β)}{h:Str}{g:Ent→Ent} (v:Ent×β→γ) (hv:∀ x,v (g x.1,x.2)=v x):(wz L h g).map v=L.map v:=by
 unfold wz
 rw [aS]
 refine bU fun x _=>?_
 show v (if x.1.nm=h then (g x.1,x.2) else x)=v x
 by_cases e:x.1.nm=h
 ·rw [if_pos e,hv]
 ·rw [if_neg e]
theorem CN {β:Type}{L:List (Ent×β)}{h:Str}{g:Ent→Ent}{y:Ent×β} (hy:y∈wz L h g):∃ x∈L,(x.1.nm=h∧y=(g x.1,x.2))∨(¬ x.1.nm=h∧y=x):=by
 unfold wz at hy
 obtain ⟨x,hx,rfl⟩:=ak.mp hy
 refine ⟨x,hx,?_⟩
 by_cases e:x.1.nm=h
 ·rw [if_pos e];exact .inl ⟨e,rfl⟩
 ·rw [if_neg e];exact .inr ⟨e,rfl⟩
theorem Ar {α β:Type}{key:α→β}:∀ {l:List α}{x y:α},(l.map key).Nodup→x∈l→y∈l→key x=key y→x=y
 | [],_,_,_,hx,_,_=>by cases hx
 | z::r,x,y,h,hx,hy,e=>by
  obtain ⟨h1,h2⟩:=aN.mp h
  rcases ai.mp hx with ex | hx'
  ·rcases ai.mp hy with ey | hy'
   ·exact ex.trans ey.symm
   ·rw [ex] at e
    exact absurd (ak.mpr ⟨y,hy',e.symm⟩) h1
  ·rcases ai.mp hy with ey | hy'
   ·rw [ey] at e
    exact absurd (ak.mpr ⟨x,hx',e⟩) h1
   ·exact Ar h2 hx' hy' e
theorem y7 {L:List (Ent×ae)}{h:Str}{e:Ent×ae} (he:ms L h=some e):e.1.nm=h:=by
 unfold ms at he
 simpa using gE he
theorem BS {L:List (Ent×ae)}{h:Str}{e x:Ent×ae} (nd:(L.map (·.1.nm)).Nodup) (he:ms L h=some e) (hx:x∈L) (hn:x.1.nm=h):x=e :=
 Ar (key:=fun x:Ent×ae=>x.1.nm) nd hx (oO he) (hn.trans (y7 he).symm)
theorem BookAt.reheld {K:aa}{C:ae}{H H':Hp}{b:ae}{z:BA}{ppl:List Str}{L:List (Ent×ae)}{h:Str}{e:Ent×ae}{g:Ent→Ent} (B:BookAt K C H b z ppl L) (nd:(L.map (·.1.nm)).Nodup) (he:ms L h=some e)
  (hg:∀ x,g x={ x with held:=(g x).held }) (hH:HeldAt K H' e.2 (g e.1).held) (kp:∀ c o,H c=some o→c≠e.2→H' c=some o):BookAt K C H' b z ppl (wz L h g):=by
 have hem:=oO he
 have e2:e.2∈L.map (·.2):=ak.mpr ⟨e,hem,rfl⟩
 obtain ⟨n1,r1⟩:=aN.mp B.nd
 obtain ⟨n2,r2⟩:=aN.mp r1
 obtain ⟨n3,r3⟩:=aN.mp r2
 obtain ⟨n4,r4⟩:=aN.mp r3
 obtain ⟨n5,r5⟩:=aN.mp r4
 obtain ⟨n6,r6⟩:=aN.mp r5
 have g1:∀ x,(g x).nm=x.nm:=fun x=>by rw [hg x]
 have g2:∀ x,(g x).th=x.th:=fun x=>by rw [hg x]
 have g3:∀ x,(g x).mr=x.mr:=fun x=>by rw [hg x]
 have g4:∀ x,(g x).ls=x.ls:=fun x=>by rw [hg x]
 refine ⟨kp _ _ B.ob fun q=>n1 (q ▸ by simp only [ai];right;right;right;right;right;exact e2),kp _ _ B.pp fun q=>n2 (q ▸ by simp only [ai];right;right;right;right;exact e2),?_,?_,?_,?_,?_,?_,B.p6,by unfold wz;rw [aj];exact B.h8⟩
 ·rw [qo (v:=fun e=>((aE e.1.nm:Key),V.int e.1.th)) fun x=>by rw [g1,g2]]
  exact kp _ _ B.tt fun q=>n3 (q ▸ by simp only [ai];right;right;right;exact e2)
 ·rw [qo (v:=fun e=>((aE e.1.nm:Key),V.int e.1.mr)) fun x=>by rw [g1,g3]]
  exact kp _ _ B.mm fun q=>n4 (q ▸ by simp only [ai];right;right;exact e2)
 ·rw [qo (v:=fun e=>((aE e.1.nm:Key),V.int e.1.ls)) fun x=>by rw [g1,g4]]
  exact kp _ _ B.ll fun q=>n5 (q ▸ by simp only [ai];right;exact e2)
 ·rw [qo (v:=fun e=>((aE e.1.nm:Key),V.ref e.2)) fun x=>by rw [g1]]
  exact B.hh.keep fun o h=>kp _ _ h fun q=>n6 (q ▸ e2)
 ·intro y hy
  obtain ⟨x,hx,⟨hn,rfl⟩ | ⟨hn,rfl⟩⟩:=CN hy
  ·rw [BS nd he hx hn]
   exact hH
  ·have hy2:y.2≠e.2:=fun q=>hn (by rw [Ar (key:=fun x:Ent×ae=>x.2) r6 hx hem q];exact y7 he)
   obtain ⟨kvs,hk⟩:∃ kvs,H e.2=some (.dK kvs):=by
    obtain ⟨ts,_,q,_⟩:=B.he e hem
    exact ⟨_,q⟩
   refine (B.he y hx).keep (fun o ho=>kp _ _ ho hy2) fun c o ho x=>kp c o ho fun q=>?_
   rw [q,hk] at ho
   cases ho
   rcases x with ⟨xs,z | ⟨ob,z⟩⟩ <;> cases z
 ·rw [qo (v:=fun e=>e.2) fun x=>rfl]
  exact B.nd
section
variable {P:aU}{w:bw}{K:aa}{mg:Str→Option af}{base:bM}{a:Adr}{f:ae}{fd:bV}
end
theorem Gv (i j:Int):FG [V.int i,V.int j] [V.int 0,V.int 1]=decide ((i,j)=((0:Int),(1:Int))):=by
 show (eqV (.int i) (.int 0) && (eqV (.int j) (.int 1) && true))=_
 have e1:∀ i j:Int,eqV (.int i) (.int j)=decide (i=j):=fun i j=>rfl
 rw [e1,e1,Bool.and_true,bP,bJ,decide_eq_true_iff,decide_eq_true_iff,decide_eq_true_iff,Prod.mk.injEq]
theorem bt0 (k:Nat):Bt k 0:=eI k
theorem bt1 {k:Nat} (h:k≠0):Bt k 1:=Nat.one_lt_two_pow h
theorem sz0:Sz (0,1):=⟨⟨by decide,(rfl:aM 0 1=1)⟩,bt0 _,bt1 (by decide)⟩
theorem HeldZ.same {K:aa}{H H':Hp}{p:ae}{l:Hl}{z:List ((Str×Int×Int)×ae)} (h:HeldZ K H p l z) (s:Same H H'):HeldZ K H' p l z :=
 ⟨h.1,s _ _ h.2.1,fun q hq=>(h.2.2 q hq).same s⟩
theorem HeldZ.get {K:aa}{H:Hp}{p:ae}{l:Hl}{z:List ((Str×Int×Int)×ae)} (h:HeldZ K H p l z) {o:ae} (ho:FrAt K H o (0,1)) (n:Str) :
  ∃ x,(m7 (z.map fun q=>((aE q.1.1:Key),V.ref q.2)) (aE n)).getD (.ref o)=.ref x∧FrAt K H x (kB l n):=by
 rcases h.val n with ⟨_,hv,hg⟩ | ⟨_,x,hv,hx⟩
 ·exact ⟨o,by rw [hv];rfl,by rw [hg];exact ho⟩
 ·exact ⟨x,by rw [hv];rfl,hx⟩
def nj (l:Hl) (o:Str) (q:Int×Int):Prop:=¬ 0 < q.1∨q.1 * (kB l o).2 > (kB l o).1 * q.2
instance (l:Hl) (o:Str) (q:Int×Int):Decidable (nj l o q):=by unfold nj;infer_instance
section
variable {P:aU}{w:bw}{K:aa}{mg:Str→Option af}{base:bM}{a:Adr}{f:ae}{fd:bV}
abbrev qe:bX:=me (top 37) 8
theorem sc_Book_sale:FnScope ["self","house","one","other","share","held","rest"] ["self","house","one","other","share"] (kh qe):=fsc
structure SaleOk (l:Hl) (o1:Str) (q:Int×Int):Prop where
 len:l.length < 1000
 sz:∀ n,Sz (kB l n)
 rs:¬ nj l o1 q→Sz (lr (kB l o1) (-q.1,q.2))
def AH (K:aa) (a:Adr):Sp:=fun vs H Q E=>∃ b z ppl L h o1 o2 sp q,vs=[.ref b,.str h,.str o1,.str o2,.ref sp]∧BookAt K a.Book H b z ppl L∧(L.map (·.1.nm)).Nodup∧Nm h∧Nm o1∧Nm o2∧FrAt K H sp q∧Sz q ∧
 (∀ e,ms L h=some e→SaleOk e.1.held o1 q) ∧
 (mU L h=false→E (.ref a.NoHouse) none H) ∧
 (mU L h=true→(lY ppl o1 || mU L o1)=false→E (.ref a.NoHolder) none H) ∧
 (mU L h=true→(lY ppl o1 || mU L o1)=true→(lY ppl o2 || mU L o2)=false→E (.ref a.NoHolder) none H) ∧
 (∀ e,ms L h=some e→(lY ppl o1 || mU L o1)=true→(lY ppl o2 || mU L o2)=true→nj e.1.held o1 q→E (.ref a.NoShare) none H) ∧
 (∀ e,ms L h=some e→(lY ppl o1 || mU L o1)=true→(lY ppl o2 || mU L o2)=true→¬ nj e.1.held o1 q→∀ H',BookAt K a.Book H' b z ppl (wz L h fun x=>{ x with held:=rG x.held o1 o2 q })→(∀ c o,H c=some o→c≠e.2→H' c=some o)→Q .non H')
theorem Ff (F:Fun K "sale" "Book.sale" qe f fd) (T:Txt K mg a) (M_need_house:Mt P w K mg base a.Book "need_house" 2 ["self","name"] (mS K a)) (M_need_holder:Mt P w K mg base a.Book "need_holder" 3 ["self","name"] (mq K a))
  (F_is_above:Fn P w K mg base "is_above" 1 ["first","second"] (ve K)) (F_minus:Fn P w K mg base "minus" 3 ["first","second"] (yK K)) (F_plus:Fn P w K mg base "plus" 2 ["first","second"] (sA K)) :
  FnOk P w K mg base (CXo P w) 4 f fd ["self","house","one","other","share"] (AH K a):=by
 refine F.okX sc_Book_sale (fun vs H Q E h=>?_) (fun cdv A outer s H vs Q E hr h=>?_)
 ·obtain ⟨b,z,ppl,L,h,o1,o2,sp,q,rfl,_⟩:=h
  rfl
 ·obtain ⟨b,z,ppl,L,h,o1,o2,sp,q,rfl,B,nd,nh,n1,n2,hq,sq,hok,k1,k2,k3,k4,k5⟩:=h
  have hu:=kC hr
  refine ⟨_,(@kD _ _ _ _ _ (@nq _ _ _ _ (qL (pv 0) M_need_house (hr.mono (by first | decide | omega)) kQ (@kA _ _ _ _ _ (pv 1) pa_nil (by rfl))) (by rfl)) (@kD _ _ _ _ _ (@nq _ _ _ _ (qL (pv 0) M_need_holder (hr.mono (by first | decide | omega)) kQ (@kA _ _ _ _ _ (pv 2) pa_nil (by rfl))) (by rfl)) (@kD _ _ _ _ _ (@nq _ _ _ _ (qL (pv 0) M_need_holder (hr.mono (by first | decide | omega)) kQ (@kA _ _ _ _ _ (pv 3) pa_nil (by rfl))) (by rfl)) (@kD _ _ _ _ _ (@oT _ _ (5) _ _ _ _ sc_Book_sale.nd rfl (bv rfl) (@uA _ _ _ _ _ _ hu (nA (pv 0) rfl) (pv 1) (fun _ _=>rfl)) (by rfl) (by first | exact .inl rfl | exact .inr rfl | assumption)) (@kD _ _ _ _ _ (@r8 _ _ _ _ _ _ _ _ (PW.pt (Gc (vz (rT (@sd _ _ _ _ _ _ _ _ _ _ _ F_is_above (hr.mono (by first | decide | omega)) rfl kQ (@kA _ _ _ _ _ (pv 4) (@kA _ _ _ _ _ (nW rfl T.g_ZERO T.r_ZERO) pa_nil (by rfl)) (by rfl)) (by decide) (by rfl) (by rfl)))) (D7 (rT (@sd _ _ _ _ _ _ _ _ _ _ _ F_is_above (hr.mono (by first | decide | omega)) rfl kQ (@kA _ _ _ _ _ (pv 4) (@kA _ _ _ _ _ (@vi _ _ _ _ _ _ _ _ _ hu (pv 5) (pv 2) (nW rfl T.g_ZERO T.r_ZERO) ⟨rfl,rfl,rfl,rfl⟩) pa_nil (by rfl)) (by rfl)) (by decide) (by rfl) (by rfl)))))) (@kL _ _ _ (nk T.x_NoShare rfl T.c_NoShare rfl (zN (tZ (pv 2) (vB (tZ (pv 1) vC)))) uH)) pss_nil) (@kD _ _ _ _ _ (@oT _ _ (6) _ _ _ _ sc_Book_sale.nd rfl (bv rfl) (@sd _ _ _ _ _ _ _ _ _ _ _ F_minus (hr.mono (by first | decide | omega)) rfl kQ (@kA _ _ _ _ _ (@uA _ _ _ _ _ _ hu (pv 5) (pv 2) (fun _ _=>rfl)) (@kA _ _ _ _ _ (pv 4) pa_nil (by rfl)) (by rfl)) (by decide) (by rfl) (by rfl)) (by rfl) (by first | exact .inl rfl | exact .inr rfl | assumption)) (@kD _ _ _ _ _ (@r8 _ _ _ _ _ _ _ _ (@qV _ _ _ _ _ _ _ _ (Hd (Nat.lt_of_succ_lt hu)) (pv 6) (nW rfl T.g_ZERO T.r_ZERO) (lI _)) (@kL _ _ _ (@nq _ _ _ _ (De (pv 5) (pv 2) ⟨rfl,rfl,rfl,rfl⟩) (by rfl))) (@kL _ _ _ (pQ hu (pv 5) (pv 2) (pv 6) rfl))) (@kL _ _ _ (pQ hu (pv 5) (pv 3) (@sd _ _ _ _ _ _ _ _ _ _ _ F_plus (hr.mono (by first | decide | omega)) rfl kQ (@kA _ _ _ _ _ (@vi _ _ _ _ _ _ _ _ _ hu (pv 5) (pv 3) (nW rfl T.g_ZERO T.r_ZERO) ⟨rfl,rfl,rfl,rfl⟩) (@kA _ _ _ _ _ (pv 4) pa_nil (by rfl)) (by rfl)) (by decide) (by rfl) (by rfl)) rfl))))))))),?_⟩
  have bn:∀ {m:Str},¬ m="people"→¬ m="things_of"→¬ m="mark_of"→¬ m="loss_of"→¬ m="held_of"→(bf z).lookup m=none:=fun a b c d e=>pW z a b c d e
  refine ⟨_,rfl,b,_,_,rfl,B.ob,pW z (by decide +kernel) (by decide +kernel) (by decide +kernel) (by decide +kernel) (by decide +kernel),_,rfl,b,z,ppl,L,h,rfl,B,nh,fun hh=>?_,fun hh=>k1 hh⟩
  refine ⟨_,rfl,b,_,_,rfl,B.ob,pW z (by decide +kernel) (by decide +kernel) (by decide +kernel) (by decide +kernel) (by decide +kernel),_,rfl,b,z,ppl,L,o1,rfl,B,n1,fun h1=>?_,fun h1=>k2 hh h1⟩
  refine ⟨_,rfl,b,_,_,rfl,B.ob,pW z (by decide +kernel) (by decide +kernel) (by decide +kernel) (by decide +kernel) (by decide +kernel),_,rfl,b,z,ppl,L,o2,rfl,B,n2,fun h2=>?_,fun h2=>k3 hh h1 h2⟩
  cases he:ms L h with
  | none=>unfold mU at hh;unfold ms at he;rw [he] at hh;cases hh
  | some e =>
  have hem:=oO he
  have ok:=hok e he
  obtain ⟨zz,Z⟩:=(B.he e hem).toZ
  have hval:=B.hh.dget h
  rw [DV _ he] at hval
  have zeroFr:∀ H,FrAt K H a.ZERO (0,1):=fun H=>.inr T.zero
  refine ⟨_,rfl,b,_,_,_,_,rfl,B.ob,T.cl,T.nA_held_of,rg z,_,rfl,_,_,rfl,hval,?_⟩
  refine ⟨_,rfl,sp,a.ZERO,q,(0,1),rfl,hq,zeroFr H,sq,sz0,_,rfl,rB (fun h3=>?_) (fun h3=>?_)⟩
  ·have h3:=of_decide_eq_false (nbT h3)
   exact Gn ⟨_,rfl,⟨o1,rfl,n1⟩,_,rfl,⟨h,rfl,nh⟩,fun y=>k4 e he h1 h2 (.inl (by simp only at h3;omega))⟩
  have q0:0 < q.1:=by have:=of_decide_eq_true (nbF h3);simp only at this;omega
  obtain ⟨x0,hx0,fx0⟩:=Z.get (zeroFr H) o1
  refine ⟨_,rfl,_,rfl,e.2,rfl,.inl ⟨_,.inl Z.2.1⟩,_,rfl,_,DGet.k (k:=aE o1) Z.2.1,?_⟩
  rw [hx0]
  refine ⟨sp,x0,q,_,rfl,hq,fx0,sq,ok.sz o1,_,rfl,rB (fun h4=>?_) (fun h4=>?_)⟩
  ·have h4:=of_decide_eq_true h4
   exact ⟨_,rfl,⟨o1,rfl,n1⟩,_,rfl,⟨h,rfl,nh⟩,fun y=>k4 e he h1 h2 (.inr h4)⟩
  have h4:¬ q.1 * (kB e.1.held o1).2 > (kB e.1.held o1).1 * q.2:=fun z=>h4 (decide_eq_true z)
  have ntm:¬ nj e.1.held o1 q:=fun z=>z.elim (fun y=>y q0) h4
  rcases Z.val o1 with ⟨_,_,hg⟩ | ⟨hn,x,hv,hx⟩
  ·exfalso
   rw [hg] at h4
   simp only at h4
   omega
  have hget:DGet H e.2 (.str o1) (some (.ref x)):=by
   have:=DGet.k (k:=aE o1) Z.2.1
   rw [hv] at this
   exact this
  refine ⟨_,rfl,_,rfl,e.2,_,rfl,hget,_,rfl,x,sp,_,_,rfl,hx,hq,ok.sz o1,sq,fun r H1 hr0 s1 hr1=>?_⟩
  have Z1:=Z.same s1
  have fin:∀ H2 l1 z2,HeldZ K H2 e.2 l1 z2→rG e.1.held o1 o2 q=mF l1 o2 (lr (kB l1 o2) q)→(∀ c o,H c=some o→c≠e.2→H2 c=some o)→Sz (kB l1 o2)→l1.length≤e.1.held.length→FrAt K H2 sp q →
    F7 (Cm 5) (Cm 3) (Ew (sA K) [] E (Ev (DZ (Cm 5) (Cm 3) (tC (V.ref a.ZERO))) (Ev (Cm 4) Cn))) { nx:=fun x H'=>Q V.non H',rt:=Q } [some (V.ref b),some (V.str h),some (V.str o1),some (V.str o2),some (V.ref sp),some (V.ref e.2),some (V.ref r)] H2:=by
   intro H2 l1 z2 Z2 es kp szl len fq
   obtain ⟨y,hy,fy⟩:=Z2.get (zeroFr H2) o2
   refine ⟨_,rfl,e.2,rfl,.inl ⟨_,.inl Z2.2.1⟩,_,rfl,_,DGet.k (k:=aE o2) Z2.2.1,?_⟩
   rw [hy]
   refine ⟨_,rfl,y,sp,_,_,rfl,fy,fq,szl,sq,fun t ht=>?_⟩
   have st:=oS (o:=.tup [.int (lr (kB l1 o2) q).1,.int (lr (kB l1 o2) q).2]) ht
   have Z3:=Z2.same st
   refine ⟨_,rfl,_,rfl,e.2,_,rfl,DPut.k (k:=aE o2) Z3.2.1 ?_,?_⟩
   ·rw [aj,← aj (f:=(·.1)),Z2.1]
    exact bc len (fH ok.len (by decide))
   ·obtain ⟨z4,Z4⟩:=Z3.put (n:=o2) (x:=t) (q:=lr (kB l1 o2) q) (SqT.of km)
    have kp':∀ c o,H c=some o→c≠e.2→(upd (upd H2 t (.tup [.int (lr (kB l1 o2) q).1,.int (lr (kB l1 o2) q).2])) e.2 (.dK (pX (z2.map fun q=>((aE q.1.1:Key),V.ref q.2)) (aE o2) (.ref t)))) c=some o:=fun c o hc hn=>by
     rw [ki hn]
     exact st c o (kp c o hc hn)
    refine k5 e he h1 h2 ntm _ (B.reheld nd he (fun x=>rfl) ?_ kp') kp'
    show HeldAt K _ e.2 (rG e.1.held o1 o2 q)
    rw [es]
    exact Z4.held
  refine ⟨_,rfl,r,a.ZERO,_,_,rfl,rfl,SqT.of hr1,.inr T.zero,rfl,rfl,rfl,_,rfl,rB (fun h5=>?_) (fun h5=>?_)⟩
  ·rw [Gv] at h5
   have h5:lr (kB e.1.held o1) (-q.1,q.2)=(0,1):=of_decide_eq_true h5
   refine ⟨_,rfl,e.2,rfl,.inl ⟨_,.inl Z1.2.1⟩,_,rfl,_,aE o1,.ref x,Z1.2.1,rfl,hv,?_⟩
   obtain ⟨z2,Z2⟩:=Z1.drop (n:=o1)
   refine fin _ _ z2 Z2 ?_ (fun c o hc hn=>by rw [ki hn];exact s1 c o hc) ?_ (yY _ _) (x8 Z1.2.1 (hq.same s1))
   ·unfold rG
    simp only [h5,if_true]
   ·rw [wM]
    by_cases e2:o2=o1
    ·rw [if_pos e2];exact sz0
    ·rw [if_neg e2];exact ok.sz o2
  ·rw [Gv] at h5
   have h5:¬ lr (kB e.1.held o1) (-q.1,q.2)=(0,1):=fun z=>h5 (decide_eq_true z)
   refine ⟨_,rfl,_,rfl,_,rfl,e.2,_,rfl,DPut.k (k:=aE o1) Z1.2.1 ?_,?_⟩
   ·rw [aj,← aj (f:=(·.1)),Z.1]
    exact fH ok.len (by decide)
   ·obtain ⟨z2,Z2⟩:=Z1.put (n:=o1) (x:=r) (q:=lr (kB e.1.held o1) (-q.1,q.2)) (SqT.of hr1)
    refine fin _ _ z2 Z2 ?_ (fun c o hc hn=>by rw [ki hn];exact s1 c o hc) ?_ ?_ (x8 Z1.2.1 (hq.same s1))
    ·unfold rG
     simp only [h5,if_false]
    ·rw [lA]
     by_cases e2:o2=o1
     ·rw [if_pos e2];exact ok.rs ntm
     ·rw [if_neg e2];exact ok.sz o2
    ·have:=congrArg dC (lj e.1.held o1 (lr (kB e.1.held o1) (-q.1,q.2)))
     rw [if_pos hn,aj,aj] at this
     exact jz this
end
def ng (L:List Ent) (n:Str):Option Ent:=L.find? fun e=>decide (e.nm=n)
def lW (L:List Ent) (n:Str):Bool:=(ng L n).isSome
def zF (L:List Ent) (h:Str) (g:Ent→Ent):List Ent:=L.map fun x=>if x.nm=h then g x else x
theorem wL (L:List (Ent×ae)) (n:Str):(ms L n).map (·.1)=ng (L.map (·.1)) n:=by
 unfold ms ng
 rw [fO];rfl
theorem lZ (L:List (Ent×ae)) (n:Str):mU L n=lW (L.map (·.1)) n:=by
 unfold lW;rw [← wL];unfold mU ms;rw [cX]
theorem CO (L:List (Ent×ae)) (h:Str) (g:Ent→Ent):(wz L h g).map (·.1)=zF (L.map (·.1)) h g:=by
 unfold wz zF
 rw [aS,aS]
 refine bU fun x _=>?_
 show (if x.1.nm=h then (g x.1,x.2) else x).1=if x.1.nm=h then g x.1 else x.1
 split <;> rfl
def oH (a:Adr) (pp:List Str) (L:List Ent) (x:Str):Option ae:=if sK x=false then some a.NoName else if (lY pp x || lW L x)=true then some a.Twice else none
def qW (a:Adr) (pp:List Str) (L:List Ent) (x:Str):Option ae:=match oH a pp L x with
 | some c=>some c
 | none=>if 6≤pp.length then some a.TooMany else none
def rc (a:Adr) (pp:List Str) (L:List Ent) (x o:Str) (l:Int):Option ae:=match oH a pp L x with
 | some c=>some c
 | none=>if (lY pp o || lW L o)=false then some a.NoHolder else if l < 0 then some a.NoLoss else if 8≤L.length then some a.TooMany else none
theorem uD (a:Adr) (pp:List Str) (L:List (Ent×ae)) (x:Str):oA a pp L x=oH a pp (L.map (·.1)) x:=by unfold oA oH;rw [lZ]
theorem uz (a:Adr) (pp:List Str) (L:List (Ent×ae)) (x:Str):qX a pp L x=qW a pp (L.map (·.1)) x:=by unfold qX qW;rw [uD];try (cases oH a pp (L.map (·.1)) x <;> rfl)
theorem uK (a:Adr) (pp:List Str) (L:List (Ent×ae)) (x o:Str) (l:Int):oV a pp L x o l=rc a pp (L.map (·.1)) x o l:=by unfold oV rc;rw [uD,lZ,aj];try (cases oH a pp (L.map (·.1)) x <;> rfl)
noncomputable instance (x:Str):Decidable (Nm x):=db _
def lg (vs:List PV) (s:Sto) (k:Nat→List Str→List Ent→List PV→Out PV):Out PV:=match vs with
 | .ref n::r=>match s.get n with
  | some (.book pp L)=>k n pp L r
  | _=>.bad
 | _=>.bad
def qF (a:Adr) (vs:List PV) (s:Sto):Out PV:=lg vs s fun n pp L r=>match r with
 | [.str x]=>if Nm x then (match qW a pp L x with
  | none=>.ok .non (s.set n (.book (pp++[x]) L))
  | some c=>.ex c s) else .bad
 | _=>.bad
def sQ (a:Adr) (vs:List PV) (s:Sto):Out PV:=lg vs s fun n pp L r=>match r with
 | [.str x,.str o,.int t,.int m,.int l]=>if Nm x∧Nm o then (match rc a pp L x o l with
  | none=>.ok .non (s.set n (.book pp (L++[⟨x,t,m,l,[(o,1,1)]⟩])))
  | some c=>.ex c s) else .bad
 | _=>.bad
def nT (_:Adr) (vs:List PV) (s:Sto):Out PV:=lg vs s fun _ pp _ r=>match r with
 | []=>.ok (.lst ((srt pp).map .str)) s
 | _=>.bad
def mM (_:Adr) (vs:List PV) (s:Sto):Out PV:=lg vs s fun _ _ L r=>match r with
 | []=>.ok (.lst ((srt (L.map (·.nm))).map .str)) s
 | _=>.bad
def frP (q:Int×Int):PV:=.tup [.int q.1,.int q.2]
def x4 (q:Str×Int×Int):PV:=.tup [.str q.1,frP q.2]
def xG (l:List (Str×Int×Int)):PV:=.lst ((srt (l.map (·.1))).map fun n=>x4 (lv l n))
def pd (a:Adr) (vs:List PV) (s:Sto):Out PV:=lg vs s fun _ _ L r=>match r with
 | [.str x]=>if Nm x then (match ng L x with
  | none=>.ex a.NoHouse s
  | some e=>if e.held.length < 64 then .ok (xG e.held) s else .bad) else .bad
 | _=>.bad
def la (_:Adr) (vs:List PV) (s:Sto):Out PV:=lg vs s fun _ _ L r=>match r with
 | [.str x]=>.ok (.bl (lW L x)) s
 | _=>.bad
def mG (a:Adr) (vs:List PV) (s:Sto):Out PV:=lg vs s fun _ _ L r=>match r with
 | [.str x]=>if Nm x then (if lW L x=true then .ok .non s else .ex a.NoHouse s) else .bad
 | _=>.bad
def kJ (a:Adr) (vs:List PV) (s:Sto):Out PV:=lg vs s fun _ pp L r=>match r with
 | [.str x]=>if Nm x then (if (lY pp x || lW L x)=true then .ok .non s else .ex a.NoHolder s) else .bad
 | _=>.bad
structure SaleE (L:List Ent) (h o1 o2:Str) (q:Int×Int):Prop where
 nd:(L.map (·.nm)).Nodup
 nm:Nm h∧Nm o1∧Nm o2
 sz:Sz q
 ok:∀ e,ng L h=some e→SaleOk e.held o1 q
noncomputable instance (L:List Ent) (h o1 o2:Str) (q:Int×Int):Decidable (SaleE L h o1 o2 q):=db _
def vY (a:Adr) (vs:List PV) (s:Sto):Out PV:=lg vs s fun n pp L r=>match r with
 | [.str h,.str o1,.str o2,.tup [.int t,.int b]]=>if SaleE L h o1 o2 (t,b) then (match ng L h with
  | none=>.ex a.NoHouse s
  | some e=>if (lY pp o1 || lW L o1)=false then .ex a.NoHolder s else if (lY pp o2 || lW L o2)=false then .ex a.NoHolder s
   else if nj e.held o1 (t,b) then .ex a.NoShare s else .ok .non (s.set n (.book pp (zF L h fun x=>{ x with held:=rG x.held o1 o2 (t,b) })))) else .bad
 | _=>.bad
section
variable {K:aa}{H:Hp}{m:Mp}{s:Sto}{a:Adr}
theorem Ih {CB:ae} (S:SR K CB H m s) {n:Nat}{pp pp':List Str}{L:List Ent}{L' L2:List (Ent×ae)}{z:BA}{H':Hp} (hg:s.get n=some (.book pp L)) (eF:m.fp n=BFp (m.ad n) z L') (B':BookAt K CB H' (m.ad n) z pp' L2)
  (k:∀ a o,H a=some o→a∉BFp (m.ad n) z L'→H' a=some o) (hnew:∀ a∈BFp (m.ad n) z L2,a∈BFp (m.ad n) z L'∨H a=none) :
  SR K CB H' (m.fput n (BFp (m.ad n) z L2)) (s.set n (.book pp' (L2.map (·.1))))∧Ext H m s H' (m.fput n (BFp (m.ad n) z L2)) (s.set n (.book pp' (L2.map (·.1)))) :=
 S.put hg (by intro _ z;cases z) H' _ (by rw [eF];exact k) (by rw [eF];exact hnew) fun _=>⟨z,L2,B',rfl,by show (if n=n then _ else _)=_;rw [if_pos rfl];rfl⟩
theorem onB {CB:ae} (S:SR K CB H m s) {xs:List V}{vs:List PV}{k:Nat→List Str→List Ent→List PV→Out PV}{E:XK}{Q:VK} (r:Reps K H m s xs vs) (P:Post K CB (Rep K) E (lg vs s k) H m s Q) :
  ∃ n pp L z L' us ys,s.get n=some (.book pp L)∧BookAt K CB H (m.ad n) z pp L'∧L'.map (·.1)=L∧m.fp n=BFp (m.ad n) z L'∧xs=.ref (m.ad n)::us∧Reps K H m s us ys∧Post K CB (Rep K) E (k n pp L ys) H m s Q:=by
 unfold lg at P
 split at P
 ·rename_i n r'
  split at P
  ·rename_i pp L hg
   obtain ⟨z,L',B,e1,e2⟩:=S.get hg
   cases r with
   | cons r1 r2 =>
    cases r1
    exact ⟨n,pp,L,z,L',_,_,hg,B,e1,e2,rfl,r2,P⟩
  ·exact P.elim
 ·exact P.elim
theorem Fy {L:List (Ent×ae)}{b:ae}{z:BA}{e:Ent×ae} (h:e∈L):e.2∈BFp b z L:=by
 unfold BFp
 simp only [ai]
 right;right;right;right;right;right
 exact ak.mpr ⟨e,h,rfl⟩
theorem CM (L:List (Ent×ae)) (h:Str) (g:Ent→Ent):(wz L h g).map (·.2)=L.map (·.2):=by
 unfold wz
 rw [aS]
 refine bU fun x _=>?_
 show (if x.1.nm=h then (g x.1,x.2) else x).2=x.2
 split <;> rfl
theorem EV (b:ae) (z:BA) (L:List (Ent×ae)) (h:Str) (g:Ent→Ent):BFp b z (wz L h g)=BFp b z L:=by unfold BFp;rw [CM]
theorem sF {us:List V}{x:Str} (r:Reps K H m s us [.str x]):us=[.str x]:=by
 cases r with
 | cons a b=>cases a;cases b;rfl
theorem zA (vs:List V) (H:Hp) (Q:VK) (E:XK) (h:spD K a.Book 2 (qF a) vs H Q E):ww K a vs H Q E:=by
 obtain ⟨_,ps,s,m,r,S,P⟩:=h
 obtain ⟨n,pp,L,z,L',us,ys,hg,B,e1,e2,rfl,r',P⟩:=onB S r P
 split at P
 ·split at P
  ·rename_i x hx
   cases sF r'
   refine ⟨_,z,pp,L',x,rfl,B,hx,fun hd H' B' k=>?_,fun c hd H' k=>?_⟩
   ·rw [uz,e1] at hd
    rw [hd] at P
    obtain ⟨S2,x2⟩:=Ih S hg e2 B' (fun c o h hc=>k c o h fun z=>hc (by rw [z];simp [BFp])) (fun c hc=>.inl hc)
    rw [e1] at S2 x2
    exact P _ _ _ x2 S2 .non
   ·rw [uz,e1] at hd
    rw [hd] at P
    exact P _ m (.same k) (S.same k)
  ·exact P.elim
 ·exact P.elim
theorem Bf (vs:List V) (H:Hp) (Q:VK) (E:XK) (h:spD K a.Book 6 (sQ a) vs H Q E):yL K a vs H Q E:=by
 obtain ⟨_,ps,s,m,r,S,P⟩:=h
 obtain ⟨n,pp,L,z,L',us,ys,hg,B,e1,e2,rfl,r',P⟩:=onB S r P
 split at P
 ·split at P
  ·rename_i x o t mm l hx
   cases r' with
   | cons q1 r'=>cases r' with
    | cons q2 r'=>cases r' with
     | cons q3 r'=>cases r' with
      | cons q4 r'=>cases r' with
       | cons q5 r' =>
        cases r';cases q1;cases q2;cases q3;cases q4;cases q5
        refine ⟨_,z,pp,L',x,o,t,mm,l,rfl,B,hx.1,hx.2,fun hd p H' hp B' k=>?_,fun c hd H' k=>?_⟩
        ·rw [uK,e1] at hd
         rw [hd] at P
         obtain ⟨S2,x2⟩:=Ih S hg e2 B' (fun c o h hc=>k c o h fun z=>hc (by unfold BFp;simp only [ai,eY,or_false] at z ⊢;rcases z with z | z | z | z <;> simp [z])) (fun c hc=>by
          unfold BFp at hc ⊢
          rw [aY] at hc
          simp only [ai,aO,au,cO,eY,or_false] at hc ⊢
          rcases hc with h | h | h | h | h | h | h | h
          ·exact .inl (.inl h)
          ·exact .inl (.inr (.inl h))
          ·exact .inl (.inr (.inr (.inl h)))
          ·exact .inl (.inr (.inr (.inr (.inl h))))
          ·exact .inl (.inr (.inr (.inr (.inr (.inl h)))))
          ·exact .inl (.inr (.inr (.inr (.inr (.inr (.inl h))))))
          ·exact .inl (.inr (.inr (.inr (.inr (.inr (.inr h))))))
          ·rw [h];exact .inr hp)
         rw [aY,e1] at S2 x2
         exact P _ _ _ x2 S2 .non
        ·rw [uK,e1] at hd
         rw [hd] at P
         exact P _ m (.same k) (S.same k)
  ·exact P.elim
 ·exact P.elim
theorem ym (vs:List V) (H:Hp) (Q:VK) (E:XK) (h:spD K a.Book 1 (nT a) vs H Q E):ul K a.Book vs H Q E:=by
 obtain ⟨_,ps,s,m,r,S,P⟩:=h
 obtain ⟨n,pp,L,z,L',us,ys,hg,B,e1,e2,rfl,r',P⟩:=onB S r P
 split at P
 ·cases r'
  exact ⟨_,z,pp,L',rfl,B,fun l hl=>P.new S hl fun ex S'=>.lst km (S.pure_none hl) (.ofStrs _)⟩
 ·exact P.elim
theorem zB (vs:List V) (H:Hp) (Q:VK) (E:XK) (h:spD K a.Book 1 (mM a) vs H Q E):wx K a.Book vs H Q E:=by
 obtain ⟨_,ps,s,m,r,S,P⟩:=h
 obtain ⟨n,pp,L,z,L',us,ys,hg,B,e1,e2,rfl,r',P⟩:=onB S r P
 split at P
 ·cases r'
  refine ⟨_,z,pp,L',rfl,B,fun l hl=>P.new S hl fun ex S'=>.lst km (S.pure_none hl) ?_⟩
  rw [← e1,aS]
  exact .ofStrs _
 ·exact P.elim
theorem uR {L':List (Ent×ae)}{L:List Ent}{x:Str} (e:L'.map (·.1)=L):(∀ q,ms L' x=some q→ng L x=some q.1)∧(ms L' x=none→ng L x=none):=by
 have:=wL L' x
 rw [e] at this
 refine ⟨fun q h=>?_,fun h=>?_⟩ <;> (rw [h] at this;exact this.symm)
theorem wA:∀ {l:List (Str×Int×Int)}{vs:List V}{m:Mp}{s:Sto}{CB:ae}{H:Hp},SR K CB H m s→fB (PairAt K H) l vs→Reps K H m s vs (l.map x4)
 | _,_,_,_,_,_,_,.nil=>.nil
 | _,_,m,s,CB,H,S,.cons r t=>by
  obtain ⟨p,q,rfl,h1,h2⟩:=r
  have tp:∀ {c:ae}{xs:List V},SqT K H c xs→(Rd H c (.tup xs)∧Pur m s c∨KT' K c xs):=fun h=>h.elim (fun z=>.inl ⟨z,z.elim (fun z=>S.pure_tup z) fun ⟨_,z⟩=>S.pure_frz (.inl z)⟩) .inr
  exact .cons (.tup (tp h1) (.cons .str (.cons (.tup (tp h2) (.cons .int (.cons .int .nil))) .nil))) (wA S t)
theorem zy (vs:List V) (H:Hp) (Q:VK) (E:XK) (h:spD K a.Book 2 (pd a) vs H Q E):wv K a vs H Q E:=by
 obtain ⟨_,ps,s,m,r,S,P⟩:=h
 obtain ⟨n,pp,L,z,L',us,ys,hg,B,e1,e2,rfl,r',P⟩:=onB S r P
 split at P
 ·split at P
  ·rename_i x hx
   cases sF r'
   obtain ⟨f1,f2⟩:=uR (x:=x) e1
   refine ⟨_,z,pp,L',x,rfl,B,hx,fun e he=>?_,fun he=>?_⟩
   ·rw [f1 e he] at P
    dsimp only at P
    split at P
    ·rename_i h64
     refine ⟨h64,fun l ys' H' hl k h' pr=>?_⟩
     have S':=S.same k
     refine P _ H' m (.same k) S' (.lst h' ?_ ?_)
     ·have:=S.pure_none hl;exact this
     ·have:=wA (m:=m) (s:=s) S' pr
      rw [aS] at this
      exact this
    ·exact P.elim
   ·rw [f2 he] at P
    exact P H m .refl S
  ·exact P.elim
 ·exact P.elim
theorem xj (vs:List V) (H:Hp) (Q:VK) (E:XK) (h:spD K a.Book 2 (la a) vs H Q E):oh K a.Book vs H Q E:=by
 obtain ⟨_,ps,s,m,r,S,P⟩:=h
 obtain ⟨n,pp,L,z,L',us,ys,hg,B,e1,e2,rfl,r',P⟩:=onB S r P
 split at P
 ·rename_i x
  cases sF r'
  refine ⟨_,z,pp,L',x,rfl,B,?_⟩
  rw [lZ,e1]
  exact P.here S .bl
 ·exact P.elim
theorem uc (vs:List V) (H:Hp) (Q:VK) (E:XK) (h:spD K a.Book 2 (mG a) vs H Q E):mS K a vs H Q E:=by
 obtain ⟨_,ps,s,m,r,S,P⟩:=h
 obtain ⟨n,pp,L,z,L',us,ys,hg,B,e1,e2,rfl,r',P⟩:=onB S r P
 split at P
 ·split at P
  ·rename_i x hx
   cases sF r'
   refine ⟨_,z,pp,L',x,rfl,B,hx,fun h=>?_,fun h=>?_⟩
   ·rw [lZ,e1] at h;rw [if_pos h] at P;exact P.here S .non
   ·rw [lZ,e1] at h;rw [if_neg (by rw [h];decide)] at P;exact P H m .refl S
  ·exact P.elim
 ·exact P.elim
theorem tQ (vs:List V) (H:Hp) (Q:VK) (E:XK) (h:spD K a.Book 2 (kJ a) vs H Q E):mq K a vs H Q E:=by
 obtain ⟨_,ps,s,m,r,S,P⟩:=h
 obtain ⟨n,pp,L,z,L',us,ys,hg,B,e1,e2,rfl,r',P⟩:=onB S r P
 split at P
 ·split at P
  ·rename_i x hx
   cases sF r'
   refine ⟨_,z,pp,L',x,rfl,B,hx,fun h=>?_,fun h=>?_⟩
   ·rw [lZ,e1] at h;rw [if_pos h] at P;exact P.here S .non
   ·rw [lZ,e1] at h;rw [if_neg (by rw [h];decide)] at P;exact P H m .refl S
  ·exact P.elim
 ·exact P.elim
theorem CF (vs:List V) (H:Hp) (Q:VK) (E:XK) (h:spD K a.Book 5 (vY a) vs H Q E):AH K a vs H Q E:=by
 obtain ⟨_,ps,s,m,r,S,P⟩:=h
 obtain ⟨n,pp,L,z,L',us,ys,hg,B,e1,e2,rfl,r',P⟩:=onB S r P
 split at P
 ·split at P
  ·rename_i h o1 o2 t b hs
   cases r' with
   | cons q1 r'=>cases r' with
    | cons q2 r'=>cases r' with
     | cons q3 r'=>cases r' with
      | cons q4 r' =>
       cases r';cases q1;cases q2;cases q3
       obtain ⟨p,ws,rfl,ht,rw'⟩:=q4.tp
       cases rw' with
       | cons w1 w2=>cases w2 with
        | cons w2 w3 =>
         cases w3;cases w1;cases w2
         obtain ⟨f1,f2⟩:=uR (x:=h) e1
         have hh:mU L' h=(ng L h).isSome:=by rw [lZ,e1];rfl
         have h1:(lY pp o1 || mU L' o1)=(lY pp o1 || lW L o1):=by rw [lZ,e1]
         have h2:(lY pp o2 || mU L' o2)=(lY pp o2 || lW L o2):=by rw [lZ,e1]
         refine ⟨_,z,pp,L',h,o1,o2,p,(t,b),rfl,B,by rw [show L'.map (fun x=>x.1.nm)=L.map (·.nm) by rw [← e1,aS];rfl];exact hs.nd,hs.nm.1,hs.nm.2.1,hs.nm.2.2,ht,hs.sz,fun e he=>hs.ok _ (f1 e he),fun q=>?_,fun q g1=>?_,fun q g1 g2=>?_,fun e he g1 g2 g3=>?_,fun e he g1 g2 g3 H' B' k=>?_⟩
         ·rw [hh] at q
          cases c:ng L h with
          | none=>rw [c] at P;exact P H m .refl S
          | some e=>rw [c] at q;cases q
         ·rw [hh] at q
          cases c:ng L h with
          | none=>rw [c] at q;cases q
          | some e=>rw [c] at P;dsimp only at P;rw [if_pos (by rw [← h1];exact g1)] at P;exact P H m .refl S
         ·rw [hh] at q
          cases c:ng L h with
          | none=>rw [c] at q;cases q
          | some e=>rw [c] at P;dsimp only at P;rw [if_neg (by rw [← h1,g1];decide),if_pos (by rw [← h2];exact g2)] at P;exact P H m .refl S
         ·rw [f1 e he] at P
          dsimp only at P
          rw [if_neg (by rw [← h1,g1];decide),if_neg (by rw [← h2,g2];decide),if_pos g3] at P
          exact P H m .refl S
         ·rw [f1 e he] at P
          dsimp only at P
          rw [if_neg (by rw [← h1,g1];decide),if_neg (by rw [← h2,g2];decide),if_neg g3] at P
          obtain ⟨S2,x2⟩:=Ih S hg e2 B' (fun c o hc hn=>k c o hc fun z=>hn (by rw [z];exact Fy (oO he))) (fun c hc=>.inl (by rw [EV] at hc;exact hc))
          rw [CO,e1] at S2 x2
          exact P _ _ _ x2 S2 .non
  ·exact P.elim
 ·exact P.elim
theorem Mt.imp {P:aU}{w:bw}{mg:Str→Option af}{base:bM}{C:ae}{mm:Str}{k:Nat}{ps:List Str}{sp sp':Sp} (M:Mt P w K mg base C mm k ps sp) (h:∀ vs H Q E,sp' vs H Q E→sp vs H Q E):Mt P w K mg base C mm k ps sp' :=
 let ⟨f,fd,F,b⟩:=M;⟨f,fd,F.imp h,b⟩
theorem Fn.imp {P:aU}{w:bw}{mg:Str→Option af}{base:bM}{x:Str}{k:Nat}{ps:List Str}{sp sp':Sp} (M:Fn P w K mg base x k ps sp) (h:∀ vs H Q E,sp' vs H Q E→sp vs H Q E):Fn P w K mg base x k ps sp' :=
 let ⟨f,fd,F,b⟩:=M;⟨f,fd,F.imp h,b⟩
noncomputable instance (q:Int×Int):Decidable (Sz q):=db _
def ua (_:Adr) (vs:List PV) (s:Sto):Out PV:=match vs with
 | [.tup [.int t,.int b],.tup [.int t',.int b']]=>if Sz (t,b)∧Sz (t',b') then .ok (frP (lr (t,b) (t',b'))) s else .bad
 | _=>.bad
def mY (_:Adr) (vs:List PV) (s:Sto):Out PV:=match vs with
 | [.tup [.int t,.int b],.tup [.int t',.int b']]=>if Sz (t,b)∧Sz (t',b') then .ok (.bl (decide (t * b' > t' * b))) s else .bad
 | _=>.bad
theorem Ci {x:V}{t b:Int} (r:Rep K H m s x (.tup [.int t,.int b])):∃ p,x=.ref p∧FrAt K H p (t,b):=by
 obtain ⟨p,ws,rfl,ht,rw'⟩:=r.tp
 cases rw' with
 | cons w1 w2=>cases w2 with
  | cons w2 w3=>cases w3;cases w1;cases w2;exact ⟨p,rfl,ht⟩
theorem CG (vs:List V) (H:Hp) (Q:VK) (E:XK) (h:spD K a.Book 2 (ua a) vs H Q E):sA K vs H Q E:=by
 obtain ⟨_,ps,s,m,r,S,P⟩:=h
 unfold ua at P
 split at P
 ·split at P
  ·rename_i hz
   cases r with
   | cons r1 r=>cases r with
    | cons r2 r =>
     cases r
     obtain ⟨p1,rfl,h1⟩:=Ci r1
     obtain ⟨p2,rfl,h2⟩:=Ci r2
     exact ⟨p1,p2,_,_,rfl,h1,h2,hz.1,hz.2,fun x hx=>P.new S hx fun ex S'=>.tup (.inl ⟨.inl km,S'.pure_tup km⟩) (.cons .int (.cons .int .nil))⟩
  ·exact P.elim
 ·exact P.elim
theorem Bg (vs:List V) (H:Hp) (Q:VK) (E:XK) (h:spD K a.Book 2 (mY a) vs H Q E):ve K vs H Q E:=by
 obtain ⟨_,ps,s,m,r,S,P⟩:=h
 unfold mY at P
 split at P
 ·split at P
  ·rename_i hz
   cases r with
   | cons r1 r=>cases r with
    | cons r2 r =>
     cases r
     obtain ⟨p1,rfl,h1⟩:=Ci r1
     obtain ⟨p2,rfl,h2⟩:=Ci r2
     exact ⟨p1,p2,_,_,rfl,h1,h2,hz.1,hz.2,P.here S .bl⟩
  ·exact P.elim
 ·exact P.elim
theorem noF (m:Str) (h1:¬ m="people") (h2:¬ m="things_of") (h3:¬ m="mark_of") (h4:¬ m="loss_of") (h5:¬ m="held_of") (z:BA):(bf z).lookup m=none:=pW z h1 h2 h3 h4 h5
theorem BC (z:BA):(bf z).lookup ("person":Str)=none:=noF "person" (by decide +kernel) (by decide +kernel) (by decide +kernel) (by decide +kernel) (by decide +kernel) z
theorem Do (z:BA):(bf z).lookup ("house":Str)=none:=noF "house" (by decide +kernel) (by decide +kernel) (by decide +kernel) (by decide +kernel) (by decide +kernel) z
theorem Fj (z:BA):(bf z).lookup ("sale":Str)=none:=noF "sale" (by decide +kernel) (by decide +kernel) (by decide +kernel) (by decide +kernel) (by decide +kernel) z
theorem zW (z:BA):(bf z).lookup ("persons":Str)=none:=noF "persons" (by decide +kernel) (by decide +kernel) (by decide +kernel) (by decide +kernel) (by decide +kernel) z
theorem wD (z:BA):(bf z).lookup ("houses":Str)=none:=noF "houses" (by decide +kernel) (by decide +kernel) (by decide +kernel) (by decide +kernel) (by decide +kernel) z
theorem BB (z:BA):(bf z).lookup ("shares":Str)=none:=noF "shares" (by decide +kernel) (by decide +kernel) (by decide +kernel) (by decide +kernel) (by decide +kernel) z
theorem tz (z:BA):(bf z).lookup ("is_house":Str)=none:=noF "is_house" (by decide +kernel) (by decide +kernel) (by decide +kernel) (by decide +kernel) (by decide +kernel) z
theorem vO (z:BA):(bf z).lookup ("need_house":Str)=none:=noF "need_house" (by decide +kernel) (by decide +kernel) (by decide +kernel) (by decide +kernel) (by decide +kernel) z
theorem nN (z:BA):(bf z).lookup ("need_holder":Str)=none:=noF "need_holder" (by decide +kernel) (by decide +kernel) (by decide +kernel) (by decide +kernel) (by decide +kernel) z
end
def Sm (x:Str):Prop:=x.length≤9∧∀ c∈x.cps.toList,c < 128
theorem Sm.nm {x:Str} (h:Sm x):Nm x:=⟨aJ h.1 (by decide),fun c hc=>fH (h.2 c hc) (by decide)⟩
theorem sv (x y:Str):(x++y).cps.toList=x.cps.toList++y.cps.toList:=PyProof.Rows.cps_toList_append x y
theorem yZ:∀ (ys:List Str),(∀ y∈ys,y.length≤1∧∀ c∈y.cps.toList,(97≤c∧c≤122))→(iX (aD "") ys).length≤ys.length∧∀ c∈(iX (aD "") ys).cps.toList,(97≤c∧c≤122)
 | [],_=>⟨aA _,fun c hc=>by cases hc⟩
 | [x],h=>⟨(h x (by simp)).1,(h x (by simp)).2⟩
 | x::y::r,h=>by
  obtain ⟨i1,i2⟩:=yZ (y::r) fun z hz=>h z (ag _ hz)
  obtain ⟨j1,j2⟩:=h x am
  have e:iX (aD "") (x::y::r)=x++aD ""++iX (aD "") (y::r):=rfl
  rw [e]
  refine ⟨?_,fun c hc=>?_⟩
  ·rw [pR,pR]
   have:(aD "").length=0:=rfl
   rw [aB]
   omega
  ·rw [sv,sv] at hc
   rcases aO.mp hc with hc | hc
   ·rcases aO.mp hc with hc | hc
    ·exact j2 c hc
    ·cases hc
   ·exact i2 c hc
theorem Dx {ys:List Str} (h:∀ y∈ys,y.length≤1∧∀ c∈y.cps.toList,(97≤c∧c≤122)):(gj (aD "") ys).length≤ys.length∧∀ c∈(gj (aD "") ys).cps.toList,(97≤c∧c≤122):=by
 have e:gj (aD "") ys=iX (aD "") ys:=StrLaws.glued_eq_join _ _
 rw [e]
 exact yZ ys h
theorem Fs:∀ j,j < 26→(aD "abcdefghijklmnopqrstuvwxyz").cps.toList[j]?=some (97+j):=by decide +kernel
theorem Ef {i:Int} (h0:0≤i) (h1:i < 26):atI (aD "abcdefghijklmnopqrstuvwxyz").cps.toList i=some (97+i.toNat):=by
 have e:i=(i.toNat:Int):=by omega
 have:=kZ (Fs i.toNat (by omega))
 rw [← e] at this
 exact this
theorem Cz {ys:List Str} (h:∀ y∈ys,y.length≤1):(ys.map (·.length)).sum≤ys.length:=by
 induction ys with
 | nil=>exact aA _
 | cons y r ih =>
  have:=ih fun z hz=>h z (ag _ hz)
  have:=h y am
  simp only [au,List.sum_cons,aB]
  omega
def Wd (r:Int) (j:Nat) (w:Str):Prop:=Sm w∧sK w=true∧w.cps.toList.head?=some (97+((r+7 * (0+(j:Int))) % 26).toNat)
def shown (l:List (Str×Int×Int)):List (Str×Int×Int):=((srt (l.map (·.1))).map (lv l)).filter fun q=>decide (0 < q.2.1)
structure FrB (k:Nat) (v:Int) (q:Int×Int):Prop where
 low:Low q
 nn:0≤q.1
 le:q.1≤v * q.2
 bb:Bt k q.2
theorem AJ {q:Int×Int} (h:0 < q.2):(red q).2 ∣ q.2:=by
 obtain ⟨v,hv⟩:(aM q.1 q.2:Int) ∣ q.2:=cJ ..
 have hg:0 < aM q.1 q.2:=bZ _ (by omega)
 refine ⟨(aM q.1 q.2:Int),?_⟩
 unfold red
 simp only
 rw [Int.ediv_mul_cancel (cJ ..)]
theorem qD {p q:Int×Int} (hp:0 < p.2) (hq:0 < q.2):(lr p q).1 * (p.2 * q.2)=(p.1 * q.2+q.1 * p.2) * (lr p q).2:=(pP (q:=(p.1 * q.2+q.1 * p.2,p.2 * q.2)) (bF hp hq)).2
theorem A9 {k l:Nat}{p q:Int×Int} (hp:0 < p.2) (hq:0 < q.2) (bp:Bt k p.2) (bq:Bt l q.2):Bt (k+l) (lr p q).2 :=
 (bp.mul bq).dvd (Int.ne_of_gt (bF hp hq)) (AJ (q:=(p.1 * q.2+q.1 * p.2,p.2 * q.2)) (bF hp hq))
theorem qM {a b d:Int} (hd:0 < d) (h:a * d≤b * d):a≤b:=dZ h hd
theorem xE {k:Nat}{v:Int}{g q:Int×Int} (hg:FrB k v g) (hq:Low q) (q0:0 < q.1) (h:q.1 * g.2≤g.1 * q.2) (bq:Bt 94 q.2):FrB (k+94) v (lr g (-q.1,q.2)):=by
 have g0:=hg.low.1
 have p0:=hq.1
 have lq:Low (-q.1,q.2):=⟨hq.1,by have:=hq.2;unfold Cop aM at *;simp only [gO];exact this⟩
 have lo:=sw hg.low lq
 have D0:0 < g.2 * q.2:=bF g0 p0
 have ev:=qD (p:=g) (q:=(-q.1,q.2)) g0 p0
 simp only at ev
 generalize hr:lr g (-q.1,q.2)=r at *
 have r0:=lo.1
 refine ⟨lo,?_,?_,?_⟩
 ·refine qM D0 ?_
  rw [ev,Int.zero_mul]
  refine eV ?_ (bu r0)
  rw [iI];omega
 ·refine qM D0 ?_
  rw [ev]
  have h1:g.1 * q.2+-q.1 * g.2≤v * g.2 * q.2:=by
   have a1:g.1 * q.2≤v * g.2 * q.2:=aL hg.le (bu p0)
   have a2:0≤q.1 * g.2:=eV (bu q0) (bu g0)
   rw [iI];omega
  have h2:=aL h1 (bu r0)
  have e:v * g.2 * q.2 * r.2=v * r.2 * (g.2 * q.2):=by simp only [a9,eW,bz]
  rw [← e]
  exact h2
 ·rw [← hr]
  exact A9 g0 p0 hg.bb bq
theorem F3 {k:Nat}{v:Int}{g q:Int×Int} (hg:FrB k v g) (hq:Low q) (q0:0 < q.1) (h:q.1≤v * q.2) (bq:Bt 94 q.2):FrB (k+94) (2 * v) (lr g q)∧0 < (lr g q).1:=by
 have g0:=hg.low.1
 have p0:=hq.1
 have lo:=sw hg.low hq
 have D0:0 < g.2 * q.2:=bF g0 p0
 have ev:=qD (p:=g) (q:=q) g0 p0
 have bt:=A9 (p:=g) (q:=q) g0 p0 hg.bb bq
 generalize hr:lr g q=r at *
 have r0:=lo.1
 have pos:0 < r.1:=by
  have a1:0≤g.1 * q.2:=eV hg.nn (bu p0)
  have a2:0 < q.1 * g.2:=bF q0 g0
  have a3:0 < (g.1 * q.2+q.1 * g.2) * r.2:=bF (by omega) r0
  rw [← ev] at a3
  by_cases z:0 < r.1
  ·exact z
  ·have:=eJ (show r.1≤0 by omega) (bu D0)
   omega
 refine ⟨⟨lo,bu pos,?_,bt⟩,pos⟩
 refine qM D0 ?_
 rw [ev]
 have h1:g.1 * q.2+q.1 * g.2≤2 * v * g.2 * q.2:=by
  have a1:g.1 * q.2≤v * g.2 * q.2:=aL hg.le (bu p0)
  have a2:q.1 * g.2≤v * q.2 * g.2:=aL h (bu g0)
  have e1:v * q.2 * g.2=v * g.2 * q.2:=dE ..
  have e2:2 * v * g.2 * q.2=2 * (v * g.2 * q.2):=by rw [a9 2,a9 2]
  rw [e2]
  omega
 have h2:=aL h1 (bu r0)
 have e:2 * v * g.2 * q.2 * r.2=2 * v * r.2 * (g.2 * q.2):=by simp only [a9,eW,bz]
 rw [← e]
 exact h2
theorem AR {k:Nat}{v:Int}{g q:Int×Int} (hg:FrB k v g) (hq:Low q) (h:q.1 * g.2≤g.1 * q.2):q.1≤v * q.2:=by
 refine qM hg.low.1 (d9 h ?_)
 have:=aL hg.le (bu hq.1)
 rw [dE]
 exact this
def FrC (c:Nat) (q:Int×Int):Prop:=FrB (192 * c+2) (2 ^ c:Nat) q
theorem FrC.top {c:Nat}{q:Int×Int} (h:FrC c q):Bt (193 * c+2) q.1:=by
 have h1:=h.le
 have h0:=h.nn
 have hb:Bt (c+1) ((2 ^ c:Nat):Int):=by
  unfold Bt
  rw [Int.natAbs_natCast,Nat.pow_succ]
  have:=eI c
  omega
 have h2:q.1.natAbs≤(((2 ^ c:Nat):Int) * q.2).natAbs:=by omega
 unfold Bt
 refine bc h2 ?_
 rw [gP,Int.natAbs_natCast]
 have hb2:q.2.natAbs < 2 ^ (192 * c+2):=h.bb
 have:2 ^ c * q.2.natAbs < 2 ^ c * 2 ^ (192 * c+2):=Nat.mul_lt_mul_of_pos_left hb2 (eI c)
 rw [← Nat.pow_add] at this
 have e:c+(192 * c+2)=193 * c+2:=by omega
 rw [e] at this
 exact this
theorem FrC.sz {c:Nat}{q:Int×Int} (h:FrC c q) (hc:c≤45):Sz q:=⟨h.low,h.top.mono (by omega),h.bb.mono (by omega)⟩
theorem FrC.mono {c d:Nat}{q:Int×Int} (h:FrC c q) (hc:c≤d):FrC d q:=by
 refine ⟨h.low,h.nn,d9 h.le ?_,h.bb.mono (by omega)⟩
 refine aL ?_ (bu h.low.1)
 exact iw.mpr (cq (by decide) hc)
theorem frc0 (c:Nat):FrC c (0,1):=⟨⟨by decide,(rfl:aM 0 1=1)⟩,Int.le_refl _,by rw [jY];exact Int.natCast_nonneg _,bt1 (by omega)⟩
theorem frc1 (c:Nat):FrC c (1,1):=⟨⟨by decide,(rfl:aM 1 1=1)⟩,by decide,by rw [jY];exact iw.mpr (eI c),bt1 (by omega)⟩
structure ShOk (q:Int×Int):Prop where
 low:Low q
 bt:Bt 200 q.1
 bb:Bt 94 q.2
theorem ShOk.sz {q:Int×Int} (h:ShOk q):Sz q:=⟨h.low,h.bt.mono (by decide),h.bb.mono (by decide)⟩
theorem xQ {l:Hl}{n:Str} (h:n∉l.map (·.1)):kB l n=(0,1):=by
 unfold kB lv
 have:l.find? (fun q=>decide (q.1=n))=none:=by
  rw [cj]
  intro x hx z
  exact h (ak.mpr ⟨x,hx,of_decide_eq_true z⟩)
 rw [this]
 rfl
def rv (q:Int×Int):Rat:=Rat.divInt q.1 q.2
theorem An {p q:Int×Int} (hp:0 < p.2) (hq:0 < q.2):rv (lr p q)=rv p+rv q:=by
 have h:=qD hp hq
 have h2:0 < (lr p q).2:=(pP (q:=(p.1 * q.2+q.1 * p.2,p.2 * q.2)) (bF hp hq)).1.1
 unfold rv
 rw [jE _ _ (by omega) (by omega),jd (by omega) (by have:=bF hp hq;omega)]
 exact h
theorem GP (q:Int×Int):rv (-q.1,q.2)=-rv q:=by
 unfold rv
 rw [Rat.neg_divInt]
def mO:List Rat→Rat
 | []=>0
 | x::l=>x+mO l
theorem yH:∀ l m:List Rat,mO (l++m)=mO l+mO m
 | [],m=>by show mO m=0+mO m;rw [jt]
 | x::l,m=>by show x+mO (l++m)=x+mO l+mO m;rw [yH l m,gc]
theorem yG {f g:Str→Rat}{o:Str} (h:∀ n,n≠o→f n=g n):∀ ns:List Str,ns.Nodup→mO (ns.map f)=if o∈ns then mO (ns.map g)+(f o - g o) else mO (ns.map g)
 | [],_=>rfl
 | n::ns,nd=>by
  obtain ⟨n1,n2⟩:=aN.mp nd
  have ih:=yG h ns n2
  show f n+mO (ns.map f)=_
  by_cases e:n=o
  ·subst e
   rw [if_neg n1] at ih
   rw [if_pos am,ih]
   show f n+mO (ns.map g)=g n+mO (ns.map g)+(f n - g n)
   grind
  ·have m:o∈n::ns ↔ o∈ns:=⟨fun z=>(ai.mp z).resolve_left fun q=>e q.symm,ag _⟩
   by_cases z:o∈ns
   ·rw [if_pos z] at ih
    rw [if_pos (m.mpr z),ih,h n e]
    show g n+(mO (ns.map g)+(f o - g o))=g n+mO (ns.map g)+(f o - g o)
    rw [gc]
   ·rw [if_neg z] at ih
    rw [if_neg (fun q=>z (m.mp q)),ih,h n e]
    rfl
def D2 (l:Hl):Rat:=mO ((l.map (·.1)).map fun n=>rv (kB l n))
theorem yI {l:Hl} (nd:(l.map (·.1)).Nodup) (o:Str) (q:Int×Int):D2 (mF l o q)=D2 l+(rv q - rv (kB l o)):=by
 have h:∀ n,n≠o→rv (kB (mF l o q) n)=rv (kB l n):=fun n hn=>by rw [lA,if_neg hn]
 have ho:rv (kB (mF l o q) o)=rv q:=by rw [lA,if_pos rfl]
 have u:=yG h (l.map (·.1)) nd
 unfold D2
 rw [lj]
 by_cases z:o∈l.map (·.1)
 ·rw [if_pos z] at u ⊢
  rw [u,ho]
 ·rw [if_neg z] at u ⊢
  rw [aY,yH,u,xQ z]
  show _+(rv (kB (mF l o q) o)+0)=_
  have:rv (0,1)=0:=iJ 1
  rw [ho,this]
  grind
structure On (D:Int) (q:Int×Int) (u:Int):Prop where
 low:Low q
 ev:q.1 * D=u * q.2
theorem On.dvd {D:Int}{q:Int×Int}{u:Int} (h:On D q u):q.2 ∣ D:=xT h.low.2.symm ⟨u,by rw [h.ev,bz]⟩
theorem On.add {D:Int}{p q:Int×Int}{u v:Int} (h:On D p u) (g:On D q v):On D (lr p q) (u+v):=by
 have p0:=h.low.1
 have q0:=g.low.1
 have ev:=qD p0 q0
 have pq:0 < p.2 * q.2:=bF p0 q0
 refine ⟨(pP (q:=(p.1 * q.2+q.1 * p.2,p.2 * q.2)) pq).1,fP (a:=p.2 * q.2) (by omega) ?_⟩
 generalize lr p q=r at ev ⊢
 have e1:=h.ev
 have e2:=g.ev
 calc r.1 * D * (p.2 * q.2)=(r.1 * (p.2 * q.2)) * D:=by rw [a9,bz D,← a9]
  _=((p.1 * q.2+q.1 * p.2) * r.2) * D:=by rw [ev]
  _=((p.1 * D) * q.2+(q.1 * D) * p.2) * r.2:=by
   rw [a9,bz r.2 D,← a9,jZ (p.1 * q.2)]
   congr 2
   ·rw [a9,bz q.2,← a9]
   ·rw [a9,bz p.2,← a9]
  _=((u * p.2) * q.2+(v * q.2) * p.2) * r.2:=by rw [e1,e2]
  _=(u+v) * r.2 * (p.2 * q.2):=by
   have a1:u * p.2 * q.2=u * (p.2 * q.2):=a9 ..
   have a2:v * q.2 * p.2=v * (p.2 * q.2):=by rw [a9,bz q.2]
   rw [a1,a2,← jZ,a9,bz (p.2 * q.2),← a9]
theorem On.neg {D:Int}{q:Int×Int}{u:Int} (h:On D q u):On D (-q.1,q.2) (-u) :=
 ⟨⟨h.low.1,by have:=h.low.2;unfold Cop aM at *;simp only [gO];exact this⟩,by show -q.1 * D=-u * q.2;rw [iI,iI,h.ev]⟩
theorem On.scale {D:Int}{q:Int×Int}{u:Int} (h:On D q u) (k:Int):On (D * k) q (u * k) :=
 ⟨h.low,by rw [← a9,h.ev,a9,bz q.2,← a9]⟩
theorem AS (D:Int):On D (0,1) 0:=⟨⟨by decide,rfl⟩,by simp⟩
theorem Hg (D:Int):On D (1,1) D:=⟨⟨by decide,rfl⟩,by show 1 * D=D * 1;omega⟩
theorem Fe {q:Int×Int} (h:Low q):On q.2 q q.1:=⟨h,rfl⟩
structure HR (c:Nat) (hl hm:Hl):Prop where
 q:∀ n,kB hl n=kB hm n
 nm:∀ n,n∈hl.map (·.1) ↔ 0 < (kB hl n).1
 n1:(hl.map (·.1)).Nodup
 n2:(hm.map (·.1)).Nodup
 l1:hl.length≤c+1
 l2:hm.length≤c+1
 fr:∀ n,FrC c (kB hl n)
 ex:∃ n,0 < (kB hl n).1
 sm:∀ n∈hm.map (·.1),Sm n
 one:D2 hm=1
 dv:∃ (D:Int) (U:Str→Int),0 < D∧Bt (94 * c+1) D∧∀ n,On D (kB hm n) (U n)
theorem HR.mono {c d:Nat}{hl hm:Hl} (h:HR c hl hm) (hc:c≤d):HR d hl hm:=⟨h.q,h.nm,h.n1,h.n2,aJ h.l1 (by omega),aJ h.l2 (by omega),fun n=>(h.fr n).mono hc,h.ex,h.sm,h.one,let ⟨D,U,d1,d2,d3⟩:=h.dv;⟨D,U,d1,d2.mono (by omega),d3⟩⟩
theorem Hv (c:Nat) {o:Str} (ho:Sm o):HR c [(o,1,1)] [(o,1,1)]:=by
 have g:∀ n,kB [(o,1,1)] n=if n=o then (1,1) else (0,1):=fun n=>by
  unfold kB lv
  rw [bA]
  by_cases e:o=n
  ·rw [show decide ((o,((1:Int),(1:Int))).1=n)=true from decide_eq_true e,if_pos e.symm];rfl
  ·rw [show decide ((o,((1:Int),(1:Int))).1=n)=false from decide_eq_false e,if_neg fun z=>e z.symm];rfl
 refine ⟨fun _=>rfl,fun n=>?_,by simp,by simp,by simp,by simp,fun n=>?_,⟨o,by rw [g,if_pos rfl];decide⟩,fun n hn=>by rw [ax.mp hn];exact ho,by
  show rv (kB [(o,1,1)] o)+0=1
  rw [g,if_pos rfl,ju]
  exact Rat.divInt_self' (by decide),1,fun n=>if n=o then 1 else 0,by decide,bt1 (by omega),fun n=>by
   rw [g]
   by_cases e:n=o
   ·rw [if_pos e];show On 1 (1,1) (if n=o then 1 else 0);rw [if_pos e];exact Hg 1
   ·rw [if_neg e];show On 1 (0,1) (if n=o then 1 else 0);rw [if_neg e];exact AS 1⟩
 ·rw [g]
  by_cases e:n=o
  ·rw [if_pos e];simp [e]
  ·rw [if_neg e];simp [e]
 ·rw [g]
  by_cases e:n=o
  ·rw [if_pos e];exact frc1 c
  ·rw [if_neg e];exact frc0 c
theorem HR.had {c:Nat}{hl hm:Hl} (h:HR c hl hm) {n:Str} (h0:0 < (kB hm n).1):n∈hm.map (·.1):=by
 by_cases z:n∈hm.map (·.1)
 ·exact z
 ·rw [xQ z] at h0
  exact absurd h0 (by decide)
theorem Ds {q:Int×Int} (h:Low q) (h0:q.1=0):q=(0,1):=by
 obtain ⟨t,b⟩:=q
 obtain ⟨h1,h2⟩:=h
 simp only at h0 h1 h2
 subst h0
 have e:b=1:=by
  have:aM 0 b=1:=h2
  rw [Int.gcd_zero_left] at this
  omega
 rw [e]
theorem HR.sale {c:Nat}{hl hm:Hl} (h:HR c hl hm) {o1 o2:Str}{q:Int×Int} (hq:ShOk q) (so:Sm o2) (nt:¬ nj hl o1 q):HR (c+1) (rG hl o1 o2 q) (vZ hm o1 o2 q):=by
 have q0:0 < q.1:=by by_cases z:0 < q.1;exact z;exact absurd (.inl z) nt
 have hle:q.1 * (kB hl o1).2≤(kB hl o1).1 * q.2:=by
  by_cases z:q.1 * (kB hl o1).2 > (kB hl o1).1 * q.2
  ·exact absurd (.inr z) nt
  ·omega
 have R:=xE (h.fr o1) hq.low q0 hle hq.bb
 have qv:=AR (h.fr o1) hq.low hle
 have o1in:o1∈hl.map (·.1):=by
  rw [h.nm]
  by_cases z:0 < (kB hl o1).1
  ·exact z
  ·have a1:(kB hl o1).1 * q.2≤0:=eJ (by omega) (bu hq.low.1)
   have a2:0 < q.1 * (kB hl o1).2:=bF q0 (h.fr o1).low.1
   omega
 have o1im:o1∈hm.map (·.1):=h.had (by rw [← h.q];exact (h.nm o1).mp o1in)
 generalize hr:lr (kB hl o1) (-q.1,q.2)=r at *
 have key:∃ l1 m1:Hl,rG hl o1 o2 q=mF l1 o2 (lr (kB l1 o2) q)∧vZ hm o1 o2 q=mF m1 o2 (lr (kB m1 o2) q)∧(∀ n,kB l1 n=kB m1 n)∧(∀ n,n∈l1.map (·.1) ↔ 0 < (kB l1 n).1)∧(l1.map (·.1)).Nodup∧(m1.map (·.1)).Nodup∧l1.length≤c+1∧m1.length≤c+1∧(∀ n,FrB (192 * c+2+94) (2 ^ c:Nat) (kB l1 n))∧(∀ n∈m1.map (·.1),Sm n)∧D2 m1+rv q=1∧∃ (D:Int) (U:Str→Int),0 < D∧Bt (94 * (c+1)+1) D∧On D q (U fc)∧∀ n,∃ u,On D (kB m1 n) u:=by
  have gm:∀ n,kB (mF hm o1 r) n=if n=o1 then r else kB hl n:=fun n=>by rw [lA,h.q]
  have lm:(mF hm o1 r).length≤c+1:=by
   have:=congrArg dC (lj hm o1 r)
   rw [if_pos o1im,aj,aj] at this
   rw [this];exact h.l2
  have fr1:∀ n,FrB (192 * c+2+94) (2 ^ c:Nat) (if n=o1 then r else kB hl n):=fun n=>by
   by_cases e:n=o1
   ·rw [if_pos e];exact R
   ·rw [if_neg e];exact ⟨(h.fr n).low,(h.fr n).nn,(h.fr n).le,(h.fr n).bb.mono (by omega)⟩
  have em:vZ hm o1 o2 q=mF (mF hm o1 r) o2 (lr (kB (mF hm o1 r) o2) q):=by
   unfold vZ
   simp only [← h.q o1,hr]
  have smm:∀ n∈(mF hm o1 r).map (·.1),Sm n:=fun n hn=>by
   rw [lj,if_pos o1im] at hn
   exact h.sm n hn
  have one1:D2 (mF hm o1 r)+rv q=1:=by
   rw [yI h.n2,h.one,← hr,An (q:=(-q.1,q.2)) (h.fr o1).low.1 hq.low.1,GP,h.q]
   grind
  have dv1:∃ (D:Int) (U:Str→Int),0 < D∧Bt (94 * (c+1)+1) D∧On D q (U fc)∧∀ n,∃ u,On D (kB (mF hm o1 r) n) u:=by
   obtain ⟨D,U,d1,d2,d3⟩:=h.dv
   have oq:On (D * q.2) q (q.1 * D):=by rw [bz D];exact (Fe hq.low).scale D
   refine ⟨D * q.2,fun _=>q.1 * D,bF d1 hq.low.1,(d2.mul hq.bb).mono (by omega),oq,fun n=>?_⟩
   rw [lA]
   by_cases e:n=o1
   ·rw [if_pos e,← hr,h.q]
    exact ⟨_,((d3 o1).scale q.2).add oq.neg⟩
   ·rw [if_neg e]
    exact ⟨_,(d3 n).scale q.2⟩
  by_cases rz:r=(0,1)
  ·have gl:∀ n,kB (rC hl o1) n=if n=o1 then r else kB hl n:=fun n=>by rw [wM,rz]
   refine ⟨rC hl o1,mF hm o1 r,?_,em,fun n=>by rw [gl,gm],fun n=>?_,Fm _ h.n1,vQ _ _ h.n2,aJ (yY _ _) h.l1,lm,fun n=>by rw [gl];exact fr1 n,smm,one1,dv1⟩
   ·unfold rG
    simp only [hr,rz,if_true]
   ·rw [uE,bg,gl,h.nm,decide_eq_true_iff]
    by_cases e:n=o1
    ·rw [if_pos e,rz]
     exact ⟨fun z=>absurd e z.2,fun z=>absurd z (by decide)⟩
    ·rw [if_neg e]
     exact ⟨fun z=>z.1,fun z=>⟨z,e⟩⟩
  ·have gl:∀ n,kB (mF hl o1 r) n=if n=o1 then r else kB hl n:=fun n=>lA ..
   have rp:0 < r.1:=by
    have:=R.nn
    by_cases z:r.1=0
    ·exact absurd (Ds R.low z) rz
    ·omega
   refine ⟨mF hl o1 r,mF hm o1 r,?_,em,fun n=>by rw [gl,gm],fun n=>?_,vQ _ _ h.n1,vQ _ _ h.n2,?_,lm,fun n=>by rw [gl];exact fr1 n,smm,one1,dv1⟩
   ·unfold rG
    simp only [hr,rz,if_false]
   ·rw [lj,if_pos o1in,gl,h.nm]
    by_cases e:n=o1
    ·rw [if_pos e]
     exact ⟨fun _=>rp,fun _=>by rw [e];exact (h.nm o1).mp o1in⟩
    ·rw [if_neg e]
   ·have:=congrArg dC (lj hl o1 r)
    rw [if_pos o1in,aj,aj] at this
    rw [this];exact h.l1
 obtain ⟨l1,m1,es,em,gq,nm1,nd1,nd2,len1,len2,fr1,sm1,one1,D1,U1,d1,d2,oq,dm⟩:=key
 obtain ⟨U,up⟩:=F3 (fr1 o2) hq.low q0 qv hq.bb
 have ev:(2 * ((2 ^ c:Nat):Int))=((2 ^ (c+1):Nat):Int):=by rw [Nat.pow_succ,Int.natCast_mul,bz];rfl
 rw [es,em]
 refine ⟨fun n=>?_,fun n=>?_,vQ _ _ nd1,vQ _ _ nd2,aJ (xN _ _ _) (by omega),aJ (xN _ _ _) (by omega),fun n=>?_,⟨o2,by rw [lA,if_pos rfl];exact up⟩,fun n hn=>?_,?_,?_⟩
 ·rw [lA,lA,gq,gq]
 ·rw [lA,lj]
  by_cases e:n=o2
  ·rw [if_pos e]
   refine ⟨fun _=>up,fun _=>?_⟩
   rw [e]
   by_cases z:o2∈l1.map (·.1)
   ·rw [if_pos z];exact z
   ·rw [if_neg z];exact aI _ (ax.mpr rfl)
  ·rw [if_neg e,← nm1]
   by_cases z:o2∈l1.map (·.1)
   ·rw [if_pos z]
   ·rw [if_neg z,aO]
    exact ⟨fun y=>y.elim id fun y=>absurd (ax.mp y) e,fun y=>.inl y⟩
 ·rw [lA]
  by_cases e:n=o2
  ·rw [if_pos e]
   unfold FrC
   rw [← ev]
   exact ⟨U.low,U.nn,U.le,U.bb.mono (by omega)⟩
  ·rw [if_neg e]
   have:=fr1 n
   refine ⟨this.low,this.nn,d9 this.le ?_,this.bb.mono (by omega)⟩
   exact aL (iw.mpr (cq (by decide) (by omega))) (bu this.low.1)
 ·rw [lj] at hn
  by_cases z:o2∈m1.map (·.1)
  ·rw [if_pos z] at hn;exact sm1 n hn
  ·rw [if_neg z] at hn
   rcases aO.mp hn with y | y
   ·exact sm1 n y
   ·rw [ax.mp y];exact so
 ·rw [yI nd2,An (by rw [← gq];exact (fr1 o2).low.1) hq.low.1]
  grind
 ·have:∀ n,∃ u,On D1 (kB (mF m1 o2 (lr (kB m1 o2) q)) n) u:=fun n=>by
   rw [lA]
   by_cases e:n=o2
   ·rw [if_pos e]
    obtain ⟨u,hu⟩:=dm o2
    exact ⟨_,hu.add oq⟩
   ·rw [if_neg e];exact dm n
  exact ⟨D1,fun n=>jD (this n),d1,d2,fun n=>gd (this n)⟩
theorem HR.saleOk {c:Nat}{hl hm:Hl} (h:HR c hl hm) (hc:c≤44) {o1:Str}{q:Int×Int} (hq:ShOk q):SaleOk hl o1 q:=by
 refine ⟨bc h.l1 (by omega),fun n=>(h.fr n).sz (by omega),fun nt=>?_⟩
 have q0:0 < q.1:=by by_cases z:0 < q.1;exact z;exact absurd (.inl z) nt
 have hle:q.1 * (kB hl o1).2≤(kB hl o1).1 * q.2:=by
  by_cases z:q.1 * (kB hl o1).2 > (kB hl o1).1 * q.2
  ·exact absurd (.inr z) nt
  ·omega
 have R:=xE (h.fr o1) hq.low q0 hle hq.bb
 refine FrC.sz (c:=c+1) ⟨R.low,R.nn,d9 R.le ?_,R.bb.mono (by omega)⟩ (by omega)
 exact aL (iw.mpr (cq (by decide) (by omega))) (bu R.low.1)
section
variable {P:aU}{w:bw}{K:aa}{mg:Str→Option af}{base:bM}{a:Adr}{f:ae}{fd:bV}
abbrev qb:bX:=top 40
theorem sc__law_take:FnScope ["_law_purse_here","_law_many","_law_at","_law_found"] ["_law_purse_here","_law_many"] (kh qb):=fsc
def qk (a:Adr):XS:=(xSeq (xSet 2 (xB (xCons (x2 (x2 (xVar 0) (xC (.int 0)) fIx) (xC (.int 0)) fEq) xNil) fInt)) (xSeq (xSet 3 (x2 (x2 (xVar 0) (xVar 2) fIx) (xVar 1) fMod)) (xSeq (xPut (xVar 0) (xVar 2) (x2 (x2 (xVar 0) (xVar 2) fIx) (xVar 1) fDiv)) (xRet (xVar 3)))))
def ku (a:Adr):XF:=(fnD 4 (qk a))
theorem xw (F:Fun K "_law_take" "_law_take" qb f fd) (T:Txt K mg a):FnOk P w K mg base (CXo P w) 1 f fd ["_law_purse_here","_law_many"] (spD K a.Book 2 (ku a)) :=
 mv F sc__law_take rfl fun cdv A outer s H E hr=>(kl (kF 2 sc__law_take.nd rfl (bv rfl) (wW b_int rfl T.b_int HS (kg (wc (Gz (Cq hr)) (k7 (kC hr) (kf 0) kq (fun _ _=>rfl)) kq (lI _)) kj))) (kl (kF 3 sc__law_take.nd rfl (bv rfl) (t9 (k7 (kC hr) (kf 0) (kf 2) (fun _ _=>rfl)) (kf 1))) (kl (x9 (kC hr) (kf 0) (kf 2) (Ax (k7 (kC hr) (kf 0) (kf 2) (fun _ _=>rfl)) (kf 1))) (kr (kS (kf 3))))))
abbrev nL:bX:=top 41
theorem sc__law_divisor:FnScope ["_law_one","_law_other"] ["_law_one","_law_other"] (kh nL):=fsc
def lP (a:Adr) :XS:=(xPar 0 1 (xCons (xVar 1) (xCons (x2 (xVar 0) (xVar 1) fMod) xNil)))
def pY (a:Adr):XS:=(xSeq (tW (xTr (x2 (xVar 1) (xC (.int 0)) fNe)) (lP a)) (xRet (xB (xCons (xVar 0) xNil) fAbs)))
def lO (a:Adr):XF:=(fnD 2 (pY a))
theorem tS (F:Fun K "_law_divisor" "_law_divisor" nL f fd) (T:Txt K mg a):FnOk P w K mg base (CXo P w) 1 f fd ["_law_one","_law_other"] (spD K a.Book 2 (lO a)) :=
 mv F sc__law_divisor rfl fun cdv A outer s H E hr=>(kl (zi (oj (Ij (Cq hr)) (kf 1) kq (lI _)) (kr (HE (i:=0) (j:=1) rfl sc__law_divisor.nd rfl rfl (by decide) rfl rfl (kg (kf 1) (kg (t9 (kf 0) (kf 1)) kj)) rfl))) (kr (kS (kR b_abs rfl T.b_abs HV (kg (kf 0) kj)))))
abbrev ot:bX:=top 42
theorem sc__law_lowest:FnScope ["_law_top","_law_bottom","_law_share"] ["_law_top","_law_bottom"] (kh ot):=fsc
def re (a:Adr):XS:=(xSeq (xSet 2 (xCall 2 (lO a) (xCons (xVar 0) (xCons (xVar 1) xNil)))) (xRet (xTup (xCons (x2 (xVar 0) (xVar 2) fDiv) (xCons (x2 (xVar 1) (xVar 2) fDiv) xNil)))))
def kW (a:Adr):XF:=(fnD 3 (re a))
theorem ug (F:Fun K "_law_lowest" "_law_lowest" ot f fd) (T:Txt K mg a) (F__law_divisor:Fn P w K mg base "_law_divisor" 1 ["_law_one","_law_other"] (spD K a.Book 2 (lO a))):FnOk P w K mg base (CXo P w) 2 f fd ["_law_top","_law_bottom"] (spD K a.Book 2 (kW a)) :=
 mv F sc__law_lowest rfl fun cdv A outer s H E hr=>(kl (kF 2 sc__law_lowest.nd rfl (bv rfl) (kN F__law_divisor (hr.mono (by decide)) rfl kQ (kg (kf 0) (kg (kf 1) kj)))) (kr (kS (vU (kg (Ax (kf 0) (kf 2)) (kg (Ax (kf 1) (kf 2)) kj))))))
abbrev qc:bX:=top 43
theorem xm:FnScope ["_law_one","_law_other"] ["_law_one","_law_other"] (kh qc):=fsc
def tJ (a:Adr):XS:=(xRet (xCall 2 (kW a) (xCons (x2 (x2 (x2 (xVar 0) (xC (.int 0)) fIx) (x2 (xVar 1) (xC (.int 1)) fIx) fMul) (x2 (x2 (xVar 1) (xC (.int 0)) fIx) (x2 (xVar 0) (xC (.int 1)) fIx) fMul) fAdd) (xCons (x2 (x2 (xVar 0) (xC (.int 1)) fIx) (x2 (xVar 1) (xC (.int 1)) fIx) fMul) xNil))))
def ma (a:Adr):XF:=(fnD 2 (tJ a))
theorem xx (F:Fun K "_law_plus" "_law_plus" qc f fd) (T:Txt K mg a) (F__law_lowest:Fn P w K mg base "_law_lowest" 2 ["_law_top","_law_bottom"] (spD K a.Book 2 (kW a))):FnOk P w K mg base (CXo P w) 3 f fd ["_law_one","_law_other"] (spD K a.Book 2 (ma a)) :=
 mv F xm rfl fun cdv A outer s H E hr=>(kr (kS (kN F__law_lowest (hr.mono (by decide)) rfl kQ (kg (lx (oY (k7 (kC hr) (kf 0) kq (fun _ _=>rfl)) (k7 (kC hr) (kf 1) kq (fun _ _=>rfl))) (oY (k7 (kC hr) (kf 1) kq (fun _ _=>rfl)) (k7 (kC hr) (kf 0) kq (fun _ _=>rfl)))) (kg (oY (k7 (kC hr) (kf 0) kq (fun _ _=>rfl)) (k7 (kC hr) (kf 1) kq (fun _ _=>rfl))) kj)))))
abbrev pk:bX:=top 44
theorem vx:FnScope ["_law_one","_law_other"] ["_law_one","_law_other"] (kh pk):=fsc
def rM (a:Adr):XS:=(xRet (xCall 2 (kW a) (xCons (x2 (x2 (xVar 0) (xC (.int 0)) fIx) (x2 (xVar 1) (xC (.int 0)) fIx) fMul) (xCons (x2 (x2 (xVar 0) (xC (.int 1)) fIx) (x2 (xVar 1) (xC (.int 1)) fIx) fMul) xNil))))
def lG (a:Adr):XF:=(fnD 2 (rM a))
theorem vI (F:Fun K "_law_times" "_law_times" pk f fd) (T:Txt K mg a) (F__law_lowest:Fn P w K mg base "_law_lowest" 2 ["_law_top","_law_bottom"] (spD K a.Book 2 (kW a))):FnOk P w K mg base (CXo P w) 3 f fd ["_law_one","_law_other"] (spD K a.Book 2 (lG a)) :=
 mv F vx rfl fun cdv A outer s H E hr=>(kr (kS (kN F__law_lowest (hr.mono (by decide)) rfl kQ (kg (oY (k7 (kC hr) (kf 0) kq (fun _ _=>rfl)) (k7 (kC hr) (kf 1) kq (fun _ _=>rfl))) (kg (oY (k7 (kC hr) (kf 0) kq (fun _ _=>rfl)) (k7 (kC hr) (kf 1) kq (fun _ _=>rfl))) kj)))))
abbrev pz:bX:=top 39
theorem sc__law_purse:FnScope ["_law_script","_law_cells","_law_number","_law_found","_law_k","_law_cell"] ["_law_script"] (kh pz):=fsc
def nQ (a:Adr) :XS:=(xSeq (xSet 5 (x2 (xVar 1) (x2 (xVar 4) (xB (xCons (xVar 1) xNil) fLen) fMod) fIx)) (xSeq (xSet 2 (x2 (x2 (x2 (x2 (x2 (xVar 2) (xVar 2) fMul) (xVar 5) fAdd) (x2 (xC (.int 48271)) (xVar 4) fMul) fAdd) (xC (.int 7)) fAdd) (xC (.int 2147483629)) fMod)) (xSet 3 (x2 (x2 (xVar 3) (xC (.int 2147483587)) fMul) (x2 (x2 (xVar 2) (xVar 2) fMul) (xC (.int 2147483587)) fMod) fAdd))))
def pB (a:Adr):XS:=(xSeq (xSet 1 (x2 (xSl (xVar 0) xNoP (xPart (xC (.int 63)))) (xLst (xCons (xC (.int 1)) xNil)) fAdd)) (xSeq (xSet 2 (xC (.int 5))) (xSeq (xSet 3 (xC (.int 1))) (xSeq (xFor (xRng1 (xCons (xC (.int 200)) xNil)) (yName 4) (nQ a)) (xSeq (xIf (xTr (x2 (x2 (xVar 1) (xC (.int 0)) fIx) (x2 (xC (.int 10)) (xC (.int 18)) fPow) fGe)) (xRet (xLstC (xCons (x2 (x2 (xVar 1) (xC (.int 0)) fIx) (x2 (xC (.int 10)) (xC (.int 18)) fPow) fSub) (xCons (xVar 3) xNil)))) xEnd) (xRet (xLstC (xCons (xC (.int 0)) (xCons (xVar 3) xNil)))))))))
def lR (a:Adr):XF:=(fnD 6 (pB a))
theorem vK (F:Fun K "_law_purse" "_law_purse" pz f fd) (T:Txt K mg a):FnOk P w K mg base (CXo P w) 1 f fd ["_law_script"] (spD K a.Book 1 (lR a)) :=
 mv F sc__law_purse rfl fun cdv A outer s H E hr=>(kl (kF 1 sc__law_purse.nd rfl (bv rfl) (lx (ye (kf 0) sM (pS kq)) (nB (kg kq kj)))) (kl (kF 2 sc__law_purse.nd rfl (bv rfl) kq) (kl (kF 3 sc__law_purse.nd rfl (bv rfl) kq) (kl (mW rfl (mh rfl T.b_range (kg kq kj)) (k9 4 sc__law_purse.nd rfl (bv rfl)) (kl (kF 5 sc__law_purse.nd rfl (bv rfl) (k7 (kC hr) (kf 1) (t9 (kf 4) (kR b_len rfl T.b_len lV (kg (kf 1) kj))) (fun _ _=>rfl))) (kl (kF 2 sc__law_purse.nd rfl (bv rfl) (t9 (lx (lx (lx (oY (kf 2) (kf 2)) (kf 5)) (oY kq (kf 4))) kq) kq)) (kr (kF 3 sc__law_purse.nd rfl (bv rfl) (lx (oY (kf 3) kq) (t9 (oY (kf 2) (kf 2)) kq))))))) (kl (qN (oj c_ge (k7 (kC hr) (kf 1) kq (fun _ _=>rfl)) (yf kq kq) (lI _)) (kr (kS (sO (kg (Aw (k7 (kC hr) (kf 1) kq (fun _ _=>rfl)) (yf kq kq)) (kg (kf 3) kj))))) mf) (kr (kS (sO (kg kq (kg (kf 3) kj))))))))))
abbrev nE:bX:=top 46
theorem sc__law_names:FnScope ["_law_purse_here","_law_letters","_law_first","_law_found","_law_k","_law_long","_law_tail"] ["_law_purse_here"] (kh nE):=fsc
def lM (a:Adr) :XS:=(xSeq (xSet 5 (xCall 2 (ku a) (xCons (xVar 0) (xCons (xC (.int 8)) xNil)))) (xSeq (xSet 6 (xJoin (xC (.str "")) (xCons (lu (xRng1 (xCons (xVar 5) xNil)) [1,0] qT (x2 (xVar 1) (xCall 2 (ku a) (xCons (xVar 2) (xCons (xC (.int 26)) xNil))) fIx)) xNil))) (xDo (xAppend (xVar 3) (xCons (x2 (x2 (xVar 1) (x2 (x2 (xVar 2) (x2 (xC (.int 7)) (xVar 4) fMul) fAdd) (xC (.int 26)) fMod) fIx) (xVar 6) fAdd) xNil)))))
def rO (a:Adr):XS:=(xSeq (xSet 1 (xC (.str "abcdefghijklmnopqrstuvwxyz"))) (xSeq (xSet 2 (xCall 2 (ku a) (xCons (xVar 0) (xCons (xC (.int 26)) xNil)))) (xSeq (xSet 3 (xLstC xNil)) (xSeq (xFor (xRng1 (xCons (xC (.int 14)) xNil)) (yName 4) (lM a)) (xRet (xFrz (xVar 3)))))))
def mH (a:Adr):XF:=(fnD 7 (rO a))
theorem vL (F:Fun K "_law_names" "_law_names" nE f fd) (T:Txt K mg a) (F__law_take:Fn P w K mg base "_law_take" 1 ["_law_purse_here","_law_many"] (spD K a.Book 2 (ku a))):FnOk P w K mg base (CXo P w) 2 f fd ["_law_purse_here"] (spD K a.Book 1 (mH a)) :=
 mv F sc__law_names rfl fun cdv A outer s H E hr=>(kl (kF 1 sc__law_names.nd rfl (dO rfl) Em) (kl (kF 2 sc__law_names.nd rfl (bv rfl) (kN F__law_take (hr.mono (by decide)) rfl kQ (kg (kf 0) (kg kq kj)))) (kl (kF 3 sc__law_names.nd rfl (bv rfl) (sO kj)) (kl (mW rfl (mh rfl T.b_range (kg kq kj)) (k9 4 sc__law_names.nd rfl (bv rfl)) (kl (kF 5 sc__law_names.nd rfl (bv rfl) (kN F__law_take (hr.mono (by decide)) rfl kM (kg (kf 0) (kg kq kj)))) (kl (kF 6 sc__law_names.nd rfl (bv rfl) (FP Em (kg (mi (fr:=["_law_letters","_law_purse_here"]) (ix:=[1,0]) rfl (by exact (show CompOk ["_law_purse_here","_law_letters","_law_first","_law_found","_law_k","_law_long","_law_tail"] (kh nE) _ _ _ _ from cok)) (mh rfl T.b_range (kg (kf 5) kj)) (fun _ _ _ _ _=>oX) (fun _ _ _ _ _=>(k7 (kC hr) (kf 1) (kN F__law_take (hr.mono (by decide)) rfl kM (kg (kf 2) (kg kq kj))) (fun _ _=>rfl)))) kj))) (kr (sg (tm (kf 3) (kg (lx (k7 (kC hr) (kf 1) (t9 (lx (kf 2) (oY kq (kf 4))) kq) (fun _ _=>rfl)) (kf 6)) kj))))))) (kr (kS (HM (kf 3))))))))
abbrev qd:bX:=top 47
theorem sc__law_part:FnScope ["_law_purse_here","_law_bottom"] ["_law_purse_here"] (kh qd):=fsc
def tK (a:Adr):XS:=(xSeq (xSet 1 (x2 (xLst (xCons (xC (.int 2)) (xCons (xC (.int 3)) (xCons (xC (.int 4)) (xCons (xC (.int 5)) (xCons (xC (.int 7)) (xCons (xC (.int 10)) (xCons (xC (.int 100)) (xCons (x2 (xC (.int 10)) (xC (.int 9)) fPow) xNil))))))))) (xCall 2 (ku a) (xCons (xVar 0) (xCons (xC (.int 8)) xNil))) fIx)) (xRet (xCall 2 (kW a) (xCons (x2 (xC (.int 1)) (xCall 2 (ku a) (xCons (xVar 0) (xCons (xVar 1) xNil))) fAdd) (xCons (xVar 1) xNil)))))
def md (a:Adr):XF:=(fnD 2 (tK a))
theorem xy (F:Fun K "_law_part" "_law_part" qd f fd) (T:Txt K mg a) (F__law_lowest:Fn P w K mg base "_law_lowest" 2 ["_law_top","_law_bottom"] (spD K a.Book 2 (kW a))) (F__law_take:Fn P w K mg base "_law_take" 1 ["_law_purse_here","_law_many"] (spD K a.Book 2 (ku a))):FnOk P w K mg base (CXo P w) 3 f fd ["_law_purse_here"] (spD K a.Book 1 (md a)) :=
 mv F sc__law_part rfl fun cdv A outer s H E hr=>(kl (kF 1 sc__law_part.nd rfl (bv rfl) (k7 (kC hr) (nB (kg kq (kg kq (kg kq (kg kq (kg kq (kg kq (kg kq (kg (yf kq kq) kj))))))))) (kN F__law_take (hr.mono (by decide)) rfl kQ (kg (kf 0) (kg kq kj))) (fun _ _=>rfl))) (kr (kS (kN F__law_lowest (hr.mono (by decide)) rfl kQ (kg (lx kq (kN F__law_take (hr.mono (by decide)) rfl kQ (kg (kf 0) (kg (kf 1) kj)))) (kg (kf 1) kj))))))
abbrev nF:bX:=top 48
theorem sc__law_built:FnScope ["_law_purse_here","_law_words","_law_book","_law_people","_law_houses","_law_entries","_law_name","_law_k","_law_owner","_law_house","_law_held","_law_having","_law_one","_law_other","_law_share"] ["_law_purse_here"] (kh nF):=fsc
def mC (a:Adr) :XS:=(xDo (xBM 2 (qF a) (xVar 2) (xCons (xVar 6) xNil)))
def mB (a:Adr) :XS:=(xSeq (xSet 8 (x2 (x2 (xVar 3) (xSl (xVar 4) xNoP (xPart (xVar 7))) fAdd) (xCall 2 (ku a) (xCons (xVar 0) (xCons (x2 (xB (xCons (xVar 3) xNil) fLen) (xVar 7) fAdd) xNil))) fIx)) (xSeq (xDo (xBM 6 (sQ a) (xVar 2) (xCons (x2 (xVar 4) (xVar 7) fIx) (xCons (xVar 8) (xCons (x2 (xCall 2 (ku a) (xCons (xVar 0) (xCons (xC (.int 100)) xNil))) (xC (.int 30)) fSub) (xCons (x2 (xCall 2 (ku a) (xCons (xVar 0) (xCons (xC (.int 60)) xNil))) (xC (.int 10)) fSub) (xCons (xCall 2 (ku a) (xCons (xVar 0) (xCons (xC (.int 40)) xNil))) xNil))))))) (xPut (xVar 5) (x2 (xVar 4) (xVar 7) fIx) (xDisp (xVar 8) (xTup (xCons (xC (.int 1)) (xCons (xC (.int 1)) xNil)))))))
def lN (a:Adr) :XS:=(xSeq (xSet 11 (xB (xCons (vp 10 [10] (xTr (x2 (x2 (x2 (xVar 1) (xVar 0) fIx) (xC (.int 0)) fIx) (xC (.int 0)) fGt)) (xVar 0)) xNil) ko)) (xSeq (xSet 12 (x2 (xVar 11) (xCall 2 (ku a) (xCons (xVar 0) (xCons (xB (xCons (xVar 11) xNil) fLen) xNil))) fIx)) (xSeq (xSet 13 (x2 (x2 (xVar 3) (xVar 4) fAdd) (xCall 2 (ku a) (xCons (xVar 0) (xCons (x2 (xB (xCons (xVar 3) xNil) fLen) (xB (xCons (xVar 4) xNil) fLen) fAdd) xNil))) fIx)) (xSeq (xSet 14 (xCall 2 (lG a) (xCons (x2 (xVar 10) (xVar 12) fIx) (xCons (xCall 1 (md a) (xCons (xVar 0) xNil)) xNil)))) (xIf (xTr (x2 (x2 (xVar 14) (xC (.int 1)) fIx) (x2 (xC (.int 10)) (xC (.int 28)) fPow) fLt)) (xSeq (xDo (xBM 5 (vY a) (xVar 2) (xCons (xVar 9) (xCons (xVar 12) (xCons (xVar 13) (xCons (xVar 14) xNil)))))) (xSeq (xPut (xVar 10) (xVar 12) (xCall 2 (ma a) (xCons (x2 (xVar 10) (xVar 12) fIx) (xCons (xTup (xCons (x1 (x2 (xVar 14) (xC (.int 0)) fIx) fNeg) (xCons (x2 (xVar 14) (xC (.int 1)) fIx) xNil))) xNil)))) (xPut (xVar 10) (xVar 13) (xCall 2 (ma a) (xCons (xGet (xVar 10) (xVar 13) (xTup (xCons (xC (.int 0)) (xCons (xC (.int 1)) xNil)))) (xCons (xVar 14) xNil)))))) xEnd)))))
def mz (a:Adr) :XS:=(xSeq (xSet 10 (x2 (xVar 5) (xVar 9) fIx)) (xFor (xRng1 (xCons (xCall 2 (ku a) (xCons (xVar 0) (xCons (xC (.int 6)) xNil))) xNil)) (yName 7) (lN a)))
def pC (a:Adr):XS:=(xSeq (xSet 1 (xCall 1 (mH a) (xCons (xVar 0) xNil))) (xSeq (xSet 2 xBook) (xSeq (xSet 3 (xSl (xVar 1) xNoP (xPart (x2 (xLst (xCons (xC (.int 2)) (xCons (xC (.int 3)) (xCons (xC (.int 1)) (xCons (xC (.int 4)) (xCons (xC (.int 6)) (xCons (xC (.int 2)) (xCons (xC (.int 3)) (xCons (xC (.int 5)) xNil))))))))) (xCall 2 (ku a) (xCons (xVar 0) (xCons (xC (.int 8)) xNil))) fIx)))) (xSeq (xSet 4 (xSl (xVar 1) (xPart (xC (.int 6))) (xPart (x2 (xC (.int 6)) (x2 (xLst (xCons (xC (.int 3)) (xCons (xC (.int 4)) (xCons (xC (.int 2)) (xCons (xC (.int 5)) (xCons (xC (.int 6)) (xCons (xC (.int 1)) (xCons (xC (.int 8)) (xCons (xC (.int 0)) xNil))))))))) (xCall 2 (ku a) (xCons (xVar 0) (xCons (xC (.int 8)) xNil))) fIx) fAdd)))) (xSeq (xSet 5 xNewD) (xSeq (xFor (xIter (xVar 3)) (yName 6) (mC a)) (xSeq (xFor (xRng1 (xCons (xB (xCons (xVar 4) xNil) fLen) xNil)) (yName 7) (mB a)) (xSeq (xFor (xIter (xVar 4)) (yName 9) (mz a)) (xRet (xLst (xCons (xVar 2) (xCons (xB (xCons (xVar 3) xNil) ko) (xCons (Eu (xVar 5)) xNil)))))))))))))
def nK (a:Adr):XF:=(fnD 15 (pC a))
theorem vN (F:Fun K "_law_built" "_law_built" nF f fd) (T:Txt K mg a) (F__law_names:Fn P w K mg base "_law_names" 2 ["_law_purse_here"] (spD K a.Book 1 (mH a))) (M_Book:MkB P w K mg base "Book" a.Book 1 ["self"] (Ak K a.Book)) (M_person:Mt P w K mg base a.Book "person" 4 ["self","name"] (spD K a.Book 2 (qF a))) (M_house:Mt P w K mg base a.Book "house" 4 ["self","name","owner","things","mark","loss"] (spD K a.Book 6 (sQ a))) (F__law_take:Fn P w K mg base "_law_take" 1 ["_law_purse_here","_law_many"] (spD K a.Book 2 (ku a))) (F__law_times:Fn P w K mg base "_law_times" 3 ["_law_one","_law_other"] (spD K a.Book 2 (lG a))) (F__law_part:Fn P w K mg base "_law_part" 3 ["_law_purse_here"] (spD K a.Book 1 (md a))) (M_sale:Mt P w K mg base a.Book "sale" 4 ["self","house","one","other","share"] (spD K a.Book 5 (vY a))) (F__law_plus:Fn P w K mg base "_law_plus" 3 ["_law_one","_law_other"] (spD K a.Book 2 (ma a))):FnOk P w K mg base (CXo P w) 5 f fd ["_law_purse_here"] (spD K a.Book 1 (nK a)) :=
 mv F sc__law_built rfl fun cdv A outer s H E hr=>(kl (kF 1 sc__law_built.nd rfl (bv rfl) (kN F__law_names (hr.mono (by decide)) rfl kQ (kg (kf 0) kj))) (kl (kF 2 sc__law_built.nd rfl (bv rfl) (FS M_Book (hr.mono (by decide)) rfl kQ)) (kl (kF 3 sc__law_built.nd rfl (bv rfl) (ye (kf 1) sM (pS (k7 (kC hr) (nB (kg kq (kg kq (kg kq (kg kq (kg kq (kg kq (kg kq (kg kq kj))))))))) (kN F__law_take (hr.mono (by decide)) rfl kQ (kg (kf 0) (kg kq kj))) (fun _ _=>rfl))))) (kl (kF 4 sc__law_built.nd rfl (bv rfl) (ye (kf 1) (pS kq) (pS (lx kq (k7 (kC hr) (nB (kg kq (kg kq (kg kq (kg kq (kg kq (kg kq (kg kq (kg kq kj))))))))) (kN F__law_take (hr.mono (by decide)) rfl kQ (kg (kf 0) (kg kq kj))) (fun _ _=>rfl)))))) (kl (kF 5 sc__law_built.nd rfl (bv rfl) FN) (kl (mW rfl (mX (kf 3)) (k9 6 sc__law_built.nd rfl (bv rfl)) (kr (sg (sj (kf 2) M_person BC (hr.mono (by decide)) kM (kg (kf 6) kj))))) (kl (mW rfl (mh rfl T.b_range (kg (kR b_len rfl T.b_len lV (kg (kf 4) kj)) kj)) (k9 7 sc__law_built.nd rfl (bv rfl)) (kl (kF 8 sc__law_built.nd rfl (bv rfl) (k7 (kC hr) (lx (kf 3) (ye (kf 4) sM (pS (kf 7)))) (kN F__law_take (hr.mono (by decide)) rfl kM (kg (kf 0) (kg (lx (kR b_len rfl T.b_len lV (kg (kf 3) kj)) (kf 7)) kj))) (fun _ _=>rfl))) (kl (sg (sj (kf 2) M_house Do (hr.mono (by decide)) kM (kg (k7 (kC hr) (kf 4) (kf 7) (fun _ _=>rfl)) (kg (kf 8) (kg (Aw (kN F__law_take (hr.mono (by decide)) rfl kM (kg (kf 0) (kg kq kj))) kq) (kg (Aw (kN F__law_take (hr.mono (by decide)) rfl kM (kg (kf 0) (kg kq kj))) kq) (kg (kN F__law_take (hr.mono (by decide)) rfl kM (kg (kf 0) (kg kq kj))) kj))))))) (kr (x9 (kC hr) (kf 5) (k7 (kC hr) (kf 4) (kf 7) (fun _ _=>rfl)) (FR (kf 8) (vU (kg kq (kg kq kj))))))))) (kl (mW rfl (mX (kf 4)) (k9 9 sc__law_built.nd rfl (bv rfl)) (kl (kF 10 sc__law_built.nd rfl (dO rfl) (k7 (kC hr) (kf 5) (kf 9) (fun _ _=>rfl))) (kr (mW rfl (mh rfl T.b_range (kg (kN F__law_take (hr.mono (by decide)) rfl kM (kg (kf 0) (kg kq kj))) kj)) (k9 7 sc__law_built.nd rfl (bv rfl)) (kl (kF 11 sc__law_built.nd rfl (bv rfl) (kR (b_sorted rfl) rfl T.b_sorted nS (kg (DF (fr:=["_law_held"]) (ix:=[10]) 10 rfl rfl (dO (bv rfl)) (by exact (show CompOk ["_law_purse_here","_law_words","_law_book","_law_people","_law_houses","_law_entries","_law_name","_law_k","_law_owner","_law_house","_law_held","_law_having","_law_one","_law_other","_law_share"] (kh nF) _ _ _ _ from cok)) (fun _ _ _ _ _=>(mJ (oj Ik (k7 (kC hr) (k7 (kC hr) (kf 1) (kf 0) (fun _ _=>rfl)) kq (fun _ _=>rfl)) kq (lI _)))) (fun _ _ _ _ _=>(kf 0))) kj))) (kl (kF 12 sc__law_built.nd rfl (bv rfl) (k7 (kC hr) (kf 11) (kN F__law_take (hr.mono (by decide)) rfl kM (kg (kf 0) (kg (kR b_len rfl T.b_len lV (kg (kf 11) kj)) kj))) (fun _ _=>rfl))) (kl (kF 13 sc__law_built.nd rfl (bv rfl) (k7 (kC hr) (lx (kf 3) (kf 4)) (kN F__law_take (hr.mono (by decide)) rfl kM (kg (kf 0) (kg (lx (kR b_len rfl T.b_len lV (kg (kf 3) kj)) (kR b_len rfl T.b_len lV (kg (kf 4) kj))) kj))) (fun _ _=>rfl))) (kl (kF 14 sc__law_built.nd rfl (bv rfl) (kN F__law_times (hr.mono (by decide)) rfl kM (kg (k7 (kC hr) (kf 10) (kf 12) (fun _ _=>rfl)) (kg (kN F__law_part (hr.mono (by decide)) rfl kM (kg (kf 0) kj)) kj)))) (kr (qN (oj c_lt (k7 (kC hr) (kf 14) kq (fun _ _=>rfl)) (yf kq kq) (lI _)) (kl (sg (sj (kf 2) M_sale Fj (hr.mono (by decide)) kM (kg (kf 9) (kg (kf 12) (kg (kf 13) (kg (kf 14) kj)))))) (kl (x9 (kC hr) (kf 10) (kf 12) (kN F__law_plus (hr.mono (by decide)) rfl kM (kg (k7 (kC hr) (kf 10) (kf 12) (fun _ _=>rfl)) (kg (vU (kg (HK (k7 (kC hr) (kf 14) kq (fun _ _=>rfl))) (kg (k7 (kC hr) (kf 14) kq (fun _ _=>rfl)) kj))) kj)))) (kr (x9 (kC hr) (kf 10) (kf 13) (kN F__law_plus (hr.mono (by decide)) rfl kM (kg (HL (kC hr) (kf 10) (kf 13) (vU (kg kq (kg kq kj))) ⟨rfl,rfl,rfl,rfl⟩) (kg (kf 14) kj))))))) mf)))))))))) (kr (kS (nB (kg (kf 2) (kg (kR (b_sorted rfl) rfl T.b_sorted nS (kg (kf 3) kj)) (kg (FQ (kf 5)) kj))))))))))))))
abbrev sT:bX:=top 12
theorem sc_outvote:FnScope ["book","voters","house","votes","holder","share"] ["book","voters","house"] (kh sT):=fsc
def na (a:Adr) :XS:=(xIf (xTr (x2 (xVar 4) (xVar 1) fIn)) (xSet 3 (xCall 2 (ua a) (xCons (xVar 3) (xCons (xVar 5) xNil)))) xEnd)
def wN (a:Adr):XS:=(xSeq (xSet 3 (xC Az)) (xSeq (xFor (xIter (xBM 2 (pd a) (xVar 0) (xCons (xVar 2) xNil))) (yTup 2 (yCons (yName 4) (yCons (yName 5) yNil))) (na a)) (xRet (xCall 2 (mY a) (xCons (xVar 3) (xCons (xC AA) xNil))))))
def ml (a:Adr):XF:=(fnD 6 (wN a))
theorem zR (F:Fun K "outvote" "outvote" sT f fd) (T:Txt K mg a) (M_shares:Mt P w K mg base a.Book "shares" 3 ["self","house"] (spD K a.Book 2 (pd a))) (F_is_above:Fn P w K mg base "is_above" 1 ["first","second"] (spD K a.Book 2 (mY a))) (F_plus:Fn P w K mg base "plus" 2 ["first","second"] (spD K a.Book 2 (ua a))):FnOk P w K mg base (CXo P w) 4 f fd ["book","voters","house"] (spD K a.Book 3 (ml a)) :=
 mv F sc_outvote rfl fun cdv A outer s H E hr=>(kl (kF 3 sc_outvote.nd rfl (bv rfl) (A1 rfl T.g_ZERO T.r_ZERO T.p_ZERO)) (kl (mW rfl (mX (sj (kf 0) M_shares BB (hr.mono (by decide)) kM (kg (kf 2) kj))) (Av rfl (oa (k9 4 sc_outvote.nd rfl (bv rfl)) (oa (k9 5 sc_outvote.nd rfl (bv rfl)) xR))) (kr (qN (oj (Es (kC hr)) (kf 4) (kf 1) (by with_unfolding_all rfl)) (kr (kF 3 sc_outvote.nd rfl (bv rfl) (kN F_plus (hr.mono (by decide)) rfl kM (kg (kf 3) (kg (kf 5) kj))))) mf))) (kr (kS (kN F_is_above (hr.mono (by decide)) rfl kQ (kg (kf 3) (kg (A1 rfl T.g_HALF T.r_HALF T.p_HALF) kj)))))))
abbrev pF:bX:=top 13
theorem yn:FnScope ["book","voters"] ["book","voters"] (kh pF):=fsc
def uN (a:Adr):XS:=(xRet (lu (xIter (xBM 1 (mM a) (xVar 0) xNil)) [0,1] (xTr (xCall 3 (ml a) (xCons (xVar 1) (xCons (xVar 2) (xCons (xVar 0) xNil))))) (xVar 0)))
def lH (a:Adr):XF:=(fnD 2 (uN a))
theorem yq (F:Fun K "outvoted" "outvoted" pF f fd) (T:Txt K mg a) (M_houses:Mt P w K mg base a.Book "houses" 1 ["self"] (spD K a.Book 1 (mM a))) (F_outvote:Fn P w K mg base "outvote" 4 ["book","voters","house"] (spD K a.Book 3 (ml a))):FnOk P w K mg base (CXo P w) 5 f fd ["book","voters"] (spD K a.Book 2 (lH a)) :=
 mv F yn rfl fun cdv A outer s H E hr=>(kr (kS (mi (fr:=["book","voters"]) (ix:=[0,1]) rfl (by exact (show CompOk ["book","voters"] (kh pF) _ _ _ _ from cok)) (mX (Ay (kf 0) M_houses wD (hr.mono (by decide)) kQ)) (fun _ _ _ _ _=>(mJ (oC (kN F_outvote (hr.mono (by decide)) rfl kM (kg (kf 1) (kg (kf 2) (kg (kf 0) kj))))))) (fun _ _ _ _ _=>(kf 0)))))
end
end My
namespace L2
open PySem
def sem:=ah @fnD.eq_1 <| ah @xSeq.eq_1 <| ah @xSet.eq_1 <| ah @xRet.eq_1 <| ah @xRetN.eq_1 <| ah @xDo.eq_1 <| ah @xIf.eq_1 <| ah @xEnd.eq_1 <| ah @xPut.eq_1 <| ah @xPar.eq_1 <| ah @xAsg.eq_1 <| ah @x1.eq_1 <| ah @x2.eq_1 <| ah @xVar.eq_1 <| ah @xC.eq_1 <| ah @xB.eq_1 <| ah @xCall.eq_1 <| ah @xBM.eq_1 <| ah @xCons.eq_1 <| ah @xNil.eq_1 <| ah @xTup.eq_1 <| ah @xLst.eq_1 <| ah @xLstC.eq_1 <| ah @xTr.eq_1 <| ah @xNot.eq_1 <| ah @xAnd.eq_1 <| ah @xOr.eq_1 <| ah @xAndV.eq_1 <| ah @xOrV.eq_1 <| ah @xNotV.eq_1 <| ah @xSl.eq_1 <| ah @xNoP.eq_1 <| ah @xPart.eq_1 <| ah @xIter.eq_1 <| ah @xRng1.eq_1 <| ah @xIterS.eq_1 <| ah @xIterD.eq_1 <| ah @xFor.eq_1 <| ah @xFrz.eq_1 <| ah @frz1.eq_1 <| ah @frz1.eq_2 <| ah @xAppend.eq_1 <| ah @xGet.eq_1 <| ah @xJoin.eq_1 <| ah @xNewD.eq_1 <| ah @xDisp.eq_1 <| ah @xIsiT.eq_1 <| ah @xIfe.eq_1 <| ah @xChain.eq_1 <| ah @xBook.eq_1 <| ah @Out.bind.eq_1 <| ah @Out.bind.eq_2 <| ah @Out.bind.eq_3 <| ah @Out.so.eq_1 <| ah @Out.so.eq_2 <| ah @Out.so.eq_3 <| ah @SO.noex.eq_1 <| ah @SO.noex.eq_2 <| ah @fAdd.eq_1 <| ah @fAdd.eq_2 <| ah @fAdd.eq_3 <| ah @fSub.eq_1 <| ah @fSub.eq_2 <| ah @fMul.eq_1 <| ah @fMul.eq_2 <| ah @fMul.eq_3 <| ah @fDiv.eq_1 <| ah @fDiv.eq_2 <| ah @fMod.eq_1 <| ah @fMod.eq_2 <| ah @fPow.eq_1 <| ah @fPow.eq_2 <| ah @fCmp.eq_1 <| ah @fCmp.eq_2 <| ah @fEqN.eq_1 <| ah @fIs.eq_1 <| ah @fIs.eq_2 <| ah @fIsnt.eq_1 <| ah @fIsnt.eq_2 <| ah @fIx.eq_1 <| ah @fIx.eq_2 <| ah @fIx.eq_3 <| ah @fIx.eq_4 <| ah @fIx.eq_5 <| ah @fNeg.eq_1 <| ah @fNeg.eq_2 <| ah @fSl.eq_1 <| ah @fSl.eq_2 <| ah @fLen.eq_1 <| ah @fLen.eq_2 <| ah @fLen.eq_3 <| ah @fLen.eq_4 <| ah @fAbs.eq_1 <| ah @fAbs.eq_2 <| ah @fInt.eq_1 <| ah @fInt.eq_2 <| ah @fInt.eq_3 <| ah @fTuple.eq_1 <| ah @fTuple.eq_2 <| ah @fList.eq_1 <| ah @fList.eq_2 <| ah @fList.eq_3 <| ah @fAll.eq_1 <| ah @fAll.eq_2 <| ah @lsOf.eq_1 <| ah @lsOf.eq_2 <| ah @lsOf.eq_3 <| ah @lsOf.eq_4 <| ah @dcOf.eq_1 <| ah @dcOf.eq_2 <| ah @dcOf.eq_3 <| ah @kyOf.eq_1 <| ah @kyOf.eq_2 <| ah @kyOf.eq_3 <| ah @toV.eq_1 <| ah @toV.eq_2 <| ah @toV.eq_3 <| ah @toV.eq_4 <| ah @toV.eq_5 <| ah @toVs.eq_1 <| ah @toVs.eq_2 <| ah @yName.eq_1 <| ah @yNil.eq_1 <| ah @yNil.eq_2 <| ah @yCons.eq_1 <| ah @yCons.eq_2 <| ah @yTup.eq_1 <| ah @yTup.eq_2 <| @xOnly.eq_1
end L2
namespace My
open PySem L2 Fra
theorem ra {body:PV→XS} (l:List PV) (I:Nat→En→Sto→Prop) (h:∀ k q ρ s,l[k]?=some q→I k ρ s→∃ ρ' s',body q ρ s=.nx ρ' s'∧I (k+1) ρ' s') {ρ:En}{s:Sto} (h0:I 0 ρ s):∃ ρ' s',li body l ρ s=.nx ρ' s'∧I l.length ρ' s':=by
 have main:∀ (r:List PV) (k:Nat) (ρ:En) (s:Sto),k≤l.length→l.drop k=r→I k ρ s→∃ ρ' s',li body r ρ s=.nx ρ' s'∧I l.length ρ' s':=by
  intro r
  induction r with
  | nil =>
   intro k ρ s hk e hI
   have:k=l.length:=iP hk (jJ.mp e)
   subst this
   exact ⟨ρ,s,rfl,hI⟩
  | cons q r ih =>
   intro k ρ s hk e hI
   have hq:l[k]?=some q:=by
    have:=congrArg List.head? e
    rw [List.head?_drop] at this
    simpa using this
   obtain ⟨ρ',s',h1,h2⟩:=h k q ρ s hq hI
   have e2:l.drop (k+1)=r:=by
    rw [← List.tail_drop,e];rfl
   obtain ⟨ρ2,s2,h3,h4⟩:=ih (k+1) ρ' s' ((aW.mp hq).1) e2 h2
   refine ⟨ρ2,s2,?_,h4⟩
   unfold li
   rw [h1]
   exact h3
 exact main l 0 ρ s (bD _) rfl h0
theorem qr (n:Nat):(qt 0 n).length=n:=by simp [qt]
theorem CY {n k:Nat}{q:PV} (h:(qt 0 n)[k]?=some q):k < n∧q=.int (k:Int):=by
 unfold qt at h
 rw [bi] at h
 by_cases hk:k < n
 ·rw [jW hk] at h
  cases h
  exact ⟨hk,by simp⟩
 ·rw [jB (by simpa using hk)] at h;cases h
theorem qy {body:PV→XS} (n:Nat) (I:Nat→En→Sto→Prop) (h:∀ (k:Nat) ρ s,k < n→I k ρ s→∃ ρ' s',body (.int (k:Int)) ρ s=.nx ρ' s'∧I (k+1) ρ' s') {ρ:En}{s:Sto} (h0:I 0 ρ s):∃ ρ' s',li body (qt 0 n) ρ s=.nx ρ' s'∧I n ρ' s':=by
 have:=ra (qt 0 n) I (fun k q ρ s hq hI=>by obtain ⟨h1,h2⟩:=CY hq;rw [h2];exact h k ρ s h1 hI) h0
 rw [qr] at this
 exact this
theorem mK (s:Sto) (i:Int):PV.data s 12 (.int i)=some (.int i):=rfl
theorem oI (i j:Int):du (.int i) (.int j)=(i == j):=by unfold du;rfl
def IsPurse (s:Sto) (p:Nat):Prop:=∃ x y,s.get p=some (.lst [.int x,.int y])
theorem sx (a:Adr) (s:Sto) (p:Nat) (n:Int) (h:IsPurse s p) (h0:0 < n) (h1:Bt 9000 n):∃ r x y,0≤r∧r < n∧ku a [.ref p,.int n] s=.ok (.int r) (s.set p (.lst [.int x,.int y])):=by
 obtain ⟨x,y,h⟩:=h
 have hd:Cj n:=⟨h0,h1⟩
 by_cases hx:x=0
 ·refine ⟨y % n,x,y / n,dI _ (by omega),cU _ h0,?_⟩
  subst hx
  simp [sem,kP,ko,kO,ku,qk,h,atI,ixN,mK,oI,hd,h0]
 ·refine ⟨x % n,x / n,y,dI _ (by omega),cU _ h0,?_⟩
  simp [sem,kP,ko,kO,ku,qk,h,atI,ixN,mK,oI,hd,h0,hx]
theorem A8 {l:List Int}{i:Int} (h0:0≤i) (h1:i < l.length):∃ x,atI (l.map PV.int) i=some (.int x):=by
 obtain ⟨j,rfl⟩:∃ j:Nat,i=j:=⟨i.toNat,by omega⟩
 have hj:j < l.length:=by omega
 exact ⟨l[j],kZ (by simp [hj])⟩
theorem DK (l:List Int) (lo hi:Option Int):∃ k:List Int,rQ (l.map PV.int) lo hi=k.map PV.int∧k.length≤l.length:=by
 refine ⟨(l.drop (HT.sIx l.length 0 lo)).take (HT.sIx l.length l.length hi - HT.sIx l.length 0 lo),?_,?_⟩
 ·unfold rQ;simp [eB,List.map_drop]
 ·rw [cg,gi];omega
theorem C6 (a:Adr) (s:Sto) (l:List Int) (hl:l.length≤63):∃ x y,lR a [.seq (l.map .int)] s=.ok (.ref s.nx) (s.add (.lst [.int x,.int y])):=by
 obtain ⟨c,hc,hlen⟩:=DK l none (some 63)
 have hsz:c.length≤99999:=by omega
 have e1:c.map PV.int++[PV.int 1]=(c++[1]).map PV.int:=by simp
 have hpos:(0:Int) < (c.length:Int)+1:=by omega
 have h2:2≤aQ:=by decide
 obtain ⟨ρ',s',hloop,rfl,v,w,k,z,rfl,_⟩:=qy (body:=kK (yName 4) (nQ a)) 200
  (fun _ ρ t=>t=s∧∃ v w k z,ρ=[some (.seq (l.map .int)),some (.lst ((c++[1]).map .int)),some (.int v),some (.int w),k,z]∧0≤v∧v < 2147483629)
  (fun k ρ t hk hI=>by
   obtain ⟨rfl,v,w,k',z,rfl,h0,h1⟩:=hI
   obtain ⟨x,hx⟩:=A8 (l:=c++[1]) (i:=(k:Int) % ((c.length:Int)+1)) (dI _ (by omega)) (by have:=cU (k:Int) hpos;simpa using this)
   have m1:uF v v:=.inr (.inl ⟨by omega,by omega⟩)
   have m2:uF 48271 (k:Int):=.inr (.inl ⟨by decide,by decide⟩)
   have m3:uF w 2147483587:=.inr (.inr ⟨by decide,by decide⟩)
   have b0:=dI (v * v+x+48271 * (k:Int)+7) (show (2147483629:Int)≠0 by decide)
   have b1:=cU (v * v+x+48271 * (k:Int)+7) (show (0:Int) < 2147483629 by decide)
   have m4:uF ((v * v+x+48271 * (k:Int)+7) % 2147483629) ((v * v+x+48271 * (k:Int)+7) % 2147483629):=.inr (.inl ⟨by omega,by omega⟩)
   refine ⟨_,_,?_,rfl,(v * v+x+48271 * (k:Int)+7) % 2147483629,w * 2147483587+((v * v+x+48271 * (k:Int)+7) % 2147483629) * ((v * v+x+48271 * (k:Int)+7) % 2147483629) % 2147483587,some (.int k),some (.int x),rfl,b0,b1⟩
   simp only [aY,au,cO] at hx
   simp [sem,kP,ko,kO,kK,nQ,hx,m1,m2,m3,m4,hpos]) ⟨rfl,5,1,none,none,rfl,by decide,by decide⟩
 obtain ⟨x0,hx0⟩:=A8 (l:=c++[1]) (i:=0) (by omega) (by simp)
 simp only [aY,au,cO] at hx0 hloop
 by_cases h18:(1000000000000000000:Int)≤x0
 ·refine ⟨x0 - 1000000000000000000,w,?_⟩
  simp [sem,kP,ko,kO,lR,pB,hc,hsz,hloop,hx0,h18,h2]
 ·refine ⟨0,w,?_⟩
  simp [sem,kP,ko,kO,lR,pB,hc,hsz,hloop,hx0,h18,h2]
theorem xz (a:Adr) (s:Sto):∀ (k:Nat) (t b:Int),0≤b→b.toNat≤k→∃ n t',lc (xTr (x2 (xVar 1) (xC (.int 0)) fNe)) (lP a) n [some (.int t),some (.int b)] s=.nx [some (.int t'),some (.int 0)] s∧t'.natAbs=aM t b:=by
 intro k
 induction k with
 | zero =>
  intro t b h0 hk
  have:b=0:=by omega
  subst this
  refine ⟨1,t,?_,by simp [aM]⟩
  unfold lc
  simp [sem,kP,ko,kO,mK,oI]
 | succ k ih =>
  intro t b h0 hk
  by_cases hb:b=0
  ·subst hb
   refine ⟨1,t,?_,by simp [aM]⟩
   unfold lc
   simp [sem,kP,ko,kO,mK,oI]
  ·have hp:0 < b:=by omega
   have m0:=dI t hb
   have m1:=cU t hp
   obtain ⟨n,t',h1,h2⟩:=ih b (t % b) m0 (by omega)
   refine ⟨n+1,t',?_,by rw [h2];exact y8 t b hp⟩
   have hs:lP a [some (.int t),some (.int b)] s=.nx [some (.int b),some (.int (t % b))] s:=by simp [sem,kP,ko,kO,lP,hp]
   unfold lc
   simp [sem,kP,ko,kO,mK,oI,hb,hs,h1]
theorem Ac (a:Adr) (s:Sto) (t b:Int) (hb:0≤b):lO a [.int t,.int b] s=.ok (.int (aM t b)) s:=by
 obtain ⟨n,t',h1,h2⟩:=xz a s b.toNat t b hb (aA _)
 have hw:=wf h1 (by simp)
 simp [sem,kP,ko,kO,lO,pY,hw]
 rw [← h2]
 split <;> omega
theorem sY (a:Adr) (s:Sto) (t b:Int) (hb:0 < b) (hB:Bt 9000 b):kW a [.int t,.int b] s=.ok (frP (red (t,b))) s:=by
 have hg:0 < aM t b:=bZ _ (by omega)
 have hd:Cj (aM t b:Int):=⟨by omega,hB.dvd (by omega) (cJ ..)⟩
 have e:=Ac a s t b (by omega)
 simp [sem,kP,ko,kO,kW,re,e,hd,frP,red]
theorem at0 (x y:PV):atI [x,y] 0=some x:=rfl
theorem at1 (x y:PV):atI [x,y] 1=some y:=rfl
structure Two' (p q:Int×Int):Prop where
 p0:0 < p.2
 q0:0 < q.2
 b:Bt 4400 p.2∧Bt 4400 q.2
 t:Bt 9000 p.1∧Bt 9000 q.1
theorem sH {i j:Int} (h:Bt 9000 i) (g:Bt 9000 j):uF i j:=.inl ⟨h.mono (by decide),g.mono (by decide)⟩
theorem yX (a:Adr) (s:Sto) (p q:Int×Int) (h:Two' p q):ma a [frP p,frP q] s=.ok (frP (lr p q)) s:=by
 have b1:Bt 9000 p.2:=h.b.1.mono (by decide)
 have b2:Bt 9000 q.2:=h.b.2.mono (by decide)
 have e:=sY a s (p.1 * q.2+q.1 * p.2) (p.2 * q.2) (bF h.p0 h.q0) ((h.b.1.mul h.b.2).mono (by decide))
 simp [sem,kP,ko,kO,ma,tJ,frP,at0,at1,sH h.t.1 b2,sH h.t.2 b1,sH b1 b2,e,lr]
theorem BD (a:Adr) (s:Sto) (p q:Int×Int) (h:Two' p q):lG a [frP p,frP q] s=.ok (frP (red (p.1 * q.1,p.2 * q.2))) s:=by
 have b1:Bt 9000 p.2:=h.b.1.mono (by decide)
 have b2:Bt 9000 q.2:=h.b.2.mono (by decide)
 have e:=sY a s (p.1 * q.1) (p.2 * q.2) (bF h.p0 h.q0) ((h.b.1.mul h.b.2).mono (by decide))
 simp [sem,kP,ko,kO,lG,rM,frP,at0,at1,sH h.t.1 h.t.2,sH b1 b2,e]
theorem nY (s:Sto) (c:Cell) (k:Nat):(s.add c).get k=if s.nx=k then some c else s.get k:=by
 show ly ((s.nx,c)::s.cs) k=_
 unfold ly;rfl
theorem ur (s:Sto) (c d:Cell) {p:Nat} (h:s.nx≠p):(s.add d).set p c=(s.set p c).add d:=by
 unfold Sto.set Sto.add
 simp [l4,h]
theorem ut (s:Sto) (c d:Cell):(s.add d).set s.nx c=s.add c:=by
 unfold Sto.set Sto.add
 simp [l4]
theorem xH (s:Sto) (n:Nat) (c d:Cell):(s.set n c).set n d=s.set n d:=by
 have:∀ l,l4 n d (l4 n c l)=l4 n d l:=by
  intro l
  induction l with
  | nil=>rfl
  | cons q r ih =>
   obtain ⟨k,e⟩:=q
   by_cases h:k=n
   ·simp [l4,h]
   ·simp [l4,h,ih]
 unfold Sto.set
 simp [this]
def Sto.bump (s:Sto):Sto:=⟨s.nx+1,s.cs⟩
theorem FI (s:Sto) (d:Cell):(s.add d).del s.nx=Sto.bump s:=by
 unfold Sto.del Sto.add Sto.bump
 simp [sN]
def pst (s:Sto) (p:Nat) (x y:Int):Sto:=s.set p (.lst [.int x,.int y])
theorem xX (s:Sto) (p:Nat) (x y:Int):(pst s p x y).nx=s.nx:=rfl
theorem IsPurse.pst {s:Sto}{p:Nat} (h:IsPurse s p) (x y:Int):IsPurse (pst s p x y) p:=let ⟨_,_,h⟩:=h;⟨x,y,xI h⟩
theorem IsPurse.add {s:Sto}{p:Nat} (h:IsPurse s p) (c:Cell) (hp:p < s.nx):IsPurse (s.add c) p:=by
 obtain ⟨x,y,h⟩:=h
 exact ⟨x,y,by rw [nY,if_neg (by omega)];exact h⟩
theorem AL (s:Sto) (p:Nat) (x y x' y':Int) (d:Cell) (hp:p < s.nx):((pst s p x y).add d).set p (.lst [.int x',.int y'])=(pst s p x' y').add d:=by
 rw [ur _ _ _ (by rw [xX];omega)]
 unfold pst
 rw [xH]
theorem FX {c:XT}{e:XE}{cap:En} (l:List PV) (I:Nat→List PV→Sto→Prop) (h:∀ k q vs s,l[k]?=some q→I k vs s→(∃ s1,c (some q::cap) s=.ok false s1∧I (k+1) vs s1)∨(∃ s1 v s2,c (some q::cap) s=.ok true s1∧e (some q::cap) s1=.ok v s2∧I (k+1) (vs++[v]) s2)) {s:Sto} (h0:I 0 [] s) :
  ∃ vs s',lz c e cap l s=.ok vs s'∧I l.length vs s':=by
 have main:∀ (r:List PV) (k:Nat) (vs:List PV) (s:Sto),k≤l.length→l.drop k=r→I k vs s→∃ ws s',lz c e cap r s=.ok ws s'∧I l.length (vs++ws) s':=by
  intro r
  induction r with
  | nil =>
   intro k vs s hk e hI
   have:k=l.length:=iP hk (jJ.mp e)
   subst this
   exact ⟨[],s,rfl,by simpa using hI⟩
  | cons q r ih =>
   intro k vs s hk e' hI
   have hq:l[k]?=some q:=by
    have:=congrArg List.head? e'
    rw [List.head?_drop] at this
    simpa using this
   have e2:l.drop (k+1)=r:=by rw [← List.tail_drop,e'];rfl
   have hk':k+1≤l.length:=(aW.mp hq).1
   rcases h k q vs s hq hI with ⟨s1,h1,h2⟩ | ⟨s1,v,s2,h1,h2,h3⟩
   ·obtain ⟨ws,s',h3,h4⟩:=ih (k+1) vs s1 hk' e2 h2
    exact ⟨ws,s',by rw [l5,h1];exact h3,h4⟩
   ·obtain ⟨ws,s',h4,h5⟩:=ih (k+1) (vs++[v]) s2 hk' e2 h3
    refine ⟨v::ws,s',by rw [l5,h1];simp [h2,h4],by simpa using h5⟩
 obtain ⟨ws,s',h1,h2⟩:=main l 0 [] s (bD _) rfl h0
 exact ⟨ws,s',h1,by simpa using h2⟩
theorem m6 {c:XT}{e:XE}{cap:En}{s:Sto} (p:PV→Bool) (f:PV→PV):∀ (l:List PV),(∀ q∈l,c (some q::cap) s=.ok (p q) s)→(∀ q∈l,p q=true→e (some q::cap) s=.ok (f q) s)→lz c e cap l s=.ok ((l.filter p).map f) s
 | [],_,_=>rfl
 | q::l,h1,h2=>by
  rw [l5,h1 q am]
  have ih:=m6 p f l (fun x hx=>h1 x (ag _ hx)) (fun x hx=>h2 x (ag _ hx))
  cases hp:p q with
  | false=>simp [ih,hp]
  | true=>simp [ih,hp,h2 q am hp]
theorem pb {n:Int} (h0:0 < n) (h1:n < 2 ^ 64):Bt 9000 n:=by
 have:Bt 64 n:=by unfold Bt;omega
 exact this.mono (by decide)
theorem tF:(aD "abcdefghijklmnopqrstuvwxyz").length≤100000:=by decide
theorem CD (c:Nat):(⟨#[c]⟩:Str).length=1:=rfl
theorem EI (r:Int) (k:Nat) (m0:0≤(r+7 * (k:Int)) % 26) (m1:(r+7 * (k:Int)) % 26 < 26) {t:Str} (g2:∀ c∈t.cps.toList,97≤c∧c≤122) (hl:t.length≤7):Wd r k (⟨#[97+((r+7 * (k:Int)) % 26).toNat]⟩++t):=by
 have l1:(⟨#[97+((r+7 * (k:Int)) % 26).toNat]⟩:Str).length=1:=rfl
 have lw:(⟨#[97+((r+7 * (k:Int)) % 26).toNat]⟩++t:Str).length=1+t.length:=by rw [pR,l1]
 have cw:∀ c∈(⟨#[97+((r+7 * (k:Int)) % 26).toNat]⟩++t:Str).cps.toList,97≤c∧c≤122:=fun c hc=>by
  rw [sv] at hc
  rcases aO.mp hc with hc | hc
  ·have:c=97+((r+7 * (k:Int)) % 26).toNat:=by simpa using hc
   omega
  ·exact g2 c hc
 refine ⟨⟨by omega,fun c hc=>by have:=cw c hc;omega⟩,?_,?_⟩
 ·unfold sK
  rw [decide_eq_true (by omega),decide_eq_true (by omega),cP,cP]
  refine cn.mpr fun c hc=>?_
  have:=cw c hc
  unfold low
  rw [decide_eq_true this.1,decide_eq_true this.2]
  rfl
 ·rw [sv]
  simp
theorem zY (a:Adr) (s:Sto) (p:Nat) (hp:p < s.nx) (hP:IsPurse s p) (fst:Int) (hf0:0≤fst) (k:Nat) (hk:k < 14) (x y:Int) (ws:List Str) (hw:ws.length=k) (u v w:Option PV) :
  ∃ x' y' nw u' v' w',Wd fst k nw∧kK (yName 4) (lM a) (.int (k:Int)) [some (.ref p),some (.str "abcdefghijklmnopqrstuvwxyz"),some (.int fst),some (.ref s.nx),u,v,w] ((pst s p x y).add (.lst (ws.map .str))) =
   .nx [some (.ref p),some (.str "abcdefghijklmnopqrstuvwxyz"),some (.int fst),some (.ref s.nx),u',v',w'] ((pst s p x' y').add (.lst ((ws++[nw]).map .str))):=by
 have q1:∀ x y,IsPurse ((pst s p x y).add (.lst (ws.map .str))) p:=fun x y=>(hP.pst x y).add _ (by rw [xX];exact hp)
 obtain ⟨r,xa,ya,r0,r1,e1⟩:=sx a _ p 8 (q1 x y) (by decide) (pb (by decide) (by decide))
 rw [AL _ _ _ _ _ _ _ hp] at e1
 obtain ⟨vs,t2,hc,ys,xb,yb,rfl,rfl,hyl,hy⟩:=FX (c:=qT) (e:=x2 (xVar 1) (xCall 2 (ku a) (xCons (xVar 2) (xCons (xC (.int 26)) xNil))) fIx) (cap:=[some (.str "abcdefghijklmnopqrstuvwxyz"),some (.ref p)]) (qt 0 r.toNat)
  (fun i vs t=>∃ ys x y,vs=ys.map PV.str∧t=(pst s p x y).add (.lst (ws.map .str))∧ys.length=i∧∀ z∈ys,z.length≤1∧∀ c∈z.cps.toList,97≤c∧c≤122)
  (fun i q vs t hq hI=>by
   obtain ⟨ys,x,y,rfl,rfl,hl,hy⟩:=hI
   obtain ⟨b,x',y',b0,b1,e⟩:=sx a _ p 26 (q1 x y) (by decide) (pb (by decide) (by decide))
   rw [AL _ _ _ _ _ _ _ hp] at e
   refine .inr ⟨_,.str ⟨#[97+b.toNat]⟩,_,rfl,?_,ys++[⟨#[97+b.toNat]⟩],x',y',by simp,rfl,by simp [hl],fun z hz=>?_⟩
   ·simp [sem,kP,ko,kO,e,Ef b0 b1,tF]
   ·rcases aO.mp hz with hz | hz
    ·exact hy z hz
    ·rw [ax.mp hz]
     exact ⟨aA _,fun c hc=>by simp at hc;omega⟩) (s:=(pst s p xa ya).add (.lst (ws.map .str))) ⟨[],xa,ya,rfl,rfl,rfl,fun z hz=>by cases hz⟩
 rw [qr] at hyl
 obtain ⟨g1,g2⟩:=Dx hy
 have m0:=dI (fst+7 * (k:Int)) (show (26:Int)≠0 by decide)
 have m1:=cU (fst+7 * (k:Int)) (show (0:Int) < 26 by decide)
 have hmul:uF 7 (k:Int):=.inr (.inl ⟨by decide,by decide⟩)
 have hlen:(qt 0 r.toNat).length≤100000:=by rw [qr];omega
 have hsum:=Cz fun z hz=>(hy z hz).1
 have hj:(ys.map (·.length)).sum+ys.length * (aD "").length≤16777216:=by
  have:(aD "").length=0:=rfl
  rw [this];omega
 have hcat:(⟨#[97+((fst+7 * (k:Int)) % 26).toNat]⟩:Str).length+(gj (aD "") ys).length≤100000:=by rw [CD];omega
 have hws:ws.length < 100000:=by omega
 have hr1:(-4611686018427387904:Int)≤r:=by omega
 have hr2:r < (4611686018427387904:Int):=by omega
 refine ⟨xb,yb,⟨#[97+((fst+7 * (k:Int)) % 26).toNat]⟩++gj (aD "") ys,some (.int k),some (.int r),some (.str (gj (aD "") ys)),?_,?_⟩
 ·exact EI fst k m0 m1 g2 (by omega)
 ·simp [sem,kP,ko,kO,kK,lM,e1,lu,lh,hlen,hc,nV,hj,hmul,Ef m0 m1,tF,hcat,nY,xX,hw,hr1,hr2,show k < 100000 by omega,show ∀ c,((pst s p xb yb).add (.lst (ws.map .str))).set s.nx c=(pst s p xb yb).add c from fun c=>ut (pst s p xb yb) c _]
theorem Dp (a:Adr) (s:Sto) (p:Nat) (hp:p < s.nx) (hP:IsPurse s p):∃ (x y:Int) (ws:List Str) (fst:Int),ws.length=14∧0≤fst∧(∀ j w,ws[j]?=some w→Wd fst j w)∧mH a [.ref p] s=.ok (.lst (ws.map .str)) (Sto.bump (pst s p x y)):=by
 obtain ⟨fst,x0,y0,f0,f1,e0⟩:=sx a s p 26 hP (by decide) (pb (by decide) (by decide))
 obtain ⟨ρ',s',hl,x,y,ws,u,v,w,rfl,rfl,hw,hWd⟩:=qy (body:=kK (yName 4) (lM a)) 14
  (fun k ρ t=>∃ (x y:Int) (ws:List Str) (u v w:Option PV),ρ=[some (.ref p),some (.str "abcdefghijklmnopqrstuvwxyz"),some (.int fst),some (.ref s.nx),u,v,w]∧t=(pst s p x y).add (.lst (ws.map .str))∧ws.length=k∧∀ j w,ws[j]?=some w→Wd fst j w)
  (fun k ρ t hk hI=>by
   obtain ⟨x,y,ws,u,v,w,rfl,rfl,hw,hWd⟩:=hI
   obtain ⟨x',y',nw,u',v',w',h1,h2⟩:=zY a s p hp hP fst f0 k hk x y ws hw u v w
   refine ⟨_,_,h2,x',y',ws++[nw],u',v',w',rfl,rfl,by simp [hw],fun j z hz=>?_⟩
   by_cases hj:j < ws.length
   ·rw [fR hj] at hz;exact hWd j z hz
   ·have ej:j=k:=by
     have:=(aW.mp hz).1
     simp at this
     omega
    subst ej
    rw [fN (by omega),hw,Nat.sub_self] at hz
    cases hz
    exact h1) (ρ:=[some (.ref p),some (.str "abcdefghijklmnopqrstuvwxyz"),some (.int fst),some (.ref s.nx),none,none,none]) (s:=(pst s p x0 y0).add (.lst (([]:List Str).map .str))) ⟨x0,y0,[],none,none,none,rfl,rfl,rfl,fun j w h=>by simp at h⟩
 refine ⟨x,y,ws,fst,hw,f0,hWd,?_⟩
 have e0':ku a [.ref p,.int 26] s=.ok (.int fst) (pst s p x0 y0):=e0
 have hl':li (kK (yName 4) (lM a)) (qt 0 14) [some (.ref p),some (.str "abcdefghijklmnopqrstuvwxyz"),some (.int fst),some (.ref s.nx),none,none,none] ((pst s p x0 y0).add (.lst []))=_:=hl
 have hd:((pst s p x y).add (.lst (ws.map .str))).del s.nx=Sto.bump (pst s p x y):=FI (pst s p x y) _
 simp [sem,kP,ko,kO,mH,rO,e0',xX,hl',nY,hd]
def stk (nx:Nat) (pre:List (Nat×Cell)) (s:Sto) (p:Nat) (x y:Int):Sto:=⟨nx,pre++(pst s p x y).cs⟩
theorem kX (k:Nat) (c:Cell) (r:List (Nat×Cell)) (n:Nat):ly ((k,c)::r) n=if k=n then some c else ly r n:=rfl
theorem qI (k:Nat) (d:Cell) (r:List (Nat×Cell)) (n:Nat) (c:Cell):l4 n c ((k,d)::r)=if k=n then (n,c)::r else (k,d)::l4 n c r:=rfl
theorem wV (k:Nat) (d:Cell) (r:List (Nat×Cell)) (n:Nat):sN n ((k,d)::r)=if k=n then r else (k,d)::sN n r:=rfl
theorem sf {pre l:List (Nat×Cell)}{n:Nat} (h:∀ q∈pre,q.1≠n):ly (pre++l) n=ly l n:=by
 induction pre with
 | nil=>rfl
 | cons q r ih =>
  obtain ⟨k,c⟩:=q
  show ly ((k,c)::(r++l)) n=_
  rw [kX,if_neg (h (k,c) am)]
  exact ih fun x hx=>h x (ag _ hx)
theorem vf {pre l:List (Nat×Cell)}{n:Nat}{c:Cell} (h:∀ q∈pre,q.1≠n):l4 n c (pre++l)=pre++l4 n c l:=by
 induction pre with
 | nil=>rfl
 | cons q r ih =>
  obtain ⟨k,d⟩:=q
  show l4 n c ((k,d)::(r++l))=_
  rw [qI,if_neg (h (k,d) am),ih fun x hx=>h x (ag _ hx)]
  rfl
theorem zk {pre l:List (Nat×Cell)}{n:Nat} (h:∀ q∈pre,q.1≠n):sN n (pre++l)=pre++sN n l:=by
 induction pre with
 | nil=>rfl
 | cons q r ih =>
  obtain ⟨k,d⟩:=q
  show sN n ((k,d)::(r++l))=_
  rw [wV,if_neg (h (k,d) am),ih fun x hx=>h x (ag _ hx)]
  rfl
theorem wq {nx:Nat}{pre:List (Nat×Cell)}{s:Sto}{p:Nat} (hP:IsPurse s p) (h:∀ q∈pre,q.1≠p) (x y:Int):IsPurse (stk nx pre s p x y) p:=by
 obtain ⟨x',y',e⟩:=hP.pst x y
 exact ⟨x',y',by show ly (pre++_) p=_;rw [sf h];exact e⟩
theorem ES (nx:Nat) (pre:List (Nat×Cell)) (s:Sto) (p:Nat) (x y x' y':Int) (h:∀ q∈pre,q.1≠p):(stk nx pre s p x y).set p (.lst [.int x',.int y'])=stk nx pre s p x' y':=by
 unfold stk Sto.set
 simp only
 rw [vf h]
 have:=xH s p (.lst [.int x,.int y]) (.lst [.int x',.int y'])
 unfold pst
 congr 1
 rw [← this]
 rfl
theorem qm (a:Adr) {nx:Nat}{pre:List (Nat×Cell)}{s:Sto}{p:Nat} (hP:IsPurse s p) (h:∀ q∈pre,q.1≠p) (n:Int) (h0:0 < n) (h1:n < 2 ^ 64) (x y:Int):∃ r x' y',0≤r∧r < n∧ku a [.ref p,.int n] (stk nx pre s p x y)=.ok (.int r) (stk nx pre s p x' y'):=by
 obtain ⟨r,x',y',r0,r1,e⟩:=sx a _ p n (wq hP h x y) h0 (pb h0 h1)
 rw [ES _ _ _ _ _ _ _ _ h] at e
 exact ⟨r,x',y',r0,r1,e⟩
theorem at8 (l:List Int) (hl:l.length=8) {r:Int} (h0:0≤r) (h1:r < 8):∃ v∈l,atI (l.map PV.int) r=some (.int v):=by
 obtain ⟨j,rfl⟩:∃ j:Nat,r=j:=⟨r.toNat,by omega⟩
 have hj:j < l.length:=by omega
 exact ⟨l[j],cm hj,kZ (by simp [hj])⟩
structure Part (q:Int×Int):Prop where
 low:Low q
 pos:0 < q.1
 le:q.1≤q.2
 bb:q.2≤1000000000
theorem CZ {t b:Int} (h0:0 < t) (h1:t≤b) (hb:b≤1000000000):Part (red (t,b)):=by
 have b0:0 < b:=by omega
 obtain ⟨lo,ev⟩:=pP (q:=(t,b)) b0
 simp only at ev
 have dv:=AJ (q:=(t,b)) b0
 generalize red (t,b)=q at *
 have q0:=lo.1
 have p1:0 < q.1:=by
  by_cases z:0 < q.1
  ·exact z
  ·have a1:q.1 * b≤0:=eJ (by omega) (by omega)
   have a2:0 < t * q.2:=bF h0 q0
   omega
 refine ⟨lo,p1,?_,d9 (Int.le_of_dvd b0 dv) hb⟩
 refine dZ ?_ b0
 rw [ev]
 have:=aL h1 (bu q0)
 rw [bz q.2 b]
 exact this
theorem Df (a:Adr) {nx:Nat}{pre:List (Nat×Cell)}{s:Sto}{p:Nat} (hP:IsPurse s p) (h:∀ q∈pre,q.1≠p) (x y:Int):∃ q x' y',Part q∧md a [.ref p] (stk nx pre s p x y)=.ok (frP q) (stk nx pre s p x' y'):=by
 obtain ⟨r,xa,ya,r0,r1,e1⟩:=qm a (nx:=nx) hP h 8 (by decide) (by decide) x y
 obtain ⟨b,hb,eb⟩:=at8 [2,3,4,5,7,10,100,1000000000] rfl r0 r1
 have hb':0 < b∧b≤1000000000:=by
  simp at hb
  rcases hb with h | h | h | h | h | h | h | h <;> omega
 obtain ⟨t,xb,yb,t0,t1,e2⟩:=qm a (nx:=nx) hP h b hb'.1 (by omega) xa ya
 have e3:=sY a (stk nx pre s p xb yb) (1+t) b hb'.1 (pb hb'.1 (by omega))
 refine ⟨red (1+t,b),xb,yb,CZ (by omega) (by omega) hb'.2,?_⟩
 simp only [au,cO] at eb
 simp [sem,kP,ko,kO,md,tK,e1,e2,e3,eb]
def hP (l:Hl):List (Key×PV):=l.map fun q=>(aE q.1,frP q.2)
def l7 (n:Nat):List (Str×Hl)→List (Nat×Cell)
 | []=>[]
 | (_,l)::r=>(n+r.length,.dct (hP l))::l7 n r
def ni (n:Nat):List (Str×Hl)→List (Key×PV)
 | []=>[]
 | (h,_)::r=>ni n r++[(aE h,.ref (n+r.length))]
def pZ (M:List (Str×Hl)):List (Key×PV):=M.map fun m=>(aE m.1,.dct (hP m.2))
theorem tw {n:Nat}:∀ {R:List (Str×Hl)},∀ q∈l7 n R,n≤q.1∧q.1 < n+R.length
 | [],q,h=>by cases h
 | (_,l)::r,q,h=>by
  rcases ai.mp h with rfl | h
  ·simp
  ·have:=tw q h
   simp;omega
theorem wR:∀ (A B:List (Key×PV)) (s:Sto),oM (A++B) s=match oM A s with
  | some (A',s1)=>match oM B s1 with
   | some (B',s2)=>some (A'++B',s2)
   | none=>none
  | none=>none
 | [],B,s=>by
  simp only [bY,oM]
  cases oM B s with
  | none=>rfl
  | some q=>rfl
 | (k,v)::A,B,s=>by
  simp only [ci,oM]
  cases h:frz1 v s with
  | ok w s1 =>
   simp only
   rw [wR A B s1]
   cases oM A s1 with
   | none=>rfl
   | some q =>
    obtain ⟨A',s2⟩:=q
    simp only
    cases oM B s2 with
    | none=>rfl
    | some q=>rfl
  | ex=>rfl
  | bad=>rfl
theorem za (n nx:Nat):∀ (R:List (Str×Hl)) (pre tail:List (Nat×Cell)),(∀ q∈pre,n+R.length≤q.1)→oM (ni n R) ⟨nx,pre++(l7 n R++tail)⟩=some (pZ R.reverse,⟨nx,pre++tail⟩)
 | [],pre,tail,_=>rfl
 | (h,l)::r,pre,tail,hp=>by
  have ih:=za n nx r (pre++[(n+r.length,.dct (hP l))]) tail (fun q hq=>by
   rcases aO.mp hq with hq | hq
   ·have:=hp q hq;simp at this;omega
   ·rw [ax.mp hq];exact aA _)
  have e1:pre++(l7 n ((h,l)::r)++tail)=pre++[(n+r.length,Cell.dct (hP l))]++(l7 n r++tail):=by simp [l7]
  rw [e1]
  show oM (ni n r++_) _=_
  rw [wR,ih]
  have hne:∀ q∈pre,q.1≠n+r.length:=fun q hq=>by have:=hp q hq;simp at this;omega
  have hg:(⟨nx,pre++[(n+r.length,Cell.dct (hP l))]++tail⟩:Sto).get (n+r.length)=some (.dct (hP l)):=by
   show ly (pre++[_]++tail) _=_
   rw [bI,sf hne]
   simp [ly]
  have hd:(⟨nx,pre++[(n+r.length,Cell.dct (hP l))]++tail⟩:Sto).del (n+r.length)=⟨nx,pre++tail⟩:=by
   unfold Sto.del
   simp only
   rw [bI,zk hne]
   simp [sN]
  simp only [oM,frz1,hg,hd]
  simp [pZ]
def vX (n:Nat) (R:List (Str×Hl)) (pp:List Str) (L:List Ent):List (Nat×Cell):=l7 (n+3) R++[(n+2,.dct (ni (n+3) R)),(n+1,.book pp L)]
def bst (s:Sto) (p:Nat) (R:List (Str×Hl)) (pp:List Str) (L:List Ent) (x y:Int):Sto:=stk (s.nx+3+R.length) (vX s.nx R pp L) s p x y
theorem A7 {n p:Nat} (hp:p < n) (R:List (Str×Hl)) (pp:List Str) (L:List Ent):∀ q∈vX n R pp L,q.1≠p:=fun q hq=>by
 unfold vX at hq
 rcases aO.mp hq with hq | hq
 ·have:=tw q hq;omega
 ·simp at hq
  rcases hq with rfl | rfl <;> (simp;omega)
theorem qB {n k:Nat} (R:List (Str×Hl)) (h:k < n):∀ q∈l7 n R,q.1≠k:=fun q hq=>by have:=tw q hq;omega
theorem pc (s:Sto) (p:Nat) (R:List (Str×Hl)) (pp:List Str) (L:List Ent) (x y:Int):(bst s p R pp L x y).get (s.nx+1)=some (.book pp L):=by
 show ly (vX s.nx R pp L++_) (s.nx+1)=_
 unfold vX
 rw [bI,sf (qB R (by omega))]
 simp [ly]
theorem vn (s:Sto) (p:Nat) (R:List (Str×Hl)) (pp:List Str) (L:List Ent) (x y:Int):(bst s p R pp L x y).get (s.nx+2)=some (.dct (ni (s.nx+3) R)):=by
 show ly (vX s.nx R pp L++_) (s.nx+2)=_
 unfold vX
 rw [bI,sf (qB R (by omega))]
 simp [ly]
theorem vm (s:Sto) (p:Nat) (R:List (Str×Hl)) (pp pp':List Str) (L L':List Ent) (x y:Int):(bst s p R pp L x y).set (s.nx+1) (.book pp' L')=bst s p R pp' L' x y:=by
 unfold bst stk Sto.set vX
 simp only
 rw [bI,vf (qB R (by omega))]
 simp [l4]
theorem wu (n:Nat) (h:Str) (l:Hl) (pr:List (Str×Hl)) (tl:List (Nat×Cell)):∀ post:List (Str×Hl),ly (l7 n (post++(h,l)::pr)++tl) (n+pr.length)=some (.dct (hP l))
 | []=>by
  show ly ((n+pr.length,Cell.dct (hP l))::_) _=_
  rw [kX,if_pos rfl]
 | (g,m)::post=>by
  show ly ((n+(post++(h,l)::pr).length,Cell.dct (hP m))::(l7 n (post++(h,l)::pr)++tl)) _=_
  rw [kX,if_neg (by simp;omega)]
  exact wu n h l pr tl post
theorem wt (n:Nat) (h:Str) (l l':Hl) (pr:List (Str×Hl)) (tl:List (Nat×Cell)):∀ post:List (Str×Hl),l4 (n+pr.length) (.dct (hP l')) (l7 n (post++(h,l)::pr)++tl)=l7 n (post++(h,l')::pr)++tl
 | []=>by
  show l4 _ _ ((n+pr.length,Cell.dct (hP l))::_)=_
  rw [qI,if_pos rfl]
  rfl
 | (g,m)::post=>by
  show l4 _ _ ((n+(post++(h,l)::pr).length,Cell.dct (hP m))::(l7 n (post++(h,l)::pr)++tl))=(n+(post++(h,l')::pr).length,Cell.dct (hP m))::(l7 n (post++(h,l')::pr)++tl)
  rw [qI,if_neg (by simp;omega),wt n h l l' pr tl post]
  simp
theorem wU (n:Nat) (h:Str) (l l':Hl) (pr:List (Str×Hl)):∀ post:List (Str×Hl),ni n (post++(h,l)::pr)=ni n (post++(h,l')::pr)
 | []=>rfl
 | (g,m)::post=>by
  show ni n (post++(h,l)::pr)++_=ni n (post++(h,l')::pr)++_
  rw [wU n h l l' pr post]
  simp
theorem pM (n:Nat):∀ R:List (Str×Hl),(ni n R).map (·.1)=R.reverse.map fun m=>aE m.1
 | []=>rfl
 | (h,l)::r=>by simp [ni,pM n r]
theorem qC (s:Sto) (p:Nat) (h:Str) (l:Hl) (post pr:List (Str×Hl)) (pp:List Str) (L:List Ent) (x y:Int):(bst s p (post++(h,l)::pr) pp L x y).get (s.nx+3+pr.length)=some (.dct (hP l)):=by
 show ly (vX s.nx _ pp L++_) _=_
 unfold vX
 rw [bI]
 exact wu (s.nx+3) h l pr _ post
theorem DR (s:Sto) (p:Nat) (h:Str) (l l':Hl) (post pr:List (Str×Hl)) (pp:List Str) (L:List Ent) (x y:Int):(bst s p (post++(h,l)::pr) pp L x y).set (s.nx+3+pr.length) (.dct (hP l'))=bst s p (post++(h,l')::pr) pp L x y:=by
 unfold bst stk Sto.set vX
 simp only
 rw [bI,wt (s.nx+3) h l l' pr _ post,wU (s.nx+3) h l l' pr post]
 simp
theorem Bc {l:List (Key×PV)}{k:Key} (h:k∉l.map (·.1)):og l k=none:=by
 unfold og
 rw [gh,cj]
 intro q hq z
 exact h (ak.mpr ⟨q,hq,of_decide_eq_true z⟩)
theorem C2 {l:List (Key×PV)}{k:Key} (v:PV) (h:k∉l.map (·.1)):Co l k v=l++[(k,v)]:=by
 unfold Co
 rw [if_neg]
 intro z
 obtain ⟨q,hq,e⟩:=cR.mp z
 exact h (ak.mpr ⟨q,hq,of_decide_eq_true e⟩)
theorem Cu {l k:List (Key×PV)}{q:Key} (h:q∉l.map (·.1)):og (l++k) q=og k q:=by
 unfold og
 rw [fW]
 have:l.find? (fun kv=>decide (kv.1=q))=none:=by
  rw [cj]
  intro z hz e
  exact h (ak.mpr ⟨z,hz,of_decide_eq_true e⟩)
 rw [this];rfl
theorem zh (n:Nat) (h:Str) (l:Hl) (pr:List (Str×Hl)) (hn:h∉pr.map (·.1)):∀ post:List (Str×Hl),og (ni n (post++(h,l)::pr)) (aE h)=some (.ref (n+pr.length))
 | []=>by
  show og (ni n pr++_) _=_
  rw [Cu]
  ·simp [og]
  ·rw [pM]
   intro z
   obtain ⟨m,hm,e⟩:=ak.mp z
   cases e
   exact hn (ak.mpr ⟨m,by simpa using hm,rfl⟩)
 | (g,m)::post=>by
  show og (ni n (post++(h,l)::pr)++_) _=_
  have ih:=zh n h l pr hn post
  unfold og at ih ⊢
  rw [fW]
  cases hf:(ni n (post++(h,l)::pr)).find? (fun kv=>decide (kv.1=aE h)) with
  | none=>rw [hf] at ih;cases ih
  | some q=>rw [hf] at ih;exact ih
theorem As (l:Hl) (n:Str) (h:n∈l.map (·.1)):og (hP l) (aE n)=some (frP (kB l n)):=by
 unfold og hP kB lv
 rw [fO,Option.map_map]
 have e:((fun kv:Key×PV=>decide (kv.1=aE n)) ∘ fun q:Str×Int×Int=>((aE q.1:Key),frP q.2))=fun q=>decide (q.1=n):=by
  funext q
  show decide ((aE q.1:Key)=aE n)=_
  rw [vT]
 rw [e]
 cases hf:l.find? (fun q=>decide (q.1=n)) with
 | none =>
  exfalso
  rw [cj] at hf
  obtain ⟨q,hq,e⟩:=ak.mp h
  exact hf q hq (decide_eq_true e)
 | some q=>rfl
theorem Fz (l:Hl):(hP l).map (·.1)=l.map fun q=>aE q.1:=by unfold hP;rw [aS];rfl
theorem Hy (l:Hl) (n:Str):(og (hP l) (aE n)).getD (.tup [.int 0,.int 1])=frP (kB l n):=by
 by_cases h:n∈l.map (·.1)
 ·rw [As l n h];rfl
 ·rw [Bc,xQ h]
  ·rfl
  ·rw [Fz]
   intro z
   obtain ⟨q,hq,e⟩:=ak.mp z
   cases e
   exact h (ak.mpr ⟨q,hq,rfl⟩)
theorem Hw (l:Hl) (n:Str) (q:Int×Int):Co (hP l) (aE n) (frP q)=hP (mF l n q):=by
 unfold Co mF hP
 rw [gv]
 have e:((fun kv:Key×PV=>decide (kv.1=aE n)) ∘ fun q:Str×Int×Int=>((aE q.1:Key),frP q.2))=fun q=>decide (q.1=n):=by
  funext q
  show decide ((aE q.1:Key)=aE n)=_
  rw [vT]
 rw [e]
 split
 ·rw [aS,aS]
  refine bU fun z _=>?_
  show (if (aE z.1:Key)=aE n then ((aE z.1:Key),frP q) else (aE z.1,frP z.2))=_
  by_cases hz:z.1=n
  ·simp [hz]
  ·simp [hz]
 ·simp
theorem zM (a:Adr) (s:Sto) (p:Nat) (R:List (Str×Hl)) (pp:List Str) (L:List Ent) (x y:Int) (w:Str) (hn:Nm w) (hd:qW a pp L w=none):qF a [.ref (s.nx+1),.str w] (bst s p R pp L x y)=.ok .non (bst s p R (pp++[w]) L x y):=by
 simp [qF,lg,pc,hn,hd,vm]
theorem BO (a:Adr) (s:Sto) (p:Nat) (R:List (Str×Hl)) (pp:List Str) (L:List Ent) (x y:Int) (w o:Str) (t m l:Int) (hn:Nm w∧Nm o) (hd:rc a pp L w o l=none) :
  sQ a [.ref (s.nx+1),.str w,.str o,.int t,.int m,.int l] (bst s p R pp L x y)=.ok .non (bst s p R pp (L++[⟨w,t,m,l,[(o,1,1)]⟩]) x y):=by
 simp [sQ,lg,pc,hn,hd,vm]
theorem E4 (s:Sto) (p:Nat) (R:List (Str×Hl)) (pp:List Str) (L:List Ent) (x y:Int) (w o:Str) (hw:w∉R.map (·.1)) (hR:R.length≤8) :
  kO (.ref (s.nx+2)) (.str w) (.ref (s.nx+3+R.length)) ((bst s p R pp L x y).add (.dct [(aE o,.tup [.int 1,.int 1])]))=some (bst s p ((w,[(o,1,1)])::R) pp L x y):=by
 have hnx:(bst s p R pp L x y).nx=s.nx+3+R.length:=rfl
 have hg:((bst s p R pp L x y).add (.dct [(aE o,.tup [.int 1,.int 1])])).get (s.nx+2)=some (.dct (ni (s.nx+3) R)):=by
  rw [nY,if_neg (by rw [hnx];omega),vn]
 have hk:(aE w:Key)∉(ni (s.nx+3) R).map (·.1):=by
  rw [pM]
  intro z
  obtain ⟨m,hm,e⟩:=ak.mp z
  cases e
  exact hw (ak.mpr ⟨m,by simpa using hm,rfl⟩)
 have hl:(ni (s.nx+3) R).length < 100000:=by
  have:=congrArg dC (pM (s.nx+3) R)
  simp at this
  omega
 simp only [kO,hg,kyOf,hl,if_true,C2 _ hk]
 congr 1
 rw [ur _ _ _ (by rw [hnx];omega)]
 unfold bst stk Sto.set Sto.add vX
 simp only
 rw [bI,vf (qB R (by omega))]
 simp [l4,l7,ni,hP,frP]
 omega
structure Words (pp hs:List Str):Prop where
 nd:(pp++hs).Nodup
 sm:∀ w∈pp++hs,Sm w
 nm:∀ w∈pp++hs,sK w=true
 p1:1≤pp.length
 p6:pp.length≤6
 h8:hs.length≤8
theorem oW (pp:List Str) (w:Str):lY pp w=true ↔ w∈pp:=by
 unfold lY
 rw [List.find?_isSome]
 constructor
 ·rintro ⟨x,hx,e⟩
  have:=of_decide_eq_true e
  subst this
  exact hx
 ·intro h
  exact ⟨w,h,decide_eq_true rfl⟩
theorem lS (L:List Ent) (w:Str):lW L w=true ↔ w∈L.map (·.nm):=by
 unfold lW ng
 rw [List.find?_isSome]
 constructor
 ·rintro ⟨x,hx,e⟩
  exact ak.mpr ⟨x,hx,of_decide_eq_true e⟩
 ·intro h
  obtain ⟨x,hx,e⟩:=ak.mp h
  exact ⟨x,hx,decide_eq_true e⟩
theorem wE (a:Adr) {pp:List Str}{L:List Ent}{w:Str} (h1:sK w=true) (h2:w∉pp) (h3:w∉L.map (·.nm)):oH a pp L w=none:=by
 unfold oH
 have e1:lY pp w=false:=by rw [cz];exact fun z=>h2 ((oW _ _).mp z)
 have e2:lW L w=false:=by rw [cz];exact fun z=>h3 ((lS _ _).mp z)
 rw [if_neg (by rw [h1];decide),e1,e2]
 rfl
theorem su {ws:List Str}{r:Int} (h0:0≤r) (h1:r < ws.length):∃ w∈ws,atI (ws.map PV.str) r=some (.str w):=by
 obtain ⟨j,rfl⟩:∃ j:Nat,r=j:=⟨r.toNat,by omega⟩
 have hj:j < ws.length:=by omega
 exact ⟨ws[j],cm hj,kZ (by simp [hj])⟩
def fr0 (p n:Nat) (wd:Option PV) (pp hs:List Str):En:=[some (.ref p),wd,some (.ref (n+1)),some (.lst (pp.map .str)),some (.lst (hs.map .str)),some (.ref (n+2))]
theorem xp (a:Adr) (s:Sto) (p:Nat) (x y:Int) {pp hs:List Str} (W:Words pp hs) (wd o6 o7 o8 o9 o10 o11 o12 o13 o14:Option PV) :
  ∃ o,li (kK (yName 6) (mC a)) (pp.map .str) (fr0 p s.nx wd pp hs++[o6,o7,o8,o9,o10,o11,o12,o13,o14]) (bst s p [] [] [] x y)=.nx (fr0 p s.nx wd pp hs++[o,o7,o8,o9,o10,o11,o12,o13,o14]) (bst s p [] pp [] x y):=by
 obtain ⟨e',s',h1,rfl,o,rfl⟩:=ra (body:=kK (yName 6) (mC a)) (pp.map .str) (fun k ρ t=>t=bst s p [] (pp.take k) [] x y∧∃ o,ρ=fr0 p s.nx wd pp hs++[o,o7,o8,o9,o10,o11,o12,o13,o14])
  (fun k q ρ t hq hI=>by
   obtain ⟨rfl,o,rfl⟩:=hI
   rw [bi] at hq
   cases hw:pp[k]? with
   | none=>rw [hw] at hq;cases hq
   | some w =>
    rw [hw] at hq
    cases hq
    have hk:k < pp.length:=(aW.mp hw).1
    have hmem:w∈pp:=ck hw
    have e1:pp.take (k+1)=pp.take k++[w]:=by rw [cZ,hw];rfl
    have nd:pp.Nodup:=(br.mp W.nd).1
    have hnot:w∉pp.take k:=fun z=>by
     have:(pp.take (k+1)).Nodup:=nd.sublist (eR _ _)
     rw [e1] at this
     exact (br.mp this).2.2 w z w am rfl
    have hd:qW a (pp.take k) [] w=none:=by
     unfold qW
     rw [wE a (W.nm w (bH _ hmem)) hnot (by simp)]
     simp only
     rw [if_neg]
     rw [cg]
     have:=W.p6
     omega
    have hdo:=zM a s p [] (pp.take k) [] x y w (W.sm w (bH _ hmem)).nm hd
    refine ⟨_,_,?_,rfl,some (.str w),rfl⟩
    simp [sem,kP,ko,kO,kK,mC,fr0,pc,hdo,e1]) (ρ:=fr0 p s.nx wd pp hs++[o6,o7,o8,o9,o10,o11,o12,o13,o14]) (s:=bst s p [] [] [] x y) ⟨rfl,o6,rfl⟩
 rw [aj,d7] at h1
 exact ⟨o,h1⟩
inductive Pairs (N:List Str) (c:Nat):List Ent→List (Str×Hl)→Prop
 | nil:Pairs N c [] []
 | cons {e:Ent}{m:Str×Hl}{L:List Ent}{M:List (Str×Hl)}:e.nm=m.1→HR c e.held m.2→(∀ n∈m.2.map (·.1),n∈N)→0≤e.ls→Pairs N c L M→Pairs N c (e::L) (m::M)
theorem Pairs.names {N:List Str}{c:Nat}{L:List Ent}{M:List (Str×Hl)} (h:Pairs N c L M):L.map (·.nm)=M.map (·.1):=by
 induction h with
 | nil=>rfl
 | cons h1 _ _ _ _ ih=>rw [au,au,h1,ih]
theorem Pairs.app {N:List Str}{c:Nat}{L L':List Ent}{M M':List (Str×Hl)} (h:Pairs N c L M) (h':Pairs N c L' M'):Pairs N c (L++L') (M++M'):=by
 induction h with
 | nil=>exact h'
 | cons h1 h2 h3 h4 _ ih=>exact .cons h1 h2 h3 h4 ih
theorem Pairs.mono {N:List Str}{c d:Nat} (hc:c≤d) {L:List Ent}{M:List (Str×Hl)} (h:Pairs N c L M):Pairs N d L M:=by
 induction h with
 | nil=>exact .nil
 | cons h1 h2 h3 h4 _ ih=>exact .cons h1 (h2.mono hc) h3 h4 ih
structure Half (pp hs:List Str) (k:Nat) (R:List (Str×Hl)) (L:List Ent):Prop where
 ln:L.map (·.nm)=hs.take k
 pr:Pairs (pp++hs) 0 L R.reverse
theorem Half.rn {pp hs:List Str}{k:Nat}{R:List (Str×Hl)}{L:List Ent} (h:Half pp hs k R L):R.reverse.map (·.1)=hs.take k:=by rw [← h.pr.names,h.ln]
theorem vk (ws:List PV) (k:Nat) (hk:k≤ws.length):rQ ws none (some (k:Int))=ws.take k:=by
 unfold rQ
 simp [HT.sIx]
 have:min k ws.length=k:=by omega
 split
 ·omega
 ·omega
theorem n9 (a:Adr) (s:Sto) (p:Nat) (hp:p < s.nx) (hP:IsPurse s p) (R:List (Str×Hl)) (pp:List Str) (L:List Ent) (n:Int) (h0:0 < n) (h1:n < 2 ^ 64) (x y:Int):∃ r x' y',0≤r∧r < n∧ku a [.ref p,.int n] (bst s p R pp L x y)=.ok (.int r) (bst s p R pp L x' y'):=qm a hP (A7 hp R pp L) n h0 h1 x y
theorem Dg (a:Adr) (s:Sto) (p:Nat) (hp:p < s.nx) (hP:IsPurse s p) (R:List (Str×Hl)) (pp:List Str) (L:List Ent) (x y:Int):∃ q x' y',Part q∧md a [.ref p] (bst s p R pp L x y)=.ok (frP q) (bst s p R pp L x' y'):=Df a hP (A7 hp R pp L) x y
theorem yy (a:Adr) (s:Sto) (p:Nat) (hp:p < s.nx) (hP:IsPurse s p) (x y:Int) {pp hs:List Str} (W:Words pp hs) (wd o6 o7 o8 o9 o10 o11 o12 o13 o14:Option PV) :
  ∃ x' y' R L o o',Half pp hs hs.length R L∧li (kK (yName 7) (mB a)) (qt 0 hs.length) (fr0 p s.nx wd pp hs++[o6,o7,o8,o9,o10,o11,o12,o13,o14]) (bst s p [] pp [] x y)=.nx (fr0 p s.nx wd pp hs++[o6,o,o',o9,o10,o11,o12,o13,o14]) (bst s p R pp L x' y'):=by
 obtain ⟨e',s',h1,x',y',R,L,o,o',rfl,rfl,hH⟩:=qy (body:=kK (yName 7) (mB a)) hs.length (fun k ρ t=>∃ x y R L o o',t=bst s p R pp L x y∧ρ=fr0 p s.nx wd pp hs++[o6,o,o',o9,o10,o11,o12,o13,o14]∧Half pp hs k R L)
  (fun k ρ t hk hI=>by
   obtain ⟨x,y,R,L,o,o',rfl,rfl,hH⟩:=hI
   have hlen:R.length=k:=by
    have:=congrArg dC hH.rn
    simp at this
    omega
   have hLl:L.length=k:=by
    have:=congrArg dC hH.ln
    simp at this
    omega
   obtain ⟨r,xa,ya,r0,r1,e1⟩:=n9 a s p hp hP R pp L ((pp.length:Int)+(k:Int)) (by have:=W.p1;omega) (by have:=W.p6;have:=W.h8;omega) x y
   obtain ⟨ow,how,eow⟩:=su (ws:=pp++hs.take k) r0 (by rw [aC,cg];omega)
   obtain ⟨t1,xb,yb,t10,t11,e2⟩:=n9 a s p hp hP R pp L 100 (by decide) (by decide) xa ya
   obtain ⟨t2,xc,yc,t20,t21,e3⟩:=n9 a s p hp hP R pp L 60 (by decide) (by decide) xb yb
   obtain ⟨t3,xd,yd,t30,t31,e4⟩:=n9 a s p hp hP R pp L 40 (by decide) (by decide) xc yc
   have hw:hs[k]?=some hs[k]:=bh hk
   have eh:atI (hs.map PV.str) (k:Int)=some (.str hs[k]):=kZ (by simp [hk])
   have hmem:hs[k]∈hs:=cm hk
   have hin:hs[k]∈pp++hs:=aI _ hmem
   have ndh:hs.Nodup:=(br.mp W.nd).2.1
   have e5:hs.take (k+1)=hs.take k++[hs[k]]:=by rw [cZ,hw];rfl
   have hnot:hs[k]∉hs.take k:=fun z=>by
    have:(hs.take (k+1)).Nodup:=ndh.sublist (eR _ _)
    rw [e5] at this
    exact (br.mp this).2.2 _ z _ am rfl
   have hnp:hs[k]∉pp:=fun z=>(br.mp W.nd).2.2 _ z _ hmem rfl
   have how':ow∈pp++hs:=by
    rcases aO.mp how with h | h
    ·exact bH _ h
    ·exact aI _ (List.mem_of_mem_take h)
   have hd:rc a pp L hs[k] ow t3=none:=by
    unfold rc
    rw [wE a (W.nm _ hin) hnp (by rw [hH.ln];exact hnot)]
    simp only
    have hh:(lY pp ow || lW L ow)=true:=by
     rw [dH,oW,lS,hH.ln]
     exact aO.mp how
    rw [if_neg (by rw [hh];decide),if_neg (by omega),if_neg]
    have:=W.h8
    omega
   have hdo:=BO a s p R pp L xd yd hs[k] ow (t1 - 30) (t2 - 10) t3 ⟨(W.sm _ hin).nm,(W.sm _ how').nm⟩ hd
   have hput:=E4 s p R pp (L++[⟨hs[k],t1 - 30,t2 - 10,t3,[(ow,1,1)]⟩]) xd yd hs[k] ow (by
    intro z
    obtain ⟨m,hm,e⟩:=ak.mp z
    refine hnot ?_
    rw [← hH.rn,← e]
    exact ak.mpr ⟨m,by simpa using hm,rfl⟩) (by have:=W.h8;omega)
   have ecut:rQ (hs.map PV.str) none (some (k:Int))=(hs.take k).map PV.str:=by
    rw [vk _ _ (by simp;omega),eB]
   have eow':atI (pp.map PV.str++List.take k (hs.map PV.str)) r=some (.str ow):=by
    rw [← eB,← aY]
    exact eow
   have hnx:∀ L x y,(bst s p R pp L x y).nx=s.nx+3+R.length:=fun _ _ _=>rfl
   have ecat:pp.map PV.str++(hs.take k).map PV.str=(pp++hs.take k).map PV.str:=by simp
   have hsz:pp.length+min k hs.length≤100000:=by have:=W.p6;have:=W.h8;omega
   refine ⟨_,_,?_,xd,yd,(hs[k],[(ow,1,1)])::R,L++[⟨hs[k],t1 - 30,t2 - 10,t3,[(ow,1,1)]⟩],some (.int k),some (.str ow),rfl,rfl,?_⟩
   ·simp [sem,kP,ko,kK,mB,fr0,pc,e1,e2,e3,e4,eow',eh,hdo,hput,ecut,hsz,hnx]
   ·refine ⟨?_,?_⟩
    ·rw [aY,hH.ln,e5]
     rfl
    ·rw [dN]
     exact hH.pr.app (.cons rfl (Hv 0 (W.sm _ how')) (fun n hn=>by cases ax.mp hn;exact how') t30 .nil)) (ρ:=fr0 p s.nx wd pp hs++[o6,o7,o8,o9,o10,o11,o12,o13,o14]) (s:=bst s p [] pp [] x y) ⟨x,y,[],[],o7,o8,rfl,rfl,⟨by simp,.nil⟩⟩
 exact ⟨x',y',R,L,o,o',hH,h1⟩
def uL (l:Hl):List Str:=(l.map (·.1)).filter fun n=>decide (0 < (kB l n).1)
theorem havN_srt {l:Hl}{n:Str}:n∈srt (uL l) ↔ n∈l.map (·.1)∧0 < (kB l n).1:=by
 rw [(kI _).mem_iff]
 unfold uL
 rw [bg,decide_eq_true_iff]
theorem Bj {n:Nat}{c:Cell}:∀ (l:List (Nat×Cell)),ly l n=some c→l4 n c l=l:=by
 intro l
 induction l with
 | nil=>intro h;cases h
 | cons q r ih =>
  obtain ⟨k,d⟩:=q
  intro h
  rw [kX] at h
  rw [qI]
  by_cases e:k=n
  ·rw [if_pos e] at h ⊢
   cases h
   rw [e]
  ·rw [if_neg e] at h ⊢
   rw [ih h]
theorem CJ {t:Sto}{n:Nat}{c:Cell} (h:t.get n=some c):t.set n c=t:=by
 unfold Sto.set
 rw [Bj _ h]
theorem BQ {ρ:En}{t:Sto}{n:Nat}{l:Hl} (hρ:ρ[10]?=some (some (.ref n))) (hg:t.get n=some (.dct (hP l))) (hl:l.length≤100000) :
  vp 10 [10] (xTr (x2 (x2 (x2 (xVar 1) (xVar 0) fIx) (xC (.int 0)) fIx) (xC (.int 0)) fGt)) (xVar 0) ρ t=.ok (.lst ((uL l).map .str)) t:=by
 have hg1:(t.set n (.dfz (hP l))).get n=some (.dfz (hP l)):=xI hg
 have hlen:(hP l).length≤100000:=by unfold hP;simpa using hl
 have ek:((hP l).map fun kv=>AU kv.1)=(l.map (·.1)).map PV.str:=by unfold hP;simp [AU]
 have hc:lz (xTr (x2 (x2 (x2 (xVar 1) (xVar 0) fIx) (xC (.int 0)) fIx) (xC (.int 0)) fGt)) (xVar 0) (lh [10] ρ) ((l.map (·.1)).map PV.str) (t.set n (.dfz (hP l)))=.ok (((((l.map (·.1)).map PV.str).filter fun q=>match q with
   | .str w=>decide (0 < (kB l w).1)
   | _=>false)).map id) (t.set n (.dfz (hP l))):=by
  refine m6 _ _ _ (fun q hq=>?_) (fun q hq _=>?_)
  ·obtain ⟨w,hw,rfl⟩:=ak.mp hq
   have hv:=As l w hw
   simp [sem,kP,ko,kO,lh,hρ,hg1,hv,frP,at0,fGt]
  ·simp [xVar]
 unfold vp
 rw [hρ]
 simp only
 rw [hg]
 simp only
 rw [if_pos hlen,ek,hc]
 simp only [Out.bind,thw,hg1,xH,CJ hg]
 congr 2
 unfold uL
 rw [ft,dG]
 rfl
def shr (g q:Int×Int):Int×Int:=red (g.1 * q.1,g.2 * q.2)
theorem GN {c:Nat} (hc:c≤11) {g q:Int×Int} (hg:FrC c g) (g0:0 < g.1) (hq:Part q) (hb:(shr g q).2 < 10 ^ 28):ShOk (shr g q)∧0 < (shr g q).1∧(shr g q).1 * g.2≤g.1 * (shr g q).2:=by
 have q2:0 < q.2:=hq.low.1
 have g2:0 < g.2:=hg.low.1
 obtain ⟨lo,ev⟩:=pP (q:=(g.1 * q.1,g.2 * q.2)) (bF g2 q2)
 simp only at ev
 change Low (shr g q) at lo
 change (shr g q).1 * (g.2 * q.2)=g.1 * q.1 * (shr g q).2 at ev
 generalize shr g q=r at *
 have r2:0 < r.2:=lo.1
 have p1:0 < g.1 * q.1 * r.2:=bF (bF g0 hq.pos) r2
 have r1:0 < r.1:=by
  rcases Int.lt_trichotomy 0 r.1 with h | h | h
  ·exact h
  ·rw [← h,Int.zero_mul] at ev;omega
  ·have:=jb h (bF g2 q2);omega
 have le1:r.1 * g.2≤g.1 * r.2:=by
  refine dZ (a:=q.2) ?_ q2
  have e1:r.1 * g.2 * q.2=g.1 * r.2 * q.1:=by
   rw [a9,ev,a9,a9,bz q.1]
  rw [e1]
  exact Int.mul_le_mul_of_nonneg_left hq.le (bu (bF g0 r2))
 have bb:Bt 94 r.2:=by unfold Bt;omega
 refine ⟨⟨lo,?_,bb⟩,r1,le1⟩
 have hv:=AR hg lo le1
 have hp:((2 ^ c:Nat):Int)≤2048:=by
  have:2 ^ c≤2 ^ 11:=cq (by decide) hc
  omega
 have:r.1≤2048 * r.2:=d9 hv (aL hp (bu r2))
 unfold Bt
 omega
theorem GG {c:Nat} (hc:c≤11) {g q:Int×Int} (hg:FrC c g) (hq:Part q):Two' g q:=by
 have q2:=hq.low.1
 have h1:=hq.bb
 have h2:=hq.le
 have h3:=hq.pos
 refine ⟨hg.low.1,q2,⟨hg.bb.mono (by omega),?_⟩,hg.top.mono (by omega),?_⟩
 ·have:Bt 30 q.2:=by unfold Bt;omega
  exact this.mono (by decide)
 ·have:Bt 30 q.1:=by unfold Bt;omega
  exact this.mono (by decide)
theorem FrB.top {c k:Nat} (hc:c≤11) (hk:k≤3000) {g:Int×Int} (hg:FrB k (2 ^ c:Nat) g):Bt 4000 g.1:=by
 have hp:((2 ^ c:Nat):Int)≤2048:=by
  have:2 ^ c≤2 ^ 11:=cq (by decide) hc
  omega
 have h2:=hg.low.1
 have:g.1≤2048 * g.2:=d9 hg.le (aL hp (bu h2))
 have b:Bt (12+k) (2048 * g.2):=Bt.mul (by unfold Bt;decide:Bt 12 2048) hg.bb
 have b2:Bt 4000 (2048 * g.2):=b.mono (by omega)
 have h0:=hg.nn
 unfold Bt at b2 ⊢
 omega
theorem DY {c k:Nat} (hc:c≤11) (hk:k≤3000) {g q:Int×Int} (hg:FrB k (2 ^ c:Nat) g) (hq:ShOk q):Two' g q :=
 ⟨hg.low.1,hq.low.1,⟨hg.bb.mono (by omega),hq.bb.mono (by omega)⟩,(hg.top hc hk).mono (by omega),hq.bt.mono (by omega)⟩
theorem EM {g q:Int×Int} (h:Two' g q):Two' g (-q.1,q.2):=⟨h.p0,h.q0,h.b,h.t.1,h.t.2.neg⟩
theorem ze {A B:List Ent}{e:Ent} (hn:e.nm∉A.map (·.nm)):ng (A++e::B) e.nm=some e:=by
 unfold ng
 rw [fW,cj.mpr]
 ·simp
 ·intro x hx z
  exact hn (ak.mpr ⟨x,hx,of_decide_eq_true z⟩)
theorem Bi {A B:List Ent}{e:Ent} (g:Ent→Ent) (h1:e.nm∉A.map (·.nm)) (h2:e.nm∉B.map (·.nm)):zF (A++e::B) e.nm g=A++g e::B:=by
 have no:∀ {l:List Ent},e.nm∉l.map (·.nm)→l.map (fun x=>if x.nm=e.nm then g x else x)=l:=fun {l} h=>by
  conv=>rhs;rw [← ft l]
  refine bU fun x hx=>?_
  rw [if_neg fun z=>h (ak.mpr ⟨x,hx,z⟩)]
  rfl
 unfold zF
 rw [aY,au,if_pos rfl,no h1,no h2]
theorem yQ (s:Sto) (p:Nat) (h:Str) (l:Hl) (post pr:List (Str×Hl)) (pp:List Str) (L:List Ent) (x y:Int) (o:Str) (q:Int×Int) (hl:l.length < 1000) :
  kO (.ref (s.nx+3+pr.length)) (.str o) (frP q) (bst s p (post++(h,l)::pr) pp L x y)=some (bst s p (post++(h,mF l o q)::pr) pp L x y):=by
 have hlen:(hP l).length < 100000:=by unfold hP;rw [aj];omega
 simp only [kO,qC,kyOf,hlen,if_true,Hw,DR]
theorem CT (a:Adr) (s:Sto) (p:Nat) (R:List (Str×Hl)) (pp:List Str) (A B:List Ent) (e:Ent) (x y:Int) (o1 o2:Str) (q:Int×Int) (nd:((A++e::B).map (·.nm)).Nodup) (hn:Nm e.nm∧Nm o1∧Nm o2) (hz:Sz q) (ok:SaleOk e.held o1 q)
  (h1:(lY pp o1 || lW (A++e::B) o1)=true) (h2:(lY pp o2 || lW (A++e::B) o2)=true) (nt:¬ nj e.held o1 q) :
  vY a [.ref (s.nx+1),.str e.nm,.str o1,.str o2,frP q] (bst s p R pp (A++e::B) x y)=.ok .non (bst s p R pp (A++{ e with held:=rG e.held o1 o2 q }::B) x y):=by
 rw [aY,au] at nd
 have n1:e.nm∉A.map (·.nm):=fun z=>(br.mp nd).2.2 _ z _ am rfl
 have n2:e.nm∉B.map (·.nm):=(aN.mp (br.mp nd).2.1).1
 have hS:SaleE (A++e::B) e.nm o1 o2 q:=⟨by rw [aY,au];exact nd,hn,hz,fun e' he=>by rw [ze n1] at he;cases he;exact ok⟩
 obtain ⟨t,b⟩:=q
 simp [vY,lg,pc,hS,ze n1,nt,frP,vm,Bi _ n1 n2]
 rw [dH] at h1 h2
 rw [if_neg (by intro z;rcases h1 with h | h <;> simp_all),if_neg (by intro z;rcases h2 with h | h <;> simp_all)]
theorem Bl (a:Adr) (s:Sto) (p:Nat) (hp:p < s.nx) (hP:IsPurse s p) {pp hs:List Str} (W:Words pp hs) (post pr:List (Str×Hl)) (A B:List Ent) (e:Ent) (l:Hl) (x y:Int) {c:Nat} (hc:c≤4)
  (hln:(A++e::B).map (·.nm)=hs) (hr:HR c e.held l) (hN:∀ n∈l.map (·.1),n∈pp++hs) (wd o6 o7 o8 o11 o12 o13 o14:Option PV) :
  ∃ x' y' hl' l' u1 u2 u3 u4,lN a (fr0 p s.nx wd pp hs++[o6,o7,o8,some (.str e.nm),some (.ref (s.nx+3+pr.length)),o11,o12,o13,o14]) (bst s p (post++(e.nm,l)::pr) pp (A++e::B) x y)
  =.nx (fr0 p s.nx wd pp hs++[o6,o7,o8,some (.str e.nm),some (.ref (s.nx+3+pr.length)),u1,u2,u3,u4]) (bst s p (post++(e.nm,l')::pr) pp (A++{ e with held:=hl' }::B) x' y')∧HR (c+1) hl' l'∧∀ n∈l'.map (·.1),n∈pp++hs:=by
 have hav:=BQ (ρ:=fr0 p s.nx wd pp hs++[o6,o7,o8,some (.str e.nm),some (.ref (s.nx+3+pr.length)),o11,o12,o13,o14]) rfl (qC s p e.nm l post pr pp (A++e::B) x y) (by have:=hr.l2;omega)
 have hne:srt (uL l)≠[]:=by
  obtain ⟨n,hn⟩:=hr.ex
  rw [hr.q] at hn
  intro z
  have:n∈srt (uL l):=havN_srt.mpr ⟨hr.had hn,hn⟩
  rw [z] at this
  cases this
 have hlt:(uL l).length≤5:=by
  unfold uL
  refine aJ (ca _ _) ?_
  rw [aj]
  have:=hr.l2
  omega
 have hpos:0 < (uL l).length:=by
  rw [← kE]
  exact fC.mpr hne
 obtain ⟨r,xa,ya,r0,r1,e1⟩:=n9 a s p hp hP (post++(e.nm,l)::pr) pp (A++e::B) ((uL l).length:Int) (by omega) (by omega) x y
 obtain ⟨w1,hw1,ew1⟩:=su (ws:=srt (uL l)) r0 (by rw [kE];exact r1)
 obtain ⟨w1in,w1pos⟩:=havN_srt.mp hw1
 obtain ⟨r',xb,yb,r0',r1',e2⟩:=n9 a s p hp hP (post++(e.nm,l)::pr) pp (A++e::B) ((pp.length:Int)+(hs.length:Int)) (by have:=W.p1;omega) (by have:=W.p6;have:=W.h8;omega) xa ya
 obtain ⟨w2,hw2,ew2⟩:=su (ws:=pp++hs) r0' (by rw [aC];omega)
 obtain ⟨q,xc,yc,hq,e3⟩:=Dg a s p hp hP (post++(e.nm,l)::pr) pp (A++e::B) xb yb
 have fr1:FrC c (kB l w1):=by rw [← hr.q];exact hr.fr w1
 have e4:=BD a (bst s p (post++(e.nm,l)::pr) pp (A++e::B) xc yc) (kB l w1) q (GG (by omega) fr1 hq)
 have hv:=As l w1 w1in
 have hg:=fun x y=>qC s p e.nm l post pr pp (A++e::B) x y
 have sz1:pp.length+hs.length≤100000:=by have:=W.p6;have:=W.h8;omega
 have sz2:(uL l).length < 64:=by omega
 have ew2':atI (pp.map PV.str++hs.map PV.str) r'=some (.str w2):=by rw [← aY];exact ew2
 have hcom:∀ k:Nat→Prop,True:=fun _=>trivial
 by_cases hb:(shr (kB l w1) q).2 < 10 ^ 28
 ·obtain ⟨ok,sp,sl⟩:=GN (by omega) fr1 w1pos hq hb
  have hb':(shr (kB l w1) q).2 < 10000000000000000000000000000:=hb
  change lG a [frP (kB l w1),frP q] _=.ok (frP (shr (kB l w1) q)) _ at e4
  generalize shr (kB l w1) q=sh at *
  have nt:¬ nj e.held w1 sh:=by
   intro z
   rcases z with z | z
   ·exact z sp
   ·rw [hr.q] at z;omega
  have nde:((A++e::B).map (·.nm)).Nodup:=by rw [hln];exact (br.mp W.nd).2.1
  have hin:∀ n∈pp++hs,(lY pp n || lW (A++e::B) n)=true:=fun n hn=>by
   rw [dH,oW,lS,hln]
   exact aO.mp hn
  have ein:e.nm∈pp++hs:=aI _ (by rw [← hln];simp)
  have e5:=CT a s p (post++(e.nm,l)::pr) pp A B e xc yc w1 w2 sh nde ⟨(W.sm _ ein).nm,(W.sm _ (hN _ w1in)).nm,(W.sm _ hw2).nm⟩ ok.sz (hr.saleOk (by omega) ok) (hin _ (hN _ w1in)) (hin _ hw2) nt
  have R1:=xE fr1 ok.low sp sl ok.bb
  have e6:=yX a (bst s p (post++(e.nm,l)::pr) pp (A++{ e with held:=rG e.held w1 w2 sh }::B) xc yc) (kB l w1) (-sh.1,sh.2) (EM (DY (c:=c) (by omega) (by omega) fr1 ok))
  have hp1:=yQ s p e.nm l post pr pp (A++{ e with held:=rG e.held w1 w2 sh }::B) xc yc w1 (lr (kB l w1) (-sh.1,sh.2)) (by have:=hr.l2;omega)
  generalize hl1:mF l w1 (lr (kB l w1) (-sh.1,sh.2))=l1 at *
  have g1:FrB (192 * c+2+94) (2 ^ c:Nat) (kB l1 w2):=by
   rw [← hl1,lA]
   by_cases z:w2=w1
   ·rw [if_pos z];exact R1
   ·rw [if_neg z,← hr.q]
    have f2:=hr.fr w2
    exact ⟨f2.low,f2.nn,f2.le,f2.bb.mono (by omega)⟩
  have e7:=yX a (bst s p (post++(e.nm,l1)::pr) pp (A++{ e with held:=rG e.held w1 w2 sh }::B) xc yc) (kB l1 w2) sh (DY (by omega) (by omega) g1 ok)
  have hl1n:l1.length < 1000:=by rw [← hl1];have:=xN l w1 (lr (kB l w1) (-sh.1,sh.2));have:=hr.l2;omega
  have hp2:=yQ s p e.nm l1 post pr pp (A++{ e with held:=rG e.held w1 w2 sh }::B) xc yc w2 (lr (kB l1 w2) sh) hl1n
  have hg2:=qC s p e.nm l post pr pp (A++{ e with held:=rG e.held w1 w2 sh }::B) xc yc
  have hg3:=qC s p e.nm l1 post pr pp (A++{ e with held:=rG e.held w1 w2 sh }::B) xc yc
  have hget:=Hy l1 w2
  have hlw:vZ l w1 w2 sh=mF l1 w2 (lr (kB l1 w2) sh):=by unfold vZ;simp only [hl1]
  refine ⟨xc,yc,rG e.held w1 w2 sh,vZ l w1 w2 sh,some (.lst ((srt (uL l)).map .str)),some (.str w1),some (.str w2),some (.tup [.int sh.1,.int sh.2]),?_,hr.sale ok (W.sm _ hw2) nt,?_⟩
  ·unfold lN
   simp only [xSeq,xSet,xB,xCons,xNil,hav]
   simp only [frP] at e3 e4 hv e5 e6 hp1 e7 hp2 hget
   simp [sem,kP,ko,fr0,nV,sz2,kE,e1,ew1,sz1,e2,ew2',hg,hv,e3,e4,at0,at1,fLt,hb',pc,e5,hg2,e6,hp1,hg3,hget,e7,hp2,hlw]
  ·intro n hn
   have h1:∀ n∈l1.map (·.1),n∈pp++hs:=fun n hn=>by
    rw [← hl1,lj,if_pos w1in] at hn
    exact hN n hn
   rw [hlw,lj] at hn
   split at hn
   ·exact h1 n hn
   ·rcases aO.mp hn with h | h
    ·exact h1 n h
    ·rw [ax.mp h];exact hw2
 ·refine ⟨xc,yc,e.held,l,some (.lst ((srt (uL l)).map .str)),some (.str w1),some (.str w2),some (.tup [.int (shr (kB l w1) q).1,.int (shr (kB l w1) q).2]),?_,hr.mono (by omega),hN⟩
  change lG a [frP (kB l w1),frP q] _=.ok (frP (shr (kB l w1) q)) _ at e4
  have hb'':¬ (shr (kB l w1) q).2 < 10000000000000000000000000000:=hb
  unfold lN
  simp only [xSeq,xSet,xB,xCons,xNil,hav]
  simp only [frP] at e3 e4 hv
  simp [sem,kP,ko,kO,fr0,nV,sz2,kE,e1,ew1,sz1,e2,ew2',hg,hv,e3,e4,at1,fLt,hb'']
theorem zJ (a:Adr) (s:Sto) (p:Nat) (hp:p < s.nx) (hP:IsPurse s p) {pp hs:List Str} (W:Words pp hs) (post pr:List (Str×Hl)) (A B:List Ent) (e:Ent) (l:Hl) (x y:Int)
  (hln:(A++e::B).map (·.nm)=hs) (hnp:e.nm∉pr.map (·.1)) (hr:HR 0 e.held l) (hN:∀ n∈l.map (·.1),n∈pp++hs) (wd o6 o7 o8 o9 o10 o11 o12 o13 o14:Option PV) :
  ∃ x' y' hl' l' u7 u9 u10 u1 u2 u3 u4,kK (yName 9) (mz a) (.str e.nm) (fr0 p s.nx wd pp hs++[o6,o7,o8,o9,o10,o11,o12,o13,o14]) (bst s p (post++(e.nm,l)::pr) pp (A++e::B) x y)
  =.nx (fr0 p s.nx wd pp hs++[o6,u7,o8,u9,u10,u1,u2,u3,u4]) (bst s p (post++(e.nm,l')::pr) pp (A++{ e with held:=hl' }::B) x' y')∧HR 5 hl' l'∧∀ n∈l'.map (·.1),n∈pp++hs:=by
 have hv:=zh (s.nx+3) e.nm l pr hnp post
 have hg:=vn s p (post++(e.nm,l)::pr) pp (A++e::B) x y
 obtain ⟨r,xa,ya,r0,r1,e1⟩:=n9 a s p hp hP (post++(e.nm,l)::pr) pp (A++e::B) 6 (by decide) (by decide) x y
 obtain ⟨j,rfl⟩:∃ j:Nat,r=j:=⟨r.toNat,by omega⟩
 obtain ⟨e',s',h1,x',y',hl',l',u7,u1,u2,u3,u4,rfl,rfl,hR,hN'⟩:=qy (body:=kK (yName 7) (lN a)) j (fun k ρ t=>∃ x y hl l u7 u1 u2 u3 u4,t=bst s p (post++(e.nm,l)::pr) pp (A++{ e with held:=hl }::B) x y∧ρ=fr0 p s.nx wd pp hs++[o6,u7,o8,some (.str e.nm),some (.ref (s.nx+3+pr.length)),u1,u2,u3,u4]∧HR k hl l∧∀ n∈l.map (·.1),n∈pp++hs)
  (fun k ρ t hk hI=>by
   obtain ⟨x,y,hl,l,u7,u1,u2,u3,u4,rfl,rfl,hr,hN⟩:=hI
   obtain ⟨x',y',hl',l',v1,v2,v3,v4,h1,h2,h3⟩:=Bl a s p hp hP W post pr A B { e with held:=hl } l x y (c:=k) (by omega) (by rw [← hln];simp) hr hN wd o6 (some (.int k)) o8 u1 u2 u3 u4
   refine ⟨_,_,?_,x',y',hl',l',some (.int k),v1,v2,v3,v4,rfl,rfl,h2,h3⟩
   rw [← h1]
   rfl) (ρ:=fr0 p s.nx wd pp hs++[o6,o7,o8,some (.str e.nm),some (.ref (s.nx+3+pr.length)),o11,o12,o13,o14]) (s:=bst s p (post++(e.nm,l)::pr) pp (A++e::B) xa ya) ⟨xa,ya,e.held,l,o7,o11,o12,o13,o14,rfl,rfl,hr,hN⟩
 refine ⟨x',y',hl',l',u7,some (.str e.nm),some (.ref (s.nx+3+pr.length)),u1,u2,u3,u4,?_,hR.mono (by omega),hN'⟩
 simp only [fr0,ci,bY] at h1
 have hj:(j:Int) < 4611686018427387904:=by omega
 simp [sem,kP,ko,kO,kK,mz,fr0,hg,hv,e1,h1,hj]
theorem zK (a:Adr) (s:Sto) (p:Nat) (hp:p < s.nx) (hP:IsPurse s p) {pp hs:List Str} (W:Words pp hs) (wd o6 o8:Option PV):∀ (B:List Ent) (M:List (Str×Hl)),Pairs (pp++hs) 0 B M→∀ (A:List Ent) (pr:List (Str×Hl)) (x y:Int) (o7 o9 o10 o11 o12 o13 o14:Option PV),Pairs (pp++hs) 5 A pr.reverse→(A++B).map (·.nm)=hs →
  ∃ x' y' R L u7 u9 u10 u1 u2 u3 u4,li (kK (yName 9) (mz a)) ((B.map (·.nm)).map .str) (fr0 p s.nx wd pp hs++[o6,o7,o8,o9,o10,o11,o12,o13,o14]) (bst s p (M.reverse++pr) pp (A++B) x y)
  =.nx (fr0 p s.nx wd pp hs++[o6,u7,o8,u9,u10,u1,u2,u3,u4]) (bst s p R pp L x' y')∧Pairs (pp++hs) 5 L R.reverse∧L.map (·.nm)=hs:=by
 intro B M hB
 induction hB with
 | nil =>
  intro A pr x y o7 o9 o10 o11 o12 o13 o14 hA hn
  refine ⟨x,y,pr,A,o7,o9,o10,o11,o12,o13,o14,?_,hA,by simpa using hn⟩
  ·simp [li]
 | @cons e m B M h1 h2 h3 h4 _ ih =>
  intro A pr x y o7 o9 o10 o11 o12 o13 o14 hA hn
  obtain ⟨h,l⟩:=m
  simp only at h1 h2 h3
  subst h1
  have hnp:e.nm∉pr.map (·.1):=by
   intro z
   have z2:e.nm∈A.map (·.nm):=by
    rw [hA.names]
    obtain ⟨m,hm,e⟩:=ak.mp z
    exact ak.mpr ⟨m,by simpa using hm,e⟩
   have nd:((A++e::B).map (·.nm)).Nodup:=by rw [hn];exact (br.mp W.nd).2.1
   rw [aY,au] at nd
   exact (br.mp nd).2.2 _ z2 _ am rfl
  obtain ⟨xa,ya,hl',l',u7,u9,u10,u1,u2,u3,u4,g1,g2,g3⟩:=zJ a s p hp hP W M.reverse pr A B e l x y hn hnp h2 h3 wd o6 o7 o8 o9 o10 o11 o12 o13 o14
  obtain ⟨xb,yb,R,L,v7,v9,v10,v1,v2,v3,v4,k1,k2,k3⟩:=ih (A++[{ e with held:=hl' }]) ((e.nm,l')::pr) xa ya u7 u9 u10 u1 u2 u3 u4 (by
   rw [dN]
   exact hA.app (.cons rfl g2 g3 h4 .nil)) (by rw [← hn];simp)
  refine ⟨xb,yb,R,L,v7,v9,v10,v1,v2,v3,v4,?_,k2,k3⟩
  have er:((e.nm,l)::M).reverse++pr=M.reverse++(e.nm,l)::pr:=by simp
  have ea:A++{ e with held:=hl' }::B=(A++[{ e with held:=hl' }])++B:=by simp
  rw [er,au,au]
  unfold li
  rw [g1]
  simp only
  rw [ea]
  exact k1
theorem kG {f g:XS}{ρ ρ':En}{s s':Sto} (h:f ρ s=.nx ρ' s'):xSeq f g ρ s=g ρ' s':=by unfold xSeq;rw [h]
theorem mI {N:Nat}{g:XS}{vs:List PV}{s s':Sto}{v:PV} (h:g (vs.map some++aV (N - vs.length) none) s=.rt v s'):fnD N g vs s=.ok v s':=by unfold fnD;rw [h]
theorem p62:(2:Int) ^ 62=4611686018427387904:=by decide
theorem lo62 (n:Nat):-(2 ^ 62)≤(n:Int):=by
 rw [p62]
 have:(-4611686018427387904:Int)≤n:=by omega
 exact this
theorem hi62 {n:Nat} (hn:n < 1000000):(n:Int) < 2 ^ 62:=by
 rw [p62]
 have:(n:Int) < 4611686018427387904:=by omega
 exact this
theorem DU {α β:Type} (v:α) (s:Sto) (f:α→Sto→Out β):(Out.ok v s).bind f=f v s:=rfl
theorem EZ {fa:XA}{ρ:En}{s s1:Sto}{j:Int} (h:fa ρ s=.ok [.int j] s1):xRng1 fa ρ s=if -(2 ^ 62)≤j∧j < 2 ^ 62 then Out.ok (qt 0 j.toNat) s1 else Out.bad:=by
 unfold xRng1
 rw [h,DU]
theorem ux {fa:XA}{ρ:En}{s s1:Sto}{n:Nat} (h:fa ρ s=.ok [.int n] s1) (hn:n < 1000000):xRng1 fa ρ s=.ok (qt 0 n) s1:=by
 rw [EZ h,if_pos ⟨lo62 n,hi62 hn⟩,iu]
theorem oB {fi:XA}{y:XG}{body:XS}{ρ ρ':En}{s s1 s':Sto}{l:List PV} (h1:fi ρ s=.ok l s1) (h2:li (kK y body) l ρ s1=.nx ρ' s'):xFor fi y body ρ s=.nx ρ' s':=by
 unfold xFor
 rw [h1]
 simp only [Out.so]
 rw [h2]
 rfl
theorem yi {ws:List Str}{fst:Int} (hl:ws.length=14) (hW:∀ j w,ws[j]?=some w→Wd fst j w):ws.Nodup:=by
 rw [fM,List.pairwise_iff_getElem]
 intro i j hi hj hij e
 have h1:=(hW i _ (bh hi)).2.2
 have h2:=(hW j _ (bh hj)).2.2
 rw [e,h2] at h1
 have:=aZ h1
 omega
theorem Ct {ws:List Str}{fst:Int} (hl:ws.length=14) (hW:∀ j w,ws[j]?=some w→Wd fst j w) {P Q:Nat} (p1:1≤P) (p6:P≤6) (q8:Q≤8):Words (ws.take P) ((ws.drop 6).take Q):=by
 have sub:(ws.take P++(ws.drop 6).take Q).Sublist ws:=by
  conv=>rhs;rw [← jA 6 ws]
  refine List.Sublist.append ?_ (eR _ _)
  have:ws.take P=(ws.take 6).take P:=by rw [List.take_take,Nat.min_eq_left p6]
  rw [this]
  exact eR _ _
 have all:∀ w∈ws.take P++(ws.drop 6).take Q,Sm w∧sK w=true:=fun w hw=>by
  obtain ⟨j,hj⟩:=jI (sub.subset hw)
  exact ⟨(hW j w hj).1,(hW j w hj).2.1⟩
 refine ⟨(yi hl hW).sublist sub,fun w hw=>(all w hw).1,fun w hw=>(all w hw).2,?_,?_,?_⟩
 ·rw [cg];omega
 ·rw [cg];omega
 ·rw [cg,gi];omega
theorem FW (ws:List PV) (hl:ws.length=14) (k:Nat) (hk:k≤8):rQ ws (some 6) (some (6+(k:Int)))=(ws.drop 6).take k:=by
 unfold rQ
 simp [HT.sIx,hl]
 have h:¬ (6+(k:Int) < 0):=by omega
 rw [if_neg h]
 omega
def kst (s:Sto) (p n:Nat) (pp:List Str) (L:List Ent) (x y:Int):Sto:=stk n [(s.nx+1,.book pp L)] s p x y
theorem FB (s:Sto) (p:Nat) (R:List (Str×Hl)) (pp:List Str) (L:List Ent) (x y:Int):Gs (.ref (s.nx+2)) (bst s p R pp L x y)=.ok (.dct (pZ R.reverse)) (kst s p (s.nx+3+R.length) pp L x y):=by
 have ed:(bst s p R pp L x y).del (s.nx+2)=⟨s.nx+3+R.length,[]++(l7 (s.nx+3) R++([(s.nx+1,.book pp L)]++(pst s p x y).cs))⟩:=by
  unfold bst stk Sto.del vX
  simp only [bY]
  rw [bI,zk (qB R (by omega)),ci,wV,if_pos rfl]
 unfold Gs frz1
 simp only [vn]
 rw [ed,za (s.nx+3) (s.nx+3+R.length) R [] _ (fun q hq=>by cases hq)]
 rfl
theorem DQ (a:Adr) (s:Sto) (p:Nat) (hp:p < s.nx) (hP:IsPurse s p):∃ n pp hs L M x y,s.nx+1 < n∧Words pp hs∧Pairs (pp++hs) 5 L M∧L.map (·.nm)=hs ∧
  nK a [.ref p] s=.ok (.lst [.ref (s.nx+1),.lst ((srt pp).map .str),.dct (pZ M)]) (kst s p n pp L x y):=by
 obtain ⟨x,y,ws,fst,hl,f0,hW,e0⟩:=Dp a s p hp hP
 have hne:∀ q∈[(s.nx+1,Cell.book [] [])],q.1≠p:=fun q hq=>by cases ax.mp hq;exact fun z=>by simp only at z;omega
 obtain ⟨r1,xa,ya,r10,r11,e1⟩:=qm a (nx:=s.nx+2) (pre:=[(s.nx+1,.book [] [])]) hP hne 8 (by decide) (by decide) x y
 obtain ⟨P,hPm,eP⟩:=at8 [2,3,1,4,6,2,3,5] rfl r10 r11
 obtain ⟨r2,xb,yb,r20,r21,e2⟩:=qm a (nx:=s.nx+2) (pre:=[(s.nx+1,.book [] [])]) hP hne 8 (by decide) (by decide) xa ya
 obtain ⟨Q,hQm,eQ⟩:=at8 [3,4,2,5,6,1,8,0] rfl r20 r21
 obtain ⟨i,rfl⟩:∃ i:Nat,P=i:=⟨P.toNat,by simp at hPm;omega⟩
 obtain ⟨j,rfl⟩:∃ j:Nat,Q=j:=⟨Q.toNat,by simp at hQm;omega⟩
 have i1:1≤i∧i≤6:=by simp at hPm;omega
 have j1:j≤8:=by simp at hQm;omega
 have W:=Ct hl hW i1.1 i1.2 j1
 have c1:rQ (ws.map PV.str) none (some (i:Int))=(ws.take i).map PV.str:=by rw [vk _ _ (by simp;omega),eB]
 have c2:rQ (ws.map PV.str) (some 6) (some (6+(j:Int)))=((ws.drop 6).take j).map PV.str:=by rw [FW _ (by simp [hl]) _ j1,eB,List.map_drop]
 generalize ws.take i=pp at *
 generalize (ws.drop 6).take j=hs at *
 have h0:∀ x y,(stk (s.nx+2) [(s.nx+1,.book [] [])] s p x y).add (.dct [])=bst s p [] [] [] x y:=fun _ _=>rfl
 have n1:∀ x y,(Sto.bump (pst s p x y)).nx=s.nx+1:=fun _ _=>rfl
 have n2:∀ x y,(stk (s.nx+2) [(s.nx+1,.book [] [])] s p x y).nx=s.nx+2:=fun _ _=>rfl
 have h00:∀ x y,(Sto.bump (pst s p x y)).add (.book [] [])=stk (s.nx+2) [(s.nx+1,.book [] [])] s p x y:=fun _ _=>rfl
 obtain ⟨o6,l1⟩:=xp a s p xb yb W (some (.lst (ws.map .str))) none none none none none none none none none
 obtain ⟨xc,yc,R,L,o7,o8,hH,l2⟩:=yy a s p hp hP xb yb W (some (.lst (ws.map .str))) o6 none none none none none none none none
 have hln:L.map (·.nm)=hs:=by have:=hH.ln;rwa [d7] at this
 obtain ⟨xd,yd,R',L',u7,u9,u10,u1,u2,u3,u4,l3,hPr,hn⟩:=zK a s p hp hP W (some (.lst (ws.map .str))) o6 o8 L R.reverse hH.pr [] [] xc yc o7 none none none none none none .nil (by simpa using hln)
 rw [fm,bO,bY,hln] at l3
 refine ⟨s.nx+3+R'.length,pp,hs,L',R'.reverse,xd,yd,by omega,W,hPr,hn,?_⟩
 have fz:=FB s p R' pp L' xd yd
 simp only [fr0,ci,bY] at l1 l2 l3
 have hpl:pp.length < 64:=by have:=W.p6;omega
 simp at eP eQ
 have hgo:pC a [some (.ref p),none,none,none,none,none,none,none,none,none,none,none,none,none,none] s=.rt (.lst [.ref (s.nx+1),.lst ((srt pp).map .str),.dct (pZ R'.reverse)]) (kst s p (s.nx+3+R'.length) pp L' xd yd):=by
  unfold pC
  rw [kG (ρ':=[some (.ref p),some (.lst (ws.map .str)),none,none,none,none,none,none,none,none,none,none,none,none,none]) (s':=Sto.bump (pst s p x y)) (by simp [sem,kP,ko,kO,e0])]
  rw [kG (ρ':=[some (.ref p),some (.lst (ws.map .str)),some (.ref (s.nx+1)),none,none,none,none,none,none,none,none,none,none,none,none]) (s':=stk (s.nx+2) [(s.nx+1,.book [] [])] s p x y) (by simp [sem,kP,ko,kO,n1,h00])]
  rw [kG (ρ':=[some (.ref p),some (.lst (ws.map .str)),some (.ref (s.nx+1)),some (.lst (pp.map .str)),none,none,none,none,none,none,none,none,none,none,none]) (s':=stk (s.nx+2) [(s.nx+1,.book [] [])] s p xa ya) (by simp [sem,kP,ko,kO,e1,eP,c1])]
  rw [kG (ρ':=[some (.ref p),some (.lst (ws.map .str)),some (.ref (s.nx+1)),some (.lst (pp.map .str)),some (.lst (hs.map .str)),none,none,none,none,none,none,none,none,none,none]) (s':=stk (s.nx+2) [(s.nx+1,.book [] [])] s p xb yb) (by simp [sem,kP,ko,kO,e2,eQ,c2])]
  rw [kG (ρ':=[some (.ref p),some (.lst (ws.map .str)),some (.ref (s.nx+1)),some (.lst (pp.map .str)),some (.lst (hs.map .str)),some (.ref (s.nx+2)),none,none,none,none,none,none,none,none,none]) (s':=bst s p [] [] [] xb yb) (by simp [sem,kP,ko,kO,n2,h0])]
  rw [kG (oB (l:=pp.map .str) (s1:=bst s p [] [] [] xb yb) (by simp [sem,kP,ko,kO]) l1)]
  rw [kG (oB (l:=qt 0 hs.length) (s1:=bst s p [] pp [] xb yb) (ux (n:=hs.length) (by simp [sem,kP,ko,kO]) (by have:=W.h8;omega)) l2)]
  rw [kG (oB (l:=hs.map .str) (s1:=bst s p R pp L xc yc) (by simp [sem,kP,ko,kO]) l3)]
  simp [sem,kP,ko,kO,nV,hpl,Eu,fz]
 exact mI hgo
theorem HQ:bR "set"=some (.type "set"):=by decide +kernel
section
variable {P:aU}{w:bw}{K:aa}{mg:Str→Option af}{base:bM}{a:Adr}{f:ae}{fd:bV}
abbrev rZ:bX:=top 10
theorem sc_rounds:FnScope ["drawn","told","earlier","further"] ["drawn"] (kh rZ):=fsc
def n8 (a:Adr) (lf:ae) (lvs:List V) (dr:List PV→PV→Sto→Out PV) :XS:=(xSeq (xSet 3 (tX (xIter (tY 0 lf lvs dr (xVar 2))) [2] (xTr (x2 (xVar 0) (xVar 1) mV)) (xVar 0))) (xSeq (xIf (xTr (x2 (xVar 3) (xLst xNil) fEq)) (xRet (xVar 1)) xEnd) (xSeq (xDo (xAppend (xVar 1) (xCons (xVar 3) xNil))) (xSet 2 (x2 (xVar 2) (xVar 3) fAdd)))))
def y9 (a:Adr) (lf:ae) (lvs:List V) (dr:List PV→PV→Sto→Out PV):XS:=(xSeq (xSet 1 (xLstC xNil)) (xSeq (xSet 2 (xLst xNil)) (tW (xTr (xC (.bl true))) (n8 a lf lvs dr))))
def qE (a:Adr) (lf:ae) (lvs:List V) (dr:List PV→PV→Sto→Out PV):XF:=fnD 4 (y9 a lf lvs dr)
theorem Bw (F:Fun K "rounds" "rounds" rZ f fd) (T:Txt K mg a):FnOk P w K mg base (CXo P w) 7 f fd ["drawn"] (F6 P w K mg base 6 a.Book (qE a)) :=
 HA (kc:=6) F sc_rounds fun lf lvs dr cdv A outer s H E CV hr=>(kl (kF 1 sc_rounds.nd rfl (bv rfl) (sO kj)) (kl (kF 2 sc_rounds.nd rfl (dO rfl) (nB kj)) (kr (zi (oC qO) (kl (yz (fr:=["earlier"]) (ix:=[2]) (i:=3) sc_rounds.nd rfl rfl rfl (by exact (show CompOk ["drawn","told","earlier","further"] (kh rZ) _ _ _ _ from cok)) (mX (DH CV 0 rfl (bv rfl) (hr.mono (by decide)) (kf 2))) (fun _ _ _ _ _=>(mJ (oj (xU (kC hr)) (kf 0) (kf 1) (by with_unfolding_all rfl)))) (fun _ _ _ _ _=>(kf 0))) (kl (qN (oj (Gz (Cq hr)) (kf 3) (nB kj) (lI _)) (kr (kS (kf 1))) mf) (kl (sg (tm (kf 1) (kg (kf 3) kj))) (kr (kF 2 sc_rounds.nd rfl (dO rfl) (lx (kf 2) (kf 3)))))))))))
abbrev uu:bX:=top 15
theorem CP:FnScope ["book","holder"] ["book","holder"] (kh uu):=fsc
def AX (a:Adr):XS:=(xSeq (xDo (xBM 2 (kJ a) (xVar 0) (xCons (xVar 1) xNil))) (xRet (Cd [0,1] (qE a) (xCall 2 (lH a) (xCons (xVar 1) (xCons (x2 (xLst (xCons (xVar 2) xNil)) (xVar 0) fAdd) xNil))))))
def nv (a:Adr):XF:=fnD 2 (AX a)
theorem Dh (F:Fun K "rules" "rules" uu f fd) (T:Txt K mg a) (M_need_holder:Mt P w K mg base a.Book "need_holder" 3 ["self","name"] (spD K a.Book 2 (kJ a))) (F_rounds:Fn P w K mg base "rounds" 7 ["drawn"] (F6 P w K mg base 6 a.Book (qE a))) (F_outvoted:Fn P w K mg base "outvoted" 5 ["book","voters"] (spD K a.Book 2 (lH a))) {cd PT:ae} (hns:aw K aq "rules"=some (some (.ref f))) (ht:bW K "rules"=some (cd,PT)) (TL:LamTxt K mg base cd PT):FnOk P w K mg base (CXo P w) 8 f fd ["book","holder"] (spD K a.Book 2 (nv a)) :=
 have hTab:Tab K PT "rules.<locals>.<lambda>":=⟨"rules",by decide,cd,ht,rfl⟩
 HB F hns ht CP rfl fun A outer s H E hr=>(kl (sg (sj (kf 0) M_need_holder nN (hr.mono (by decide)) kQ (kg (kf 1) kj))) (kr (kS (FO (kb:=5) (fr:=["book","holder"]) [0,1] F_rounds (hr.mono (by decide)) rfl TL rfl rfl hTab rfl (by exact (show ∀ y∈(_:List (Str×dS)),y.2=bC→cB y.1 (kh uu).names=some fK from by decide +kernel)) (fun _=>rfl) (by exact (show LamOk _ "earlier" ["book","holder"] from ⟨rfl,rfl,rfl,by decide +kernel,rfl,by decide +kernel,by decide +kernel⟩)) rfl (by intro i j z h1 h2;match i,h1,h2 with | 0,h1,h2=>cases h1;cases h2;rfl | 1,h1,h2=>cases h1;cases h2;rfl | (n+2),h1,_=>cases h1) (fun _ _ _ _=>.all fun us hl=>match us,hl with | [_],_=>rfl) (fun _ _ _ _ _ _ _ hr=>(kN F_outvoted (hr.mono (by decide)) rfl kM (kg (kf 1) (kg (lx (nB (kg (kf 2) kj)) (kf 0)) kj))))))))
abbrev pG:bX:=top 16
theorem yo:FnScope ["book","house","holder"] ["book","house","holder"] (kh pG):=fsc
def uO (a:Adr):XS:=(xRet (xB (xCons (lu (xIter (tO (xCall 2 (nv a) (xCons (xVar 0) (xCons (xVar 2) xNil))))) [1] qT (x2 (xVar 1) (xVar 0) fIn)) xNil) Gu))
def lQ (a:Adr):XF:=(fnD 3 (uO a))
theorem yt (F:Fun K "is_ruled" "is_ruled" pG f fd) (T:Txt K mg a) (F_rules:Fn P w K mg base "rules" 8 ["book","holder"] (spD K a.Book 2 (nv a))):FnOk P w K mg base (CXo P w) 9 f fd ["book","house","holder"] (spD K a.Book 3 (lQ a)) :=
 mv F yo rfl fun cdv A outer s H E hr=>(kr (kS (kR (b_any rfl) rfl T.b_any HU (kg (mi (fr:=["house"]) (ix:=[1]) rfl (by exact (show CompOk ["book","house","holder"] (kh pG) _ _ _ _ from cok)) (mX (xS (kN F_rules (hr.mono (by decide)) rfl kQ (kg (kf 0) (kg (kf 2) kj))))) (fun _ _ _ _ _=>oX) (fun _ _ _ _ _=>(wc (Es (kC hr)) (kf 1) (kf 0) (by with_unfolding_all rfl)))) kj))))
abbrev xJ:bX:=top 17
theorem sc_ruler:FnScope ["book","house","person"] ["book","house"] (kh xJ):=fsc
def lU (a:Adr) :XS:=(xIf (xTr (xCall 3 (lQ a) (xCons (xVar 0) (xCons (xVar 1) (xCons (xVar 2) xNil))))) (xRet (xVar 2)) xEnd)
def AY (a:Adr):XS:=(xSeq (xDo (xBM 2 (mG a) (xVar 0) (xCons (xVar 1) xNil))) (xSeq (xFor (xIter (xBM 1 (nT a) (xVar 0) xNil)) (yName 2) (lU a)) (xRet (xC .non))))
def vb (a:Adr):XF:=(fnD 3 (AY a))
theorem Di (F:Fun K "ruler" "ruler" xJ f fd) (T:Txt K mg a) (M_need_house:Mt P w K mg base a.Book "need_house" 2 ["self","name"] (spD K a.Book 2 (mG a))) (M_persons:Mt P w K mg base a.Book "persons" 1 ["self"] (spD K a.Book 1 (nT a))) (F_is_ruled:Fn P w K mg base "is_ruled" 9 ["book","house","holder"] (spD K a.Book 3 (lQ a))):FnOk P w K mg base (CXo P w) 10 f fd ["book","house"] (spD K a.Book 2 (vb a)) :=
 mv F sc_ruler rfl fun cdv A outer s H E hr=>(kl (sg (sj (kf 0) M_need_house vO (hr.mono (by decide)) kQ (kg (kf 1) kj))) (kl (mW rfl (mX (Ay (kf 0) M_persons zW (hr.mono (by decide)) kM)) (k9 2 sc_ruler.nd rfl (bv rfl)) (kr (qN (oC (kN F_is_ruled (hr.mono (by decide)) rfl kM (kg (kf 0) (kg (kf 1) (kg (kf 2) kj))))) (kr (kS (kf 2))) mf))) (kr (kS Ep))))
abbrev nC:bX:=top 18
theorem vv:FnScope ["book"] ["book"] (kh nC):=fsc
def rK (a:Adr):XS:=(xRet (lu (xIter (xBM 1 (mM a) (xVar 0) xNil)) [0] (xTr (xCall 3 (lQ a) (xCons (xVar 1) (xCons (xVar 0) (xCons (xVar 0) xNil))))) (xVar 0)))
def nH (a:Adr):XF:=(fnD 1 (rK a))
theorem vF (F:Fun K "self_ruled" "self_ruled" nC f fd) (T:Txt K mg a) (M_houses:Mt P w K mg base a.Book "houses" 1 ["self"] (spD K a.Book 1 (mM a))) (F_is_ruled:Fn P w K mg base "is_ruled" 9 ["book","house","holder"] (spD K a.Book 3 (lQ a))):FnOk P w K mg base (CXo P w) 10 f fd ["book"] (spD K a.Book 1 (nH a)) :=
 mv F vv rfl fun cdv A outer s H E hr=>(kr (kS (mi (fr:=["book"]) (ix:=[0]) rfl (by exact (show CompOk ["book"] (kh nC) _ _ _ _ from cok)) (mX (Ay (kf 0) M_houses wD (hr.mono (by decide)) kQ)) (fun _ _ _ _ _=>(mJ (oC (kN F_is_ruled (hr.mono (by decide)) rfl kM (kg (kf 1) (kg (kf 0) (kg (kf 0) kj))))))) (fun _ _ _ _ _=>(kf 0)))))
abbrev pj:bX:=top 14
theorem vw:FnScope ["names"] ["names"] (kh pj):=fsc
def rL (a:Adr):XS:=(xRet (x2 (xD (xVar 0)) (xB (xCons (xVar 0) xNil) fLen) fEq))
def lF (a:Adr):XF:=(fnD 1 (rL a))
theorem vH (F:Fun K "are_unlike" "are_unlike" pj f fd) (T:Txt K mg a):FnOk P w K mg base (CXo P w) 1 f fd ["names"] (spD K a.Book 1 (lF a)) :=
 mv F vw rfl fun cdv A outer s H E hr=>(kr (kS (wc (Gz (Cq hr)) (BV rfl rfl T.b_len lV rfl T.b_set HQ (kf 0)) (kR b_len rfl T.b_len lV (kg (kf 0) kj)) (lI _))))
abbrev qJ:bX:=top 19
theorem zG:FnScope ["book","known","house","voters"] ["book","known","house","voters"] (kh qJ):=fsc
def wO (a:Adr):XS:=(xSeq (xIf (xOr (xNot (xTr (xBM 2 (la a) (xVar 0) (xCons (xVar 2) xNil)))) (xNot (xTr (xCall 1 (lF a) (xCons (xVar 3) xNil))))) (xRet (xC (.bl false))) xEnd) (xRet (xAndV (xB (xCons (lu (xIter (xVar 3)) [1] qT (x2 (xVar 0) (xVar 1) fIn)) xNil) fAll) (xCall 3 (ml a) (xCons (xVar 0) (xCons (xVar 3) (xCons (xVar 2) xNil)))))))
def qS (a:Adr):XF:=(fnD 4 (wO a))
theorem zS (F:Fun K "is_step" "is_step" qJ f fd) (T:Txt K mg a) (F_outvote:Fn P w K mg base "outvote" 4 ["book","voters","house"] (spD K a.Book 3 (ml a))) (M_is_house:Mt P w K mg base a.Book "is_house" 1 ["self","name"] (spD K a.Book 2 (la a))) (F_are_unlike:Fn P w K mg base "are_unlike" 1 ["names"] (spD K a.Book 1 (lF a))):FnOk P w K mg base (CXo P w) 5 f fd ["book","known","house","voters"] (spD K a.Book 4 (qS a)) :=
 mv F zG rfl fun cdv A outer s H E hr=>(kl (qN (DW.dt (EE (t7 (oC (sj (kf 0) M_is_house tz (hr.mono (by decide)) kQ (kg (kf 2) kj)))) (At (t7 (oC (kN F_are_unlike (hr.mono (by decide)) rfl kQ (kg (kf 3) kj))))))) (kr (kS qO)) mf) (kr (kS (Er (kR (b_all rfl) rfl T.b_all yg (kg (mi (fr:=["known"]) (ix:=[1]) rfl (by exact (show CompOk ["book","known","house","voters"] (kh qJ) _ _ _ _ from cok)) (mX (kf 3)) (fun _ _ _ _ _=>oX) (fun _ _ _ _ _=>(wc (Es (kC hr)) (kf 0) (kf 1) (by with_unfolding_all rfl)))) kj)) (Eo (kN F_outvote (hr.mono (by decide)) rfl kQ (kg (kf 0) (kg (kf 3) (kg (kf 2) kj)))))))))
abbrev qa:bX:=top 20
theorem sc_are_steps:FnScope ["book","holder","steps","known","house","voters"] ["book","holder","steps"] (kh qa):=fsc
def kU (a:Adr) :XS:=(xSeq (xIf (xNot (xTr (xCall 4 (qS a) (xCons (xVar 0) (xCons (xVar 3) (xCons (xVar 4) (xCons (xVar 5) xNil))))))) (xRet (xC (.bl false))) xEnd) (xDo (xAppend (xVar 3) (xCons (xVar 4) xNil))))
def tI (a:Adr):XS:=(xSeq (xDo (xBM 2 (kJ a) (xVar 0) (xCons (xVar 1) xNil))) (xSeq (xSet 3 (xLstC (xCons (xVar 1) xNil))) (xSeq (xFor (xIter (xVar 2)) (yTup 2 (yCons (yName 4) (yCons (yName 5) yNil))) (kU a)) (xRet (xC (.bl true))))))
def ol (a:Adr):XF:=(fnD 6 (tI a))
theorem xu (F:Fun K "are_steps" "are_steps" qa f fd) (T:Txt K mg a) (M_need_holder:Mt P w K mg base a.Book "need_holder" 3 ["self","name"] (spD K a.Book 2 (kJ a))) (F_is_step:Fn P w K mg base "is_step" 5 ["book","known","house","voters"] (spD K a.Book 4 (qS a))):FnOk P w K mg base (CXo P w) 6 f fd ["book","holder","steps"] (spD K a.Book 3 (ol a)) :=
 mv F sc_are_steps rfl fun cdv A outer s H E hr=>(kl (sg (sj (kf 0) M_need_holder nN (hr.mono (by decide)) kQ (kg (kf 1) kj))) (kl (kF 3 sc_are_steps.nd rfl (bv rfl) (sO (kg (kf 1) kj))) (kl (mW rfl (mX (kf 2)) (Av rfl (oa (k9 4 sc_are_steps.nd rfl (bv rfl)) (oa (k9 5 sc_are_steps.nd rfl (bv rfl)) xR))) (kl (qN (t7 (oC (kN F_is_step (hr.mono (by decide)) rfl kM (kg (kf 0) (kg (kf 3) (kg (kf 4) (kg (kf 5) kj))))))) (kr (kS qO)) mf) (kr (sg (tm (kf 3) (kg (kf 4) kj)))))) (kr (kS qO)))))
abbrev oN:bX:=top 21
theorem zH:FnScope ["book","holder","houses"] ["book","holder","houses"] (kh oN):=fsc
def wP (a:Adr):XS:=(xSeq (xDo (xBM 2 (kJ a) (xVar 0) (xCons (xVar 1) xNil))) (xSeq (xIf (xOr (xNot (xTr (xCall 1 (lF a) (xCons (xVar 2) xNil)))) (xNot (xTr (xB (xCons (lu (xIter (xVar 2)) [0] qT (xBM 2 (la a) (xVar 1) (xCons (xVar 0) xNil))) xNil) fAll)))) (xRet (xC (.bl false))) xEnd) (xRet (xB (xCons (lu (xIter (xCall 2 (lH a) (xCons (xVar 0) (xCons (x2 (xLst (xCons (xVar 1) xNil)) (xVar 2) fAdd) xNil)))) [2] qT (x2 (xVar 0) (xVar 1) fIn)) xNil) fAll))))
def nU (a:Adr):XF:=(fnD 3 (wP a))
theorem zT (F:Fun K "is_shut" "is_shut" oN f fd) (T:Txt K mg a) (M_need_holder:Mt P w K mg base a.Book "need_holder" 3 ["self","name"] (spD K a.Book 2 (kJ a))) (F_are_unlike:Fn P w K mg base "are_unlike" 1 ["names"] (spD K a.Book 1 (lF a))) (F_outvoted:Fn P w K mg base "outvoted" 5 ["book","voters"] (spD K a.Book 2 (lH a))) (M_is_house:Mt P w K mg base a.Book "is_house" 1 ["self","name"] (spD K a.Book 2 (la a))):FnOk P w K mg base (CXo P w) 6 f fd ["book","holder","houses"] (spD K a.Book 3 (nU a)) :=
 mv F zH rfl fun cdv A outer s H E hr=>(kl (sg (sj (kf 0) M_need_holder nN (hr.mono (by decide)) kQ (kg (kf 1) kj))) (kl (qN (DW.dt (EE (t7 (oC (kN F_are_unlike (hr.mono (by decide)) rfl kQ (kg (kf 2) kj)))) (At (t7 (oC (kR (b_all rfl) rfl T.b_all yg (kg (mi (fr:=["book"]) (ix:=[0]) rfl (by exact (show CompOk ["book","holder","houses"] (kh oN) _ _ _ _ from cok)) (mX (kf 2)) (fun _ _ _ _ _=>oX) (fun _ _ _ _ _=>(sj (kf 1) M_is_house tz (hr.mono (by decide)) kM (kg (kf 0) kj)))) kj))))))) (kr (kS qO)) mf) (kr (kS (kR (b_all rfl) rfl T.b_all yg (kg (mi (fr:=["houses"]) (ix:=[2]) rfl (by exact (show CompOk ["book","holder","houses"] (kh oN) _ _ _ _ from cok)) (mX (kN F_outvoted (hr.mono (by decide)) rfl kQ (kg (kf 0) (kg (lx (nB (kg (kf 1) kj)) (kf 2)) kj)))) (fun _ _ _ _ _=>oX) (fun _ _ _ _ _=>(wc (Es (kC hr)) (kf 0) (kf 1) (by with_unfolding_all rfl)))) kj))))))
abbrev sU:bX:=top 49
theorem sc__law_of:FnScope ["_law_book","_law_holder","_law_found","_law_some"] ["_law_book","_law_holder"] (kh sU):=fsc
def ql (a:Adr) :XS:=(xSet 2 (x2 (xVar 2) (xVar 3) fAdd))
def wQ (a:Adr):XS:=(xSeq (xSet 2 (xLst xNil)) (xSeq (xFor (xIter (tO (xCall 2 (nv a) (xCons (xVar 0) (xCons (xVar 1) xNil))))) (yName 3) (ql a)) (xRet (xVar 2))))
def lp (a:Adr):XF:=(fnD 4 (wQ a))
theorem zV (F:Fun K "_law_of" "_law_of" sU f fd) (T:Txt K mg a) (F_rules:Fn P w K mg base "rules" 8 ["book","holder"] (spD K a.Book 2 (nv a))):FnOk P w K mg base (CXo P w) 9 f fd ["_law_book","_law_holder"] (spD K a.Book 2 (lp a)) :=
 mv F sc__law_of rfl fun cdv A outer s H E hr=>(kl (kF 2 sc__law_of.nd rfl (bv rfl) (nB kj)) (kl (mW rfl (mX (xS (kN F_rules (hr.mono (by decide)) rfl kM (kg (kf 0) (kg (kf 1) kj))))) (k9 3 sc__law_of.nd rfl (bv rfl)) (kr (kF 2 sc__law_of.nd rfl (bv rfl) (lx (kf 2) (kf 3))))) (kr (kS (kf 2)))))
abbrev mD:bX:=top 50
theorem sc__law_shown:FnScope ["_law_book","_law_holder","_law_known","_law_steps","_law_some","_law_voters"] ["_law_book","_law_holder"] (kh mD):=fsc
def nO (a:Adr) :XS:=(xSeq (xSet 5 (lu (xRng1 (xCons (xB (xCons (xVar 2) xNil) fLen) xNil)) [2] (xTr (x2 (x2 (xVar 1) (xVar 0) fIx) (xSl (xVar 1) xNoP (xPart (xVar 0))) mV)) (x2 (xVar 1) (xVar 0) fIx))) (xSeq (xSet 3 (x2 (xVar 3) (lu (xIter (xVar 4)) [5] qT (xTup (xCons (xVar 0) (xCons (xB (xCons (xVar 1) xNil) fList) xNil)))) fAdd)) (xSet 2 (x2 (xVar 2) (xVar 4) fAdd))))
def rN (a:Adr):XS:=(xSeq (xSet 2 (xLst (xCons (xVar 1) xNil))) (xSeq (xSet 3 (xLst xNil)) (xSeq (xFor (xIter (tO (xCall 2 (nv a) (xCons (xVar 0) (xCons (xVar 1) xNil))))) (yName 4) (nO a)) (xRet (xAndV (x2 (xCall 3 (ol a) (xCons (xVar 0) (xCons (xVar 1) (xCons (xVar 3) xNil)))) (xC (.bl true)) FE) (x2 (xCall 3 (nU a) (xCons (xVar 0) (xCons (xVar 1) (xCons (xSl (xVar 2) (xPart (xC (.int 1))) xNoP) xNil)))) (xC (.bl true)) FE))))))
def nI (a:Adr):XF:=(fnD 6 (rN a))
theorem vJ (F:Fun K "_law_shown" "_law_shown" mD f fd) (T:Txt K mg a) (F_rules:Fn P w K mg base "rules" 8 ["book","holder"] (spD K a.Book 2 (nv a))) (F_are_steps:Fn P w K mg base "are_steps" 6 ["book","holder","steps"] (spD K a.Book 3 (ol a))) (F_is_shut:Fn P w K mg base "is_shut" 6 ["book","holder","houses"] (spD K a.Book 3 (nU a))):FnOk P w K mg base (CXo P w) 9 f fd ["_law_book","_law_holder"] (spD K a.Book 2 (nI a)) :=
 mv F sc__law_shown rfl fun cdv A outer s H E hr=>(kl (kF 2 sc__law_shown.nd rfl (dO rfl) (nB (kg (kf 1) kj))) (kl (kF 3 sc__law_shown.nd rfl (bv rfl) (nB kj)) (kl (mW rfl (mX (xS (kN F_rules (hr.mono (by decide)) rfl kM (kg (kf 0) (kg (kf 1) kj))))) (k9 4 sc__law_shown.nd rfl (bv rfl)) (kl (kF 5 sc__law_shown.nd rfl (dO rfl) (mi (fr:=["_law_known"]) (ix:=[2]) rfl (by exact (show CompOk ["_law_book","_law_holder","_law_known","_law_steps","_law_some","_law_voters"] (kh mD) _ _ _ _ from cok)) (mh rfl T.b_range (kg (kR b_len rfl T.b_len lV (kg (kf 2) kj)) kj)) (fun _ _ _ _ _=>(mJ (oj (xU (kC hr)) (k7 (kC hr) (kf 1) (kf 0) (fun _ _=>rfl)) (ye (kf 1) sM (pS (kf 0))) (by with_unfolding_all rfl)))) (fun _ _ _ _ _=>(k7 (kC hr) (kf 1) (kf 0) (fun _ _=>rfl))))) (kl (kF 3 sc__law_shown.nd rfl (bv rfl) (lx (kf 3) (mi (fr:=["_law_voters"]) (ix:=[5]) rfl (by exact (show CompOk ["_law_book","_law_holder","_law_known","_law_steps","_law_some","_law_voters"] (kh mD) _ _ _ _ from cok)) (mX (kf 4)) (fun _ _ _ _ _=>oX) (fun _ _ _ _ _=>(vU (kg (kf 0) (kg (wW b_list rfl T.b_list FY (kg (kf 1) kj)) kj))))))) (kr (kF 2 sc__law_shown.nd rfl (dO rfl) (lx (kf 2) (kf 4))))))) (kr (kS (Er (wc Gy (kN F_are_steps (hr.mono (by decide)) rfl kQ (kg (kf 0) (kg (kf 1) (kg (kf 3) kj)))) qO (lI _)) (Eo (wc Gy (kN F_is_shut (hr.mono (by decide)) rfl kQ (kg (kf 0) (kg (kf 1) (kg (ye (kf 2) (pS kq) sM) kj)))) qO (lI _)))))))))
abbrev mE:bX:=top 51
theorem sc__law_least:FnScope ["_law_book","_law_holder","_law_houses","_law_lot","_law_bits","_law_some"] ["_law_book","_law_holder","_law_houses"] (kh mE):=fsc
def mw (a:Adr) :XS:=(xSeq (xSet 5 (lu (xRng1 (xCons (xB (xCons (xVar 2) xNil) fLen) xNil)) [2,4] (xTr (x2 (x2 (x2 (xVar 2) (xVar 0) Cr) (xC (.int 1)) v8) (xC (.int 1)) fEq)) (x2 (xVar 1) (xVar 0) fIx))) (xIf (xAnd (xTr (xCall 3 (nU a) (xCons (xVar 0) (xCons (xVar 1) (xCons (xVar 5) xNil))))) (xTr (x2 (xB (xCons (lu (xIter (xVar 3)) [5] (xTr (x2 (xVar 0) (xVar 1) mV)) (xVar 0)) xNil) fLen) (xC (.int 0)) fGt))) (xRet (xC (.bl false))) xEnd))
def rP (a:Adr):XS:=(xSeq (xSet 3 (xCall 2 (lp a) (xCons (xVar 0) (xCons (xVar 1) xNil)))) (xSeq (xFor (xRng1 (xCons (x2 (xC (.int 1)) (xB (xCons (xVar 2) xNil) fLen) FD) xNil)) (yName 4) (mw a)) (xRet (xC (.bl true)))))
def nJ (a:Adr):XF:=(fnD 6 (rP a))
theorem vM (F:Fun K "_law_least" "_law_least" mE f fd) (T:Txt K mg a) (F__law_of:Fn P w K mg base "_law_of" 9 ["_law_book","_law_holder"] (spD K a.Book 2 (lp a))) (F_is_shut:Fn P w K mg base "is_shut" 6 ["book","holder","houses"] (spD K a.Book 3 (nU a))):FnOk P w K mg base (CXo P w) 10 f fd ["_law_book","_law_holder","_law_houses"] (spD K a.Book 3 (nJ a)) :=
 mv F sc__law_least rfl fun cdv A outer s H E hr=>(kl (kF 3 sc__law_least.nd rfl (bv rfl) (kN F__law_of (hr.mono (by decide)) rfl kQ (kg (kf 0) (kg (kf 1) kj)))) (kl (mW rfl (mh rfl T.b_range (kg (HJ kq (kR b_len rfl T.b_len lV (kg (kf 2) kj))) kj)) (k9 4 sc__law_least.nd rfl (dO rfl)) (kl (kF 5 sc__law_least.nd rfl (dO rfl) (mi (fr:=["_law_houses","_law_bits"]) (ix:=[2,4]) rfl (by exact (show CompOk ["_law_book","_law_holder","_law_houses","_law_lot","_law_bits","_law_some"] (kh mE) _ _ _ _ from cok)) (mh rfl T.b_range (kg (kR b_len rfl T.b_len lV (kg (kf 2) kj)) kj)) (fun _ _ _ _ _=>(mJ (oj (Gz (Cq hr)) (FT (HI (kf 2) (kf 0)) kq) kq (lI _)))) (fun _ _ _ _ _=>(k7 (kC hr) (kf 1) (kf 0) (fun _ _=>rfl))))) (kr (qN (DW.dt (HD (oC (kN F_is_shut (hr.mono (by decide)) rfl kM (kg (kf 0) (kg (kf 1) (kg (kf 5) kj))))) (FH (oj Ik (kR b_len rfl T.b_len lV (kg (mi (fr:=["_law_some"]) (ix:=[5]) rfl (by exact (show CompOk ["_law_book","_law_holder","_law_houses","_law_lot","_law_bits","_law_some"] (kh mE) _ _ _ _ from cok)) (mX (kf 3)) (fun _ _ _ _ _=>(mJ (oj (xU (kC hr)) (kf 0) (kf 1) (by with_unfolding_all rfl)))) (fun _ _ _ _ _=>(kf 0))) kj)) kq (lI _))))) (kr (kS qO)) mf)))) (kr (kS qO))))
abbrev uv:bX:=top 52
theorem sc_law:FnScope ["_law_script","_law_purse_here","_law_book","_law_people","_law_entries","_law_houses","_law_names_here","_law_holder","_law_house","_law_due"] ["_law_script"] (kh uv):=fsc
def u6 (a:Adr) :XS:=(xIf (xNot (xTr (xCall 2 (nI a) (xCons (xVar 2) (xCons (xVar 7) xNil))))) (xRet (xC (.bl false))) xEnd)
def uZ (a:Adr) :XS:=(xSeq (xSet 9 (lu (xIter (xVar 3)) [8,2] (xTr (x2 (xVar 1) (xCall 2 (lp a) (xCons (xVar 2) (xCons (xVar 0) xNil))) fIn)) (xVar 0))) (xIf (xOr (xTr (x2 (xB (xCons (xVar 9) xNil) fLen) (xC (.int 1)) fGt)) (xTr (x2 (xCall 2 (vb a) (xCons (xVar 2) (xCons (xVar 8) xNil))) (x2 (x2 (xVar 9) (xLst (xCons (xC .non) xNil)) fAdd) (xC (.int 0)) fIx) fNe))) (xRet (xC (.bl false))) xEnd))
def Gp (a:Adr):XS:=(xSeq (xSet 1 (xCall 1 (lR a) (xCons (xVar 0) xNil))) (xSeq (xAsg (xCall 1 (nK a) (xCons (xVar 1) xNil)) (yTup 3 (yCons (yName 2) (yCons (yName 3) (yCons (yName 4) yNil))))) (xSeq (xSet 5 (xB (xCons (xVar 4) xNil) ko)) (xSeq (xSet 6 (x2 (xVar 3) (xVar 5) fAdd)) (xSeq (xFor (xIter (xVar 6)) (yName 7) (u6 a)) (xSeq (xFor (xIter (xVar 5)) (yName 8) (uZ a)) (xSeq (xIf (xTr (x2 (xCall 1 (nH a) (xCons (xVar 2) xNil)) (lu (xIter (xVar 5)) [2] (xTr (x2 (xVar 0) (xCall 2 (lp a) (xCons (xVar 1) (xCons (xVar 0) xNil))) fIn)) (xVar 0)) fNe)) (xRet (xC (.bl false))) xEnd) (xRet (xCall 3 (nJ a) (xCons (xVar 2) (xCons (x2 (xVar 6) (xCall 2 (ku a) (xCons (xVar 1) (xCons (xB (xCons (xVar 6) xNil) fLen) xNil))) fIx) (xCons (xVar 5) xNil))))))))))))
def yh (a:Adr):XF:=(fnD 10 (Gp a))
theorem Hh (F:Fun K "law" "law" uv f fd) (T:Txt K mg a) (F__law_purse:Fn P w K mg base "_law_purse" 1 ["_law_script"] (spD K a.Book 1 (lR a))) (F__law_built:Fn P w K mg base "_law_built" 5 ["_law_purse_here"] (spD K a.Book 1 (nK a))) (F__law_least:Fn P w K mg base "_law_least" 10 ["_law_book","_law_holder","_law_houses"] (spD K a.Book 3 (nJ a))) (F_self_ruled:Fn P w K mg base "self_ruled" 10 ["book"] (spD K a.Book 1 (nH a))) (F__law_shown:Fn P w K mg base "_law_shown" 9 ["_law_book","_law_holder"] (spD K a.Book 2 (nI a))) (F__law_take:Fn P w K mg base "_law_take" 1 ["_law_purse_here","_law_many"] (spD K a.Book 2 (ku a))) (F_ruler:Fn P w K mg base "ruler" 10 ["book","house"] (spD K a.Book 2 (vb a))) (F__law_of:Fn P w K mg base "_law_of" 9 ["_law_book","_law_holder"] (spD K a.Book 2 (lp a))):FnOk P w K mg base (CXo P w) 11 f fd ["_law_script"] (spD K a.Book 1 (yh a)) :=
 mv F sc_law rfl fun cdv A outer s H E hr=>(kl (kF 1 sc_law.nd rfl (bv rfl) (kN F__law_purse (hr.mono (by decide)) rfl kQ (kg (kf 0) kj))) (kl (HG (kN F__law_built (hr.mono (by decide)) rfl kQ (kg (kf 1) kj)) (Av rfl (oa (k9 2 sc_law.nd rfl (dO rfl)) (oa (k9 3 sc_law.nd rfl (bv rfl)) (oa (k9 4 sc_law.nd rfl (bv rfl)) xR))))) (kl (kF 5 sc_law.nd rfl (bv rfl) (kR (b_sorted rfl) rfl T.b_sorted nS (kg (kf 4) kj))) (kl (kF 6 sc_law.nd rfl (bv rfl) (lx (kf 3) (kf 5))) (kl (mW rfl (mX (kf 6)) (k9 7 sc_law.nd rfl (bv rfl)) (kr (qN (t7 (oC (kN F__law_shown (hr.mono (by decide)) rfl kM (kg (kf 2) (kg (kf 7) kj))))) (kr (kS qO)) mf))) (kl (mW rfl (mX (kf 5)) (k9 8 sc_law.nd rfl (dO rfl)) (kl (Ab (fr:=["_law_house","_law_book"]) (ix:=[8,2]) (i:=9) sc_law.nd rfl rfl rfl (by exact (show CompOk ["_law_script","_law_purse_here","_law_book","_law_people","_law_entries","_law_houses","_law_names_here","_law_holder","_law_house","_law_due"] (kh uv) _ _ _ _ from cok)) (mX (kf 3)) (fun _ _ _ _ _=>(mJ (oj (Es (kC hr)) (kf 1) (kN F__law_of (hr.mono (by decide)) rfl kM (kg (kf 2) (kg (kf 0) kj))) (by with_unfolding_all rfl)))) (fun _ _ _ _ _=>(kf 0))) (kr (qN (DW.dt (EE (oj Ik (kR b_len rfl T.b_len lV (kg (kf 9) kj)) kq (lI _)) (At (oj (Ij (Cq hr)) (kN F_ruler (hr.mono (by decide)) rfl kM (kg (kf 2) (kg (kf 8) kj))) (k7 (kC hr) (lx (kf 9) (nB (kg Ep kj))) kq (fun _ _=>rfl)) (lI _))))) (kr (kS qO)) mf)))) (kl (qN (oj (Ij (Cq hr)) (kN F_self_ruled (hr.mono (by decide)) rfl kQ (kg (kf 2) kj)) (mi (fr:=["_law_book"]) (ix:=[2]) rfl (by exact (show CompOk ["_law_script","_law_purse_here","_law_book","_law_people","_law_entries","_law_houses","_law_names_here","_law_holder","_law_house","_law_due"] (kh uv) _ _ _ _ from cok)) (mX (kf 5)) (fun _ _ _ _ _=>(mJ (oj (Es (kC hr)) (kf 0) (kN F__law_of (hr.mono (by decide)) rfl kM (kg (kf 1) (kg (kf 0) kj))) (by with_unfolding_all rfl)))) (fun _ _ _ _ _=>(kf 0))) (lI _)) (kr (kS qO)) mf) (kr (kS (kN F__law_least (hr.mono (by decide)) rfl kQ (kg (kf 2) (kg (k7 (kC hr) (kf 6) (kN F__law_take (hr.mono (by decide)) rfl kQ (kg (kf 1) (kg (kR b_len rfl T.b_len lV (kg (kf 6) kj)) kj))) (fun _ _=>rfl)) (kg (kf 5) kj)))))))))))))
end
theorem D5 {p q:Int×Int} (hp:Low p) (hq:Low q) (h:rv p=rv q):p=q:=by
 unfold rv at h
 rw [jd (by have:=hp.1;omega) (by have:=hq.1;omega)] at h
 exact uI hp hq h
def zw (l:List (Int×Int)):Int×Int:=l.foldl lr (0,1)
theorem Bd {l m:List Rat} (h:l.Perm m):mO l=mO m:=by
 induction h with
 | nil=>rfl
 | cons x _ ih=>unfold mO;rw [ih]
 | swap x y l=>unfold mO;unfold mO;rw [← gc,← gc,Rat.add_comm y x]
 | trans _ _ h1 h2=>rw [h1,h2]
theorem zd:∀ (l:List (Int×Int)) (z:Int×Int),Low z→(∀ q∈l,Low q)→Low (l.foldl lr z)∧rv (l.foldl lr z)=rv z+mO (l.map rv)
 | [],z,hz,_=>⟨hz,by show rv z=rv z+0;rw [ju]⟩
 | q::l,z,hz,h=>by
  have hq:=h q am
  obtain ⟨h1,h2⟩:=zd l (lr z q) (sw hz hq) fun x hx=>h x (ag _ hx)
  refine ⟨h1,?_⟩
  rw [gD,h2,An hz.1 hq.1,gc]
  rfl
theorem Gk:Low (0,1):=⟨by decide,(rfl:aM 0 1=1)⟩
theorem oR {l:List (Int×Int)} (h:∀ q∈l,Low q):Low (zw l)∧rv (zw l)=mO (l.map rv):=by
 obtain ⟨h1,h2⟩:=zd l (0,1) Gk h
 refine ⟨h1,?_⟩
 have h2':rv (zw l)=rv (0,1)+mO (l.map rv):=h2
 rw [h2']
 have:rv (0,1)=0:=iJ 1
 rw [this,jt]
theorem Be {l m:List (Int×Int)} (p:l.Perm m) (h:∀ q∈l,Low q):zw l=zw m:=by
 obtain ⟨h1,h2⟩:=oR h
 obtain ⟨h3,h4⟩:=oR (l:=m) fun q hq=>h q (p.mem_iff.mpr hq)
 exact D5 h1 h3 (by rw [h2,h4];exact Bd (p.map rv))
theorem CA {l:List (Int×Int)} (h:∀ q∈l,Low q) (h0:∀ q∈l,0≤q.1):zw l=zw (l.filter fun q=>decide (0 < q.1)):=by
 obtain ⟨h1,h2⟩:=oR h
 obtain ⟨h3,h4⟩:=oR (l:=l.filter fun q=>decide (0 < q.1)) fun q hq=>h q (bg.mp hq).1
 refine D5 h1 h3 ?_
 rw [h2,h4]
 clear h1 h2 h3 h4
 induction l with
 | nil=>rfl
 | cons q l ih =>
  have ih:=ih (fun x hx=>h x (ag _ hx)) fun x hx=>h0 x (ag _ hx)
  rw [cQ]
  by_cases c:0 < q.1
  ·rw [if_pos (decide_eq_true c),au,au]
   unfold mO
   rw [ih]
  ·rw [if_neg (by simpa using c),au]
   have e:q.1=0:=by have:=h0 q am;omega
   have:rv q=0:=by unfold rv;rw [e];exact iJ _
   show rv q+mO (l.map rv)=_
   rw [this,jt,ih]
def uh (l:Hl) (ns:List Str) (V:List Str):Int×Int:=zw ((ns.filter fun n=>decide (n∈V)).map (kB l))
theorem GE {c:Nat}{hl hm:Hl} (h:HR c hl hm) (V:List Str):uh hl (srt (hl.map (·.1))) V=uh hm (hm.map (·.1)) V:=by
 have lw:∀ n,Low (kB hl n):=fun n=>(h.fr n).low
 have e:kB hm=kB hl:=by funext n;exact (h.q n).symm
 unfold uh
 rw [e]
 conv=>rhs;rw [CA (fun q hq=>by obtain ⟨n,_,rfl⟩:=ak.mp hq;exact lw n) (fun q hq=>by obtain ⟨n,_,rfl⟩:=ak.mp hq;exact (h.fr n).nn)]
 rw [dG,ka]
 refine Be (List.Perm.map _ ?_) fun q hq=>by obtain ⟨n,_,rfl⟩:=ak.mp hq;exact lw n
 refine (iU ?_ ?_).mpr fun n=>?_
 ·exact ((kI _).nodup_iff.mpr h.n1).filter _
 ·exact h.n2.filter _
 ·rw [bg,bg,(kI _).mem_iff,h.nm]
  simp only [Function.comp,bJ,decide_eq_true_eq]
  constructor
  ·rintro ⟨a1,a2⟩
   exact ⟨h.had (by rw [← h.q];exact a1),a1,a2⟩
  ·rintro ⟨_,a1,a2⟩
   exact ⟨a1,a2⟩
theorem qG:∀ U:List Str,toVs (U.map PV.str)=some (U.map V.str)
 | []=>rfl
 | x::r=>by
  rw [au]
  unfold toVs
  rw [qG r]
  rfl
theorem vj (n:Str) (U:List Str):inV (.str n) (U.map V.str)=decide (n∈U):=by
 unfold inV
 rw [gv,bP,cR,decide_eq_true_iff]
 constructor
 ·rintro ⟨x,hx,e⟩
  have e:(x == n)=true:=e
  rw [← eq_of_beq e]
  exact hx
 ·intro h
  exact ⟨n,h,beq_self_eq_true n⟩
theorem sL (n:Str) (V:List Str) (s:Sto):fIn (.str n) (.lst (V.map .str)) s=.ok (.bl (decide (n∈V))) s:=by
 simp [fIn,kP,dcOf,toV,lsOf,qG,Ck,vj]
theorem rA (n:Str) (V:List Str) (s:Sto):mV (.str n) (.lst (V.map .str)) s=.ok (.bl (!decide (n∈V))) s:=by
 simp [mV,kP,dcOf,toV,lsOf,qG,Ck,vj]
structure Acc (D:Int) (k:Nat) (r:Int×Int):Prop where
 low:Low r
 nn:0≤r.1
 le:r.1≤(2048 * k:Nat) * r.2
 on:∃ u,On D r u
theorem acc0 (D:Int):Acc D 0 (0,1):=⟨Gk,by decide,by decide,0,AS D⟩
theorem Acc.step {D:Int}{k:Nat}{r q:Int×Int} (h:Acc D k r) (g:FrC 11 q) (o:∃ u,On D q u):Acc D (k+1) (lr r q):=by
 have r2:=h.low.1
 have q2:=g.low.1
 have rq:=bF r2 q2
 have lo:=sw h.low g.low
 have ev:=qD (p:=r) (q:=q) r2 q2
 obtain ⟨u1,o1⟩:=h.on
 obtain ⟨u2,o2⟩:=o
 have oo:=o1.add o2
 generalize lr r q=A at *
 have a2:=lo.1
 have n1:0≤r.1 * q.2:=eV h.nn (bu q2)
 have n2:0≤q.1 * r.2:=eV g.nn (bu r2)
 have l1:r.1 * q.2≤((2048 * k:Nat):Int) * r.2 * q.2:=aL h.le (bu q2)
 have gl:q.1≤2048 * q.2:=g.le
 have l2:q.1 * r.2≤2048 * q.2 * r.2:=aL gl (bu r2)
 have e1:((2048 * (k+1):Nat):Int) * (r.2 * q.2)=((2048 * k:Nat):Int) * r.2 * q.2+2048 * q.2 * r.2:=by
  have:((2048 * (k+1):Nat):Int)=((2048 * k:Nat):Int)+2048:=by omega
  rw [this,jZ,a9,a9,bz q.2 r.2]
 have l3:r.1 * q.2+q.1 * r.2≤((2048 * (k+1):Nat):Int) * (r.2 * q.2):=by rw [e1];omega
 refine ⟨lo,?_,?_,_,oo⟩
 ·have:0≤A.1 * (r.2 * q.2):=by rw [ev];exact eV (by omega) (bu a2)
  rcases Int.lt_or_le A.1 0 with z | z
  ·have:=jb z rq
   omega
  ·exact z
 ·refine dZ (a:=r.2 * q.2) ?_ rq
  rw [ev]
  have:=aL l3 (bu a2)
  rw [a9] at this
  rw [a9,bz A.2]
  exact this
theorem Acc.bb {D:Int}{k:Nat}{r:Int×Int} (h:Acc D k r) (d0:0 < D) (hD:Bt 1035 D):Bt 1035 r.2:=hD.dvd (by omega) (let ⟨_,o⟩:=h.on;o.dvd)
theorem Acc.top {D:Int}{k:Nat}{r:Int×Int} (h:Acc D k r) (hk:k≤12) (d0:0 < D) (hD:Bt 1035 D):Bt 1051 r.1:=by
 have r2:=h.low.1
 have hp:((2048 * k:Nat):Int)≤24576:=by omega
 have:r.1≤24576 * r.2:=d9 h.le (aL hp (bu r2))
 have b2:Bt 1051 (24576 * r.2):=(Bt.mul (by unfold Bt;decide:Bt 16 24576) (h.bb d0 hD)).mono (by omega)
 have h0:=h.nn
 unfold Bt at b2 ⊢
 omega
theorem Acc.sz {D:Int}{k:Nat}{r:Int×Int} (h:Acc D k r) (hk:k≤12) (d0:0 < D) (hD:Bt 1035 D):Sz r:=⟨h.low,(h.top hk d0 hD).mono (by omega),(h.bb d0 hD).mono (by omega)⟩
theorem wk (l:Hl) (ns V:List Str) (n:Str):uh l (ns++[n]) V=if n∈V then lr (uh l ns V) (kB l n) else uh l ns V:=by
 unfold uh zw
 rw [List.filter_append,aY,List.foldl_append]
 by_cases h:n∈V
 ·simp [h]
 ·simp [h]
theorem yD {D:Int} (l:Hl) (V:List Str) (hf:∀ n,FrC 11 (kB l n)) (ho:∀ n,∃ u,On D (kB l n) u):∀ ns:List Str,∃ k,k≤ns.length∧Acc D k (uh l ns V):=by
 have:∀ r:List Str,∃ k,k≤r.reverse.length∧Acc D k (uh l r.reverse V):=by
  intro r
  induction r with
  | nil=>exact ⟨0,aA _,acc0 D⟩
  | cons n r ih =>
   obtain ⟨k,hk,h⟩:=ih
   rw [dN,wk]
   by_cases z:n∈V
   ·rw [if_pos z]
    exact ⟨k+1,by simp at hk ⊢;omega,h.step (hf n) (ho n)⟩
   ·rw [if_neg z]
    exact ⟨k,by simp at hk ⊢;omega,h⟩
 intro ns
 have:=this ns.reverse
 rwa [fm] at this
theorem C7 (a:Adr) (s:Sto) {D:Int}{k:Nat}{r q:Int×Int} (h:Acc D k r) (hk:k≤12) (d0:0 < D) (hD:Bt 1035 D) (g:FrC 11 q):ua a [frP r,frP q] s=.ok (frP (lr r q)) s:=by
 have h1:=h.sz hk d0 hD
 have h2:=g.sz (by omega)
 simp [ua,frP,h1,h2]
def above (q:Int×Int):Bool:=decide (q.2 < q.1 * 2)
theorem zO (a:Adr) {t:Sto}{nb:Nat}{pp:List Str}{L:List Ent}{e:Ent}{h:Str}{hm:Hl} (U:List Str) (hg:t.get nb=some (.book pp L)) (hf:ng L h=some e) (hn:Nm h) (hr:HR 11 e.held hm) :
  ml a [.ref nb,.lst (U.map .str),.str h] t=.ok (.bl (above (uh e.held (srt (e.held.map (·.1))) U))) t:=by
 have hl6:e.held.length≤12:=hr.l1
 obtain ⟨D,U0,d0,dB,dn⟩:=hr.dv
 have ho:∀ n,∃ u,On D (kB e.held n) u:=fun n=>⟨_,by rw [hr.q];exact dn n⟩
 have dB:Bt 1035 D:=dB
 have hsh:pd a [.ref nb,.str h] t=.ok (xG e.held) t:=by simp [pd,lg,hg,hf,hn];omega
 obtain ⟨ρ',s',hl,rfl,u1,u2,rfl⟩:=ra (body:=kK (yTup 2 (yCons (yName 4) (yCons (yName 5) yNil))) (na a)) ((srt (e.held.map (·.1))).map fun n=>x4 (lv e.held n))
  (fun k ρ s=>t=s∧∃ u1 u2,ρ=[some (.ref nb),some (.lst (U.map .str)),some (.str h),some (frP (uh e.held ((srt (e.held.map (·.1))).take k) U)),u1,u2])
  (fun k q ρ s hq hI=>by
   obtain ⟨rfl,u1,u2,rfl⟩:=hI
   rw [bi] at hq
   cases hw:(srt (e.held.map (·.1)))[k]? with
   | none=>rw [hw] at hq;cases hq
   | some n =>
    rw [hw] at hq
    cases hq
    have hk:k < (srt (e.held.map (·.1))).length:=(aW.mp hw).1
    rw [kE,aj] at hk
    have et:(srt (e.held.map (·.1))).take (k+1)=(srt (e.held.map (·.1))).take k++[n]:=by rw [cZ,hw];rfl
    obtain ⟨j,hj,ac⟩:=yD e.held U hr.fr ho ((srt (e.held.map (·.1))).take k)
    rw [cg] at hj
    have hp:=C7 a t ac (by omega) d0 dB (hr.fr n)
    rw [et,wk]
    generalize uh e.held ((srt (e.held.map (·.1))).take k) U=v at *
    refine ⟨_,_,?_,rfl,some (.str n),some (frP (kB e.held n)),rfl⟩
    have hi:=sL n U t
    by_cases z:n∈U
    ·simp only [z,if_true]
     simp only [fIn] at hi
     simp [sem,ko,kO,kK,na,x4,wK,hi,z,hp]
    ·simp only [z,if_false]
     simp only [fIn] at hi
     simp [sem,ko,kO,kK,na,x4,wK,hi,z]) (ρ:=[some (.ref nb),some (.lst (U.map .str)),some (.str h),some (.tup [.int 0,.int 1]),none,none]) (s:=t) ⟨rfl,none,none,rfl⟩
 rw [aj,d7] at hl
 obtain ⟨j,hj,ac⟩:=yD e.held U hr.fr ho (srt (e.held.map (·.1)))
 rw [kE,aj] at hj
 have z1:=ac.sz (by omega) d0 dB
 generalize uh e.held (srt (e.held.map (·.1))) U=v at *
 have z2:Sz (1,2):=⟨⟨by decide,(rfl:aM 1 2=1)⟩,bt1 (by omega),by unfold Bt;exact ay (by decide:2 < 2 ^ 2) (cq (by decide) (by decide))⟩
 have hab:mY a [frP v,.tup [.int 1,.int 2]] t=.ok (.bl (above v)) t:=by simp [mY,frP,z1,z2,above]
 have e1:xFor (xIter (xBM 2 (pd a) (xVar 0) (xCons (xVar 2) xNil))) (yTup 2 (yCons (yName 4) (yCons (yName 5) yNil))) (na a) [some (.ref nb),some (.lst (U.map .str)),some (.str h),some (.tup [.int 0,.int 1]),none,none] t=.nx [some (.ref nb),some (.lst (U.map .str)),some (.str h),some (frP v),u1,u2] t:=by
  refine oB (l:=((srt (e.held.map (·.1))).map fun n=>x4 (lv e.held n))) (s1:=t) ?_ hl
  simp [sem,kP,ko,kO,hg,hsh,xG]
 refine mI (v:=.bl (above v)) (s':=t) ?_
 unfold wN
 rw [kG (ρ':=[some (.ref nb),some (.lst (U.map .str)),some (.str h),some (.tup [.int 0,.int 1]),none,none]) (s':=t) (by simp [sem,kP,ko,kO,Az])]
 rw [kG e1]
 simp [sem,kP,ko,kO,AA,hab]
theorem mj {fi:XA}{ix:List Nat}{c:XT}{e:XE}{ρ:En}{s s1 s2:Sto}{l vs:List PV} (h1:fi ρ s=.ok l s1) (hl:l.length≤100000) (h2:lz c e (lh ix ρ) l s1=.ok vs s2):lu fi ix c e ρ s=.ok (.lst vs) s2:=by
 unfold lu
 rw [h1]
 simp only [Out.bind,hl,if_true]
 rw [h2]
theorem nR {f:XE}{ρ:En}{s s':Sto}{v:PV} (h:f ρ s=.ok v s'):xRet f ρ s=.rt v s':=by
 unfold xRet
 rw [h]
 rfl
theorem rS {f g:XS}{ρ:En}{s s':Sto}{v:PV} (h:f ρ s=.rt v s'):xSeq f g ρ s=.rt v s':=by unfold xSeq;rw [h]
def lk (M:List (Str×Hl)) (h:Str):Hl:=((M.find? fun m=>decide (m.1=h)).map (·.2)).getD []
def win (M:List (Str×Hl)) (U:List Str) (h:Str):Bool:=above (uh (lk M h) ((lk M h).map (·.1)) U)
theorem pJ {N:List Str}{c:Nat}{L:List Ent}{M:List (Str×Hl)} (P:Pairs N c L M) {h:Str} (hh:h∈M.map (·.1)):∃ e,ng L h=some e∧HR c e.held (lk M h)∧og (pZ M) (aE h)=some (.dct (hP (lk M h))):=by
 induction P with
 | nil=>cases hh
 | @cons e m L M h1 h2 h3 h4 P ih =>
  by_cases z:m.1=h
  ·refine ⟨e,?_,?_,?_⟩
   ·unfold ng
    rw [bA,decide_eq_true (by rw [h1];exact z)]
   ·have:lk (m::M) h=m.2:=by unfold lk;rw [bA,decide_eq_true z];rfl
    rw [this]
    exact h2
   ·have:lk (m::M) h=m.2:=by unfold lk;rw [bA,decide_eq_true z];rfl
    rw [this]
    unfold pZ
    simp [og,z]
  ·have e1:lk (m::M) h=lk M h:=by unfold lk;rw [bA,decide_eq_false z]
   rw [au,ai] at hh
   obtain ⟨e',g1,g2,g3⟩:=ih (hh.resolve_left fun y=>z y.symm)
   refine ⟨e',?_,?_,?_⟩
   ·unfold ng
    rw [bA,decide_eq_false (by rw [h1];exact z)]
    exact g1
   ·rw [e1];exact g2
   ·rw [e1,← g3]
    unfold pZ
    simp [og,z]
structure Wld (t:Sto) (nb:Nat) (pp hs:List Str) (L:List Ent) (M:List (Str×Hl)):Prop where
 w:Words pp hs
 p:Pairs (pp++hs) 11 L M
 n:L.map (·.nm)=hs
 g:t.get nb=some (.book pp L)
theorem Wld.names {t:Sto}{nb:Nat}{pp hs:List Str}{L:List Ent}{M:List (Str×Hl)} (W:Wld t nb pp hs L M):M.map (·.1)=hs:=by rw [← W.p.names,W.n]
section
variable {t:Sto}{nb:Nat}{pp hs:List Str}{L:List Ent}{M:List (Str×Hl)}
theorem Wld.outv (W:Wld t nb pp hs L M) (a:Adr) {h:Str} (hh:h∈hs) (U:List Str):ml a [.ref nb,.lst (U.map .str),.str h] t=.ok (.bl (win M U h)) t:=by
 obtain ⟨e,h1,h2,h3⟩:=pJ W.p (h:=h) (by rw [W.names];exact hh)
 rw [zO a U W.g h1 (W.w.sm _ (aI _ hh)).nm h2,GE h2]
 rfl
theorem Wld.outvd (W:Wld t nb pp hs L M) (a:Adr) (U:List Str):lH a [.ref nb,.lst (U.map .str)] t=.ok (.lst (((srt hs).filter (win M U)).map .str)) t:=by
 have hho:mM a [.ref nb] t=.ok (.lst ((srt hs).map .str)) t:=by simp [mM,lg,W.g,W.n]
 have hlen:(srt hs).length≤100000:=by rw [kE];have:=W.w.h8;omega
 have hc:=m6 (s:=t) (cap:=[some (.ref nb),some (.lst (U.map .str))]) (c:=xTr (xCall 3 (ml a) (xCons (xVar 1) (xCons (xVar 2) (xCons (xVar 0) xNil))))) (e:=xVar 0)
  (fun q=>match q with | .str h=>win M U h | _=>false) id ((srt hs).map .str) (fun q hq=>by
   obtain ⟨h,hh,rfl⟩:=ak.mp hq
   have:=W.outv a ((kI hs).mem_iff.mp hh) U
   simp [sem,kP,ko,kO,this]) (fun q hq _=>by simp [xVar])
 have e1:((((srt hs).map PV.str).filter fun q=>match q with | .str h=>win M U h | _=>false).map id)=((srt hs).filter (win M U)).map .str:=by
  rw [ft,dG]
  rfl
 rw [e1] at hc
 refine mI ?_
 unfold uN
 refine nR (mj (l:=(srt hs).map .str) (s1:=t) (by simp [sem,kP,ko,kO,W.g,hho]) (by simpa using hlen) hc)
def unl (U:List Str):Bool:=decide (((qY U).length:Int)=(U.length:Int))
theorem wm (a:Adr) (t:Sto) (U:List Str) (hU:U.length < 4000):lF a [.lst (U.map .str)] t=.ok (.bl (unl U)) t:=by
 simp [sem,kP,ko,kO,lF,rL,xD,nV,hU,mK,oI,unl]
 rfl
theorem oP (l:List Bool):uY (l.map PV.bl)=some l:=by
 induction l with
 | nil=>rfl
 | cons x r ih=>rw [au];unfold uY;rw [ih];rfl
def rY (M:List (Str×Hl)) (hs:List Str) (w:Str) (U:List Str):Bool:=unl U && U.all (fun n=>decide (n∈hs)) && ((srt hs).filter (win M (w::U))).all fun h=>decide (h∈U)
theorem Wld.shut (W:Wld t nb pp hs L M) (a:Adr) {w:Str} (hw:w∈pp++hs) (U:List Str) (hU:U.length < 4000):nU a [.ref nb,.str w,.lst (U.map .str)] t=.ok (.bl (rY M hs w U)) t:=by
 have hne:kJ a [.ref nb,.str w] t=.ok .non t:=by
  have h1:(lY pp w || lW L w)=true:=by
   rw [dH,oW,lS,W.n]
   exact aO.mp hw
  simp [kJ,lg,W.g,(W.w.sm _ hw).nm]
  intro z
  rw [z,gb] at h1
  exact h1
 have hun:=wm a t U hU
 have hih:∀ n,la a [.ref nb,.str n] t=.ok (.bl (decide (n∈hs))) t:=fun n=>by
  have:lW L n=decide (n∈hs):=by
   rw [bP,lS,W.n,decide_eq_true_iff]
  simp [la,lg,W.g,this]
 have c1:=m6 (s:=t) (cap:=[some (.ref nb)]) (c:=qT) (e:=xBM 2 (la a) (xVar 1) (xCons (xVar 0) xNil)) (fun _=>true) (fun q=>match q with | .str n=>PV.bl (decide (n∈hs)) | _=>.non) (U.map .str) (fun q hq=>rfl) (fun q hq _=>by
  obtain ⟨n,hn,rfl⟩:=ak.mp hq
  simp [sem,kP,ko,kO,W.g,hih])
 have e1:(((U.map PV.str).filter fun _=>true).map fun q=>match q with | .str n=>PV.bl (decide (n∈hs)) | _=>.non)=(U.map fun n=>decide (n∈hs)).map PV.bl:=by
  rw [eg.mpr (fun _ _=>rfl),aS,aS]
  rfl
 rw [e1] at c1
 have hov:=W.outvd a (w::U)
 have c2:=m6 (s:=t) (cap:=[some (.lst (U.map .str))]) (c:=qT) (e:=x2 (xVar 0) (xVar 1) fIn) (fun _=>true) (fun q=>match q with | .str n=>PV.bl (decide (n∈U)) | _=>.non) (((srt hs).filter (win M (w::U))).map .str) (fun q hq=>rfl) (fun q hq _=>by
  obtain ⟨n,hn,rfl⟩:=ak.mp hq
  have:=sL n U t
  simp only [x2,xVar,Out.bind,ao,ap,this])
 have e2:(((((srt hs).filter (win M (w::U))).map PV.str).filter fun _=>true).map fun q=>match q with | .str n=>PV.bl (decide (n∈U)) | _=>.non)=(((srt hs).filter (win M (w::U))).map fun n=>decide (n∈U)).map PV.bl:=by
  rw [eg.mpr (fun _ _=>rfl),aS,aS]
  rfl
 rw [e2] at c2
 have d1:lu (xIter (xVar 2)) [0] qT (xBM 2 (la a) (xVar 1) (xCons (xVar 0) xNil)) [some (.ref nb),some (.str w),some (.lst (U.map .str))] t=.ok (.lst ((U.map fun n=>decide (n∈hs)).map PV.bl)) t:=mj (l:=U.map .str) (s1:=t) (by simp [sem,kP,ko,kO]) (by simp;omega) c1
 have hl2:((srt hs).filter (win M (w::U))).length≤100000:=by
  refine aJ (ca _ _) ?_
  rw [kE]
  have:=W.w.h8
  omega
 have hcat:1+U.length≤100000:=by omega
 have d2:lu (xIter (xCall 2 (lH a) (xCons (xVar 0) (xCons (x2 (xLst (xCons (xVar 1) xNil)) (xVar 2) fAdd) xNil)))) [2] qT (x2 (xVar 0) (xVar 1) fIn) [some (.ref nb),some (.str w),some (.lst (U.map .str))] t=.ok (.lst ((((srt hs).filter (win M (w::U))).map fun n=>decide (n∈U)).map PV.bl)) t:=by
  refine mj (l:=((srt hs).filter (win M (w::U))).map .str) (s1:=t) ?_ (by simpa using hl2) c2
  rw [au] at hov
  simp [sem,kP,ko,kO,hov,hcat]
 refine mI ?_
 unfold wP
 rw [kG (ρ':=[some (.ref nb),some (.str w),some (.lst (U.map .str))]) (s':=t) (by simp [sem,kP,ko,kO,W.g,hne])]
 by_cases z:(unl U && U.all fun n=>decide (n∈hs))=true
 ·have z1:unl U=true:=by rw [bJ] at z;exact z.1
  have z2:(U.all fun n=>decide (n∈hs))=true:=by rw [bJ] at z;exact z.2
  have z3:(U.map fun n=>decide (n∈hs)).all id=true:=by rw [fE];exact z2
  generalize (U.map fun n=>decide (n∈hs))=bs at d1 z3
  rw [kG (ρ':=[some (.ref nb),some (.str w),some (.lst (U.map .str))]) (s':=t) (by simp [sem,kP,ko,kO,hun,d1,oP,z1,z3])]
  refine nR ?_
  have e3:rY M hs w U=(((srt hs).filter (win M (w::U))).map fun n=>decide (n∈U)).all id:=by
   unfold rY
   rw [z,cP,fE]
   rfl
  rw [e3]
  simp only [xB,xCons,xNil,Out.bind,d2,fAll,lsOf,oP]
 ·have e3:rY M hs w U=false:=by
   unfold rY
   rw [cz.mpr z,dW]
  rw [e3]
  refine rS ?_
  by_cases z1:unl U=true
  ·have z2:(U.map fun n=>decide (n∈hs)).all id=false:=by
    rw [fE,cz]
    intro y
    exact z (by rw [z1,cP];exact y)
   generalize (U.map fun n=>decide (n∈hs))=bs at d1 z2
   simp [sem,kP,ko,kO,hun,d1,oP,z1,z2]
  ·simp [sem,kP,ko,kO,hun,z1]
theorem uC:∀ r:List Str,(qY r.reverse).length=r.reverse.length ↔ r.reverse.Nodup
 | []=>by simp [qY]
 | x::r=>by
  have ih:=uC r
  have le:=yU r.reverse
  rw [dN,wC,aC,dJ]
  unfold zr
  by_cases h:x∈qY r.reverse
  ·rw [if_pos h]
   have hx:=mem_once.mp h
   constructor
   ·intro e;omega
   ·intro e
    exact absurd rfl ((br.mp e).2.2 x hx x am)
  ·rw [if_neg h,aC,dJ]
   have hx:x∉r.reverse:=fun z=>h (mem_once.mpr z)
   constructor
   ·intro e
    refine br.mpr ⟨ih.mp (by omega),by simp,fun y hy z hz e=>?_⟩
    rw [ax.mp hz] at e
    exact hx (by rw [← e];exact hy)
   ·intro e
    have:=ih.mpr (br.mp e).1
    omega
theorem AC (U:List Str):unl U=true ↔ U.Nodup:=by
 have:=uC U.reverse
 rw [fm] at this
 unfold unl
 rw [decide_eq_true_iff,← this]
 omega
def again (U:List Str) (k:Nat):Bool:=decide (U.getD k (aD "")∈U.take k)
abbrev LS (U:List Str):PV:=.lst (U.map .str)
theorem sW (s:Sto) (k:Nat):∀ (U:List Str),(∀ x∈U,cL x=true)→uG (PV.data s (k+1)) (U.map PV.str)=some (U.map gf)
 | [],_=>rfl
 | x::r,h=>by
  rw [au]
  unfold uG
  rw [sW s k r fun y hy=>h y (ag _ hy)]
  have e:PV.data s (k+1) (.str x)=some (.str x):=by unfold PV.data;rw [if_pos (h x am)]
  rw [e]
  rfl
theorem FU (s:Sto) (k:Nat) {U:List Str} (h:∀ x∈U,cL x=true):PV.data s (k+2) (LS U)=some (.list (U.map gf)):=by
 unfold PV.data
 rw [sW s k U h]
 rfl
theorem tL:∀ U:List Str,fQ (U.map gf) (U.map gf)=true
 | []=>by simp [fQ]
 | x::r=>by
  rw [au]
  unfold fQ du
  rw [tL r,beq_self_eq_true]
  rfl
theorem Fl (s:Sto) {U:List Str} (h:∀ x∈U,cL x=true):fNe (LS U) (LS U) s=.ok (.bl false) s:=by
 have e2:PV.data s 12 (LS U)=some (.list (U.map gf)):=FU s 10 h
 unfold fNe fEqN
 rw [e2]
 simp only [if_true]
 unfold du
 rw [tL]
 rfl
theorem Cg {x:Str} (h:Sm x):cL x=true:=by
 unfold cL
 rw [← Array.all_toList,cn]
 intro c hc
 exact decide_eq_true (fH (h.2 c hc) (by decide))
theorem tG:∀ M:List (Str×Hl),keysOf (pZ M)=some (M.map (·.1))
 | []=>rfl
 | m::M=>by
  have:=tG M
  unfold pZ at this ⊢
  rw [au]
  unfold keysOf
  rw [this]
  rfl
def kT (M:List (Str×Hl)) (hs:List Str) (w:Str) (lot:List Str):List Str:=(srt hs).filter fun n=>!decide (n∈lot) && win M (w::lot) n
theorem Wld.srtE (W:Wld t nb pp hs L M) (t':Sto):ko [.dct (pZ M)] t'=.ok (LS (srt hs)) t':=by
 have h8:=W.w.h8
 have:hs.length < 64:=by omega
 simp [ko,lsOf,dcOf,tG,W.names,this]
theorem sV {l m:List Str} (h1:l.Nodup) (h2:m.Nodup) (h:∀ n∈l,n∈m):l.length≤m.length:=by
 have:l.Perm (m.filter fun n=>decide (n∈l)):=(iU h1 (h2.filter _)).mpr fun n=>by
  rw [bg,decide_eq_true_iff]
  exact ⟨fun z=>⟨h n z,z⟩,fun z=>z.2⟩
 rw [this.length_eq]
 exact ca _ _
theorem nX (W:Wld t nb pp hs L M) (w:Str) {lot:List Str} (h1:lot.Nodup) (h2:∀ n∈lot,n∈hs):(lot++kT M hs w lot).Nodup∧(∀ n∈lot++kT M hs w lot,n∈hs)∧(lot++kT M hs w lot).length≤hs.length:=by
 have ndh:hs.Nodup:=(br.mp W.w.nd).2.1
 have a1:(lot++kT M hs w lot).Nodup:=by
  refine br.mpr ⟨h1,((kI hs).nodup_iff.mpr ndh).filter _,fun x hx y hy e=>?_⟩
  have:=(bg.mp hy).2
  rw [bJ] at this
  rw [← e,decide_eq_true hx] at this
  exact absurd this.1 (by decide)
 have a2:∀ n∈lot++kT M hs w lot,n∈hs:=fun n hn=>by
  rcases aO.mp hn with h | h
  ·exact h2 n h
  ·exact (kI hs).mem_iff.mp (bg.mp h).1
 exact ⟨a1,a2,sV a1 ndh a2⟩
theorem y4 {q:Int×Int} (hq:0 < q.2):above q=true ↔ 1 < rv q+rv q:=by
 have e:rv q+rv q=Rat.divInt (q.1 * q.2+q.1 * q.2) (q.2 * q.2):=by
  unfold rv
  rw [jE _ _ (by omega) (by omega)]
 have e1:(1:Rat)=Rat.divInt 1 1:=rfl
 have qq:=bF hq hq
 have e2:q.1 * 2 * q.2=q.1 * q.2+q.1 * q.2:=by rw [dE,bz _ 2];omega
 have e3:above q=true ↔ q.2 < q.1 * 2:=decide_eq_true_iff
 rw [e3,e,← Rat.not_le,Rat.le_iff_sub_nonneg,e1,Rat.divInt_sub_divInt _ _ (by decide) (by omega),g7 (by omega)]
 constructor
 ·intro h z
  have:=Int.mul_lt_mul_of_pos_right h hq
  omega
 ·intro h
  rcases Int.lt_or_le q.2 (q.1 * 2) with z | z
  ·exact z
  ·have:=aL z (bu hq)
   omega
theorem EW {q:Int×Int} (hq:0 < q.2) (h:above q=true):1 < rv q+rv q:=(y4 hq).mp h
theorem F8 {q:Int×Int} (hq:0 < q.2) (h:0≤q.1):0≤rv q:=by
 unfold rv
 rw [g7 hq]
 exact h
theorem AD {f:Str→Rat} (hf:∀ n,0≤f n) {U V:List Str} (hd:∀ n∈U,n∉V):∀ ns:List Str,mO ((ns.filter fun n=>decide (n∈U)).map f)+mO ((ns.filter fun n=>decide (n∈V)).map f)≤mO (ns.map f)
 | []=>by show (0:Rat)+0≤0;rw [ju];exact Rat.le_refl
 | n::ns=>by
  have ih:=AD hf hd ns
  have h0:=hf n
  rw [cQ,cQ,au]
  by_cases z1:n∈U
  ·have z2:=hd n z1
   rw [if_pos (decide_eq_true z1),if_neg (by simpa using z2),au]
   show f n+_+_≤f n+_
   grind
  ·rw [if_neg (by simpa using z1)]
   by_cases z2:n∈V
   ·rw [if_pos (decide_eq_true z2),au]
    show _+(f n+_)≤f n+_
    grind
   ·rw [if_neg (by simpa using z2)]
    show _≤f n+_
    grind
theorem Wld.one_wins (W:Wld t nb pp hs L M) {h:Str} (hh:h∈hs) {U V:List Str} (hd:∀ n∈U,n∉V) (h1:win M U h=true) (h2:win M V h=true):False:=by
 obtain ⟨e,_,R,_⟩:=pJ W.p (h:=h) (by rw [W.names];exact hh)
 have lw:∀ n,Low (kB (lk M h) n):=fun n=>by rw [← R.q];exact (R.fr n).low
 have nn:∀ n,0≤rv (kB (lk M h) n):=fun n=>F8 (lw n).1 (by rw [← R.q];exact (R.fr n).nn)
 have key:∀ U:List Str,win M U h=true→1 < mO ((((lk M h).map (·.1)).filter fun n=>decide (n∈U)).map fun n=>rv (kB (lk M h) n))+mO ((((lk M h).map (·.1)).filter fun n=>decide (n∈U)).map fun n=>rv (kB (lk M h) n)):=fun U hU=>by
  obtain ⟨a1,a2⟩:=oR (l:=(((lk M h).map (·.1)).filter fun n=>decide (n∈U)).map (kB (lk M h))) fun q hq=>by obtain ⟨n,_,rfl⟩:=ak.mp hq;exact lw n
  have:=EW a1.1 hU
  rw [a2,aS] at this
  exact this
 have k1:=key U h1
 have k2:=key V h2
 have k3:=AD nn hd ((lk M h).map (·.1))
 have k4:mO (((lk M h).map (·.1)).map fun n=>rv (kB (lk M h) n))=1:=R.one
 rw [k4] at k3
 grind
inductive Gr (M:List (Str×Hl)) (w:Str):List Str→Prop
 | nil:Gr M w []
 | add {V X:List Str}:Gr M w V→(∀ n∈X,win M (w::V) n=true)→Gr M w (V++X)
theorem Gr.apart (W:Wld t nb pp hs L M) {w z:Str} (hwz:w≠z) (hw:w∉hs) (hz:z∉hs) {A:List Str} (hA:Gr M w A):(∀ n∈A,n∈hs)→∀ B,Gr M z B→(∀ n∈B,n∈hs)→∀ n∈w::A,n∉z::B:=by
 induction hA with
 | nil =>
  intro _ B hB hBh n hn hb
  rw [ax.mp hn] at hb
  rcases ai.mp hb with h | h
  ·exact hwz h
  ·exact hw (hBh w h)
 | @add V X gV hX ih =>
  intro hAh B hB
  have hV:∀ n∈V,n∈hs:=fun n hn=>hAh n (bH _ hn)
  have ih:=ih hV
  induction hB with
  | nil =>
   intro _ n hn hb
   rw [ax.mp hb] at hn
   rcases ai.mp hn with h | h
   ·exact hwz h.symm
   ·exact hz (hAh z h)
  | @add V' X' gV' hX' ih2 =>
   intro hBh n hn hb
   have hV':∀ n∈V',n∈hs:=fun n hn=>hBh n (bH _ hn)
   have d1:=ih (V'++X') (.add gV' hX') hBh n
   have d2:=ih2 hV' n hn
   have x1:n∈X:=by
    rw [← ci] at hn
    rcases aO.mp hn with h | h
    ·exact absurd hb (d1 h)
    ·exact h
   have x2:n∈X':=by
    rw [← ci] at hb
    rcases aO.mp hb with h | h
    ·exact absurd h d2
    ·exact h
   exact W.one_wins (hAh n (aI _ x1)) (ih V' gV' hV') (hX n x1) (hX' n x2)
def rnd (M:List (Str×Hl)) (hs:List Str) (w:Str):Nat→List Str→List (List Str)
 | 0,_=>[]
 | k+1,lot=>if kT M hs w lot=[] then [] else kT M hs w lot::rnd M hs w k (lot++kT M hs w lot)
def rcs (n:Nat):List (List Str)→List (Nat×Cell)
 | []=>[]
 | r::R=>(n+R.length,.lst (r.map .str))::rcs n R
def rH (n k:Nat):List PV:=(cy k).map fun i=>.ref (n+i)
theorem Bm (n k:Nat):rH n (k+1)=rH n k++[.ref (n+k)]:=by unfold rH;rw [List.range_succ,aY];rfl
def rst (t:Sto) (R:List (List Str)) (x:List (Nat×Cell)) (k:Nat):Sto:=⟨t.nx+1+R.length+k,x++(rcs (t.nx+1) R++(t.nx,.lst (rH (t.nx+1) R.length))::t.cs)⟩
theorem se {n m:Nat} (h:m < n) (lC:List (Nat×Cell)):∀ R:List (List Str),ly (rcs n R++lC) m=ly lC m
 | []=>rfl
 | r::R=>by
  show ly ((n+R.length,_)::(rcs n R++lC)) m=_
  rw [kX,if_neg (by omega),se h lC R]
theorem yM {n m:Nat} (h:m < n) (c:Cell) (lC:List (Nat×Cell)):∀ R:List (List Str),l4 m c (rcs n R++lC)=rcs n R++l4 m c lC
 | []=>rfl
 | r::R=>by
  show l4 m c ((n+R.length,_)::(rcs n R++lC))=(n+R.length,_)::(rcs n R++l4 m c lC)
  rw [← yM h c lC R]
  conv=>lhs;unfold l4
  rw [if_neg (by omega)]
theorem EY (hnb:nb < t.nx) (R:List (List Str)):(rst t R [] 0).get nb=t.get nb:=by
 unfold rst Sto.get
 rw [bY,se (by omega),kX,if_neg (by omega)]
theorem Wld.rst (W:Wld t nb pp hs L M) (hnb:nb < t.nx) (R:List (List Str)):Wld (My.rst t R [] 0) nb pp hs L M:=⟨W.w,W.p,W.n,(EY hnb R).trans W.g⟩
def drL (a:Adr) (l:List PV) (p:PV) (s:Sto):Out PV:=noX ((xCall 2 (lH a) (xCons (xVar 1) (xCons (x2 (xLst (xCons (xVar 2) xNil)) (xVar 0) fAdd) xNil))) (some p::l.map some) s)
theorem Wld.drL (W:Wld t nb pp hs L M) (a:Adr) (w:Str) (lot:List Str) (hl:lot.length≤8):My.drL a [.ref nb,.str w] (LS lot) t=.ok (LS ((srt hs).filter (win M (w::lot)))) t:=by
 have h:=W.outvd a (w::lot)
 have hcat:1+lot.length≤100000:=by omega
 rw [au] at h
 unfold My.drL
 simp [sem,kP,ko,kO,h,hcat,noX]
theorem Fk (w:Str) (lot:List Str):(((srt hs).filter (win M (w::lot))).filter fun n=>!decide (n∈lot))=kT M hs w lot:=by
 unfold kT
 rw [ka]
theorem Wld.compR (W:Wld t nb pp hs L M) (hnb:nb < t.nx) (a:Adr) (f:ae) (ws:List V) (w:Str) (lot:List Str) (hl:lot.length≤8) (R:List (List Str)) (o1 o3:Option PV) :
  tX (xIter (tY 0 f ws (My.drL a) (xVar 2))) [2] (xTr (x2 (xVar 0) (xVar 1) mV)) (xVar 0) [some (.clo f ws [.ref nb,.str w]),o1,some (LS lot),o3] (My.rst t R [] 0)=.ok (.ref (t.nx+1+R.length)) (My.rst t R [(t.nx+1+R.length,.lst ((kT M hs w lot).map .str))] 1):=by
 have h1:=(W.rst hnb R).drL a w lot hl
 have h8:=W.w.h8
 have c:=m6 (s:=My.rst t R [] 0) (cap:=[some (LS lot)]) (c:=xTr (x2 (xVar 0) (xVar 1) mV)) (e:=xVar 0) (fun q=>match q with | .str n=>!decide (n∈lot) | _=>false) id (((srt hs).filter (win M (w::lot))).map .str) (fun q hq=>by
  obtain ⟨n,hn,rfl⟩:=ak.mp hq
  have h1:=rA n lot (My.rst t R [] 0)
  simp [sem,ko,kO,h1,mV]) (fun q hq _=>by simp [xVar])
 have e1:((((((srt hs).filter (win M (w::lot))).map PV.str).filter fun q=>match q with | .str n=>!decide (n∈lot) | _=>false)).map id)=(kT M hs w lot).map .str:=by
  rw [ft,dG,← Fk]
  rfl
 rw [e1] at c
 have hlen:(((srt hs).filter (win M (w::lot))).map PV.str).length≤100000:=by
  rw [aj]
  exact aJ (ca _ _) (by rw [kE];omega)
 have h2:xIter (tY 0 f ws (My.drL a) (xVar 2)) [some (.clo f ws [.ref nb,.str w]),o1,some (LS lot),o3] (My.rst t R [] 0)=.ok (((srt hs).filter (win M (w::lot))).map .str) (My.rst t R [] 0):=by
  simp only [xIter,tY,ao,ap,and_self,if_true,xVar,Out.bind,h1,noX,lsOf]
 unfold tX
 rw [h2]
 simp only [Out.bind,if_pos hlen]
 have c':lz (xTr (x2 (xVar 0) (xVar 1) mV)) (xVar 0) (lh [2] [some (.clo f ws [.ref nb,.str w]),o1,some (LS lot),o3]) (((srt hs).filter (win M (w::lot))).map .str) (My.rst t R [] 0)=.ok ((kT M hs w lot).map .str) (My.rst t R [] 0):=c
 rw [c']
 rfl
theorem FF (s:Sto) {n:Nat}{U:List Str} (hg:s.get n=some (.lst (U.map .str))) (h:∀ x∈U,cL x=true):fEq (.ref n) (.lst []) s=.ok (.bl (decide (U=[]))) s:=by
 have e2:PV.data s 12 (.ref n)=some (.list (U.map gf)):=by
  unfold PV.data
  rw [hg]
  simp only
  rw [sW s 10 U h]
  rfl
 have e3:PV.data s 12 (.lst [])=some (.list []):=rfl
 unfold fEq fEqN
 rw [e2,e3]
 unfold du
 cases U with
 | nil=>simp [fQ]
 | cons x r=>simp [fQ]
theorem GR (t:Sto) (R:List (List Str)) (c:Cell):(rst t R [(t.nx+1+R.length,c)] 1).get (t.nx+1+R.length)=some c:=by
 show ly ((t.nx+1+R.length,c)::_) _=_
 rw [kX,if_pos rfl]
theorem yP (t:Sto) (R:List (List Str)) (c:Cell):(rst t R [(t.nx+1+R.length,c)] 1).get t.nx=some (.lst (rH (t.nx+1) R.length)):=by
 show ly ((t.nx+1+R.length,c)::(rcs (t.nx+1) R++_)) _=_
 rw [kX,if_neg (by omega),se (by omega),kX,if_pos rfl]
theorem EX (t:Sto) (R:List (List Str)) (r:List Str):(rst t R [(t.nx+1+R.length,.lst (r.map .str))] 1).set t.nx (.lst (rH (t.nx+1) R.length++[.ref (t.nx+1+R.length)]))=rst t (r::R) [] 0:=by
 unfold rst Sto.set
 have e:l4 t.nx (.lst (rH (t.nx+1) R.length++[.ref (t.nx+1+R.length)])) ([(t.nx+1+R.length,.lst (r.map .str))]++(rcs (t.nx+1) R++(t.nx,.lst (rH (t.nx+1) R.length))::t.cs))=(t.nx+1+R.length,.lst (r.map .str))::(rcs (t.nx+1) R++(t.nx,.lst (rH (t.nx+1) (R.length+1)))::t.cs):=by
  show l4 t.nx _ ((t.nx+1+R.length,_)::(rcs (t.nx+1) R++(t.nx,Cell.lst (rH (t.nx+1) R.length))::t.cs))=_
  conv=>lhs;unfold l4
  rw [if_neg (by omega),yM (by omega),Bm]
  congr 2
  conv=>lhs;unfold l4
  rw [if_pos rfl]
 show Sto.mk _ (l4 _ _ _)=_
 rw [e]
 rfl
theorem Wld.stepR (W:Wld t nb pp hs L M) (hnb:nb < t.nx) (a:Adr) (f:ae) (ws:List V) (w:Str) (lot:List Str) (hl:lot.length≤8) (hl2:(lot++kT M hs w lot).length≤8) (hlh:∀ n∈kT M hs w lot,n∈hs) (R:List (List Str)) (hR:R.length≤8) (o3:Option PV) :
  n8 a f ws (My.drL a) [some (.clo f ws [.ref nb,.str w]),some (.ref t.nx),some (LS lot),o3] (My.rst t R [] 0) =
   if kT M hs w lot=[] then .rt (.ref t.nx) (My.rst t R [(t.nx+1+R.length,.lst [])] 1) else .nx [some (.clo f ws [.ref nb,.str w]),some (.ref t.nx),some (LS (lot++kT M hs w lot)),some (.ref (t.nx+1+R.length))] (My.rst t (kT M hs w lot::R) [] 0):=by
 have h1:=W.compR hnb a f ws w lot hl R (some (.ref t.nx)) o3
 have smh:∀ n∈kT M hs w lot,cL n=true:=fun n hn=>Cg (W.w.sm n (aI _ (hlh n hn)))
 generalize kT M hs w lot=nx at *
 have h2:=GR t R (.lst (nx.map .str))
 have h3:=yP t R (.lst (nx.map .str))
 have h4:=FF _ h2 smh
 have h5:=EX t R nx
 have hcat:lot.length+nx.length≤100000:=by rw [aC] at hl2;omega
 have hrl:(rH (t.nx+1) R.length).length < 100000:=by unfold rH;rw [aj,eS];omega
 unfold n8
 rw [kG (ρ':=[some (.clo f ws [.ref nb,.str w]),some (.ref t.nx),some (LS lot),some (.ref (t.nx+1+R.length))]) (s':=My.rst t R [(t.nx+1+R.length,.lst (nx.map .str))] 1) (by simp only [xSet,h1,Out.so];rfl)]
 by_cases e:nx=[]
 ·subst e
  rw [if_pos rfl]
  refine rS ?_
  simp only [xIf,xTr,x2,xVar,xLst,xNil,Out.bind,ao,ap,a8,bD,if_true,h4,Out.so,xRet,decide_true]
  rfl
 ·rw [if_neg e]
  rw [kG (ρ':=[some (.clo f ws [.ref nb,.str w]),some (.ref t.nx),some (LS lot),some (.ref (t.nx+1+R.length))]) (s':=My.rst t R [(t.nx+1+R.length,.lst (nx.map .str))] 1) (by
   simp only [xIf,xTr,x2,xVar,xLst,xNil,Out.bind,ao,ap,a8,bD,if_true,h4,Out.so,e,decide_false,xEnd]
   rfl)]
  rw [kG (ρ':=[some (.clo f ws [.ref nb,.str w]),some (.ref t.nx),some (LS lot),some (.ref (t.nx+1+R.length))]) (s':=My.rst t (nx::R) [] 0) (by
   rw [← h5]
   simp only [xDo,xAppend,xVar,xCons,xNil,Out.bind,ao,ap,h3,hrl,if_true,Out.so])]
  have h6:(My.rst t (nx::R) [] 0).get (t.nx+1+R.length)=some (.lst (nx.map .str)):=by
   show ly ((t.nx+1+R.length,_)::_) _=_
   rw [kX,if_pos rfl]
  simp [sem,kP,ko,kO,h6,hcat,LS]
theorem sE {w:Str}{lot:List Str} (h:kT M hs w lot=[]) (k:Nat):rnd M hs w k lot=[]:=by
 cases k with
 | zero=>rfl
 | succ k=>unfold rnd;rw [if_pos h]
theorem qu {w:Str}{lot:List Str} (h:kT M hs w lot≠[]) (k:Nat):rnd M hs w (k+1) lot=kT M hs w lot::rnd M hs w k (lot++kT M hs w lot):=by
 conv=>lhs;unfold rnd
 rw [if_neg h]
theorem Wld.loopR (W:Wld t nb pp hs L M) (hnb:nb < t.nx) (a:Adr) (f:ae) (ws:List V) (w:Str):∀ (k:Nat) (lot:List Str) (R:List (List Str)) (o3:Option PV),lot.Nodup→(∀ n∈lot,n∈hs)→R.length≤lot.length→hs.length≤lot.length+k →
  ∃ n:Nat,lc (xTr (xC (.bl true))) (n8 a f ws (My.drL a)) n [some (.clo f ws [.ref nb,.str w]),some (.ref t.nx),some (LS lot),o3] (My.rst t R [] 0)
  =.rt (.ref t.nx) (My.rst t ((rnd M hs w k lot).reverse++R) [(t.nx+1+((rnd M hs w k lot).reverse++R).length,.lst [])] 1):=by
 have h8:=W.w.h8
 have stop:∀ (k:Nat) (lot:List Str) (R:List (List Str)) (o3:Option PV),lot.Nodup→(∀ n∈lot,n∈hs)→R.length≤lot.length→kT M hs w lot=[]→∃ n:Nat,lc (xTr (xC (.bl true))) (n8 a f ws (My.drL a)) n [some (.clo f ws [.ref nb,.str w]),some (.ref t.nx),some (LS lot),o3] (My.rst t R [] 0)
  =.rt (.ref t.nx) (My.rst t ((rnd M hs w k lot).reverse++R) [(t.nx+1+((rnd M hs w k lot).reverse++R).length,.lst [])] 1):=fun k lot R o3 h1 h2 h4 e=>by
  obtain ⟨a1,a2,a3⟩:=nX W w h1 h2
  have hll:lot.length≤8:=by rw [e,bO] at a3;omega
  have hst:=W.stepR hnb a f ws w lot hll (by omega) (fun n hn=>a2 n (aI _ hn)) R (by omega) o3
  rw [if_pos e] at hst
  refine ⟨1,?_⟩
  rw [sE e]
  unfold lc
  simp only [xTr,xC,Out.bind,Out.so,if_true]
  rw [hst]
  rfl
 intro k
 induction k with
 | zero =>
  intro lot R o3 h1 h2 h4 h5
  obtain ⟨a1,a2,a3⟩:=nX W w h1 h2
  have e:kT M hs w lot=[]:=by
   rw [aC] at a3
   exact iE (by omega)
  exact stop 0 lot R o3 h1 h2 h4 e
 | succ k ih =>
  intro lot R o3 h1 h2 h4 h5
  obtain ⟨a1,a2,a3⟩:=nX W w h1 h2
  by_cases e:kT M hs w lot=[]
  ·exact stop (k+1) lot R o3 h1 h2 h4 e
  ·have hpos:0 < (kT M hs w lot).length:=fC.mpr e
   have hll:lot.length≤8:=by rw [aC] at a3;omega
   have hst:=W.stepR hnb a f ws w lot hll (by omega) (fun n hn=>a2 n (aI _ hn)) R (by omega) o3
   rw [if_neg e] at hst
   obtain ⟨n,g5⟩:=ih (lot++kT M hs w lot) (kT M hs w lot::R) (some (.ref (t.nx+1+R.length))) a1 a2 (by rw [aC,aB];omega) (by rw [aC];omega)
   refine ⟨n+1,?_⟩
   rw [qu e,dN,bI,List.singleton_append]
   unfold lc
   simp only [xTr,xC,Out.bind,Out.so,if_true]
   rw [hst]
   exact g5
def rul (t:Sto) (Rs:List (List Str)):Sto:=My.rst t Rs.reverse [(t.nx+1+Rs.reverse.length,.lst [])] 1
theorem Wld.roundsR (W:Wld t nb pp hs L M) (hnb:nb < t.nx) (a:Adr) (f:ae) (ws:List V) (w:Str):qE a f ws (My.drL a) [.clo f ws [.ref nb,.str w]] t=.ok (.ref t.nx) (rul t (rnd M hs w hs.length [])):=by
 obtain ⟨n,g5⟩:=W.loopR hnb a f ws w hs.length [] [] none cT (fun n hn=>by cases hn) (aA _) (by simp)
 rw [bO] at g5
 have hw:=wf g5 (by simp)
 refine mI ?_
 unfold y9
 rw [kG (ρ':=[some (.clo f ws [.ref nb,.str w]),some (.ref t.nx),none,none]) (s':=My.rst t [] [] 0) (by simp [sem,kP,ko,kO];rfl)]
 rw [kG (ρ':=[some (.clo f ws [.ref nb,.str w]),some (.ref t.nx),some (LS []),none]) (s':=My.rst t [] [] 0) (by simp [sem,kP,ko,kO])]
 rw [hw]
 rfl
theorem Wld.rules (W:Wld t nb pp hs L M) (hnb:nb < t.nx) (a:Adr) {w:Str} (hw:w∈pp++hs):nv a [.ref nb,.str w] t=.ok (.ref t.nx) (rul t (rnd M hs w hs.length [])):=by
 have hne:kJ a [.ref nb,.str w] t=.ok .non t:=by
  have h1:(lY pp w || lW L w)=true:=by
   rw [dH,oW,lS,W.n]
   exact aO.mp hw
  simp [kJ,lg,W.g,(W.w.sm _ hw).nm]
  intro z
  rw [z,gb] at h1
  exact h1
 have hx:yB (fun f ws=>qE a f ws (fun l p s=>noX ((xCall 2 (lH a) (xCons (xVar 1) (xCons (x2 (xLst (xCons (xVar 2) xNil)) (xVar 0) fAdd) xNil))) (some p::l.map some) s)) [.clo f ws [.ref nb,.str w]] t)=.ok (.ref t.nx) (rul t (rnd M hs w hs.length [])):=EG fun f ws=>W.roundsR hnb a f ws w
 refine mI ?_
 unfold AX
 rw [kG (ρ':=[some (.ref nb),some (.str w)]) (s':=t) (by simp [sem,kP,ko,kO,hne,W.g])]
 refine nR ?_
 unfold Cd
 simp only [Ae,ao,ap,au,cO,aB,a8,aV,bO]
 rw [hx]
 rfl
theorem ne_int (s:Sto) (i:Int):fNe (.int i) (.int i) s=.ok (.bl false) s:=by
 unfold fNe fEqN
 rw [mK]
 simp only [oI,beq_self_eq_true]
 rfl
structure TldAt (s:Sto) (k:Nat) (Rs:List (List Str)):Prop where
 told:s.get k=some (.lst (rH (k+1) Rs.length))
 el:∀ (i:Nat) (r:List Str),Rs[i]?=some r→s.get (k+1+i)=some (.lst (r.map .str))
theorem AK (n:Nat) (lC:List (Nat×Cell)):∀ (R:List (List Str)) (i:Nat) (r:List Str),R.reverse[i]?=some r→ly (rcs n R++lC) (n+i)=some (.lst (r.map .str))
 | [],i,r,h=>by cases h
 | r0::R,i,r,h=>by
  show ly ((n+R.length,_)::(rcs n R++lC)) _=_
  rw [kX]
  rw [dN] at h
  by_cases e:i=R.length
  ·subst e
   rw [if_pos rfl]
   rw [fN (by simp),gR,Nat.sub_self] at h
   cases h
   rfl
  ·rw [if_neg (by omega)]
   refine AK n lC R i r ?_
   have hlt:i < R.length:=by
    have:=(aW.mp h).1
    rw [aC,gR,dJ] at this
    omega
   rw [fR (by simpa using hlt)] at h
   exact h
theorem vg (t:Sto) (Rs:List (List Str)):TldAt (rul t Rs) t.nx Rs:=by
 have hl:Rs.reverse.length=Rs.length:=gR
 refine ⟨?_,fun i r h=>?_⟩
 ·have:=yP t Rs.reverse (.lst [])
  rw [hl] at this
  unfold rul
  rw [hl]
  exact this
 ·unfold rul rst Sto.get
  show ly ((t.nx+1+Rs.reverse.length,_)::(rcs (t.nx+1) Rs.reverse++_)) _=_
  have hi:=(aW.mp h).1
  rw [kX,if_neg (by rw [hl];omega)]
  exact AK _ _ Rs.reverse i r (by rw [fm];exact h)
theorem xL (hnb:nb < t.nx) (Rs:List (List Str)):(rul t Rs).get nb=t.get nb:=by
 unfold rul rst Sto.get
 show ly ((t.nx+1+Rs.reverse.length,_)::(rcs (t.nx+1) Rs.reverse++_)) _=_
 rw [kX,if_neg (by omega),se (by omega),kX,if_neg (by omega)]
theorem Ao (t:Sto) (Rs:List (List Str)):t.nx < (rul t Rs).nx:=by
 show t.nx < t.nx+1+Rs.reverse.length+1
 omega
theorem Ap (W:Wld t nb pp hs L M) (w:Str):∀ (k:Nat) (lot:List Str),lot.Nodup→(∀ n∈lot,n∈hs)→(rnd M hs w k lot).length+lot.length≤hs.length∧∀ r∈rnd M hs w k lot,r.length≤8∧∀ x∈r,cL x=true
 | 0,lot,h1,h2=>by
  obtain ⟨a1,a2,a3⟩:=nX W w h1 h2
  rw [aC] at a3
  exact ⟨by show 0+lot.length≤_;omega,fun r hr=>by cases hr⟩
 | k+1,lot,h1,h2=>by
  obtain ⟨a1,a2,a3⟩:=nX W w h1 h2
  have h8:=W.w.h8
  by_cases e:kT M hs w lot=[]
  ·rw [sE e]
   rw [aC] at a3
   exact ⟨by show 0+lot.length≤_;omega,fun r hr=>by cases hr⟩
  ·obtain ⟨b1,b2⟩:=Ap W w k (lot++kT M hs w lot) a1 a2
   have hpos:0 < (kT M hs w lot).length:=fC.mpr e
   rw [qu e]
   rw [aC] at b1 a3
   refine ⟨by rw [aB];omega,fun r hr=>?_⟩
   rcases ai.mp hr with rfl | hr
   ·exact ⟨by omega,fun x hx=>Cg (W.w.sm x (aI _ (a2 x (aI _ hx))))⟩
   ·exact b2 r hr
theorem Bn (n k:Nat):rH n (k+1)=.ref n::rH (n+1) k:=by
 unfold rH
 rw [jr,au,aS]
 congr 1
 refine bU fun i _=>?_
 show PV.ref (n+(i+1))=PV.ref (n+1+i)
 congr 1
 omega
theorem uS {s:Sto}{n k:Nat} (h:k≠n):(s.del n).get k=s.get k:=qj h
theorem uP:∀ (Rs:List (List Str)) (n:Nat) (s:Sto),(∀ (i:Nat) (r:List Str),Rs[i]?=some r→s.get (n+i)=some (.lst (r.map .str)))→∃ s',x6 (rH n Rs.length) s=some (Rs.map LS,s')∧s'.nx=s.nx∧∀ m,m < n→s'.get m=s.get m
 | [],n,s,_=>⟨s,rfl,rfl,fun _ _=>rfl⟩
 | r::Rs,n,s,h=>by
  have h0:s.get n=some (.lst (r.map .str)):=h 0 r rfl
  obtain ⟨s',e1,e2,e3⟩:=uP Rs (n+1) (s.del n) fun i r' hr=>by
   rw [uS (by omega),show n+1+i=n+(i+1) by omega]
   exact h (i+1) r' hr
  refine ⟨s',?_,e2,fun m hm=>(e3 m (by omega)).trans (uS (by omega))⟩
  rw [aB,Bn]
  unfold x6
  have e0:frz1 (.ref n) s=.ok (LS r) (s.del n):=by simp only [frz1,h0]
  rw [e0]
  simp only [e1]
  rfl
theorem tj {s:Sto}{k:Nat}{Rs:List (List Str)} (T:TldAt s k Rs):∃ s',Gq (.ref k) s=.ok (.lst (Rs.map LS)) s'∧s'.nx=s.nx∧∀ m,m < k→s'.get m=s.get m:=by
 obtain ⟨s',e1,e2,e3⟩:=uP Rs (k+1) (s.del k) fun i r hr=>by rw [uS (by omega)];exact T.el i r hr
 refine ⟨s',?_,e2,fun m hm=>(e3 m (by omega)).trans (uS (by omega))⟩
 have e0:frz1 (.ref k) s=.ok (.lst (rH (k+1) Rs.length)) (s.del k):=by simp only [frz1,T.told]
 unfold Gq
 rw [e0]
 simp only [e1]
theorem oZ {c:XT}{e:XE}{cap:En}{s:Sto}{α:Type} (A:α→PV) (p:α→Bool) (f:α→PV):∀ (l:List α),(∀ q∈l,c (some (A q)::cap) s=.ok (p q) s)→(∀ q∈l,p q=true→e (some (A q)::cap) s=.ok (f q) s)→lz c e cap (l.map A) s=.ok ((l.filter p).map f) s
 | [],_,_=>rfl
 | q::l,h1,h2=>by
  have ih:=oZ A p f l (fun x hx=>h1 x (ag _ hx)) (fun x hx=>h2 x (ag _ hx))
  rw [au,l5,h1 q am]
  cases hp:p q with
  | false=>simp [ih,hp]
  | true=>simp [ih,hp,h2 q am hp]
def lE (M:List (Str×Hl)) (hs:List Str) (w:Str):List Str:=(rnd M hs w hs.length []).flatten
theorem zq (h:Str):∀ Rs:List (List Str),(Rs.map fun r=>decide (h∈r)).any id=decide (h∈Rs.flatten)
 | []=>rfl
 | r::Rs=>by
  rw [au,eC,zq h Rs,bQ,bP]
  simp [aO]
theorem D6 (W:Wld t nb pp hs L M) (w:Str):∀ (k:Nat) (lot:List Str),Gr M w lot→lot.Nodup→(∀ n∈lot,n∈hs)→Gr M w (lot++(rnd M hs w k lot).flatten)∧(lot++(rnd M hs w k lot).flatten).Nodup∧∀ n∈lot++(rnd M hs w k lot).flatten,n∈hs
 | 0,lot,g,h1,h2=>by
  show Gr M w (lot++[])∧(lot++[]).Nodup∧∀ n∈lot++[],n∈hs
  rw [bO]
  exact ⟨g,h1,h2⟩
 | k+1,lot,g,h1,h2=>by
  by_cases e:kT M hs w lot=[]
  ·rw [sE e]
   show Gr M w (lot++[])∧(lot++[]).Nodup∧∀ n∈lot++[],n∈hs
   rw [bO]
   exact ⟨g,h1,h2⟩
  ·obtain ⟨a1,a2,a3⟩:=nX W w h1 h2
   rw [qu e,bQ,← bI]
   refine D6 W w k _ (.add g fun n hn=>?_) a1 a2
   have:=(bg.mp hn).2
   rw [bJ] at this
   exact this.2
theorem qZ (W:Wld t nb pp hs L M) (w:Str):Gr M w (lE M hs w)∧(lE M hs w).Nodup∧∀ n∈lE M hs w,n∈hs:=by
 have:=D6 W w hs.length [] .nil cT (fun n hn=>by cases hn)
 rw [bY] at this
 exact this
theorem Wld.ruled (W:Wld t nb pp hs L M) (hnb:nb < t.nx) (a:Adr) {w:Str} (hw:w∈pp++hs) (h:Str):∃ t',lQ a [.ref nb,.str h,.str w] t=.ok (.bl (decide (h∈lE M hs w))) t'∧(∀ m,m < t.nx→t'.get m=t.get m)∧t.nx < t'.nx:=by
 have e1:=W.rules hnb a hw
 have hR:=Ap W w hs.length [] cT (fun n hn=>by cases hn)
 have h8:=W.w.h8
 unfold lE
 generalize rnd M hs w hs.length []=Rs at *
 have hRl:Rs.length≤8:=by have:=hR.1;rw [a8] at this;omega
 have gg:∀ m,m < t.nx→(rul t Rs).get m=t.get m:=fun m hm=>xL hm Rs
 obtain ⟨s',f1,f2,f3⟩:=tj (vg t Rs)
 refine ⟨s',?_,fun m hm=>(f3 m hm).trans (gg m hm),by rw [f2];exact Ao t Rs⟩
 have c:=oZ (s:=s') (cap:=[some (.str h)]) (c:=qT) (e:=x2 (xVar 1) (xVar 0) fIn) LS (fun _=>true) (fun r=>PV.bl (decide (h∈r))) Rs (fun q hq=>rfl) (fun r hq _=>by
  have h1:=sL h r s'
  simp only [x2,xVar,Out.bind,ao,ap,h1])
 have e2:((Rs.filter fun _=>true).map fun r=>PV.bl (decide (h∈r)))=(Rs.map fun r=>decide (h∈r)).map PV.bl:=by
  rw [eg.mpr (fun _ _=>rfl),aS]
  rfl
 rw [e2] at c
 have d:lu (xIter (tO (xCall 2 (nv a) (xCons (xVar 0) (xCons (xVar 2) xNil))))) [1] qT (x2 (xVar 1) (xVar 0) fIn) [some (.ref nb),some (.str h),some (.str w)] t=.ok (.lst ((Rs.map fun r=>decide (h∈r)).map PV.bl)) s':=by
  refine mj (l:=Rs.map LS) (s1:=s') ?_ (by rw [aj];omega) c
  simp only [xIter,tO,xCall,xCons,xVar,xNil,Out.bind,ao,ap,aB,a8,if_true,e1,f1]
 refine mI ?_
 unfold uO
 refine nR ?_
 have d':lu (xIter (tO (xCall 2 (nv a) (xCons (xVar 0) (xCons (xVar 2) xNil))))) [1] qT (x2 (xVar 1) (xVar 0) fIn) ([PV.ref nb,.str h,.str w].map some++aV (3 - [PV.ref nb,.str h,.str w].length) none) t=_:=d
 simp only [xB,xCons,xNil,d',Out.bind,Gu,lsOf,oP,zq]
def vr (l:Hl) (U:List Str):Rat:=mO (((l.map (·.1)).filter fun n=>decide (n∈U)).map fun n=>rv (kB l n))
theorem EJ {c:Nat}{hl l:Hl} (h:HR c hl l) {U V:List Str} (hs:∀ n∈U,n∈V):vr l U≤vr l V:=by
 have nn:∀ n,0≤rv (kB l n):=fun n=>F8 (by rw [← h.q];exact (h.fr n).low.1) (by rw [← h.q];exact (h.fr n).nn)
 unfold vr
 generalize l.map (·.1)=ns
 induction ns with
 | nil=>exact Rat.le_refl
 | cons n ns ih =>
  have h0:=nn n
  rw [cQ,cQ]
  by_cases z:n∈U
  ·rw [if_pos (decide_eq_true z),if_pos (decide_eq_true (hs n z)),au,au]
   show _+_≤_+_
   grind
  ·rw [if_neg (by simpa using z)]
   by_cases y:n∈V
   ·rw [if_pos (decide_eq_true y),au]
    show _≤_+_
    grind
   ·rw [if_neg (by simpa using y)]
    exact ih
theorem GD (W:Wld t nb pp hs L M) {h:Str} (hh:h∈hs) (U:List Str):win M U h=true ↔ 1 < vr (lk M h) U+vr (lk M h) U:=by
 obtain ⟨e,_,R,_⟩:=pJ W.p (h:=h) (by rw [W.names];exact hh)
 have lw:∀ n,Low (kB (lk M h) n):=fun n=>by rw [← R.q];exact (R.fr n).low
 obtain ⟨a1,a2⟩:=oR (l:=(((lk M h).map (·.1)).filter fun n=>decide (n∈U)).map (kB (lk M h))) fun q hq=>by obtain ⟨n,_,rfl⟩:=ak.mp hq;exact lw n
 have:=y4 a1.1
 rw [a2,aS] at this
 exact this
theorem yC (W:Wld t nb pp hs L M) {h:Str} (hh:h∈hs) {U V:List Str} (hs':∀ n∈U,n∈V) (hU:win M U h=true):win M V h=true:=by
 obtain ⟨e,_,R,_⟩:=pJ W.p (h:=h) (by rw [W.names];exact hh)
 rw [GD W hh] at hU ⊢
 have:=EJ R hs'
 grind
theorem AI (W:Wld t nb pp hs L M) (w:Str):∀ (k:Nat) (lot:List Str),lot.Nodup→(∀ n∈lot,n∈hs)→hs.length≤lot.length+k→kT M hs w (lot++(rnd M hs w k lot).flatten)=[]
 | 0,lot,h1,h2,h3=>by
  obtain ⟨a1,a2,a3⟩:=nX W w h1 h2
  show kT M hs w (lot++[])=[]
  rw [bO]
  rw [aC] at a3
  exact iE (by omega)
 | k+1,lot,h1,h2,h3=>by
  by_cases e:kT M hs w lot=[]
  ·rw [sE e]
   show kT M hs w (lot++[])=[]
   rw [bO,e]
  ·obtain ⟨a1,a2,a3⟩:=nX W w h1 h2
   have hpos:0 < (kT M hs w lot).length:=fC.mpr e
   rw [qu e,bQ,← bI]
   exact AI W w k _ a1 a2 (by rw [aC];omega)
theorem Dt (W:Wld t nb pp hs L M) (w:Str) {n:Str} (hn:n∈hs) (hw:win M (w::lE M hs w) n=true):n∈lE M hs w:=by
 have:=AI W w hs.length [] cT (fun n hn=>by cases hn) (by simp)
 rw [bY] at this
 by_cases z:n∈lE M hs w
 ·exact z
 ·have h1:n∈kT M hs w (lE M hs w):=bg.mpr ⟨(kI hs).mem_iff.mpr hn,by rw [decide_eq_false z,hw];rfl⟩
  unfold lE at h1
  rw [this] at h1
  cases h1
theorem Dw (W:Wld t nb pp hs L M) {w:Str}{S:List Str} (hS:∀ n∈hs,win M (w::S) n=true→n∈S) {A:List Str} (hA:Gr M w A):(∀ n∈A,n∈hs)→∀ n∈A,n∈S:=by
 induction hA with
 | nil=>intro _ n hn;cases hn
 | @add V X gV hX ih =>
  intro h n hn
  have hV:=ih fun n hn=>h n (bH _ hn)
  rcases aO.mp hn with z | z
  ·exact hV n z
  ·refine hS n (h n hn) (yC W (h n hn) (U:=w::V) (fun y hy=>?_) (hX n z))
   rcases ai.mp hy with e | e
   ·exact ai.mpr (.inl e)
   ·exact ag _ (hV y e)
end
structure Kp (t s:Sto):Prop where
 g:∀ m,m < t.nx→s.get m=t.get m
 n:t.nx≤s.nx
theorem Kp.refl (t:Sto):Kp t t:=⟨fun _ _=>rfl,aA _⟩
theorem Kp.trans {t s r:Sto} (h:Kp t s) (k:Kp s r):Kp t r:=⟨fun m hm=>(k.g m (ay hm h.n)).trans (h.g m hm),aJ h.n k.n⟩
theorem qP {c:XT}{e:XE}{cap:En} (I:Sto→Prop) {α:Type} (A:α→PV) (p:α→Bool) (f:α→PV):∀ (l:List α),(∀ q∈l,∀ s,I s→∃ s',c (some (A q)::cap) s=.ok (p q) s'∧I s')→(∀ q∈l,p q=true→∀ s,I s→∃ s',e (some (A q)::cap) s=.ok (f q) s'∧I s')→∀ s,I s→∃ s',lz c e cap (l.map A) s=.ok ((l.filter p).map f) s'∧I s'
 | [],_,_,s,hs=>⟨s,rfl,hs⟩
 | q::l,h1,h2,s,hs=>by
  obtain ⟨s1,e1,i1⟩:=h1 q am s hs
  have ih:=qP I A p f l (fun x hx=>h1 x (ag _ hx)) (fun x hx=>h2 x (ag _ hx))
  rw [au,l5,e1]
  cases hp:p q with
  | false =>
   obtain ⟨s3,e3,i3⟩:=ih s1 i1
   exact ⟨s3,by simp [e3,hp],i3⟩
  | true =>
   obtain ⟨s2,e2,i2⟩:=h2 q am hp s1 i1
   obtain ⟨s3,e3,i3⟩:=ih s2 i2
   exact ⟨s3,by simp [e2,e3,hp],i3⟩
theorem Ch {t:XT}{A:XS}{ρ:En}{s s1:Sto} (h:t ρ s=.ok false s1):xIf t A xEnd ρ s=.nx ρ s1:=by unfold xIf;rw [h];rfl
section
variable {t:Sto}{nb:Nat}{pp hs:List Str}{L:List Ent}{M:List (Str×Hl)}
theorem AT (W:Wld t nb pp hs L M) (w:Str):(lE M hs w).length≤8:=by
 obtain ⟨_,h1,h2⟩:=qZ W w
 exact aJ (sV h1 (br.mp W.w.nd).2.1 h2) W.w.h8
theorem Wld.lof (W:Wld t nb pp hs L M) (hnb:nb < t.nx) (a:Adr) {w:Str} (hw:w∈pp++hs):∃ t',lp a [.ref nb,.str w] t=.ok (LS (lE M hs w)) t'∧(∀ m,m < t.nx→t'.get m=t.get m)∧t.nx≤t'.nx:=by
 have e1:=W.rules hnb a hw
 obtain ⟨_,h1,h2⟩:=qZ W w
 have hR:=Ap W w hs.length [] cT (fun n hn=>by cases hn)
 have h8:=W.w.h8
 have ndh:hs.Nodup:=(br.mp W.w.nd).2.1
 unfold lE at h1 h2 ⊢
 generalize rnd M hs w hs.length []=Rs at *
 have hlen:Rs.flatten.length≤8:=aJ (sV h1 ndh h2) h8
 have gg:∀ m,m < t.nx→(rul t Rs).get m=t.get m:=fun m hm=>xL hm Rs
 obtain ⟨s',f1,f2,f3⟩:=tj (vg t Rs)
 refine ⟨s',?_,fun m hm=>(f3 m hm).trans (gg m hm),by rw [f2];exact cF (Ao t Rs)⟩
 have pre:∀ k,(Rs.take k).flatten.length≤8:=fun k=>by
  have e:Rs.flatten=(Rs.take k).flatten++(Rs.drop k).flatten:=by rw [← jX,jA]
  rw [e,aC] at hlen
  omega
 obtain ⟨ρ',s2,hl,rfl,o3,rfl⟩:=ra (body:=kK (yName 3) (ql a)) (Rs.map LS)
  (fun k ρ s=>s'=s∧∃ o3,ρ=[some (.ref nb),some (.str w),some (LS (Rs.take k).flatten),o3])
  (fun k q ρ s hq hI=>by
   obtain ⟨rfl,o3,rfl⟩:=hI
   rw [bi] at hq
   cases hw:Rs[k]? with
   | none=>rw [hw] at hq;cases hq
   | some U =>
    rw [hw] at hq
    cases hq
    have et:(Rs.take (k+1)).flatten=(Rs.take k).flatten++U:=by rw [cZ,hw,jX];simp
    have hp:=pre (k+1)
    rw [et,aC] at hp
    refine ⟨_,_,?_,rfl,some (LS U),rfl⟩
    have hcat:(Rs.take k).flatten.length+U.length≤100000:=by omega
    rw [et]
    generalize (Rs.take k).flatten=V0 at *
    simp [sem,kP,ko,kO,kK,ql,hcat,LS]) (ρ:=[some (.ref nb),some (.str w),some (.lst []),none]) (s:=s') ⟨rfl,none,rfl⟩
 rw [aj,d7] at hl
 refine mI ?_
 unfold wQ
 rw [kG (ρ':=[some (.ref nb),some (.str w),some (.lst []),none]) (s':=t) (by simp [sem,kP,ko,kO])]
 rw [kG (oB (l:=Rs.map LS) (s1:=s') (by simp only [xIter,tO,xCall,xCons,xVar,xNil,Out.bind,ao,ap,aB,a8,if_true,e1,f1]) hl)]
 exact nR rfl
abbrev Stp:=Str×List Str
def zx (q:Stp):PV:=.tup [.str q.1,LS q.2]
abbrev StP (S:List Stp):PV:=.lst (S.map zx)
def tP (M:List (Str×Hl)) (hs known:List Str) (h:Str) (U:List Str):Bool:=decide (h∈hs) && unl U && (U.all fun v=>decide (v∈known)) && win M U h
def stB (M:List (Str×Hl)) (hs:List Str):List Str→List Stp→Bool
 | _,[]=>true
 | known,(h,U)::r=>tP M hs known h U && stB M hs (known++[h]) r
theorem Hu (n:Str) (U:List Str) {s:Sto}{k:Nat} (h:s.get k=some (.lst (U.map .str))):fIn (.str n) (.ref k) s=.ok (.bl (decide (n∈U))) s:=by
 simp [fIn,kP,dcOf,toV,lsOf,h,qG,Ck,vj]
theorem Wld.isStep (W:Wld t nb pp hs L M) (a:Adr) (h:Str) (U known:List Str) (hU:U.length < 4000) {k:Nat} (hk:t.get k=some (.lst (known.map .str))) :
  qS a [.ref nb,.ref k,.str h,LS U] t=.ok (.bl (tP M hs known h U)) t:=by
 have hun:=wm a t U hU
 have hih:la a [.ref nb,.str h] t=.ok (.bl (decide (h∈hs))) t:=by
  have:lW L h=decide (h∈hs):=by
   rw [bP,lS,W.n,decide_eq_true_iff]
  simp [la,lg,W.g,this]
 have c1:=m6 (s:=t) (cap:=[some (.ref k)]) (c:=qT) (e:=x2 (xVar 0) (xVar 1) fIn) (fun _=>true) (fun q=>match q with | .str n=>PV.bl (decide (n∈known)) | _=>.non) (U.map .str) (fun q hq=>rfl) (fun q hq _=>by
  obtain ⟨n,hn,rfl⟩:=ak.mp hq
  have:=Hu n known hk
  simp only [x2,xVar,Out.bind,ao,ap,this])
 have e1:(((U.map PV.str).filter fun _=>true).map fun q=>match q with | .str n=>PV.bl (decide (n∈known)) | _=>.non)=(U.map fun n=>decide (n∈known)).map PV.bl:=by
  rw [eg.mpr (fun _ _=>rfl),aS,aS]
  rfl
 rw [e1] at c1
 have d1:lu (xIter (xVar 3)) [1] qT (x2 (xVar 0) (xVar 1) fIn) [some (.ref nb),some (.ref k),some (.str h),some (LS U)] t=.ok (.lst ((U.map fun n=>decide (n∈known)).map PV.bl)) t:=mj (l:=U.map .str) (s1:=t) (by simp [sem,kP,ko,kO]) (by simp;omega) c1
 have ea:(U.all fun v=>decide (v∈known))=(U.map fun n=>decide (n∈known)).all id:=by rw [fE];rfl
 unfold tP
 rw [ea]
 generalize (U.map fun n=>decide (n∈known))=bs at *
 have hall:xB (xCons (lu (xIter (xVar 3)) [1] qT (x2 (xVar 0) (xVar 1) fIn)) xNil) fAll [some (.ref nb),some (.ref k),some (.str h),some (LS U)] t=.ok (.bl (bs.all id)) t:=by
  simp [sem,kP,ko,kO,d1,oP]
 refine mI ?_
 unfold wO
 by_cases z1:h∈hs
 ·have hov:=W.outv a z1 U
  by_cases z2:unl U=true
  ·rw [kG (ρ':=[some (.ref nb),some (.ref k),some (.str h),some (LS U)]) (s':=t) (by simp [sem,kP,ko,kO,W.g,hih,hun,z1,z2])]
   refine nR ?_
   by_cases z3:bs.all id=true
   ·rw [z3] at hall
    simp only [xAndV,hall,Out.bind]
    simp [sem,kP,ko,kO,hov,z1,z2,z3]
   ·rw [cz.mpr z3] at hall ⊢
    simp only [xAndV,hall,Out.bind]
    simp [sem,kP,ko,kO,z1,z2]
  ·rw [rS (v:=.bl false) (s':=t) (by simp [sem,kP,ko,kO,W.g,hih,hun,z1,z2])]
   simp [z2]
 ·rw [rS (v:=.bl false) (s':=t) (by simp [sem,kP,ko,kO,W.g,hih,z1])]
  simp [z1]
abbrev y45:XG:=yTup 2 (yCons (yName 4) (yCons (yName 5) yNil))
theorem wG {body:PV→XS}{q:PV}{l:List PV}{ρ ρ':En}{s s':Sto} (h:body q ρ s=.nx ρ' s'):li body (q::l) ρ s=li body l ρ' s':=by
 conv=>lhs;unfold li
 rw [h]
theorem Du {body:PV→XS}{q:PV}{l:List PV}{ρ:En}{s s':Sto}{v:PV} (h:body q ρ s=.rt v s'):li body (q::l) ρ s=.rt v s':=by
 unfold li
 rw [h]
theorem Wld.add (W:Wld t nb pp hs L M) (hnb:nb < t.nx) (c:Cell):Wld (t.add c) nb pp hs L M:=⟨W.w,W.p,W.n,by rw [nY,if_neg (by omega)];exact W.g⟩
theorem Wld.stepOk (W:Wld t nb pp hs L M) (hnb:nb < t.nx) (a:Adr) {h:Str}{U known:List Str} (hU:U.length < 4000) (hk:known.length < 100000) (o1 o2:Option PV) (z:tP M hs known h U=true) :
  kU a [some (.ref nb),o1,o2,some (.ref t.nx),some (.str h),some (LS U)] (t.add (.lst (known.map .str)))=.nx [some (.ref nb),o1,o2,some (.ref t.nx),some (.str h),some (LS U)] (t.add (.lst ((known++[h]).map .str))):=by
 have e:=(W.add hnb (.lst (known.map .str))).isStep a h U known hU (k:=t.nx) (by rw [nY,if_pos rfl])
 rw [z] at e
 unfold kU
 rw [kG (ρ':=[some (.ref nb),o1,o2,some (.ref t.nx),some (.str h),some (LS U)]) (s':=t.add (.lst (known.map .str))) (by simp [sem,kP,ko,kO,e])]
 simp [sem,kP,ko,kO,nY,ut,hk]
theorem Wld.stepNo (W:Wld t nb pp hs L M) (hnb:nb < t.nx) (a:Adr) {h:Str}{U known:List Str} (hU:U.length < 4000) (o1 o2:Option PV) (z:tP M hs known h U=false) :
  kU a [some (.ref nb),o1,o2,some (.ref t.nx),some (.str h),some (LS U)] (t.add (.lst (known.map .str)))=.rt (.bl false) (t.add (.lst (known.map .str))):=by
 have e:=(W.add hnb (.lst (known.map .str))).isStep a h U known hU (k:=t.nx) (by rw [nY,if_pos rfl])
 rw [z] at e
 unfold kU
 exact rS (by simp [sem,kP,ko,kO,e])
theorem Wld.stepsL (W:Wld t nb pp hs L M) (hnb:nb < t.nx) (a:Adr) (o1 o2:Option PV):∀ (S:List Stp) (known:List Str) (o4 o5:Option PV),(∀ q∈S,q.2.length < 4000)→known.length+S.length < 1000 →
  ∃ (kn:List Str) (o4' o5':Option PV),li (kK y45 (kU a)) (S.map zx) [some (.ref nb),o1,o2,some (.ref t.nx),o4,o5] (t.add (.lst (known.map .str))) =
   if stB M hs known S=true then .nx [some (.ref nb),o1,o2,some (.ref t.nx),o4',o5'] (t.add (.lst (kn.map .str))) else .rt (.bl false) (t.add (.lst (kn.map .str)))
 | [],known,o4,o5,_,_=>⟨known,o4,o5,by simp [stB,li]⟩
 | (h,U)::r,known,o4,o5,hS,hl=>by
  have hU:U.length < 4000:=hS (h,U) am
  rw [aB] at hl
  have eb:kK y45 (kU a) (zx (h,U)) [some (.ref nb),o1,o2,some (.ref t.nx),o4,o5] (t.add (.lst (known.map .str)))=kU a [some (.ref nb),o1,o2,some (.ref t.nx),some (.str h),some (LS U)] (t.add (.lst (known.map .str))):=rfl
  rw [au]
  unfold stB
  by_cases z:tP M hs known h U=true
  ·rw [wG (eb.trans (W.stepOk hnb a hU (by omega) o1 o2 z)),z,cP]
   exact W.stepsL hnb a o1 o2 r (known++[h]) _ _ (fun q hq=>hS q (ag _ hq)) (by rw [aC,dJ];omega)
  ·have z:=cz.mpr z
   rw [Du (eb.trans (W.stepNo hnb a hU o1 o2 z)),z]
   exact ⟨known,none,none,by simp⟩
theorem Wld.areSteps (W:Wld t nb pp hs L M) (hnb:nb < t.nx) (a:Adr) {w:Str} (hw:w∈pp++hs) (S:List Stp) (hS:∀ q∈S,q.2.length < 4000) (hl:S.length < 500) :
  ∃ kn:List Str,ol a [.ref nb,.str w,StP S] t=.ok (.bl (stB M hs [w] S)) (t.add (.lst (kn.map .str))):=by
 have hne:kJ a [.ref nb,.str w] t=.ok .non t:=by
  have h1:(lY pp w || lW L w)=true:=by
   rw [dH,oW,lS,W.n]
   exact aO.mp hw
  simp [kJ,lg,W.g,(W.w.sm _ hw).nm]
  intro z
  rw [z,gb] at h1
  exact h1
 obtain ⟨kn,o4,o5,lo⟩:=W.stepsL hnb a (some (.str w)) (some (StP S)) S [w] none none hS (by simp;omega)
 refine ⟨kn,mI ?_⟩
 unfold tI
 rw [kG (ρ':=[some (.ref nb),some (.str w),some (StP S),none,none,none]) (s':=t) (by simp [sem,kP,ko,kO,W.g,hne])]
 rw [kG (ρ':=[some (.ref nb),some (.str w),some (StP S),some (.ref t.nx),none,none]) (s':=t.add (.lst [.str w])) (by simp [sem,kP,ko,kO])]
 by_cases z:stB M hs [w] S=true
 ·rw [if_pos z] at lo
  rw [kG (oB (l:=S.map zx) (s1:=t.add (.lst [.str w])) (by simp [sem,kP,ko,kO]) lo),z]
  exact nR rfl
 ·rw [if_neg z] at lo
  rw [cz.mpr z]
  refine rS ?_
  unfold xFor
  have ei:xIter (xVar 2) [some (.ref nb),some (.str w),some (StP S),some (.ref t.nx),none,none] (t.add (.lst [.str w]))=.ok (S.map zx) (t.add (.lst [.str w])):=by simp [sem,kP,ko,kO]
  rw [ei]
  simp only [Out.so]
  have lo':li (kK y45 (kU a)) (S.map zx) [some (.ref nb),some (.str w),some (StP S),some (.ref t.nx),none,none] (t.add (.lst [.str w]))=_:=lo
  rw [lo']
  rfl
theorem Hz {fi:XA}{y:XG}{body:XS}{ρ:En}{s s1 s':Sto}{l:List PV}{v:PV} (h1:fi ρ s=.ok l s1) (h2:li (kK y body) l ρ s1=.rt v s'):xFor fi y body ρ s=.rt v s':=by
 unfold xFor
 rw [h1]
 simp only [Out.so]
 rw [h2]
 rfl
theorem ne_str (s:Sto) {x:Str} (h:cL x=true):fNe (.str x) (.str x) s=.ok (.bl false) s:=by
 have e:PV.data s 12 (.str x)=some (.str x):=by unfold PV.data;rw [if_pos h]
 unfold fNe fEqN
 rw [e]
 unfold du
 simp
theorem Hm (s:Sto):fNe .non .non s=.ok (.bl false) s:=by
 have e:PV.data s 12 .non=some .none:=rfl
 unfold fNe fEqN
 rw [e]
 unfold du
 simp
theorem wT (p:Str→Bool):∀ l:List Str,(l.filter p)[0]?=l.find? p
 | []=>rfl
 | x::l=>by
  rw [cQ,bA]
  cases h:p x with
  | true=>simp
  | false=>simp [wT p l]
def x5:Option Str→PV
 | some p=>.str p
 | none=>.non
theorem HW (p:Str→Bool) (l:List Str):atI (((l.filter p).map PV.str)++[.non]) 0=some (x5 (l.find? p)):=by
 have:((((l.filter p).map PV.str)++[.non]))[0]?=some (x5 (l.find? p)):=by
  rw [← wT]
  cases l.filter p with
  | nil=>rfl
  | cons x r=>rfl
 exact kZ this
theorem Wld.kp (W:Wld t nb pp hs L M) (hnb:nb < t.nx) {s:Sto} (K:Kp t s):Wld s nb pp hs L M:=⟨W.w,W.p,W.n,(K.g nb hnb).trans W.g⟩
theorem Wld.ruledK (W:Wld t nb pp hs L M) (hnb:nb < t.nx) (a:Adr) {w:Str} (hw:w∈pp++hs) (h:Str) {s:Sto} (K:Kp t s):∃ s',lQ a [.ref nb,.str h,.str w] s=.ok (.bl (decide (h∈lE M hs w))) s'∧Kp t s':=by
 obtain ⟨s',e1,e2,e3⟩:=(W.kp hnb K).ruled (ay hnb K.n) a hw h
 exact ⟨s',e1,K.trans ⟨e2,cF e3⟩⟩
theorem Wld.lofK (W:Wld t nb pp hs L M) (hnb:nb < t.nx) (a:Adr) {w:Str} (hw:w∈pp++hs) {s:Sto} (K:Kp t s):∃ s',lp a [.ref nb,.str w] s=.ok (LS (lE M hs w)) s'∧Kp t s':=by
 obtain ⟨s',e1,e2,e3⟩:=(W.kp hnb K).lof (ay hnb K.n) a hw
 exact ⟨s',e1,K.trans ⟨e2,e3⟩⟩
theorem uw (W:Wld t nb pp hs L M) (hnb:nb < t.nx) (a:Adr) (h:Str):∀ (ps:List Str) (o2:Option PV) (s:Sto),(∀ p∈ps,p∈pp)→Kp t s→∃ s',Kp t s' ∧
  ((∃ p,ps.find? (fun p=>decide (h∈lE M hs p))=some p∧li (kK (yName 2) (lU a)) (ps.map .str) [some (.ref nb),some (.str h),o2] s=.rt (.str p) s') ∨
    (∃ o2',ps.find? (fun p=>decide (h∈lE M hs p))=none∧li (kK (yName 2) (lU a)) (ps.map .str) [some (.ref nb),some (.str h),o2] s=.nx [some (.ref nb),some (.str h),o2'] s'))
 | [],o2,s,_,S=>⟨s,S,.inr ⟨o2,rfl,rfl⟩⟩
 | p::ps,o2,s,hp,S=>by
  obtain ⟨s1,e1,S1⟩:=W.ruledK hnb a (bH _ (hp p am)) h S
  have hb:kK (yName 2) (lU a) (.str p) [some (.ref nb),some (.str h),o2] s=lU a [some (.ref nb),some (.str h),some (.str p)] s:=rfl
  rw [au,bA]
  unfold li
  rw [hb]
  by_cases z:h∈lE M hs p
  ·refine ⟨s1,S1,.inl ⟨p,by rw [decide_eq_true z],?_⟩⟩
   rw [decide_eq_true z] at e1
   have:lU a [some (.ref nb),some (.str h),some (.str p)] s=.rt (.str p) s1:=by
    unfold lU
    simp only [xIf,xTr,xCall,xCons,xVar,xNil,Out.bind,Out.so,ao,ap,aB,a8,if_true,e1,xRet]
   rw [this]
  ·rw [decide_eq_false z] at e1
   have:lU a [some (.ref nb),some (.str h),some (.str p)] s=.nx [some (.ref nb),some (.str h),some (.str p)] s1:=by
    unfold lU
    simp only [xIf,xTr,xCall,xCons,xVar,xNil,Out.bind,Out.so,ao,ap,aB,a8,if_true,e1,ke,if_false,xEnd]
   rw [this,decide_eq_false z]
   exact uw W hnb a h ps (some (.str p)) s1 (fun q hq=>hp q (ag _ hq)) S1
theorem Wld.rulerK (W:Wld t nb pp hs L M) (hnb:nb < t.nx) (a:Adr) {h:Str} (hh:h∈hs) {s:Sto} (S:Kp t s):∃ s',vb a [.ref nb,.str h] s=.ok (x5 ((srt pp).find? fun p=>decide (h∈lE M hs p))) s'∧Kp t s':=by
 have Ws:=W.kp hnb S
 have hsm:=(W.w.sm h (aI _ hh)).nm
 have hne:mG a [.ref nb,.str h] s=.ok .non s:=by
  have h1:lW L h=true:=by rw [lS,W.n];exact hh
  simp [mG,lg,Ws.g,hsm,h1]
 have hpe:nT a [.ref nb] s=.ok (.lst ((srt pp).map .str)) s:=by simp [nT,lg,Ws.g]
 obtain ⟨s',S',hl⟩:=uw W hnb a h (srt pp) none s (fun p hp=>(kI pp).mem_iff.mp hp) S
 refine ⟨s',mI ?_,S'⟩
 unfold AY
 rw [kG (ρ':=[some (.ref nb),some (.str h),none]) (s':=s) (by simp [sem,kP,ko,kO,hne,Ws.g])]
 have hit:xIter (xBM 1 (nT a) (xVar 0) xNil) [some (.ref nb),some (.str h),none] s=.ok ((srt pp).map .str) s:=by simp [sem,kP,ko,kO,Ws.g,hpe]
 rcases hl with ⟨p,e1,e2⟩ | ⟨o2',e1,e2⟩
 ·rw [e1]
  exact rS (Hz hit e2)
 ·rw [e1,kG (oB hit e2)]
  exact nR rfl
def Ex (M:List (Str×Hl)) (hs:List Str):List Str:=(srt hs).filter fun h=>decide (h∈lE M hs h)
theorem Wld.selfK (W:Wld t nb pp hs L M) (hnb:nb < t.nx) (a:Adr) {s:Sto} (S:Kp t s):∃ s',nH a [.ref nb] s=.ok (LS (Ex M hs)) s'∧Kp t s':=by
 have Ws:=W.kp hnb S
 have hho:mM a [.ref nb] s=.ok (.lst ((srt hs).map .str)) s:=by simp [mM,lg,Ws.g,W.n]
 have hlen:(srt hs).length≤100000:=by rw [kE];have:=W.w.h8;omega
 obtain ⟨s',e1,S'⟩:=qP (c:=xTr (xCall 3 (lQ a) (xCons (xVar 1) (xCons (xVar 0) (xCons (xVar 0) xNil))))) (e:=xVar 0) (cap:=[some (.ref nb)]) (Kp t) PV.str (fun h=>decide (h∈lE M hs h)) PV.str (srt hs) (fun h hh s S=>by
   obtain ⟨s',e1,S'⟩:=W.ruledK hnb a (aI pp ((kI hs).mem_iff.mp hh)) h S
   exact ⟨s',by simp only [xTr,xCall,xCons,xVar,xNil,Out.bind,ao,ap,aB,a8,if_true,e1],S'⟩) (fun q hq _ s S=>⟨s,rfl,S⟩) s S
 refine ⟨s',mI ?_,S'⟩
 unfold rK
 exact nR (mj (l:=(srt hs).map .str) (s1:=s) (by simp [sem,kP,ko,kO,Ws.g,hho]) (by rw [aj];exact hlen) e1)
theorem Wld.one_due (W:Wld t nb pp hs L M) (h:Str):((srt pp).filter fun p=>decide (h∈lE M hs p)).length≤1:=by
 have nd:((srt pp).filter fun p=>decide (h∈lE M hs p)).Nodup:=((kI pp).nodup_iff.mpr (br.mp W.w.nd).1).filter _
 have key:∀ p∈((srt pp).filter fun p=>decide (h∈lE M hs p)),p∈pp∧h∈lE M hs p:=fun p hp=>by
  obtain ⟨h1,h2⟩:=bg.mp hp
  exact ⟨(kI pp).mem_iff.mp h1,of_decide_eq_true h2⟩
 generalize ((srt pp).filter fun p=>decide (h∈lE M hs p))=l at *
 match l,nd,key with
 | [],_,_=>exact bD _
 | [_],_,_=>exact aA _
 | p::q::r,nd,key =>
  exfalso
  obtain ⟨p1,p2⟩:=key p am
  obtain ⟨q1,q2⟩:=key q (ag _ am)
  have hpq:p≠q:=fun e=>(aN.mp nd).1 (by rw [e];exact am)
  have no:∀ x∈pp,x∉hs:=fun x hx z=>(br.mp W.w.nd).2.2 x hx x z rfl
  obtain ⟨gp,_,hp⟩:=qZ W p
  obtain ⟨gq,_,hq⟩:=qZ W q
  exact Gr.apart W hpq (no p p1) (no q q1) gp hp _ gq hq h (ag _ p2) (ag _ q2)
theorem BE (W:Wld t nb pp hs L M) (w:Str):rY M hs w (lE M hs w)=true:=by
 obtain ⟨_,h1,h2⟩:=qZ W w
 unfold rY
 rw [(AC _).mpr h1,cP,bJ,cn,cn]
 refine ⟨fun n hn=>decide_eq_true (h2 n hn),fun n hn=>decide_eq_true ?_⟩
 obtain ⟨a1,a2⟩:=bg.mp hn
 exact Dt W w ((kI hs).mem_iff.mp a1) a2
theorem yx (W:Wld t nb pp hs L M) (w:Str) {U:List Str} (hU:rY M hs w U=true):∀ n∈lE M hs w,n∈U:=by
 obtain ⟨g,_,s⟩:=qZ W w
 refine Dw W (fun n hn hw=>?_) g s
 unfold rY at hU
 rw [bJ,cn] at hU
 exact of_decide_eq_true (hU.2 n (bg.mpr ⟨(kI hs).mem_iff.mpr hn,hw⟩))
def m9 (U:List Str):List Str:=((cy U.length).filter fun k=>!again U k).map fun k=>U.getD k (aD "")
theorem fst1_mem {U:List Str}{x:Str}:x∈m9 U ↔ x∈U:=by
 unfold m9
 rw [ak]
 constructor
 ·rintro ⟨k,hk,rfl⟩
  have hk:=ce.mp (bg.mp hk).1
  have e1:U.getD k (aD "")=U[k]:=by simp [hk]
  rw [e1]
  exact cm hk
 ·intro hx
  have hlt:U.findIdx (fun z=>decide (z=x)) < U.length:=List.findIdx_lt_length_of_exists ⟨x,hx,decide_eq_true rfl⟩
  have he:U[U.findIdx fun z=>decide (z=x)]=x:=of_decide_eq_true (List.findIdx_getElem (w:=hlt))
  generalize hi:U.findIdx (fun z=>decide (z=x))=i at *
  have e1:U.getD i (aD "")=x:=by simp [hlt,he]
  refine ⟨i,bg.mpr ⟨ce.mpr hlt,?_⟩,e1⟩
  unfold again
  rw [e1,decide_eq_false]
  ·rfl
  ·intro z
   obtain ⟨j,hj⟩:=jI z
   rw [j8] at hj
   by_cases ji:j < i
   ·rw [if_pos ji,bh (by omega)] at hj
    have:=List.not_of_lt_findIdx (p:=fun z=>decide (z=x)) (xs:=U) (i:=j) (by rw [hi];exact ji)
    exact absurd (decide_eq_true (aZ hj)) (by simpa using this)
   ·rw [if_neg ji] at hj;cases hj
theorem Aa (U:List Str):(m9 U).Nodup:=by
 unfold m9
 rw [fM,List.pairwise_map]
 have nd:((cy U.length).filter fun k=>!again U k).Nodup:=List.nodup_range.filter _
 rw [fM] at nd
 refine List.Pairwise.imp_of_mem (fun {i j} hi hj ne e=>?_) nd
 obtain ⟨i1,i2⟩:=bg.mp hi
 obtain ⟨j1,j2⟩:=bg.mp hj
 have i1:=ce.mp i1
 have j1:=ce.mp j1
 have ei:U.getD i (aD "")=U[i]:=by simp [i1]
 have ej:U.getD j (aD "")=U[j]:=by simp [j1]
 have key:∀ {a b:Nat} (ha:a < U.length) (hb:b < U.length),a < b→U[a]=U[b]→(!again U b)=true→False:=fun {a b} ha hb ab e z=>by
  unfold again at z
  rw [decide_eq_true (by
   have eb:U.getD b (aD "")=U[b]:=by simp [hb]
   rw [eb,← e]
   exact List.mem_iff_getElem?.mpr ⟨a,by rw [j8,if_pos ab,bh ha]⟩)] at z
  cases z
 rw [ei,ej] at e
 rcases Nat.lt_trichotomy i j with h | h | h
 ·exact key i1 j1 h e j2
 ·exact ne h
 ·exact key j1 i1 h e.symm i2
def xF (w:Str):List Str→List (List Str)→List Stp
 | _,[]=>[]
 | lot,r::R=>(r.map fun h=>(h,m9 (w::lot)))++xF w (lot++r) R
theorem AG (M:List (Str×Hl)) (hs:List Str):∀ (S T:List Stp) (kn:List Str),stB M hs kn (S++T)=(stB M hs kn S && stB M hs (kn++S.map (·.1)) T)
 | [],T,kn=>by simp [stB]
 | (h,U)::S,T,kn=>by
  show (tP M hs kn h U && stB M hs (kn++[h]) (S++T))=((tP M hs kn h U && stB M hs (kn++[h]) S) && stB M hs (kn++(h::S.map (·.1))) T)
  rw [AG M hs S T (kn++[h]),Bool.and_assoc,bI]
  rfl
theorem yJ (W:Wld t nb pp hs L M) {w:Str}{lot:List Str}:∀ (r:List Str) (kn:List Str),(∀ n∈w::lot,n∈kn)→(∀ h∈r,h∈hs∧win M (w::lot) h=true)→stB M hs kn (r.map fun h=>(h,m9 (w::lot)))=true
 | [],kn,_,_=>rfl
 | h::r,kn,hk,hr=>by
  obtain ⟨h1,h2⟩:=hr h am
  rw [au]
  unfold stB tP
  rw [decide_eq_true h1,(AC _).mpr (Aa _),yC W h1 (fun n hn=>fst1_mem.mpr hn) h2,yJ W r (kn++[h]) (fun n hn=>bH _ (hk n hn)) (fun x hx=>hr x (ag _ hx))]
  have:((m9 (w::lot)).all fun v=>decide (v∈kn))=true:=by
   rw [cn]
   exact fun v hv=>decide_eq_true (hk v (fst1_mem.mp hv))
  rw [this]
  rfl
theorem AF (W:Wld t nb pp hs L M) (w:Str):∀ (k:Nat) (lot:List Str),lot.Nodup→(∀ n∈lot,n∈hs)→stB M hs (w::lot) (xF w lot (rnd M hs w k lot))=true
 | 0,lot,_,_=>rfl
 | k+1,lot,h1,h2=>by
  by_cases e:kT M hs w lot=[]
  ·rw [sE e];rfl
  ·obtain ⟨a1,a2,a3⟩:=nX W w h1 h2
   rw [qu e]
   unfold xF
   have em:((kT M hs w lot).map fun h=>(h,m9 (w::lot))).map (fun q:Stp=>q.1)=kT M hs w lot:=by rw [aS];exact ft _
   rw [AG,yJ W _ _ (fun n hn=>hn) (fun h hh=>⟨a2 h (aI _ hh),by
    have:=(bg.mp hh).2
    rw [bJ] at this
    exact this.2⟩),em,cP,ci]
   exact AF W w k _ a1 a2
theorem Al {f:XE}{i:Nat}{ρ:En}{s s':Sto}{v:PV} (h:f ρ s=.ok v s'):xSet i f ρ s=.nx (ρ.set i (some v)) s':=by
 unfold xSet
 rw [h]
 rfl
theorem BU (U:List Str) (t':Sto) (hU:U.length < 4000) {ρ:En} (h2:ρ[2]?=some (some (LS U))):lu (xRng1 (xCons (xB (xCons (xVar 2) xNil) fLen) xNil)) [2] (xTr (x2 (x2 (xVar 1) (xVar 0) fIx) (xSl (xVar 1) xNoP (xPart (xVar 0))) mV)) (x2 (xVar 1) (xVar 0) fIx) ρ t'=.ok (LS (m9 U)) t':=by
 have ix:∀ {j:Nat} (hj:j < U.length),fIx (LS U) (.int (j:Int)) t'=.ok (.str U[j]) t':=fun {j} hj=>by
  have:atI (U.map PV.str) (j:Int)=some (.str U[j]):=kZ (by simp [hj])
  unfold fIx
  simp only [lsOf,this]
 have c:=oZ (s:=t') (cap:=[some (LS U)]) (c:=xTr (x2 (x2 (xVar 1) (xVar 0) fIx) (xSl (xVar 1) xNoP (xPart (xVar 0))) mV)) (e:=x2 (xVar 1) (xVar 0) fIx) (fun k:Nat=>PV.int (0+(k:Int))) (fun k=>!again U k) (fun k=>.str (U.getD k (aD ""))) (cy U.length) (fun k hk=>by
  have hk:=ce.mp hk
  have h3:rQ (U.map PV.str) none (some (k:Int))=(U.take k).map PV.str:=by rw [vk _ _ (by simp;omega),eB]
  have h4:=rA U[k] (U.take k) t'
  have h5:again U k=decide (U[k]∈U.take k):=by unfold again;congr 1;simp [hk]
  have h0:(0:Int)+(k:Int)=(k:Int):=by omega
  rw [h0,h5]
  have sl:xSl (xVar 1) xNoP (xPart (xVar 0)) [some (.int (k:Int)),some (LS U)] t'=.ok (LS (U.take k)) t':=by
   simp [sem,kP,ko,kO,h3,LS,-eB]
  simp only [xTr,x2,xVar,Out.bind,ao,ap,ix hk,sl,h4]) (fun k hk _=>by
  have hk:=ce.mp hk
  have h0:(0:Int)+(k:Int)=(k:Int):=by omega
  have e1:U.getD k (aD "")=U[k]:=by simp [hk]
  rw [h0,e1]
  simp only [x2,xVar,Out.bind,ao,ap,ix hk])
 have ec:lh [2] ρ=[some (LS U)]:=by simp [lh,h2]
 have el:LS (m9 U)=.lst (((cy U.length).filter fun k=>!again U k).map fun k=>PV.str (U.getD k (aD ""))):=by
  unfold m9
  show PV.lst _=_
  rw [aS]
  rfl
 rw [el]
 refine mj (l:=qt 0 U.length) (s1:=t') (ux (n:=U.length) (by
  have:fLen [LS U] t'=.ok (.int U.length) t':=by simp [fLen,lsOf,LS]
  simp only [xCons,xB,xNil,xVar,h2,Out.bind,this]) (by omega)) (by rw [qr];omega) ?_
 rw [ec]
 exact c
theorem DJ (ws:List PV) (k:Nat):rQ ws (some (k:Int)) none=ws.drop k:=by
 unfold rQ
 have h0:¬ ((k:Int) < 0):=by omega
 simp [HT.sIx,h0]
 by_cases h:k≤ws.length
 ·have:min k ws.length=k:=by omega
  rw [this,jq (by simp)]
 ·have:min k ws.length=ws.length:=by omega
  rw [this,dD (by omega),dD (by omega),List.take_nil]
theorem zC (a:Adr) (o0 o1:Option PV) (kn:List Str) (S:List Stp) (r:List Str) (hk:kn.length < 100) (hS:S.length+r.length < 100) (hr:r.length < 100) (o5:Option PV) (t':Sto) :
  nO a [o0,o1,some (LS kn),some (StP S),some (LS r),o5] t'=.nx [o0,o1,some (LS (kn++r)),some (StP (S++r.map fun h=>(h,m9 kn))),some (LS r),some (LS (m9 kn))] t':=by
 have h1:=BU kn t' (by omega) (ρ:=[o0,o1,some (LS kn),some (StP S),some (LS r),o5]) rfl
 have c:=oZ (s:=t') (cap:=[some (LS (m9 kn))]) (c:=qT) (e:=xTup (xCons (xVar 0) (xCons (xB (xCons (xVar 1) xNil) fList) xNil))) PV.str (fun _=>true) (fun h=>zx (h,m9 kn)) r (fun _ _=>rfl) (fun h _ _=>by
  have hl:fList [LS (m9 kn)] t'=.ok (LS (m9 kn)) t':=by
   have:(m9 kn).length≤100000:=by
    unfold m9
    rw [aj]
    refine aJ (ca _ _) ?_
    rw [eS];omega
   simp [fList,lsOf,LS,this]
  simp only [xTup,xCons,xNil,xVar,xB,Out.bind,ao,ap,hl,aB,a8,show (0+1+1:Nat)≤100000 by decide,if_true]
  rfl)
 have ef:((r.filter fun _=>true).map fun h=>zx (h,m9 kn))=(r.map fun h=>(h,m9 kn)).map zx:=by rw [eg.mpr (fun _ _=>rfl),aS];rfl
 rw [ef] at c
 have d:lu (xIter (xVar 4)) [5] qT (xTup (xCons (xVar 0) (xCons (xB (xCons (xVar 1) xNil) fList) xNil))) [o0,o1,some (LS kn),some (StP S),some (LS r),some (LS (m9 kn))] t'=.ok (StP (r.map fun h=>(h,m9 kn))) t':=mj (l:=r.map .str) (s1:=t') rfl (by rw [aj];omega) c
 have a1:fAdd (StP S) (StP (r.map fun h=>(h,m9 kn))) t'=.ok (StP (S++r.map fun h=>(h,m9 kn))) t':=by
  have:S.length+r.length≤100000:=by omega
  simp [fAdd,lsOf,StP,this]
 have a2:fAdd (LS kn) (LS r) t'=.ok (LS (kn++r)) t':=by
  have:kn.length+r.length≤100000:=by omega
  simp [fAdd,lsOf,LS,this]
 unfold nO
 rw [kG (Al h1)]
 simp only [gZ,gY]
 rw [kG (ρ':=[o0,o1,some (LS kn),some (StP (S++r.map fun h=>(h,m9 kn))),some (LS r),some (LS (m9 kn))]) (s':=t') (by simp only [xSet,x2,xVar,d,Out.bind,Out.so,ao,ap,a1];rfl)]
 simp only [xSet,x2,xVar,Out.bind,Out.so,ao,ap,a2]
 rfl
theorem zD {u:XS} (o0 o1:Option PV) (w:Str) (t':Sto) (hu:∀ (kn:List Str) (S:List Stp) (r:List Str) (o5:Option PV),kn.length < 100→S.length+r.length < 100→r.length < 100→u [o0,o1,some (LS kn),some (StP S),some (LS r),o5] t'=.nx [o0,o1,some (LS (kn++r)),some (StP (S++r.map fun h=>(h,m9 kn))),some (LS r),some (LS (m9 kn))] t') (R:List (List Str)):∀ (lot:List Str) (S:List Stp) (o4 o5:Option PV),lot.length+R.flatten.length≤8→S.length+R.flatten.length≤8 →
  ∃ o4' o5',li (kK (yName 4) u) (R.map LS) [o0,o1,some (LS (w::lot)),some (StP S),o4,o5] t'=.nx [o0,o1,some (LS (w::(lot++R.flatten))),some (StP (S++xF w lot R)),o4',o5'] t':=by
 induction R with
 | nil=>intro lot S o4 o5 _ _;exact ⟨o4,o5,by simp [li,xF]⟩
 | cons r R ih =>
  intro lot S o4 o5 h1 h2
  rw [bQ,aC] at h1 h2
  have st:=hu (w::lot) S r o5 (by rw [aB];omega) (by omega) (by omega)
  obtain ⟨o4',o5',ih⟩:=ih (lot++r) (S++r.map fun h=>(h,m9 (w::lot))) (some (LS r)) (some (LS (m9 (w::lot)))) (by rw [aC];omega) (by rw [aC,aj];omega)
  refine ⟨o4',o5',?_⟩
  have hb:kK (yName 4) u (LS r) [o0,o1,some (LS (w::lot)),some (StP S),o4,o5] t'=u [o0,o1,some (LS (w::lot)),some (StP S),some (LS r),o5] t':=rfl
  rw [au,wG (hb.trans st),ci,ih]
  simp only [bQ,xF,bI]
theorem is_tt (s:Sto):FE (.bl true) (.bl true) s=.ok (.bl true) s:=rfl
theorem AE (w:Str):∀ (R:List (List Str)) (lot:List Str),lot.length+R.flatten.length≤8→(xF w lot R).length=R.flatten.length∧∀ q∈xF w lot R,q.2.length < 4000
 | [],lot,_=>⟨rfl,fun q hq=>by cases hq⟩
 | r::R,lot,h=>by
  rw [bQ,aC] at h
  obtain ⟨a1,a2⟩:=AE w R (lot++r) (by rw [aC];omega)
  unfold xF
  refine ⟨by rw [aC,aj,a1,bQ,aC],fun q hq=>?_⟩
  rcases aO.mp hq with z | z
  ·obtain ⟨x,_,rfl⟩:=ak.mp z
   show (m9 (w::lot)).length < 4000
   unfold m9
   rw [aj]
   refine bc (ca _ _) ?_
   rw [eS,aB];omega
  ·exact a2 q z
theorem Wld.shown (W:Wld t nb pp hs L M) (hnb:nb < t.nx) (a:Adr) {w:Str} (hw:w∈pp++hs):∃ s',nI a [.ref nb,.str w] t=.ok (.bl true) s'∧Kp t s':=by
 have e1:=W.rules hnb a hw
 have h8:=AT W w
 have sh:=BE W w
 have stR:=AF W w hs.length [] cT (fun n hn=>by cases hn)
 unfold lE at h8 sh
 generalize rnd M hs w hs.length []=Rs at *
 have gg:∀ m,m < t.nx→(rul t Rs).get m=t.get m:=fun m hm=>xL hm Rs
 obtain ⟨s',f1,f2,f3⟩:=tj (vg t Rs)
 have k1:Kp t s':=⟨fun m hm=>(f3 m hm).trans (gg m hm),by rw [f2];exact cF (Ao t Rs)⟩
 obtain ⟨o4,o5,lo⟩:=zD (some (.ref nb)) (some (.str w)) w s' (fun kn S r o5 z1 z2 z3=>zC a _ _ kn S r z1 z2 z3 o5 s') Rs [] [] none none (by simpa using h8) (by simpa using h8)
 rw [bY,bY] at lo
 obtain ⟨l1,l2⟩:=AE w Rs [] (by simpa using h8)
 have W1:=W.kp hnb k1
 have n1:=ay hnb k1.n
 obtain ⟨kn,e2⟩:=W1.areSteps n1 a hw (xF w [] Rs) l2 (by omega)
 rw [stR] at e2
 have W2:=W1.add n1 (.lst (kn.map .str))
 have e3:=W2.shut a hw Rs.flatten (by omega)
 rw [sh] at e3
 refine ⟨s'.add (.lst (kn.map .str)),mI ?_,k1.trans ⟨fun m hm=>by rw [nY,if_neg (by omega)],eL _⟩⟩
 unfold rN
 rw [kG (ρ':=[some (.ref nb),some (.str w),some (LS [w]),none,none,none]) (s':=t) (by simp [sem,kP,ko,kO])]
 rw [kG (ρ':=[some (.ref nb),some (.str w),some (LS [w]),some (StP []),none,none]) (s':=t) (by simp [sem,kP,ko,kO])]
 rw [kG (oB (l:=Rs.map LS) (s1:=s') (by simp only [xIter,tO,xCall,xCons,xVar,xNil,Out.bind,ao,ap,aB,a8,if_true,e1,f1]) lo)]
 refine nR ?_
 have cu:xSl (xVar 2) (xPart (xC (.int 1))) xNoP [some (.ref nb),some (.str w),some (LS (w::Rs.flatten)),some (StP (xF w [] Rs)),o4,o5] (s'.add (.lst (kn.map .str)))=.ok (LS Rs.flatten) (s'.add (.lst (kn.map .str))):=by
  have hc:rQ ((w::Rs.flatten).map PV.str) (some ((1:Nat):Int)) none=Rs.flatten.map PV.str:=by
   rw [DJ,au]
   rfl
  generalize Rs.flatten=F at *
  have hc':rQ (PV.str w::F.map PV.str) (some 1) none=F.map PV.str:=hc
  simp [sem,kP,ko,kO,hc']
 have i1:=is_tt (s'.add (.lst (kn.map .str)))
 simp only [xAndV,x2,xCall,xCons,xVar,xNil,xC,Out.bind,ao,ap,aB,a8,if_true,e2,i1,cu,e3]
theorem Fv (s:Sto) (p n:Nat) (pp:List Str) (L:List Ent) (x y:Int):(kst s p n pp L x y).get (s.nx+1)=some (.book pp L):=by
 show ly ((s.nx+1,Cell.book pp L)::_) _=_
 rw [kX,if_pos rfl]
theorem CW {u:XS}{i:Nat} (n:Nat) (I:Nat→En→Sto→Prop) (h:∀ (k:Nat) ρ s,k < n→I k ρ s→∃ ρ1 ρ' s',yName i (.int (k:Int)) ρ s=some ρ1∧u ρ1 s=.nx ρ' s'∧I (k+1) ρ' s') {ρ:En}{s:Sto} (h0:I 0 ρ s):∃ ρ' s',li (kK (yName i) u) (qt 0 n) ρ s=.nx ρ' s'∧I n ρ' s' :=
 qy n I (fun k ρ s hk hI=>by
  obtain ⟨ρ1,ρ',s',e1,e2,e3⟩:=h k ρ s hk hI
  refine ⟨ρ',s',?_,e3⟩
  unfold kK
  rw [e1]
  exact e2) h0
theorem Ad (s:Sto) (A B:List Str):lz (xTr (x2 (xVar 0) (xVar 1) mV)) (xVar 0) [some (LS B)] (A.map .str) s=.ok ((A.filter fun n=>!decide (n∈B)).map .str) s :=
 oZ PV.str (fun n=>!decide (n∈B)) PV.str A (fun n _=>by
  have h1:=rA n B s
  simp only [xTr,x2,xVar,Out.bind,ao,ap,h1]) (fun _ _ _=>rfl)
theorem DC {A B:List Str} (h:∀ n∈A,n∈B):(A.filter fun n=>!decide (n∈B))=[]:=by
 rw [List.filter_eq_nil_iff]
 intro n hn z
 rw [decide_eq_true (h n hn)] at z
 cases z
theorem Cb (U:List Str) (b:Nat) (s:Sto) (hU:U.length≤8) {ρ:En} (h2:ρ[2]?=some (some (LS U))) (h4:ρ[4]?=some (some (.int (b:Int)))):∃ X:List Str,(∀ x∈X,x∈U)∧X.length≤8 ∧
  lu (xRng1 (xCons (xB (xCons (xVar 2) xNil) fLen) xNil)) [2,4] (xTr (x2 (x2 (x2 (xVar 2) (xVar 0) Cr) (xC (.int 1)) v8) (xC (.int 1)) fEq)) (x2 (xVar 1) (xVar 0) fIx) ρ s=.ok (LS X) s:=by
 have c:=oZ (s:=s) (cap:=[some (LS U),some (.int (b:Int))]) (c:=xTr (x2 (x2 (x2 (xVar 2) (xVar 0) Cr) (xC (.int 1)) v8) (xC (.int 1)) fEq)) (e:=x2 (xVar 1) (xVar 0) fIx) (fun k:Nat=>PV.int (0+(k:Int))) (fun k=>cD ((b:Int) / 2 ^ k) 1 == 1) (fun k=>.str (U.getD k (aD ""))) (cy U.length) (fun k _=>by
  have h0:(0:Int)+(k:Int)=(k:Int):=by omega
  have s1:Cr (.int (b:Int)) (.int (k:Int)) s=.ok (.int ((b:Int) / 2 ^ k)) s:=by
   show (if (0:Int)≤(k:Int) then Out.ok (PV.int ((b:Int) / 2 ^ ((k:Int).toNat))) s else Out.bad)=_
   rw [if_pos (by omega),iu]
  have s2:v8 (.int ((b:Int) / 2 ^ k)) (.int 1) s=.ok (.int (cD ((b:Int) / 2 ^ k) 1)) s:=rfl
  have s3:fEq (.int (cD ((b:Int) / 2 ^ k) 1)) (.int 1) s=.ok (.bl (cD ((b:Int) / 2 ^ k) 1 == 1)) s:=by
   unfold fEq fEqN
   rw [mK,mK]
   simp only [oI]
   rfl
  rw [h0]
  simp only [xTr,x2,xVar,xC,Out.bind,ao,ap,s1,s2,s3]) (fun k hk _=>by
  have hk:=ce.mp hk
  have h0:(0:Int)+(k:Int)=(k:Int):=by omega
  have e1:U.getD k (aD "")=U[k]:=by simp [hk]
  have:atI (U.map PV.str) (k:Int)=some (.str U[k]):=kZ (by simp [hk])
  have ix:fIx (LS U) (.int (k:Int)) s=.ok (.str U[k]) s:=by unfold fIx;simp only [lsOf,this]
  rw [h0,e1]
  simp only [x2,xVar,Out.bind,ao,ap,ix])
 have ec:lh [2,4] ρ=[some (LS U),some (.int (b:Int))]:=by simp [lh,h2,h4]
 refine ⟨((cy U.length).filter fun k=>cD ((b:Int) / 2 ^ k) 1 == 1).map fun k=>U.getD k (aD ""),fun x hx=>?_,?_,?_⟩
 ·obtain ⟨k,hk,rfl⟩:=ak.mp hx
  have hk:=ce.mp (bg.mp hk).1
  have e1:U.getD k (aD "")=U[k]:=by simp [hk]
  rw [e1]
  exact cm hk
 ·rw [aj]
  refine aJ (ca _ _) ?_
  rw [eS];exact hU
 ·have el:LS (((cy U.length).filter fun k=>cD ((b:Int) / 2 ^ k) 1 == 1).map fun k=>U.getD k (aD ""))=.lst (((cy U.length).filter fun k=>cD ((b:Int) / 2 ^ k) 1 == 1).map fun k=>PV.str (U.getD k (aD ""))):=by
   show PV.lst _=_
   rw [aS]
   rfl
  rw [el]
  refine mj (l:=qt 0 U.length) (s1:=s) (ux (n:=U.length) (by
   have:fLen [LS U] s=.ok (.int U.length) s:=by simp [fLen,lsOf,LS]
   simp only [xCons,xB,xNil,xVar,h2,Out.bind,this]) (by omega)) (by rw [qr];omega) ?_
  rw [ec]
  exact c
theorem Wld.least1 (W:Wld t nb pp hs L M) (a:Adr) {w:Str} (hw:w∈pp++hs) (b:Nat) (o5:Option PV):∃ u5,mw a [some (.ref nb),some (.str w),some (LS (srt hs)),some (LS (lE M hs w)),some (.int (b:Int)),o5] t=.nx [some (.ref nb),some (.str w),some (LS (srt hs)),some (LS (lE M hs w)),some (.int (b:Int)),u5] t:=by
 obtain ⟨X,x1',x2',e1⟩:=Cb (srt hs) b t (by rw [kE];exact W.w.h8) (ρ:=[some (.ref nb),some (.str w),some (LS (srt hs)),some (LS (lE M hs w)),some (.int (b:Int)),o5]) rfl rfl
 have e2:=W.shut a hw X (by omega)
 have l8:=AT W w
 refine ⟨some (LS X),?_⟩
 unfold mw
 rw [kG (Al e1)]
 simp only [gZ,gY]
 refine Ch ?_
 cases z:rY M hs w X with
 | false =>
  rw [z] at e2
  simp only [xAnd,xTr,xCall,xCons,xVar,xNil,Out.bind,ao,ap,aB,a8,if_true,e2]
  rfl
 | true =>
  rw [z] at e2
  have cmp:lu (xIter (xVar 3)) [5] (xTr (x2 (xVar 0) (xVar 1) mV)) (xVar 0) [some (.ref nb),some (.str w),some (LS (srt hs)),some (LS (lE M hs w)),some (.int (b:Int)),some (LS X)] t=.ok (.lst ((((lE M hs w).filter fun n=>!decide (n∈X))).map .str)) t:=mj (l:=(lE M hs w).map .str) (s1:=t) rfl (by rw [aj];omega) (Ad t _ X)
  rw [DC (yx W w z)] at cmp
  have hl:fLen [PV.lst (([]:List Str).map PV.str)] t=.ok (.int 0) t:=rfl
  have hg:fGt (.int 0) (.int 0) t=.ok (.bl false) t:=rfl
  simp only [xAnd,xTr,xCall,xCons,xVar,xNil,xC,xB,x2,cmp,Out.bind,ao,ap,aB,a8,if_true,e2,hl,hg]
theorem Wld.least (W:Wld t nb pp hs L M) (hnb:nb < t.nx) (a:Adr) {w:Str} (hw:w∈pp++hs):∃ s',nJ a [.ref nb,.str w,LS (srt hs)] t=.ok (.bl true) s':=by
 obtain ⟨t1,e1,k1⟩:=W.lofK hnb a hw (Kp.refl t)
 have W1:=W.kp hnb k1
 have h8:=W.w.h8
 have sl:(srt hs).length=hs.length:=kE hs
 obtain ⟨ρ',s',hlo,u4,u5,rfl,rfl⟩:=CW (i:=4) (u:=mw a) (2 ^ hs.length)
  (fun _ ρ s=>∃ u4 u5,ρ=[some (.ref nb),some (.str w),some (LS (srt hs)),some (LS (lE M hs w)),u4,u5]∧t1=s)
  (fun k ρ s hk hI=>by
   obtain ⟨u4,u5,rfl,rfl⟩:=hI
   obtain ⟨v5,e⟩:=W1.least1 a hw k u5
   exact ⟨_,_,_,rfl,e,some (.int k),v5,rfl,rfl⟩) (ρ:=[some (.ref nb),some (.str w),some (LS (srt hs)),some (LS (lE M hs w)),none,none]) (s:=t1) ⟨none,none,rfl,rfl⟩
 have hp:2 ^ hs.length≤256:=aJ (cq (by decide) h8) (by decide)
 refine ⟨t1,mI ?_⟩
 unfold rP
 rw [kG (ρ':=[some (.ref nb),some (.str w),some (LS (srt hs)),some (LS (lE M hs w)),none,none]) (s':=t1) (by
  simp only [xSet,xCall,xCons,xVar,xNil,Out.bind,Out.so,au,cO,ci,bY,ao,ap,aB,a8,aV,if_true,e1]
  rfl)]
 rw [kG (oB (l:=qt 0 (2 ^ hs.length)) (s1:=t1) (ux (n:=2 ^ hs.length) (by
  have hl:fLen [LS (srt hs)] t1=.ok (.int (hs.length:Nat)) t1:=by simp [fLen,lsOf,LS,sl]
  have hsh:FD (.int 1) (.int ((hs.length:Nat):Int)) t1=.ok (.int ((2 ^ hs.length:Nat):Int)) t1:=by
   show (if 0≤((hs.length:Nat):Int)∧((hs.length:Nat):Int)≤1000000∧(1:Int).natAbs < 2 ^ 64 then Out.ok (PV.int (1 * 2 ^ (((hs.length:Nat):Int).toNat))) t1 else Out.bad)=_
   rw [if_pos ⟨by omega,by omega,by decide⟩,iu,Int.one_mul,Int.natCast_pow]
   rfl
  simp only [xCons,x2,xC,xB,xNil,xVar,Out.bind,ao,ap,hl,hsh]) (by omega)) hlo)]
 exact nR rfl
theorem Wld.house (W:Wld t nb pp hs L M) (hnb:nb < t.nx) (a:Adr) {h:Str} (hh:h∈hs) (o0 o1 o4 o5 o6 o7 o9:Option PV) {s:Sto} (S:Kp t s) :
  ∃ u9 s',uZ a [o0,o1,some (.ref nb),some (LS (srt pp)),o4,o5,o6,o7,some (.str h),o9] s=.nx [o0,o1,some (.ref nb),some (LS (srt pp)),o4,o5,o6,o7,some (.str h),u9] s'∧Kp t s':=by
 have p6:=W.w.p6
 obtain ⟨s1,c,K1⟩:=qP (c:=xTr (x2 (xVar 1) (xCall 2 (lp a) (xCons (xVar 2) (xCons (xVar 0) xNil))) fIn)) (e:=xVar 0) (cap:=[some (.str h),some (.ref nb)]) (Kp t) PV.str (fun p=>decide (h∈lE M hs p)) PV.str (srt pp) (fun p hp s S=>by
  obtain ⟨s',e,S'⟩:=W.lofK hnb a (bH hs ((kI pp).mem_iff.mp hp)) S
  have h1:=sL h (lE M hs p) s'
  exact ⟨s',by simp only [xTr,x2,xVar,xCall,xCons,xNil,Out.bind,ao,ap,aB,a8,if_true,e,h1],S'⟩) (fun _ _ _ s S=>⟨s,rfl,S⟩) s S
 obtain ⟨s2,e2,K2⟩:=W.rulerK hnb a hh K1
 have one:=W.one_due h
 have hat:=HW (fun p=>decide (h∈lE M hs p)) (srt pp)
 have hfs:∀ p,(srt pp).find? (fun p=>decide (h∈lE M hs p))=some p→cL p=true:=fun p hp=>Cg (W.w.sm p (bH _ ((kI pp).mem_iff.mp (d8 hp))))
 have hsame:fNe (x5 ((srt pp).find? fun p=>decide (h∈lE M hs p))) (x5 ((srt pp).find? fun p=>decide (h∈lE M hs p))) s2=.ok (.bl false) s2:=by
  cases hf:(srt pp).find? (fun p=>decide (h∈lE M hs p)) with
  | none=>exact Hm s2
  | some p=>exact ne_str s2 (hfs p hf)
 have hcomp:lu (xIter (xVar 3)) [8,2] (xTr (x2 (xVar 1) (xCall 2 (lp a) (xCons (xVar 2) (xCons (xVar 0) xNil))) fIn)) (xVar 0) [o0,o1,some (.ref nb),some (LS (srt pp)),o4,o5,o6,o7,some (.str h),o9] s=.ok (LS ((srt pp).filter fun p=>decide (h∈lE M hs p))) s1 :=
  mj (l:=(srt pp).map .str) (s1:=s) rfl (by rw [aj,kE];omega) c
 generalize hd:(srt pp).filter (fun p=>decide (h∈lE M hs p))=due at *
 generalize x5 ((srt pp).find? fun p=>decide (h∈lE M hs p))=v at *
 refine ⟨some (LS due),s2,?_,K2⟩
 unfold uZ
 rw [kG (Al hcomp)]
 simp only [gZ,gY]
 refine Ch ?_
 have hln:fLen [LS due] s1=.ok (.int due.length) s1:=by unfold LS;simp [fLen,lsOf]
 have hgt:fGt (.int (due.length:Int)) (.int 1) s1=.ok (.bl false) s1:=by
  simp [fGt,fCmp]
  omega
 have hadd:fAdd (LS due) (.lst [.non]) s2=.ok (.lst (due.map PV.str++[.non])) s2:=by
  have:due.length+1≤100000:=by omega
  simp [fAdd,lsOf,LS,this]
 have hix:fIx (.lst (due.map PV.str++[.non])) (.int 0) s2=.ok v s2:=by
  unfold fIx
  simp only [lsOf,hat]
 simp only [xOr,xTr,x2,xB,xCall,xLst,xCons,xNil,xVar,xC,Out.bind,ao,ap,aB,a8,hln,hgt,e2,show (0+1:Nat)≤100000 by decide,if_true,hadd,hix,hsame]
 rfl
theorem Hn (a:Adr) (l:List Int) (hl:l.length≤63):∃ s',yh a [.seq (l.map .int)] ⟨0,[]⟩=.ok (.bl true) s':=by
 obtain ⟨x0,y0,e0⟩:=C6 a ⟨0,[]⟩ l hl
 have hP:IsPurse ((⟨0,[]⟩:Sto).add (.lst [.int x0,.int y0])) 0:=⟨x0,y0,rfl⟩
 generalize hs1:(⟨0,[]⟩:Sto).add (.lst [.int x0,.int y0])=s1 at *
 have nx1:s1.nx=1:=by rw [← hs1];rfl
 obtain ⟨n,pp,hs,L,M,x,y,hn,Wd,Pr,Nm,e1⟩:=DQ a s1 0 (by omega) hP
 have W:Wld (kst s1 0 n pp L x y) (s1.nx+1) pp hs L M:=⟨Wd,Pr.mono (by decide),Nm,Fv s1 0 n pp L x y⟩
 have p6:=W.w.p6
 have p1:=W.w.p1
 have h8:=W.w.h8
 have hso:=W.srtE (kst s1 0 n pp L x y)
 have hnb:s1.nx+1 < (kst s1 0 n pp L x y).nx:=hn
 have hpu:IsPurse (kst s1 0 n pp L x y) 0:=wq hP (fun q hq=>by cases ax.mp hq;exact fun z=>by simp only at z;omega) x y
 have hne:(0:Nat)≠s1.nx+1:=by omega
 have h0x:0 < (kst s1 0 n pp L x y).nx:=by show 0 < n;omega
 generalize kst s1 0 n pp L x y=t at *
 generalize s1.nx+1=nb at *
 have hin:∀ z∈srt pp++srt hs,z∈pp++hs:=fun z hz=>by
  rcases aO.mp hz with h | h
  ·exact bH _ ((kI pp).mem_iff.mp h)
  ·exact aI _ ((kI hs).mem_iff.mp h)
 have nl:(srt pp++srt hs).length=pp.length+hs.length:=by rw [aC,kE,kE]
 have hcat:(srt pp).length+(srt hs).length≤100000:=by rw [kE,kE];omega
 have hadd:fAdd (LS (srt pp)) (LS (srt hs)) t=.ok (LS (srt pp++srt hs)) t:=by simp [fAdd,lsOf,LS,hcat]
 generalize srt pp++srt hs=N at *
 obtain ⟨ρ2,s2,lo2,o7,rfl,K2⟩:=ra (body:=kK (yName 7) (u6 a)) (N.map .str)
  (fun _ ρ s=>∃ o7,ρ=[some (.seq (l.map .int)),some (.ref 0),some (.ref nb),some (LS (srt pp)),some (.dct (pZ M)),some (LS (srt hs)),some (LS N),o7,none,none]∧Kp t s)
  (fun k q ρ s hq hI=>by
   obtain ⟨o7,rfl,K⟩:=hI
   rw [bi] at hq
   obtain ⟨w,hw,rfl⟩:=dz.mp hq
   obtain ⟨s',e,K'⟩:=(W.kp hnb K).shown (ay hnb K.n) a (hin w (ck hw))
   refine ⟨[some (.seq (l.map .int)),some (.ref 0),some (.ref nb),some (LS (srt pp)),some (.dct (pZ M)),some (LS (srt hs)),some (LS N),some (.str w),none,none],s',?_,some (.str w),rfl,K.trans K'⟩
   show u6 a [some (.seq (l.map .int)),some (.ref 0),some (.ref nb),some (LS (srt pp)),some (.dct (pZ M)),some (LS (srt hs)),some (LS N),some (.str w),none,none] s=_
   unfold u6
   refine Ch ?_
   simp only [xNot,xTr,xCall,xCons,xVar,xNil,Out.bind,ao,ap,aB,a8,if_true,e]
   rfl) (ρ:=[some (.seq (l.map .int)),some (.ref 0),some (.ref nb),some (LS (srt pp)),some (.dct (pZ M)),some (LS (srt hs)),some (LS N),none,none,none]) (s:=t) ⟨none,rfl,Kp.refl t⟩
 obtain ⟨ρ3,s3,lo3,o8,o9,rfl,K3⟩:=ra (body:=kK (yName 8) (uZ a)) ((srt hs).map .str)
  (fun _ ρ s=>∃ o8 o9,ρ=[some (.seq (l.map .int)),some (.ref 0),some (.ref nb),some (LS (srt pp)),some (.dct (pZ M)),some (LS (srt hs)),some (LS N),o7,o8,o9]∧Kp t s)
  (fun k q ρ s hq hI=>by
   obtain ⟨o8,o9,rfl,K⟩:=hI
   rw [bi] at hq
   obtain ⟨w,hw,rfl⟩:=dz.mp hq
   obtain ⟨u9,s',e,K'⟩:=W.house hnb a ((kI hs).mem_iff.mp (ck hw)) (some (.seq (l.map .int))) (some (.ref 0)) (some (.dct (pZ M))) (some (LS (srt hs))) (some (LS N)) o7 o9 K
   exact ⟨_,_,e,some (.str w),u9,rfl,K'⟩) (ρ:=[some (.seq (l.map .int)),some (.ref 0),some (.ref nb),some (LS (srt pp)),some (.dct (pZ M)),some (LS (srt hs)),some (LS N),o7,none,none]) (s:=s2) ⟨none,none,rfl,K2⟩
 obtain ⟨s4,e4,K4⟩:=W.selfK hnb a K3
 obtain ⟨s5,c5,K5⟩:=qP (c:=xTr (x2 (xVar 0) (xCall 2 (lp a) (xCons (xVar 1) (xCons (xVar 0) xNil))) fIn)) (e:=xVar 0) (cap:=[some (.ref nb)]) (Kp t) PV.str (fun h=>decide (h∈lE M hs h)) PV.str (srt hs) (fun h hh s S=>by
  obtain ⟨s',e,S'⟩:=W.lofK hnb a (aI pp ((kI hs).mem_iff.mp hh)) S
  have h1:=sL h (lE M hs h) s'
  exact ⟨s',by simp only [xTr,x2,xVar,xCall,xCons,xNil,Out.bind,ao,ap,aB,a8,if_true,e,h1],S'⟩) (fun _ _ _ s S=>⟨s,rfl,S⟩) s4 K4
 have d5:lu (xIter (xVar 5)) [2] (xTr (x2 (xVar 0) (xCall 2 (lp a) (xCons (xVar 1) (xCons (xVar 0) xNil))) fIn)) (xVar 0) [some (.seq (l.map .int)),some (.ref 0),some (.ref nb),some (LS (srt pp)),some (.dct (pZ M)),some (LS (srt hs)),some (LS N),o7,o8,o9] s4=.ok (LS (Ex M hs)) s5 :=
  mj (l:=(srt hs).map .str) (s1:=s4) rfl (by rw [aj,kE];omega) c5
 have ns:=Fl s5 (U:=Ex M hs) (fun x hx=>Cg (W.w.sm x (aI _ ((kI hs).mem_iff.mp (bg.mp hx).1))))
 have hp5:IsPurse s5 0:=let ⟨x,y,z⟩:=hpu;⟨x,y,(K5.g 0 h0x).trans z⟩
 obtain ⟨r,xa,ya,r0,r1,e6⟩:=sx a s5 0 (N.length:Int) hp5 (by omega) (pb (by omega) (by omega))
 obtain ⟨o2,ho2,eo⟩:=su (ws:=N) r0 r1
 have W6:Wld (s5.set 0 (.lst [.int xa,.int ya])) nb pp hs L M:=⟨W.w,W.p,W.n,(oi fun z=>hne z.symm).trans ((K5.g nb hnb).trans W.g)⟩
 have n6:nb < (s5.set 0 (.lst [.int xa,.int ya])).nx:=ay hnb K5.n
 generalize s5.set 0 (.lst [.int xa,.int ya])=s6 at *
 obtain ⟨s7,e7⟩:=W6.least n6 a (hin _ ho2)
 have lenN:fLen [LS N] s5=.ok (.int (N.length:Nat)) s5:=by simp [fLen,lsOf,LS]
 have i6:fIx (LS N) (.int r) s6=.ok (.str o2) s6:=by unfold fIx;simp only [lsOf,eo]
 refine ⟨s7,mI ?_⟩
 unfold Gp
 rw [kG (ρ':=[some (.seq (l.map .int)),some (.ref 0),none,none,none,none,none,none,none,none]) (s':=s1) (by
  simp only [xSet,xCall,xCons,xVar,xNil,Out.bind,Out.so,au,cO,ci,ao,ap,aB,a8,if_true,e0]
  rfl)]
 rw [kG (ρ':=[some (.seq (l.map .int)),some (.ref 0),some (.ref nb),some (LS (srt pp)),some (.dct (pZ M)),none,none,none,none,none]) (s':=t) (by simp [sem,kP,ko,kO,e1])]
 rw [kG (ρ':=[some (.seq (l.map .int)),some (.ref 0),some (.ref nb),some (LS (srt pp)),some (.dct (pZ M)),some (LS (srt hs)),none,none,none,none]) (s':=t) (by
  simp only [xSet,xB,xCons,xVar,xNil,Out.bind,Out.so,ao,ap,hso]
  rfl)]
 rw [kG (ρ':=[some (.seq (l.map .int)),some (.ref 0),some (.ref nb),some (LS (srt pp)),some (.dct (pZ M)),some (LS (srt hs)),some (LS N),none,none,none]) (s':=t) (by
  simp only [xSet,x2,xVar,Out.bind,Out.so,ao,ap,hadd]
  rfl)]
 rw [kG (oB (l:=N.map .str) (s1:=t) rfl lo2)]
 rw [kG (oB (l:=(srt hs).map .str) (s1:=s2) rfl lo3)]
 rw [kG (Ch (s1:=s5) (by
  simp only [xTr,x2,xCall,xCons,xVar,xNil,Out.bind,ao,ap,aB,a8,if_true,e4,d5,ns]))]
 refine nR ?_
 simp only [xCall,xCons,xNil,xVar,x2,xB,Out.bind,ao,ap,lenN,aB,a8,if_true,e6,i6,e7]
theorem Fu {K:aa}{a:Adr}{H:Hp}{c cd PT:ae}{ns:List Int}{Q:VK}{E:XK} (hl:ns.length≤63) (ht:bW K "rules"=some (cd,PT)) (hO:Ag PT H) (hS:SqL K H c (ns.map V.int)) (k:∀ v H',v=.bl true→Q v H'):spD K a.Book 1 (yh a) [.ref c] H Q E:=by
 obtain ⟨s',e⟩:=Hn a ns hl
 have S0:SR K a.Book H ⟨fun _=>c,fun _=>[],[PT]⟩ ⟨0,[]⟩:=by
  refine ⟨cT,(by intro n hn;cases hn),(by intro q hq;cases hq),(by intro n hn;cases hn),(by intro n hn;cases hn),fun z hz=>?_,fun P q t=>?_⟩
  ·obtain rfl:=ax.mp hz
   rw [hO.1]
   exact ⟨by simp,fun _ _=>⟨by simp,by simp,by simp,by simp⟩⟩
  ·obtain ⟨x,hx,c',h1,h2⟩:=t
   simp only [vo,ax] at hx
   subst hx
   rw [ht] at h1
   cases h1
   exact ⟨ax.mpr rfl,#[],hO.1,trivial,fun p c e=>by cases e⟩
 have R0:∀ (l:List Int),Reps K H ⟨fun _=>c,fun _=>[],[PT]⟩ ⟨0,[]⟩ (l.map V.int) (l.map PV.int):=fun l=>by
  induction l with
  | nil=>exact .nil
  | cons x r ih=>exact .cons .int ih
 have hr:Rep K H ⟨fun _=>c,fun _=>[],[PT]⟩ ⟨0,[]⟩ (.ref c) (.seq (ns.map .int)):=by
  refine .seq ?_ (R0 ns)
  rcases hS with (h | h) | h
  ·by_cases z:c=PT
   ·rw [z,hO.1] at h;cases h
   ·rcases hO.2 c z with z | ⟨o,xs,z⟩
    ·rw [z] at h;cases h
    ·rw [z] at h;cases h
  ·obtain ⟨o,h⟩:=h
   refine .inl ⟨⟨o,h⟩,fun z=>?_,by intro n hn;cases hn⟩
   obtain rfl:=ax.mp z
   rw [hO.1] at h;cases h
  ·exact .inr h
 refine ⟨rfl,[.seq (ns.map .int)],⟨0,[]⟩,_,.cons hr .nil,S0,?_⟩
 rw [e]
 intro u H' m' _ _ r
 cases r
 exact k _ _ rfl
end
open PyProof.Rows
def FL (K:aa) (f:ae) (x q:Str) (st:bX) (oc:af) (od:Option ae) (kV dc pm:af) (an:Option ae) (cd ct:af) (sl:Array (Option af)):Prop:=K.lookup f=some ⟨oc,od,.func (dQ x q (rf st) (mR st) (kh st) .none kV dc pm an cd ct),sl⟩
theorem mkF {P:aU}{w:bw}{K:aa}{mg:Str→Option af}{base:bM}{x:Str}{k:Nat}{ps:List Str}{sp:Sp}{f:ae}{fd:bV} (h:FnOk P w K mg base (CXo P w) k f fd ps sp) (m:mg x=some (.ref f)) (hk:az K (.ref f)=true) (b:Binds K fd ps []):Fn P w K mg base x k ps sp:=⟨f,fd,h,m,hk,b⟩
theorem mkM {P:aU}{w:bw}{K:aa}{mg:Str→Option af}{base:bM}{C:ae}{x:Str}{k:Nat}{ps:List Str}{sp:Sp}{f:ae}{fd:bV} (h:FnOk P w K mg base (CXo P w) k f fd ps sp) (a:ar K (.ref C) x=some (some (.ref f))) (i:b9 K (.ref f)=true) (hk:az K (.ref f)=true) (c:Cls K C) (b:Binds K fd ps []):Mt P w K mg base C x k ps sp:=⟨f,fd,h,⟨a,i,hk⟩,c,b⟩
theorem all_mk {l:fY}{w:bw}{K:aa}{h:bM}{mg:Str→Option af}{fa:ae} (X:K.In h) (G:h.Ns aq mg) (hfa:mg "law"=some (.ref fa))
  {X_OwnError X_NoName X_Twice X_TooMany X_NoHolder X_NoHouse X_NoLoss X_NoShare BK ZR ON CDR PTR HF f0 f1 f2 f3 f4 f5 f6 f7 f8 f9 f10 f11 f12 f13 f14 f15 f16 f17 f18 f19 f20 f21 f22 f23 f24 f25 f26 f27 f28 f29 f30 f31 f32 f33 f34 f35 f36 f37 f38 f39 f40 f41:ae}{od0 an0 od1 an1 od2 an2 od3 an3 od4 an4 od5 an5 od6 an6 od7 an7 od8 an8 od9 an9 od10 an10 od11 an11 od12 an12 od13 an13 od14 an14 od15 an15 od16 an16 od17 an17 od18 an18 od19 an19 od20 an20 od21 an21 od22 an22 od23 an23 od24 an24 od25 an25 od26 an26 od27 an27 od28 an28 od29 an29 od30 an30 od31 an31 od32 an32 od33 an33 od34 an34 od35 an35 od36 an36 od37 an37 od38 an38 od39 an39 od40 an40 od41 an41 odr odz odo odh:Option ae}{sl0 sl1 sl2 sl3 sl4 sl5 sl6 sl7 sl8 sl9 sl10 sl11 sl12 sl13 sl14 sl15 sl16 sl17 sl18 sl19 sl20 sl21 sl22 sl23 sl24 sl25 sl26 sl27 sl28 sl29 sl30 sl31 sl32 sl33 sl34 sl35 sl36 sl37 sl38 sl39 sl40 sl41 slr slz slo slh:Array (Option af)}{oc0 kV0 dc0 pm0 cd0 ct0 oc1 kV1 dc1 pm1 cd1 ct1 oc2 kV2 dc2 pm2 cd2 ct2 oc3 kV3 dc3 pm3 cd3 ct3 oc4 kV4 dc4 pm4 cd4 ct4 oc5 kV5 dc5 pm5 cd5 ct5 oc6 kV6 dc6 pm6 cd6 ct6 oc7 kV7 dc7 pm7 cd7 ct7 oc8 kV8 dc8 pm8 cd8 ct8 oc9 kV9 dc9 pm9 cd9 ct9 oc10 kV10 dc10 pm10 cd10 ct10 oc11 kV11 dc11 pm11 cd11 ct11 oc12 kV12 dc12 pm12 cd12 ct12 oc13 kV13 dc13 pm13 cd13 ct13 oc14 kV14 dc14 pm14 cd14 ct14 oc15 kV15 dc15 pm15 cd15 ct15 oc16 kV16 dc16 pm16 cd16 ct16 oc17 kV17 dc17 pm17 cd17 ct17 oc18 kV18 dc18 pm18 cd18 ct18 oc19 kV19 dc19 pm19 cd19 ct19 oc20 kV20 dc20 pm20 cd20 ct20 oc21 kV21 dc21 pm21 cd21 ct21 oc22 kV22 dc22 pm22 cd22 ct22 oc23 kV23 dc23 pm23 cd23 ct23 oc24 kV24 dc24 pm24 cd24 ct24 oc25 kV25 dc25 pm25 cd25 ct25 oc26 kV26 dc26 pm26 cd26 ct26 oc27 kV27 dc27 pm27 cd27 ct27 oc28 kV28 dc28 pm28 cd28 ct28 oc29 kV29 dc29 pm29 cd29 ct29 oc30 kV30 dc30 pm30 ct30 oc31 kV31 dc31 pm31 cd31 ct31 oc32 kV32 dc32 pm32 cd32 ct32 oc33 kV33 dc33 pm33 cd33 ct33 oc34 kV34 dc34 pm34 cd34 ct34 oc35 kV35 dc35 pm35 cd35 ct35 oc36 kV36 dc36 pm36 cd36 ct36 oc37 kV37 dc37 pm37 cd37 ct37 oc38 kV38 dc38 pm38 cd38 ct38 oc39 kV39 dc39 pm39 cd39 ct39 oc40 kV40 dc40 pm40 cd40 ct40 oc41 kV41 dc41 pm41 cd41 ct41:af}{tz0 tz1 to0 to1 th0 th1 tl tp th:Tok}{vsr:Array af}{nz no nh:Nat}
  (jaa:aw K aq "OwnError"=some (some (.ref X_OwnError)))
  (jab:aw K aq "NoName"=some (some (.ref X_NoName)))
  (jac:aw K aq "Twice"=some (some (.ref X_Twice)))
  (jad:aw K aq "TooMany"=some (some (.ref X_TooMany)))
  (jae:aw K aq "NoHolder"=some (some (.ref X_NoHolder)))
  (jaf:aw K aq "NoHouse"=some (some (.ref X_NoHouse)))
  (jag:aw K aq "NoLoss"=some (some (.ref X_NoLoss)))
  (jah:aw K aq "NoShare"=some (some (.ref X_NoShare)))
  (jai:aw K aq "Book"=some (some (.ref BK)))
  (jaj:aw K aq "ZERO"=some (some (.ref ZR)))
  (jak:aw K aq "ONE"=some (some (.ref ON)))
  (jal:aw K aq "HALF"=some (some (.ref HF)))
  (jam:K.lookup ZR=some ⟨.type "tuple",odz,.seq #[.int 0 tz0,.int 1 tz1] nz,slz⟩)
  (jan:K.lookup ON=some ⟨.type "tuple",odo,.seq #[.int 1 to0,.int 1 to1] no,slo⟩)
  (jao:K.lookup HF=some ⟨.type "tuple",odh,.seq #[.int 1 th0,.int 2 th1] nh,slh⟩)
  (jap:aw K aq "LONGEST_NAME"=some (some (.int 8 tl)))
  (jaq:aw K aq "MOST_PERSONS"=some (some (.int 6 tp)))
  (jar:aw K aq "MOST_HOUSES"=some (some (.int 8 th)))
  (jas:aw K aq "len"=some none)
  (jat:aw K aq "range"=some none)
  (jau:aw K aq "all"=some none)
  (jav:aw K aq "int"=some none)
  (jaw:aw K aq "abs"=some none)
  (jax:aw K aq "sorted"=some none)
  (jay:aw K aq "tuple"=some none)
  (jaz:aw K aq "list"=some none)
  (ja0:aw K aq "str"=some none)
  (ja1:aw K aq "bool"=some none)
  (ja2:aw K aq "isinstance"=some none)
  (ja3:aw K aq "ValueError"=some none)
  (ja4:aw K aq "any"=some none)
  (ja5:aw K aq "set"=some none)
  (ja6:aw K aq "max"=some none)
  (ja7:eU K BK fc=true)
  (ja8:fJ K BK=true)
  (ja9:gS K BK=true)
  (jba:ar K (.ref BK) "__setattr__"=some (some (.builtin "object.__setattr__")))
  (jbb:ip K BK=true)
  (jbc:az K (.ref BK)=true)
  (jbd:ar K (.ref BK) "people"=some none)
  (jbe:ar K (.ref BK) "things_of"=some none)
  (jbf:ar K (.ref BK) "mark_of"=some none)
  (jbg:ar K (.ref BK) "loss_of"=some none)
  (jbh:ar K (.ref BK) "held_of"=some none)
  (jbi:fI K (.builtin "object.__class__") "__get__"=some (some (.builtin "getset_descriptor.__get__")))
  (jbj:im K (.builtin "object.__class__")=some true)
  (jbk:cK K X_OwnError bmV "ValueError.__new__"=true)
  (jbl:ar K (.ref X_OwnError) "__getattribute__"=some (some (.builtin "BaseException.__getattribute__")))
  (jbm:ar K (.ref X_OwnError) "__getattr__"=some none)
  (jbn:ar K (.ref X_OwnError) "__class__"=some (some (.builtin "object.__class__")))
  (jbo:bK K X_OwnError (.type "object")=some true)
  (jbp:bK K X_OwnError (.type "BaseException")=some true)
  (jbq:cK K X_NoName bmV "ValueError.__new__"=true)
  (jbr:ar K (.ref X_NoName) "__getattribute__"=some (some (.builtin "BaseException.__getattribute__")))
  (jbs:ar K (.ref X_NoName) "__getattr__"=some none)
  (jbt:ar K (.ref X_NoName) "__class__"=some (some (.builtin "object.__class__")))
  (jbu:bK K X_NoName (.type "object")=some true)
  (jbv:bK K X_NoName (.type "BaseException")=some true)
  (jbw:cK K X_Twice bmV "ValueError.__new__"=true)
  (jbx:ar K (.ref X_Twice) "__getattribute__"=some (some (.builtin "BaseException.__getattribute__")))
  (jby:ar K (.ref X_Twice) "__getattr__"=some none)
  (jbz:ar K (.ref X_Twice) "__class__"=some (some (.builtin "object.__class__")))
  (jb0:bK K X_Twice (.type "object")=some true)
  (jb1:bK K X_Twice (.type "BaseException")=some true)
  (jb2:cK K X_TooMany bmV "ValueError.__new__"=true)
  (jb3:ar K (.ref X_TooMany) "__getattribute__"=some (some (.builtin "BaseException.__getattribute__")))
  (jb4:ar K (.ref X_TooMany) "__getattr__"=some none)
  (jb5:ar K (.ref X_TooMany) "__class__"=some (some (.builtin "object.__class__")))
  (jb6:bK K X_TooMany (.type "object")=some true)
  (jb7:bK K X_TooMany (.type "BaseException")=some true)
  (jb8:cK K X_NoHolder bmV "ValueError.__new__"=true)
  (jb9:ar K (.ref X_NoHolder) "__getattribute__"=some (some (.builtin "BaseException.__getattribute__")))
  (jca:ar K (.ref X_NoHolder) "__getattr__"=some none)
  (jcb:ar K (.ref X_NoHolder) "__class__"=some (some (.builtin "object.__class__")))
  (jcc:bK K X_NoHolder (.type "object")=some true)
  (jcd:bK K X_NoHolder (.type "BaseException")=some true)
  (jce:cK K X_NoHouse bmV "ValueError.__new__"=true)
  (jcf:ar K (.ref X_NoHouse) "__getattribute__"=some (some (.builtin "BaseException.__getattribute__")))
  (jcg:ar K (.ref X_NoHouse) "__getattr__"=some none)
  (jch:ar K (.ref X_NoHouse) "__class__"=some (some (.builtin "object.__class__")))
  (jci:bK K X_NoHouse (.type "object")=some true)
  (jcj:bK K X_NoHouse (.type "BaseException")=some true)
  (jck:cK K X_NoLoss bmV "ValueError.__new__"=true)
  (jcl:ar K (.ref X_NoLoss) "__getattribute__"=some (some (.builtin "BaseException.__getattribute__")))
  (jcm:ar K (.ref X_NoLoss) "__getattr__"=some none)
  (jcn:ar K (.ref X_NoLoss) "__class__"=some (some (.builtin "object.__class__")))
  (jco:bK K X_NoLoss (.type "object")=some true)
  (jcp:bK K X_NoLoss (.type "BaseException")=some true)
  (jcq:cK K X_NoShare bmV "ValueError.__new__"=true)
  (jcr:ar K (.ref X_NoShare) "__getattribute__"=some (some (.builtin "BaseException.__getattribute__")))
  (jcs:ar K (.ref X_NoShare) "__getattr__"=some none)
  (jct:ar K (.ref X_NoShare) "__class__"=some (some (.builtin "object.__class__")))
  (jcu:bK K X_NoShare (.type "object")=some true)
  (jcv:bK K X_NoShare (.type "BaseException")=some true)
  (jcw:aw K aq "is_name"=some (some (.ref f0)))
  (jcx:FL K f0 "is_name" "is_name" qK oc0 od0 kV0 dc0 pm0 an0 cd0 ct0 sl0)
  (jcy:aG K cd0 "is_name"=true)
  (jcz:az K (.ref f0)=true)
  (jc0:aw K aq "need_loss"=some (some (.ref f1)))
  (jc1:FL K f1 "need_loss" "need_loss" p8 oc1 od1 kV1 dc1 pm1 an1 cd1 ct1 sl1)
  (jc2:aG K cd1 "need_loss"=true)
  (jc3:az K (.ref f1)=true)
  (jc4:aw K aq "common_divisor"=some (some (.ref f2)))
  (jc5:FL K f2 "common_divisor" "common_divisor" mP oc2 od2 kV2 dc2 pm2 an2 cd2 ct2 sl2)
  (jc6:aG K cd2 "common_divisor"=true)
  (jc7:az K (.ref f2)=true)
  (jc8:aw K aq "plus"=some (some (.ref f3)))
  (jc9:FL K f3 "plus" "plus" Am oc3 od3 kV3 dc3 pm3 an3 cd3 ct3 sl3)
  (jda:aG K cd3 "plus"=true)
  (jdb:az K (.ref f3)=true)
  (jdc:aw K aq "minus"=some (some (.ref f4)))
  (jdd:FL K f4 "minus" "minus" xK oc4 od4 kV4 dc4 pm4 an4 cd4 ct4 sl4)
  (jde:aG K cd4 "minus"=true)
  (jdf:az K (.ref f4)=true)
  (jdg:aw K aq "is_above"=some (some (.ref f5)))
  (jdh:FL K f5 "is_above" "is_above" rm oc5 od5 kV5 dc5 pm5 an5 cd5 ct5 sl5)
  (jdi:aG K cd5 "is_above"=true)
  (jdj:az K (.ref f5)=true)
  (jdk:ar K (.ref BK) "__init__"=some (some (.ref f6)))
  (jdl:b9 K (.ref f6)=true)
  (jdm:FL K f6 "__init__" "Book.__init__" qf oc6 od6 kV6 dc6 pm6 an6 cd6 ct6 sl6)
  (jdn:aG K cd6 "Book.__init__"=true)
  (jdo:az K (.ref f6)=true)
  (jdp:ar K (.ref BK) "is_house"=some (some (.ref f7)))
  (jdq:b9 K (.ref f7)=true)
  (jdr:FL K f7 "is_house" "Book.is_house" nc oc7 od7 kV7 dc7 pm7 an7 cd7 ct7 sl7)
  (jds:aG K cd7 "Book.is_house"=true)
  (jdt:az K (.ref f7)=true)
  (jdu:ar K (.ref BK) "is_holder"=some (some (.ref f8)))
  (jdv:b9 K (.ref f8)=true)
  (jdw:FL K f8 "is_holder" "Book.is_holder" mQ oc8 od8 kV8 dc8 pm8 an8 cd8 ct8 sl8)
  (jdx:aG K cd8 "Book.is_holder"=true)
  (jdy:az K (.ref f8)=true)
  (jdz:ar K (.ref BK) "need_house"=some (some (.ref f9)))
  (jd0:b9 K (.ref f9)=true)
  (jd1:FL K f9 "need_house" "Book.need_house" mn oc9 od9 kV9 dc9 pm9 an9 cd9 ct9 sl9)
  (jd2:aG K cd9 "Book.need_house"=true)
  (jd3:az K (.ref f9)=true)
  (jd4:ar K (.ref BK) "need_holder"=some (some (.ref f10)))
  (jd5:b9 K (.ref f10)=true)
  (jd6:FL K f10 "need_holder" "Book.need_holder" lX oc10 od10 kV10 dc10 pm10 an10 cd10 ct10 sl10)
  (jd7:aG K cd10 "Book.need_holder"=true)
  (jd8:az K (.ref f10)=true)
  (jd9:ar K (.ref BK) "need_new_name"=some (some (.ref f11)))
  (jea:b9 K (.ref f11)=true)
  (jeb:FL K f11 "need_new_name" "Book.need_new_name" lK oc11 od11 kV11 dc11 pm11 an11 cd11 ct11 sl11)
  (jec:aG K cd11 "Book.need_new_name"=true)
  (jed:az K (.ref f11)=true)
  (jee:ar K (.ref BK) "person"=some (some (.ref f12)))
  (jef:b9 K (.ref f12)=true)
  (jeg:FL K f12 "person" "Book.person" ou oc12 od12 kV12 dc12 pm12 an12 cd12 ct12 sl12)
  (jeh:aG K cd12 "Book.person"=true)
  (jei:az K (.ref f12)=true)
  (jej:ar K (.ref BK) "house"=some (some (.ref f13)))
  (jek:b9 K (.ref f13)=true)
  (jel:FL K f13 "house" "Book.house" pA oc13 od13 kV13 dc13 pm13 an13 cd13 ct13 sl13)
  (jem:aG K cd13 "Book.house"=true)
  (jen:az K (.ref f13)=true)
  (jeo:ar K (.ref BK) "sale"=some (some (.ref f14)))
  (jep:b9 K (.ref f14)=true)
  (jeq:FL K f14 "sale" "Book.sale" qe oc14 od14 kV14 dc14 pm14 an14 cd14 ct14 sl14)
  (jer:aG K cd14 "Book.sale"=true)
  (jes:az K (.ref f14)=true)
  (jet:ar K (.ref BK) "persons"=some (some (.ref f15)))
  (jeu:b9 K (.ref f15)=true)
  (jev:FL K f15 "persons" "Book.persons" nM oc15 od15 kV15 dc15 pm15 an15 cd15 ct15 sl15)
  (jew:aG K cd15 "Book.persons"=true)
  (jex:az K (.ref f15)=true)
  (jey:ar K (.ref BK) "houses"=some (some (.ref f16)))
  (jez:b9 K (.ref f16)=true)
  (je0:FL K f16 "houses" "Book.houses" oy oc16 od16 kV16 dc16 pm16 an16 cd16 ct16 sl16)
  (je1:aG K cd16 "Book.houses"=true)
  (je2:az K (.ref f16)=true)
  (je3:ar K (.ref BK) "shares"=some (some (.ref f17)))
  (je4:b9 K (.ref f17)=true)
  (je5:FL K f17 "shares" "Book.shares" mT oc17 od17 kV17 dc17 pm17 an17 cd17 ct17 sl17)
  (je6:aG K cd17 "Book.shares"=true)
  (je7:az K (.ref f17)=true)
  (je8:aw K aq "_law_take"=some (some (.ref f18)))
  (je9:FL K f18 "_law_take" "_law_take" qb oc18 od18 kV18 dc18 pm18 an18 cd18 ct18 sl18)
  (jfa:aG K cd18 "_law_take"=true)
  (jfb:az K (.ref f18)=true)
  (jfc:aw K aq "_law_divisor"=some (some (.ref f19)))
  (jfd:FL K f19 "_law_divisor" "_law_divisor" nL oc19 od19 kV19 dc19 pm19 an19 cd19 ct19 sl19)
  (jfe:aG K cd19 "_law_divisor"=true)
  (jff:az K (.ref f19)=true)
  (jfg:aw K aq "_law_lowest"=some (some (.ref f20)))
  (jfh:FL K f20 "_law_lowest" "_law_lowest" ot oc20 od20 kV20 dc20 pm20 an20 cd20 ct20 sl20)
  (jfi:aG K cd20 "_law_lowest"=true)
  (jfj:az K (.ref f20)=true)
  (jfk:aw K aq "_law_plus"=some (some (.ref f21)))
  (jfl:FL K f21 "_law_plus" "_law_plus" qc oc21 od21 kV21 dc21 pm21 an21 cd21 ct21 sl21)
  (jfm:aG K cd21 "_law_plus"=true)
  (jfn:az K (.ref f21)=true)
  (jfo:aw K aq "_law_times"=some (some (.ref f22)))
  (jfp:FL K f22 "_law_times" "_law_times" pk oc22 od22 kV22 dc22 pm22 an22 cd22 ct22 sl22)
  (jfq:aG K cd22 "_law_times"=true)
  (jfr:az K (.ref f22)=true)
  (jfs:aw K aq "_law_purse"=some (some (.ref f23)))
  (jft:FL K f23 "_law_purse" "_law_purse" pz oc23 od23 kV23 dc23 pm23 an23 cd23 ct23 sl23)
  (jfu:aG K cd23 "_law_purse"=true)
  (jfv:az K (.ref f23)=true)
  (jfw:aw K aq "_law_names"=some (some (.ref f24)))
  (jfx:FL K f24 "_law_names" "_law_names" nE oc24 od24 kV24 dc24 pm24 an24 cd24 ct24 sl24)
  (jfy:aG K cd24 "_law_names"=true)
  (jfz:az K (.ref f24)=true)
  (jf0:aw K aq "_law_part"=some (some (.ref f25)))
  (jf1:FL K f25 "_law_part" "_law_part" qd oc25 od25 kV25 dc25 pm25 an25 cd25 ct25 sl25)
  (jf2:aG K cd25 "_law_part"=true)
  (jf3:az K (.ref f25)=true)
  (jf4:aw K aq "_law_built"=some (some (.ref f26)))
  (jf5:FL K f26 "_law_built" "_law_built" nF oc26 od26 kV26 dc26 pm26 an26 cd26 ct26 sl26)
  (jf6:aG K cd26 "_law_built"=true)
  (jf7:az K (.ref f26)=true)
  (jf8:aw K aq "outvote"=some (some (.ref f27)))
  (jf9:FL K f27 "outvote" "outvote" sT oc27 od27 kV27 dc27 pm27 an27 cd27 ct27 sl27)
  (jga:aG K cd27 "outvote"=true)
  (jgb:az K (.ref f27)=true)
  (jgc:aw K aq "outvoted"=some (some (.ref f28)))
  (jgd:FL K f28 "outvoted" "outvoted" pF oc28 od28 kV28 dc28 pm28 an28 cd28 ct28 sl28)
  (jge:aG K cd28 "outvoted"=true)
  (jgf:az K (.ref f28)=true)
  (jgg:aw K aq "rounds"=some (some (.ref f29)))
  (jgh:FL K f29 "rounds" "rounds" rZ oc29 od29 kV29 dc29 pm29 an29 cd29 ct29 sl29)
  (jgi:aG K cd29 "rounds"=true)
  (jgj:az K (.ref f29)=true)
  (jgk:aw K aq "rules"=some (some (.ref f30)))
  (jgl:FL K f30 "rules" "rules" uu oc30 od30 kV30 dc30 pm30 an30 (.ref CDR) ct30 sl30)
  (jgm:aG K (.ref CDR) "rules"=true)
  (jgn:az K (.ref f30)=true)
  (jgo:aw K aq "is_ruled"=some (some (.ref f31)))
  (jgp:FL K f31 "is_ruled" "is_ruled" pG oc31 od31 kV31 dc31 pm31 an31 cd31 ct31 sl31)
  (jgq:aG K cd31 "is_ruled"=true)
  (jgr:az K (.ref f31)=true)
  (jgs:aw K aq "ruler"=some (some (.ref f32)))
  (jgt:FL K f32 "ruler" "ruler" xJ oc32 od32 kV32 dc32 pm32 an32 cd32 ct32 sl32)
  (jgu:aG K cd32 "ruler"=true)
  (jgv:az K (.ref f32)=true)
  (jgw:aw K aq "self_ruled"=some (some (.ref f33)))
  (jgx:FL K f33 "self_ruled" "self_ruled" nC oc33 od33 kV33 dc33 pm33 an33 cd33 ct33 sl33)
  (jgy:aG K cd33 "self_ruled"=true)
  (jgz:az K (.ref f33)=true)
  (jg0:aw K aq "are_unlike"=some (some (.ref f34)))
  (jg1:FL K f34 "are_unlike" "are_unlike" pj oc34 od34 kV34 dc34 pm34 an34 cd34 ct34 sl34)
  (jg2:aG K cd34 "are_unlike"=true)
  (jg3:az K (.ref f34)=true)
  (jg4:aw K aq "is_step"=some (some (.ref f35)))
  (jg5:FL K f35 "is_step" "is_step" qJ oc35 od35 kV35 dc35 pm35 an35 cd35 ct35 sl35)
  (jg6:aG K cd35 "is_step"=true)
  (jg7:az K (.ref f35)=true)
  (jg8:aw K aq "are_steps"=some (some (.ref f36)))
  (jg9:FL K f36 "are_steps" "are_steps" qa oc36 od36 kV36 dc36 pm36 an36 cd36 ct36 sl36)
  (jha:aG K cd36 "are_steps"=true)
  (jhb:az K (.ref f36)=true)
  (jhc:aw K aq "is_shut"=some (some (.ref f37)))
  (jhd:FL K f37 "is_shut" "is_shut" oN oc37 od37 kV37 dc37 pm37 an37 cd37 ct37 sl37)
  (jhe:aG K cd37 "is_shut"=true)
  (jhf:az K (.ref f37)=true)
  (jhg:aw K aq "_law_of"=some (some (.ref f38)))
  (jhh:FL K f38 "_law_of" "_law_of" sU oc38 od38 kV38 dc38 pm38 an38 cd38 ct38 sl38)
  (jhi:aG K cd38 "_law_of"=true)
  (jhj:az K (.ref f38)=true)
  (jhk:aw K aq "_law_shown"=some (some (.ref f39)))
  (jhl:FL K f39 "_law_shown" "_law_shown" mD oc39 od39 kV39 dc39 pm39 an39 cd39 ct39 sl39)
  (jhm:aG K cd39 "_law_shown"=true)
  (jhn:az K (.ref f39)=true)
  (jho:aw K aq "_law_least"=some (some (.ref f40)))
  (jhp:FL K f40 "_law_least" "_law_least" mE oc40 od40 kV40 dc40 pm40 an40 cd40 ct40 sl40)
  (jhq:aG K cd40 "_law_least"=true)
  (jhr:az K (.ref f40)=true)
  (jhs:aw K aq "law"=some (some (.ref f41)))
  (jht:FL K f41 "law" "law" uv oc41 od41 kV41 dc41 pm41 an41 cd41 ct41 sl41)
  (jhu:aG K cd41 "law"=true)
  (jhv:az K (.ref f41)=true)
  (jhw:K.lookup CDR=some ⟨.type "code",odr,.fields vsr,slr⟩)
  (jhx:(vsr[11]?:Option af)=some (.ref PTR))
  (jhy:hdOk vsr CDR PTR=true)
  (jhz:(PTR == aq)=false)
  (jh0:K.lookup PTR=none)
   :∃ (a:Adr) (fd:bV) (c P:ae),bW K "rules"=some (c,P)∧K.lookup P=none∧(∀ (s:al) (v:af),iO s fd ⟨[v],[]⟩ [("_law_script",v)])∧∀ base:bM,K.In base→base.Ns aq mg→(∀ c P,bW K "rules"=some (c,P)→we mg base P)→FnOk l.prog w K mg base (CXo l.prog w) 11 fa fd ["_law_script"] (spD K a.Book 1 (yh a)):=by
 have e:=hfa.symm.trans (aK X G jhs)
 cases e
 let a:Adr:=⟨X_OwnError,X_NoName,X_Twice,X_TooMany,X_NoHolder,X_NoHouse,X_NoLoss,X_NoShare,BK,BK,BK,ZR,ON,HF,tl,tp,th,fun _ _=>false⟩
 have E_OwnError:Exc K X_OwnError:=⟨jbk,jbl,jbm,jbn,jbi,jbj,jbo,jbp⟩
 have E_NoName:Exc K X_NoName:=⟨jbq,jbr,jbs,jbt,jbi,jbj,jbu,jbv⟩
 have E_Twice:Exc K X_Twice:=⟨jbw,jbx,jby,jbz,jbi,jbj,jb0,jb1⟩
 have E_TooMany:Exc K X_TooMany:=⟨jb2,jb3,jb4,jb5,jbi,jbj,jb6,jb7⟩
 have E_NoHolder:Exc K X_NoHolder:=⟨jb8,jb9,jca,jcb,jbi,jbj,jcc,jcd⟩
 have E_NoHouse:Exc K X_NoHouse:=⟨jce,jcf,jcg,jch,jbi,jbj,jci,jcj⟩
 have E_NoLoss:Exc K X_NoLoss:=⟨jck,jcl,jcm,jcn,jbi,jbj,jco,jcp⟩
 have E_NoShare:Exc K X_NoShare:=⟨jcq,jcr,jcs,jct,jbi,jbj,jcu,jcv⟩
 have T:Txt K mg a:=⟨bB X G jas,bB X G jat,bB X G jau,bB X G jav,bB X G jaw,bB X G jax,bB X G jay,bB X G jaz,bB X G ja0,bB X G ja1,bB X G ja2,bB X G ja3,bB X G ja4,bB X G ja5,bB X G ja6,aK X G jaa,aK X G jab,aK X G jac,aK X G jad,aK X G jae,aK X G jaf,aK X G jag,aK X G jah,E_OwnError,E_NoName,E_Twice,E_TooMany,E_NoHolder,E_NoHouse,E_NoLoss,E_NoShare,aK X G jap,aK X G jaq,aK X G jar,aK X G jaj,aK X G jak,aK X G jal,
  ⟨_,_,_,jam,rfl,rfl,(show 2≤aQ by decide),.cons ⟨_,rfl⟩ (.cons ⟨_,rfl⟩ .nil)⟩,⟨_,_,_,jan,rfl,rfl,(show 2≤aQ by decide),.cons ⟨_,rfl⟩ (.cons ⟨_,rfl⟩ .nil)⟩,⟨_,_,_,jao,rfl,rfl,(show 2≤aQ by decide),.cons ⟨_,rfl⟩ (.cons ⟨_,rfl⟩ .nil)⟩,⟨ja7,ja8,ja9,jba⟩,jbd,jbe,jbf,jbg,jbh⟩
 have U0:=kH jcx jcy jcz
 have B0:=U0.binds (ps:=["text"]) fun _ _ _ _ _ _ us hl=>match us,hl with | [_],_=>rfl
 have U1:=kH jc1 jc2 jc3
 have B1:=U1.binds (ps:=["number"]) fun _ _ _ _ _ _ us hl=>match us,hl with | [_],_=>rfl
 have U2:=kH jc5 jc6 jc7
 have B2:=U2.binds (ps:=["number","other"]) fun _ _ _ _ _ _ us hl=>match us,hl with | [_,_],_=>rfl
 have U3:=kH jc9 jda jdb
 have B3:=U3.binds (ps:=["first","second"]) fun _ _ _ _ _ _ us hl=>match us,hl with | [_,_],_=>rfl
 have U4:=kH jdd jde jdf
 have B4:=U4.binds (ps:=["first","second"]) fun _ _ _ _ _ _ us hl=>match us,hl with | [_,_],_=>rfl
 have U5:=kH jdh jdi jdj
 have B5:=U5.binds (ps:=["first","second"]) fun _ _ _ _ _ _ us hl=>match us,hl with | [_,_],_=>rfl
 have U6:=kH jdm jdn jdo
 have B6:=U6.binds (ps:=["self"]) fun _ _ _ _ _ _ us hl=>match us,hl with | [_],_=>rfl
 have U7:=kH jdr jds jdt
 have B7:=U7.binds (ps:=["self","name"]) fun _ _ _ _ _ _ us hl=>match us,hl with | [_,_],_=>rfl
 have U8:=kH jdw jdx jdy
 have B8:=U8.binds (ps:=["self","name"]) fun _ _ _ _ _ _ us hl=>match us,hl with | [_,_],_=>rfl
 have U9:=kH jd1 jd2 jd3
 have B9:=U9.binds (ps:=["self","name"]) fun _ _ _ _ _ _ us hl=>match us,hl with | [_,_],_=>rfl
 have U10:=kH jd6 jd7 jd8
 have B10:=U10.binds (ps:=["self","name"]) fun _ _ _ _ _ _ us hl=>match us,hl with | [_,_],_=>rfl
 have U11:=kH jeb jec jed
 have B11:=U11.binds (ps:=["self","name"]) fun _ _ _ _ _ _ us hl=>match us,hl with | [_,_],_=>rfl
 have U12:=kH jeg jeh jei
 have B12:=U12.binds (ps:=["self","name"]) fun _ _ _ _ _ _ us hl=>match us,hl with | [_,_],_=>rfl
 have U13:=kH jel jem jen
 have B13:=U13.binds (ps:=["self","name","owner","things","mark","loss"]) fun _ _ _ _ _ _ us hl=>match us,hl with | [_,_,_,_,_,_],_=>rfl
 have U14:=kH jeq jer jes
 have B14:=U14.binds (ps:=["self","house","one","other","share"]) fun _ _ _ _ _ _ us hl=>match us,hl with | [_,_,_,_,_],_=>rfl
 have U15:=kH jev jew jex
 have B15:=U15.binds (ps:=["self"]) fun _ _ _ _ _ _ us hl=>match us,hl with | [_],_=>rfl
 have U16:=kH je0 je1 je2
 have B16:=U16.binds (ps:=["self"]) fun _ _ _ _ _ _ us hl=>match us,hl with | [_],_=>rfl
 have U17:=kH je5 je6 je7
 have B17:=U17.binds (ps:=["self","house"]) fun _ _ _ _ _ _ us hl=>match us,hl with | [_,_],_=>rfl
 have U18:=kH je9 jfa jfb
 have B18:=U18.binds (ps:=["_law_purse_here","_law_many"]) fun _ _ _ _ _ _ us hl=>match us,hl with | [_,_],_=>rfl
 have U19:=kH jfd jfe jff
 have B19:=U19.binds (ps:=["_law_one","_law_other"]) fun _ _ _ _ _ _ us hl=>match us,hl with | [_,_],_=>rfl
 have U20:=kH jfh jfi jfj
 have B20:=U20.binds (ps:=["_law_top","_law_bottom"]) fun _ _ _ _ _ _ us hl=>match us,hl with | [_,_],_=>rfl
 have U21:=kH jfl jfm jfn
 have B21:=U21.binds (ps:=["_law_one","_law_other"]) fun _ _ _ _ _ _ us hl=>match us,hl with | [_,_],_=>rfl
 have U22:=kH jfp jfq jfr
 have B22:=U22.binds (ps:=["_law_one","_law_other"]) fun _ _ _ _ _ _ us hl=>match us,hl with | [_,_],_=>rfl
 have U23:=kH jft jfu jfv
 have B23:=U23.binds (ps:=["_law_script"]) fun _ _ _ _ _ _ us hl=>match us,hl with | [_],_=>rfl
 have U24:=kH jfx jfy jfz
 have B24:=U24.binds (ps:=["_law_purse_here"]) fun _ _ _ _ _ _ us hl=>match us,hl with | [_],_=>rfl
 have U25:=kH jf1 jf2 jf3
 have B25:=U25.binds (ps:=["_law_purse_here"]) fun _ _ _ _ _ _ us hl=>match us,hl with | [_],_=>rfl
 have U26:=kH jf5 jf6 jf7
 have B26:=U26.binds (ps:=["_law_purse_here"]) fun _ _ _ _ _ _ us hl=>match us,hl with | [_],_=>rfl
 have U27:=kH jf9 jga jgb
 have B27:=U27.binds (ps:=["book","voters","house"]) fun _ _ _ _ _ _ us hl=>match us,hl with | [_,_,_],_=>rfl
 have U28:=kH jgd jge jgf
 have B28:=U28.binds (ps:=["book","voters"]) fun _ _ _ _ _ _ us hl=>match us,hl with | [_,_],_=>rfl
 have U29:=kH jgh jgi jgj
 have B29:=U29.binds (ps:=["drawn"]) fun _ _ _ _ _ _ us hl=>match us,hl with | [_],_=>rfl
 have U30:=kH jgl jgm jgn
 have B30:=U30.binds (ps:=["book","holder"]) fun _ _ _ _ _ _ us hl=>match us,hl with | [_,_],_=>rfl
 have U31:=kH jgp jgq jgr
 have B31:=U31.binds (ps:=["book","house","holder"]) fun _ _ _ _ _ _ us hl=>match us,hl with | [_,_,_],_=>rfl
 have U32:=kH jgt jgu jgv
 have B32:=U32.binds (ps:=["book","house"]) fun _ _ _ _ _ _ us hl=>match us,hl with | [_,_],_=>rfl
 have U33:=kH jgx jgy jgz
 have B33:=U33.binds (ps:=["book"]) fun _ _ _ _ _ _ us hl=>match us,hl with | [_],_=>rfl
 have U34:=kH jg1 jg2 jg3
 have B34:=U34.binds (ps:=["names"]) fun _ _ _ _ _ _ us hl=>match us,hl with | [_],_=>rfl
 have U35:=kH jg5 jg6 jg7
 have B35:=U35.binds (ps:=["book","known","house","voters"]) fun _ _ _ _ _ _ us hl=>match us,hl with | [_,_,_,_],_=>rfl
 have U36:=kH jg9 jha jhb
 have B36:=U36.binds (ps:=["book","holder","steps"]) fun _ _ _ _ _ _ us hl=>match us,hl with | [_,_,_],_=>rfl
 have U37:=kH jhd jhe jhf
 have B37:=U37.binds (ps:=["book","holder","houses"]) fun _ _ _ _ _ _ us hl=>match us,hl with | [_,_,_],_=>rfl
 have U38:=kH jhh jhi jhj
 have B38:=U38.binds (ps:=["_law_book","_law_holder"]) fun _ _ _ _ _ _ us hl=>match us,hl with | [_,_],_=>rfl
 have U39:=kH jhl jhm jhn
 have B39:=U39.binds (ps:=["_law_book","_law_holder"]) fun _ _ _ _ _ _ us hl=>match us,hl with | [_,_],_=>rfl
 have U40:=kH jhp jhq jhr
 have B40:=U40.binds (ps:=["_law_book","_law_holder","_law_houses"]) fun _ _ _ _ _ _ us hl=>match us,hl with | [_,_,_],_=>rfl
 have U41:=kH jht jhu jhv
 have B41:=U41.binds (ps:=["_law_script"]) fun _ _ _ _ _ _ us hl=>match us,hl with | [_],_=>rfl
 have t_rules:bW K "rules"=some (CDR,PTR):=Cy jgk jgl rfl jhw jhx
 refine ⟨a,dQ "law" "law" (rf uv) (mR uv) (kh uv) .none kV41 dc41 pm41 an41 cd41 ct41,CDR,PTR,t_rules,jh0,fun s v=>.of_eq rfl,fun base _ _ BM=>?_⟩
 have TL:LamTxt K mg base CDR PTR:=BI (BX jhw jhy) (fun z=>by rw [z] at jhz;simp at jhz) (BM _ _ t_rules)
 have MF:=@mkF l.prog w K mg base
 have MM:=@mkM l.prog w K mg base
 have RF_is_name:=MF (zU U0 T ) (aK X G jcw) jcz B0
 have RF_need_loss:=MF (xr U1 T ) (aK X G jc0) jc3 B1
 have RF_common_divisor:=MF (Hi U2 T ) (aK X G jc4) jc7 B2
 have RF_plus:=MF (Fg U3 T RF_common_divisor) (aK X G jc8) jdb B3
 have F_plus:=Fn.imp RF_plus (CG (a:=a))
 have RF_minus:=MF (Dj U4 T RF_plus) (aK X G jdc) jdf B4
 have RF_is_above:=MF (Dl U5 T ) (aK X G jdg) jdj B5
 have F_is_above:=Fn.imp RF_is_above (Bg (a:=a))
 have M_Book:MkB l.prog w K mg base "Book" a.Book 1 ["self"] (Ak K a.Book):=⟨_,_,Fh U6 T ,aK X G jai,⟨jbb,jdk,jdl,jbc⟩,B6⟩
 have RM_is_house:=MM (yu U7 T ) jdp jdq jdt T.cl B7
 have M_is_house:=Mt.imp RM_is_house (xj (a:=a))
 have RM_is_holder:=MM (xt U8 T RM_is_house) jdu jdv jdy T.cl B8
 have RM_need_house:=MM (vG U9 T RM_is_house) jdz jd0 jd3 T.cl B9
 have M_need_house:=Mt.imp RM_need_house (uc (a:=a))
 have RM_need_holder:=MM (uf U10 T RM_is_holder) jd4 jd5 jd8 T.cl B10
 have M_need_holder:=Mt.imp RM_need_holder (tQ (a:=a))
 have RM_need_new_name:=MM (yr U11 T RF_is_name RM_is_holder) jd9 jea jed T.cl B11
 have RM_person:=MM (Bx U12 T RM_need_new_name) jee jef jei T.cl B12
 have M_person:=Mt.imp RM_person (zA (a:=a))
 have RM_house:=MM (Dk U13 T RM_need_new_name RM_need_holder RF_need_loss) jej jek jen T.cl B13
 have M_house:=Mt.imp RM_house (Bf (a:=a))
 have RM_sale:=MM (Ff U14 T RM_need_house RM_need_holder RF_is_above RF_minus RF_plus) jeo jep jes T.cl B14
 have M_sale:=Mt.imp RM_sale (CF (a:=a))
 have RM_persons:=MM (zQ U15 T ) jet jeu jex T.cl B15
 have M_persons:=Mt.imp RM_persons (ym (a:=a))
 have RM_houses:=MM (By U16 T ) jey jez je2 T.cl B16
 have M_houses:=Mt.imp RM_houses (zB (a:=a))
 have RM_shares:=MM (Bv U17 T RM_need_house) je3 je4 je7 T.cl B17
 have M_shares:=Mt.imp RM_shares (zy (a:=a))
 have F__law_take:=MF (xw U18 T ) (aK X G je8) jfb B18
 have F__law_divisor:=MF (tS U19 T ) (aK X G jfc) jff B19
 have F__law_lowest:=MF (ug U20 T F__law_divisor) (aK X G jfg) jfj B20
 have F__law_plus:=MF (xx U21 T F__law_lowest) (aK X G jfk) jfn B21
 have F__law_times:=MF (vI U22 T F__law_lowest) (aK X G jfo) jfr B22
 have F__law_purse:=MF (vK U23 T ) (aK X G jfs) jfv B23
 have F__law_names:=MF (vL U24 T F__law_take) (aK X G jfw) jfz B24
 have F__law_part:=MF (xy U25 T F__law_lowest F__law_take) (aK X G jf0) jf3 B25
 have F__law_built:=MF (vN U26 T F__law_names M_Book M_person M_house F__law_take F__law_times F__law_part M_sale F__law_plus) (aK X G jf4) jf7 B26
 have F_outvote:=MF (zR U27 T M_shares F_is_above F_plus) (aK X G jf8) jgb B27
 have F_outvoted:=MF (yq U28 T M_houses F_outvote) (aK X G jgc) jgf B28
 have F_rounds:=MF (Bw U29 T ) (aK X G jgg) jgj B29
 have F_rules:=MF (Dh U30 T M_need_holder F_rounds F_outvoted jgk t_rules TL) (aK X G jgk) jgn B30
 have F_is_ruled:=MF (yt U31 T F_rules) (aK X G jgo) jgr B31
 have F_ruler:=MF (Di U32 T M_need_house M_persons F_is_ruled) (aK X G jgs) jgv B32
 have F_self_ruled:=MF (vF U33 T M_houses F_is_ruled) (aK X G jgw) jgz B33
 have F_are_unlike:=MF (vH U34 T ) (aK X G jg0) jg3 B34
 have F_is_step:=MF (zS U35 T F_outvote M_is_house F_are_unlike) (aK X G jg4) jg7 B35
 have F_are_steps:=MF (xu U36 T M_need_holder F_is_step) (aK X G jg8) jhb B36
 have F_is_shut:=MF (zT U37 T M_need_holder F_are_unlike F_outvoted M_is_house) (aK X G jhc) jhf B37
 have F__law_of:=MF (zV U38 T F_rules) (aK X G jhg) jhj B38
 have F__law_shown:=MF (vJ U39 T F_rules F_are_steps F_is_shut) (aK X G jhk) jhn B39
 have F__law_least:=MF (vM U40 T F__law_of F_is_shut) (aK X G jho) jhr B40
 exact Hh U41 T F__law_purse F__law_built F__law_least F_self_ruled F__law_shown F__law_take F_ruler F__law_of
def D4 (K:aa):Sp:=fun vs H Q E=>∃ (c:ae) (ns:List Int) (cd PT:ae),vs=[.ref c]∧ns.length≤63∧bW K "rules"=some (cd,PT)∧Ag PT H∧SqL K H c (ns.map V.int)∧(∀ v H',v=.bl true→Q v H')
theorem HC {K:aa}{a:Adr} (vs:List V) (H:Hp) (Q:VK) (E:XK) (h:D4 K vs H Q E):spD K a.Book 1 (yh a) vs H Q E:=by
 obtain ⟨c,ns,cd,PT,rfl,hl,ht,hO,hS,k⟩:=h
 exact Fu hl ht hO hS k
theorem walk {l:fY}{q:aU}{loose:List Str}{XP:(Str→Option af)→bM→Prop}{YP:bw→bM→Prop}{d d':DefRec}{K:Params→aa} (hn:l.most=some 63) (hdf:d.params.defaults=[])
  (hY:∀ (w:bw) (h:bM),YP w h→(K w.params).In h)
  (hrec:(recsOf q).find? (fun e=>e.name == ("rules":Str))=some d')
  (F:∀ (w:bw) (mg:Str→Option af) (fa:ae) (h:bM),(K w.params).In h→h.Ns aq mg→mg d.name=some (.ref fa) →
   ∃ (a:Adr) (fd:bV) (c P:ae),bW (K w.params) "rules"=some (c,P)∧(K w.params).lookup P=none∧(∀ (s:al) (u:af),iO s fd ⟨[u],[]⟩ [("_law_script",u)])∧∀ base:bM,(K w.params).In base→base.Ns aq mg→(∀ c P,bW (K w.params) "rules"=some (c,P)→we mg base P)→FnOk l.prog w (K w.params) mg base (CXo l.prog w) 11 fa fd ["_law_script"] (spD (K w.params) a.Book 1 (yh a))) :
  jQ q loose XP YP l.row.toRowW d [] (fun f vs=>jM f vs) :=
 L2.walk_ofT (n:=63) (k:=11) (x:="_law_script") (lam:="rules") (CX:=fun w=>CXo l.prog w) (sp:=fun w=>D4 (K w.params)) hn (by decide) hdf ⟨rfl,by decide,by decide⟩ hY hrec
  (fun w mg fa h X G hm=>let ⟨a,fd,c,P,t1,t2,h1,h2⟩:=F w mg fa h X G hm;⟨fd,c,P,t1,t2,h1,fun base b1 b2 b3=>(h2 base b1 b2 b3).imp HC⟩)
  (fun _ _ c ns cd PT hl ht hO hS=>⟨c,ns,cd,PT,rfl,hl,ht,hO,hS,fun _ _ e=>e⟩) fun _ _ _ _ _ z=>by
  obtain ⟨_,_,_,_,_,_,_,_,_,_,_,_,_,z⟩:=z
  exact z
end My
def PySem.W.Fast.tw16408869519453532208:Unit:=()
def PySem.W.Fast.tw3324378393633160867:Unit:=()
def PySem.W.Fast.tw13085162312414328529:Unit:=()
def PySem.W.Fast.tw8870141628978515781:Unit:=()
def PySem.W.Fast.tw7006005197207090686:Unit:=()
def PySem.W.Fast.tw15466084571039561566:Unit:=()
def PySem.W.Fast.tw14944985303615521760:Unit:=()
def PySem.W.Fast.tw6465517301761232537:Unit:=()
def PySem.W.Fast.tw11523313521040323376:Unit:=()
def PySem.W.Fast.tw13346365176560978454:Unit:=()
def PySem.W.Fast.tw11590933933281530308:Unit:=()
def PySem.W.Fast.tw404638635498102062:Unit:=()
def PySem.W.Fast.tw7258747823765496929:Unit:=()
def PySem.W.Fast.tw18185167511581847443:Unit:=()
def PySem.W.Fast.tw12528402380102145061:Unit:=()
def PySem.W.Fast.tw16329925811049970473:Unit:=()
def PySem.W.Fast.tw10983074818936930392:Unit:=()
def PySem.W.Fast.tw4866237525265576697:Unit:=()
def PySem.W.Fast.tw17251437697389839802:Unit:=()
def PySem.W.Fast.tw17835101663220868035:Unit:=()
def PySem.W.Fast.tw16881530082234409123:Unit:=()
def PySem.W.Fast.tw11160107343742511201:Unit:=()
def PySem.W.Fast.tw5758789785238183787:Unit:=()
def PySem.W.Fast.tw16120722395674312163:Unit:=()
def PySem.W.Fast.tw16622416944354959972:Unit:=()
def PySem.W.Fast.tw2064798837156173196:Unit:=()
def PySem.W.Fast.tw13123896310144139009:Unit:=()
def PySem.W.Fast.tw13130653794774309508:Unit:=()
def PySem.W.Fast.tw653570643500816217:Unit:=()
def PySem.W.Fast.tw1142288338099431682:Unit:=()
def PySem.W.Fast.tw9805979652501540207:Unit:=()
open PySem.W
set_option maxRecDepth 100000 in
set_option maxHeartbeats 0 in
theorem PySem.Challenge.cw_wholeowners_k36_whole_least_shut_lots_holds : PySem.Challenge.rw_wholeowners_k36_whole_least_shut_lots.Holds := by
 w_on;o_law;k_head;(case hw=>w_witness2)
 k_fill
 refine My.walk (l:=PySem.Challenge.rw_wholeowners_k36_whole_least_shut_lots) rfl rfl (fun w h Y=>PySem.W.km_in_of Y) rfl ?F
 case F =>
  intro w mg fa h KX G hmg
  refine' My.all_mk KX G hmg ?jaa ?jab ?jac ?jad ?jae ?jaf ?jag ?jah ?jai ?jaj ?jak ?jal ?jam ?jan ?jao ?jap ?jaq ?jar ?jas ?jat ?jau ?jav ?jaw ?jax ?jay ?jaz ?ja0 ?ja1 ?ja2 ?ja3 ?ja4 ?ja5 ?ja6 ?ja7 ?ja8 ?ja9 ?jba ?jbb ?jbc ?jbd ?jbe ?jbf ?jbg ?jbh ?jbi ?jbj ?jbk ?jbl ?jbm ?jbn ?jbo ?jbp ?jbq ?jbr ?jbs ?jbt ?jbu ?jbv ?jbw ?jbx ?jby ?jbz ?jb0 ?jb1 ?jb2 ?jb3 ?jb4 ?jb5 ?jb6 ?jb7 ?jb8 ?jb9 ?jca ?jcb ?jcc ?jcd ?jce ?jcf ?jcg ?jch ?jci ?jcj ?jck ?jcl ?jcm ?jcn ?jco ?jcp ?jcq ?jcr ?jcs ?jct ?jcu ?jcv ?jcw ?jcx ?jcy ?jcz ?jc0 ?jc1 ?jc2 ?jc3 ?jc4 ?jc5 ?jc6 ?jc7 ?jc8 ?jc9 ?jda ?jdb ?jdc ?jdd ?jde ?jdf ?jdg ?jdh ?jdi ?jdj ?jdk ?jdl ?jdm ?jdn ?jdo ?jdp ?jdq ?jdr ?jds ?jdt ?jdu ?jdv ?jdw ?jdx ?jdy ?jdz ?jd0 ?jd1 ?jd2 ?jd3 ?jd4 ?jd5 ?jd6 ?jd7 ?jd8 ?jd9 ?jea ?jeb ?jec ?jed ?jee ?jef ?jeg ?jeh ?jei ?jej ?jek ?jel ?jem ?jen ?jeo ?jep ?jeq ?jer ?jes ?jet ?jeu ?jev ?jew ?jex ?jey ?jez ?je0 ?je1 ?je2 ?je3 ?je4 ?je5 ?je6 ?je7 ?je8 ?je9 ?jfa ?jfb ?jfc ?jfd ?jfe ?jff ?jfg ?jfh ?jfi ?jfj ?jfk ?jfl ?jfm ?jfn ?jfo ?jfp ?jfq ?jfr ?jfs ?jft ?jfu ?jfv ?jfw ?jfx ?jfy ?jfz ?jf0 ?jf1 ?jf2 ?jf3 ?jf4 ?jf5 ?jf6 ?jf7 ?jf8 ?jf9 ?jga ?jgb ?jgc ?jgd ?jge ?jgf ?jgg ?jgh ?jgi ?jgj ?jgk ?jgl ?jgm ?jgn ?jgo ?jgp ?jgq ?jgr ?jgs ?jgt ?jgu ?jgv ?jgw ?jgx ?jgy ?jgz ?jg0 ?jg1 ?jg2 ?jg3 ?jg4 ?jg5 ?jg6 ?jg7 ?jg8 ?jg9 ?jha ?jhb ?jhc ?jhd ?jhe ?jhf ?jhg ?jhh ?jhi ?jhj ?jhk ?jhl ?jhm ?jhn ?jho ?jhp ?jhq ?jhr ?jhs ?jht ?jhu ?jhv ?jhw ?jhx ?jhy ?jhz ?jh0
  (case jaa=>k_is)
  (case jab=>k_is)
  (case jac=>k_is)
  (case jad=>k_is)
  (case jae=>k_is)
  (case jaf=>k_is)
  (case jag=>k_is)
  (case jah=>k_is)
  (case jai=>k_is)
  (case jaj=>k_is)
  (case jak=>k_is)
  (case jal=>k_is)
  (case jam=>k_is)
  (case jan=>k_is)
  (case jao=>k_is)
  (case jap=>k_is)
  (case jaq=>k_is)
  (case jar=>k_is)
  (case jas=>k_is)
  (case jat=>k_is)
  (case jau=>k_is)
  (case jav=>k_is)
  (case jaw=>k_is)
  (case jax=>k_is)
  (case jay=>k_is)
  (case jaz=>k_is)
  (case ja0=>k_is)
  (case ja1=>k_is)
  (case ja2=>k_is)
  (case ja3=>k_is)
  (case ja4=>k_is)
  (case ja5=>k_is)
  (case ja6=>k_is)
  (case ja7=>k_is)
  (case ja8=>k_is)
  (case ja9=>k_is)
  (case jba=>k_is)
  (case jbb=>k_is)
  (case jbc=>k_is)
  (case jbd=>k_is)
  (case jbe=>k_is)
  (case jbf=>k_is)
  (case jbg=>k_is)
  (case jbh=>k_is)
  (case jbi=>k_is)
  (case jbj=>k_is)
  (case jbk=>k_exc)
  (case jbl=>k_is)
  (case jbm=>k_is)
  (case jbn=>k_is)
  (case jbo=>k_is)
  (case jbp=>k_is)
  (case jbq=>k_exc)
  (case jbr=>k_is)
  (case jbs=>k_is)
  (case jbt=>k_is)
  (case jbu=>k_is)
  (case jbv=>k_is)
  (case jbw=>k_exc)
  (case jbx=>k_is)
  (case jby=>k_is)
  (case jbz=>k_is)
  (case jb0=>k_is)
  (case jb1=>k_is)
  (case jb2=>k_exc)
  (case jb3=>k_is)
  (case jb4=>k_is)
  (case jb5=>k_is)
  (case jb6=>k_is)
  (case jb7=>k_is)
  (case jb8=>k_exc)
  (case jb9=>k_is)
  (case jca=>k_is)
  (case jcb=>k_is)
  (case jcc=>k_is)
  (case jcd=>k_is)
  (case jce=>k_exc)
  (case jcf=>k_is)
  (case jcg=>k_is)
  (case jch=>k_is)
  (case jci=>k_is)
  (case jcj=>k_is)
  (case jck=>k_exc)
  (case jcl=>k_is)
  (case jcm=>k_is)
  (case jcn=>k_is)
  (case jco=>k_is)
  (case jcp=>k_is)
  (case jcq=>k_exc)
  (case jcr=>k_is)
  (case jcs=>k_is)
  (case jct=>k_is)
  (case jcu=>k_is)
  (case jcv=>k_is)
  (case jcw=>k_is)
  (case jcx=>unfold My.FL;k_is)
  (case jcy=>k_is)
  (case jcz=>k_is)
  (case jc0=>k_is)
  (case jc1=>unfold My.FL;k_is)
  (case jc2=>k_is)
  (case jc3=>k_is)
  (case jc4=>k_is)
  (case jc5=>unfold My.FL;k_is)
  (case jc6=>k_is)
  (case jc7=>k_is)
  (case jc8=>k_is)
  (case jc9=>unfold My.FL;k_is)
  (case jda=>k_is)
  (case jdb=>k_is)
  (case jdc=>k_is)
  (case jdd=>unfold My.FL;k_is)
  (case jde=>k_is)
  (case jdf=>k_is)
  (case jdg=>k_is)
  (case jdh=>unfold My.FL;k_is)
  (case jdi=>k_is)
  (case jdj=>k_is)
  (case jdk=>k_is)
  (case jdl=>k_is)
  (case jdm=>unfold My.FL;k_is)
  (case jdn=>k_is)
  (case jdo=>k_is)
  (case jdp=>k_is)
  (case jdq=>k_is)
  (case jdr=>unfold My.FL;k_is)
  (case jds=>k_is)
  (case jdt=>k_is)
  (case jdu=>k_is)
  (case jdv=>k_is)
  (case jdw=>unfold My.FL;k_is)
  (case jdx=>k_is)
  (case jdy=>k_is)
  (case jdz=>k_is)
  (case jd0=>k_is)
  (case jd1=>unfold My.FL;k_is)
  (case jd2=>k_is)
  (case jd3=>k_is)
  (case jd4=>k_is)
  (case jd5=>k_is)
  (case jd6=>unfold My.FL;k_is)
  (case jd7=>k_is)
  (case jd8=>k_is)
  (case jd9=>k_is)
  (case jea=>k_is)
  (case jeb=>unfold My.FL;k_is)
  (case jec=>k_is)
  (case jed=>k_is)
  (case jee=>k_is)
  (case jef=>k_is)
  (case jeg=>unfold My.FL;k_is)
  (case jeh=>k_is)
  (case jei=>k_is)
  (case jej=>k_is)
  (case jek=>k_is)
  (case jel=>unfold My.FL;k_is)
  (case jem=>k_is)
  (case jen=>k_is)
  (case jeo=>k_is)
  (case jep=>k_is)
  (case jeq=>unfold My.FL;k_is)
  (case jer=>k_is)
  (case jes=>k_is)
  (case jet=>k_is)
  (case jeu=>k_is)
  (case jev=>unfold My.FL;k_is)
  (case jew=>k_is)
  (case jex=>k_is)
  (case jey=>k_is)
  (case jez=>k_is)
  (case je0=>unfold My.FL;k_is)
  (case je1=>k_is)
  (case je2=>k_is)
  (case je3=>k_is)
  (case je4=>k_is)
  (case je5=>unfold My.FL;k_is)
  (case je6=>k_is)
  (case je7=>k_is)
  (case je8=>k_is)
  (case je9=>unfold My.FL;k_is)
  (case jfa=>k_is)
  (case jfb=>k_is)
  (case jfc=>k_is)
  (case jfd=>unfold My.FL;k_is)
  (case jfe=>k_is)
  (case jff=>k_is)
  (case jfg=>k_is)
  (case jfh=>unfold My.FL;k_is)
  (case jfi=>k_is)
  (case jfj=>k_is)
  (case jfk=>k_is)
  (case jfl=>unfold My.FL;k_is)
  (case jfm=>k_is)
  (case jfn=>k_is)
  (case jfo=>k_is)
  (case jfp=>unfold My.FL;k_is)
  (case jfq=>k_is)
  (case jfr=>k_is)
  (case jfs=>k_is)
  (case jft=>unfold My.FL;k_is)
  (case jfu=>k_is)
  (case jfv=>k_is)
  (case jfw=>k_is)
  (case jfx=>unfold My.FL;k_is)
  (case jfy=>k_is)
  (case jfz=>k_is)
  (case jf0=>k_is)
  (case jf1=>unfold My.FL;k_is)
  (case jf2=>k_is)
  (case jf3=>k_is)
  (case jf4=>k_is)
  (case jf5=>unfold My.FL;k_is)
  (case jf6=>k_is)
  (case jf7=>k_is)
  (case jf8=>k_is)
  (case jf9=>unfold My.FL;k_is)
  (case jga=>k_is)
  (case jgb=>k_is)
  (case jgc=>k_is)
  (case jgd=>unfold My.FL;k_is)
  (case jge=>k_is)
  (case jgf=>k_is)
  (case jgg=>k_is)
  (case jgh=>unfold My.FL;k_is)
  (case jgi=>k_is)
  (case jgj=>k_is)
  (case jgk=>k_is)
  (case jgl=>unfold My.FL;k_is)
  (case jgm=>k_is)
  (case jgn=>k_is)
  (case jgo=>k_is)
  (case jgp=>unfold My.FL;k_is)
  (case jgq=>k_is)
  (case jgr=>k_is)
  (case jgs=>k_is)
  (case jgt=>unfold My.FL;k_is)
  (case jgu=>k_is)
  (case jgv=>k_is)
  (case jgw=>k_is)
  (case jgx=>unfold My.FL;k_is)
  (case jgy=>k_is)
  (case jgz=>k_is)
  (case jg0=>k_is)
  (case jg1=>unfold My.FL;k_is)
  (case jg2=>k_is)
  (case jg3=>k_is)
  (case jg4=>k_is)
  (case jg5=>unfold My.FL;k_is)
  (case jg6=>k_is)
  (case jg7=>k_is)
  (case jg8=>k_is)
  (case jg9=>unfold My.FL;k_is)
  (case jha=>k_is)
  (case jhb=>k_is)
  (case jhc=>k_is)
  (case jhd=>unfold My.FL;k_is)
  (case jhe=>k_is)
  (case jhf=>k_is)
  (case jhg=>k_is)
  (case jhh=>unfold My.FL;k_is)
  (case jhi=>k_is)
  (case jhj=>k_is)
  (case jhk=>k_is)
  (case jhl=>unfold My.FL;k_is)
  (case jhm=>k_is)
  (case jhn=>k_is)
  (case jho=>k_is)
  (case jhp=>unfold My.FL;k_is)
  (case jhq=>k_is)
  (case jhr=>k_is)
  (case jhs=>k_is)
  (case jht=>unfold My.FL;k_is)
  (case jhu=>k_is)
  (case jhv=>k_is)
  (case jhw=>k_is)
  (case jhx=>rfl)
  (case jhy=>rfl)
  (case jhz=>rfl)
  (case jh0=>first | kernel_rfl | rfl)

