import PyProof.Rows.All
import Wide.All
import OpenK.AllK
import Wide.FinOn
import Lean
import PyProof.EqAt
import PyProof.EqKinds
import PyProof.TupleCall
import KE.KLam
import KE.KNest
import PySem.Challenge.RW_wholeowners_k11_worths
import KE.KNestM
import KE.KIsAll
import PyProof.EnumFor
import PyProof.EnumStmt
import PyProof.EnumMake
import PyProof.StrOps2
import PyProof.ZipIter
import PyProof.Rows.SumAny
import PyProof.AttrMissHeap
import KE.KDictOf
import PyProof.SumWalk
import PyProof.DictWalks
import KE.KEqDict
theorem Zf{p}[i:Decidable p](h:decide p=true):p:=of_decide_eq_true h
theorem Zg{p}[i:Decidable p](h:p):decide p=true:=decide_eq_true h
theorem Zh{p}[i:Decidable p](h:¬p):decide p=false:=decide_eq_false h
open Option renaming some→Za,none→Zb
theorem Zc{c:Prop}{h:Decidable c}(k:c){α}{t e:α}:ite c t e=t:=if_pos k
theorem Zd{c:Prop}{h:Decidable c}(k:¬c){α}{t e:α}:ite c t e=e:=if_neg k
open PySem.W renaming Frag->aa,findIn->aJ,kitOne->bA,nsIn->bF,mroIn->bJ,kia_one->bM,emptyDict->bS,keepIn->bU,fnOf->bW,hasDictIn->cE,specialIn->cM,instObj->dq,looks_findIn->dB,hideAll->dP,kitAny->ee,plainGet->eB,Looks->eC,callWith_K->eV,excIn->fL,takesIn->fT,makesIn->fU,codeIn->gg,plainOver->gB,looks_mroIn->gG,OpenLaw->gP,isFn->gQ,methodCall_KW->g5,lookIn->io,plainGet_of->iC,looks_clsIn->iD,hideAll_get->iE,of_hideAll->iR,kitx_list->i0,takerIn->jm,tailIn->jy,mg_of->jO,handedIn->kf,funFrames_hide->kg,cellsFrom_some->kh,hideAll_none->kG,callWith_K0->kM,tail_of_in->k7,kitx_tuple->k8,set_plain->ly,kitx_none->lz,kitx_dict->lA,any_some->lL,WalkO->lM,readsIn->l9,kia_tup->ma,findCls->mf,bind_fn->mh
open List renaming length_map->ac,mem_cons_of_mem->af,mem_cons_self->al,map_cons->am,mem_cons->ap,mem_map->ar,mem_singleton->ax,getElem?_eq_getElem->ay,map_append->aD,getElem?_map->aG,map_map->aH,nodup_cons->aK,mem_append_right->aL,replicate->aQ,getElem?_eq_some_iff->aR,mem_filter->aU,map_congr_left->aX,length_append->aY,mem_append->a7,size_toArray->bi,range->bo,length_cons->bu,find?_cons->bP,append_nil->bQ,mem_iff_getElem?->bY,nodup_append->bZ,lookup_cons->cx,length->cC,drop_eq_getElem_cons->cF,length_filter_le->cG,mem_append_left->cN,map_nil->cX,drop_eq_nil_of_le->cY,getElem_mem->cZ,pairwise_cons->de,mem_range->dg,getElem?_append_right->di,getElem?_append_left->du,mem_of_getElem?->dA,all_eq_true->dM,filter_map->dX,any_cons->dZ,length_replicate->d8,getElem?_eq_none->d9,take_add_one->ei,length_take->eM,replicate_succ->eR,filter_sublist->eS,nil_append->fb,length_eq_zero_iff->fm,not_mem_nil->fP,sum_cons->fY,getElem?_set_ne->f7,mem_filterMap->gC,find?_map->gD,find?_eq_none->gE,lookup->gL,getElem?_set->gM,flatten_cons->gN,length_drop->gT,getElem?_replicate->gU,getElem?_cons_zero->gW,getElem?_cons_succ->gX,filter_cons->gY,any_eq_true->gZ,take_of_length_le->ib,any_map->ig,nodup_nil->iL,map_id->iM,length_pos_iff->iX,filter_eq_self->iY,filterMap_cons->iZ,all_cons->i6,findIdx?_eq_some_iff_getElem->jb,find?_append->jh,ext_getElem?->ji,take_length->jp,map_fst_zip->jq,of_mem_zip->jF,length_set->jG,length_nil->jH,perm_ext_iff_of_nodup->jZ,zipWith->kT,range_succ_eq_map->kU,getElem?_set_self->kW,take_append_drop->li,length_singleton->lr,cons_lt_cons_iff->lv,mem_of_mem_take->lC,mem_of_mem_drop->lE,drop_eq_nil_iff->lF,getElem?_range->lU,ne_nil_of_mem->mv,contains_cons->mw
open PySem renaming wpAny_bind->ae,Addr->ag,Value->ai,starEach->ao,Shared->aw,wpAny_pure->aE,sizeLine->aF,wpAny->aM,mainGlobals->aT,wpAny_mono->aZ,foldedSetIterable->a6,bootBuiltins->bh,backTo->bI,compareOp->bN,Program->bT,Stmt->bX,Heap->cg,attributeBase->cm,World->cy,Expr->cA,wpAny_holding->cD,keywordEach->cI,swapsWith->cO,assignEach->cP,Around->cQ,behindInMarks->cS,FuncData->cT,wpAny_loadPart_at->cW,wpAny_Call_Name_kw->dy,mem_of_lookup->dF,wpAny_truthy_bool->dG,wpAny_newObj_type->dH,lookup_relabel_local->dI,binaryOp->dJ,Spec->dQ,sysModules->ed,wpAny_passesOwn->en,backToKw->eA,wpAny_standAt->eE,codeAny_call_builtin->eU,codeAny->eX,Paired->fk,wpAny_comprehension_free->fA,cLine->fB,wpAny_execs_nil->fD,tupleKind_room_in1->fF,getMethod->fK,standAt->fR,codeAny_mono->fS,Keyword->fV,sliceBounds->gy,bindArgs->gA,Scope->gH,wpAny_pyIter_list->hJ,swapsWithSole->ij,swappedStores->im,reprText->iA,callWith->iB,NameKind->iG,wpAny_call->iP,getItem->iQ,getAttrByItsOwn->iW,strIterType->ja,tupleKind->jf,wpAny_isSubtype_exc->jj,wpAny_execs_cons->jk,typeLookup->jt,isInstance->ju,call_meets->jv,builtinsNs->jx,Builtin->jE,wpAny_assign_Name->jL,callerA->jM,call_meetsIn->jN,IntMulOk->jP,BindsTo->jS,plainObj_wpAny_Assign_Attribute->jU,IsPart->kj,wpAny_field->ko,sizeLine_eq->kq,excClassObj->kr,letOwnedTupleGo->kD,codeAny_builtin->kE,Within->kF,valueAt->kJ,setItem->kK,notedBy->kL,wpAny_loadPart->k6,Result->k9,PyData->lc,call->lJ,bindL->lW,bindC->lY,atKey->lZ
open And renaming intro->ah
open PySem.Heap renaming get?_push_of_some->aj,lt_size->au,get?_push_size->aO,get?_update_ne->dL,get?_update_self->d6,FlyingW->gw,size_push->iI,SameBut->jg,get?_update_other->kP
open Nat renaming le_refl->ak,ne_of_lt->az,lt_of_lt_of_le->aA,le_trans->aC,zero_le->aV,lt_of_le_of_lt->aW,lt_succ_self->bv,lt_succ_of_lt->bK,pow_le_pow_right->b6,two_pow_pos->b7,le_succ->dD,le_of_not_lt->eP,lt_irrefl->eZ,zero_add->fG,ne_of_gt->fH,le_of_lt->fI,le_of_ble_eq_true->fO,lcm->f6,eq_of_mul_eq_mul_left->gK,lt_trans->ip,le_of_eq->jo,le_antisymm->jT,add_assoc->kI,add_sub_cancel_left->kS,pow_succ->lh,pow_lt_pow_right->lR,pow_add->lS,mul_pos->lT,mul_le_mul_left->mq,add_le_add_left->ms
open Sum renaming inr->aq,inl->kX
open Int renaming gcd->aI,mul_le_mul_of_nonneg_right->aS,mul_assoc->bc,mul_pos->br,gcd_pos_of_ne_zero_right->bw,le_of_lt->bx,mul_comm->bR,gcd_dvd_right->b8,mul_ediv_cancel_left->cL,emod_lt_of_pos->dU,eq_of_mul_eq_mul_right->eJ,toNat_of_nonneg->eW,emod_nonneg->fj,mul_right_comm->ft,mul_nonpos_of_nonneg_of_nonpos->fu,natCast_dvd_natCast->fz,mul_left_comm->fJ,natAbs_dvd_natAbs->fQ,gcd_dvd_left->fZ,ofNat_le->iq,le_trans->ir,natAbs_neg->iT,natAbs_mul->iU,mul_nonneg->iV,natAbs_natCast->jd,mul_nonpos_of_nonpos_of_nonneg->je,gcd_mul_left->jB,neg_mul->jI,ediv_eq_of_eq_mul_right->ke,le_of_mul_le_mul_right->kn,mul_one->lV
open Rat renaming divInt->aN,mul_nonneg->bH,divInt_eq_div->cB,le_trans->cK,intCast_natCast->cU,mul_le_mul_of_nonneg_left->dR,natCast_le_natCast->dS,intCast_mul->fg,intCast_lt_intCast->fE,num_divInt_den->gF,add_zero->ii,zero_divInt->iu,intCast_add->iy,mul_pos->iO,natCast_mul->jJ,intCast_sub->jK,divInt_eq_divInt_iff->kC,zero_add->kY,le_of_lt->kZ,divInt_add_divInt->lw,le_refl->lI
open PySem.Value renaming ref->aP,builtin->fN,int->jn
open PySem.PyData renaming strOk->ba,eqv->cR,eqvAll->fM,depth->i8,str->jC,list->kN,canLayAll0->lO
open False renaming elim->bj
open Bool renaming false_ne_true->bG,eq_iff_iff->cj,and_eq_true->cJ,or_eq_true->fc,eq_false_iff->gO,false_and->iN,true_and->i7
open Option.some renaming inj->bL
open PySem.NameKind renaming free->bO,cell->iF
open Ne renaming symm->bV
open PySem.Str renaming ofString->b5,empty->ci
open PySem.Builtin.Int renaming intBits->cq
open PySem.F renaming excBase_ValueError->cz,plainAttrs_dict->gJ,slot_list_getattribute->g8,slot_dict_get->g9,excAttr_ValueError->jz,slot_dict_getitem->jD,slot_dict_values->jQ,slot_list_index->jV,plainAttrs_list->jW,args_dict_get_3->jX,entry_dict_get->kl,slot_dict_pop->kA,slot_list_append->lg
open True renaming intro->cH
open Classical renaming propDecidable->dE,byContradiction->gu
open PyProof.Rows renaming callWith_type1->dN,slot_tuple_getitem->dO,envOfC->eg,AllBare->ia,callWith_builtin1->iK,assignInOrder_cons->jA
open PySem.Builtin.Slice renaming slicePlaces->dW,sliceAdjust->fX
open Option renaming isSome_map->dY,isSome_eq_false_iff->ej,isNone_iff_eq_none->eI,isSome_iff_exists->eQ,map_eq_some_iff->gS,map_eq_none_iff->kB,getD_none->mj
open PySem.PassesOwn renaming never->eK
open Or renaming inl->eL,inr->gR
open ForInStep renaming yield->eO
open List.Sublist renaming refl->eT,eq_of_length->jc
open PySem.Calls renaming spliced_cons->eY,callWith_builtin->fC,evalArgs_plain->fW,spliced_nil->gI,Name_function_global->jR,Constant_str->lP
open PySem.Spec renaming ltCps->f8
open PySem.Builtin.List renaming listTooLong->f9
open PySem.W.WData renaming weightAll->hZ,int->iH
open List.cons renaming inj->iz
open PySem.Expr renaming Subscript->iJ
open PySem.Paired renaming length->iS,snoc->kO
open PySem.Code renaming quiet_builtin->i9
open Nat.succ renaming inj->jY
open PySem.Obj renaming mapSeq->ki
open PySem.EntryCells renaming newEntry->km
open PySem.SeqAt.EqAt renaming str_int->ku,int_str->ky
open PySem.W.Looks renaming ld->kH
open PySem.Heap.DictOf renaming new->kQ
open PySem.Around renaming under_plainId->kR
open PySem.Heap.Ns1 renaming of_empty->lf
open Array renaming length_toList->lH
open PySem.Within renaming cons->lK
open PySem.SeqAt renaming EqAt->lN
open PySem.Builtin.BaseException renaming bexcPut->lQ
open List.Perm renaming map->mB
set_option compiler.extract_closed false
set_option bootstrap.genMatcherCode false
set_option genSizeOf false
noncomputable section
set_option Elab.async false
set_option linter.all false
set_option autoImplicit true
set_option maxRecDepth 100000
section
def StR(s:Lean.Syntax):=s.rewriteBottomUp λ|.node _ k a=>.node .none k a|.atom _ v=>.atom .none v|.ident _ r v p=>.ident .none r v p|x=>x
local macro_rules(kind:=Lean.Parser.Command.mutual)|s=>if s.getPos?.isNone then Lean.Macro.throwUnsupported else return StR s
local macro_rules(kind:=Lean.Parser.Command.declaration)|s=>do
 if s.getPos?.isNone then Lean.Macro.throwUnsupported
 let mut r:=StR s
 if r[1].isOfKind ``Lean.Parser.Command.definition&&r[0].getArgs.all (·.getNumArgs==0)then r:=r.setArg 0 (← `(command|noncomputable def x:=1)).1[0]
 if(s.find? λx=>x.isOfKind ``Lean.Parser.Tactic.renameI||x.isOfKind ``Lean.Parser.Tactic.case).isSome then return r
 `(command|set_option tactic.hygienic false in $(⟨r⟩))
open Lean.Parser Tactic in
local macro_rules|`(tactic|let $p:term:=$e)=>do
 let p←p.1.rewriteBottomUpM λ
  |`(⟨$q,*⟩)=>do return(←`(rcasesPat|⟨$(←q.getElems.mapM λx=>`(rcasesPatLo|$(⟨x.1⟩):rcasesPat)),*⟩)).1
  |`($i:ident)=>return(←`(rcasesPat|$i:ident)).1
  |`(_)=>return(←`(rcasesPat|_)).1
  |t=>return t
 `(tactic|obtain $(⟨p⟩):rcasesPat:=$e)
local macro_rules(kind:=Lean.Parser.Term.quotedName)|s=>match s[0].isNameLit? with|some `l=>`(((by lia)))|some `m=>`((($(Lean.mkIdent `mD) rfl)))|some `g=>`(((by grind)))|some `d=>`(((by decide)))|_=>Lean.Macro.throwUnsupported
namespace L2
open PySem PySem.Spec PyProof.Rows
abbrev Key:=Sum Int Str
def EF:Key->ai->Bool
 |.inl k,v=>Value.isInt k v
 |.inr x,v=>Value.isStrOf x v
def Ãf(w:cy):Key->Int
 |.inl k=>hashInt k
 |.inr x=>hashStr w x
def nU:∀{k:Key}{v:ai},EF k v=true->(∃i t,k=kX i/\v=jn i t)\/(∃x t,k=aq x/\v=Value.str x t)
 |.inl i,v,h=>by
  let⟨t,e⟩:=Value.isInt_shape h;exact .inl ⟨i,t,rfl,e⟩
 |.inr x,v,h=>by let⟨t,e⟩:=Value.isStrOf_shape h;exact .inr ⟨x,t,rfl,e⟩
def Ju(i)(t):EF (.inl i) (.int i t)=true:=by simp[EF,Value.isInt]
def Jt(x)(t):EF (.inr x) (.str x t)=true:=by simp[EF,Value.isStrOf]
def Ri(a b):decide ((kX a:Key)=kX b)=(a==b):=by grind
def MA(a b):decide ((aq a:Key)=aq b)=decide (a=b):=by grind
def Rh(a)(b):decide ((kX a:Key)=aq b)=false:=Zh (λq=>nomatch q)
def Rg(a)(b):decide ((aq a:Key)=kX b)=false:=Zh (λq=>nomatch q)
def nY(prog:bT)(w:cy):PySem.KeyKind prog w Key where
 is:=EF
 hash:=Ãf w
 inj:=λv a b ha hb=>by
  rcases nU ha with⟨i,t,rfl,rfl⟩|⟨x,t,rfl,rfl⟩
  .rcases nU hb with⟨j,u,rfl,e⟩|⟨y,u,rfl,e⟩
   .injection e with e1 _;rw[e1]
   .exact nomatch e
  .rcases nU hb with⟨j,u,rfl,e⟩|⟨y,u,rfl,e⟩
   .exact nomatch e
   .injection e with e1 _;rw[e1]
 byValue:=λk v h=>by rcases nU h with⟨i,t,rfl,rfl⟩|⟨x,t,rfl,rfl⟩<;>rfl
 pyHash:=λhv h=>by
  rcases nU hv with⟨i,t,rfl,rfl⟩|⟨x,t,rfl,rfl⟩
  .exact wpAny_pyHash_int h
  .exact wpAny_pyHash_str h
 eqBool:=λhu hv h=>by
  rcases nU hu with⟨i,t,rfl,rfl⟩|⟨x,t,rfl,rfl⟩
  .rcases nU hv with⟨j,u,rfl,rfl⟩|⟨y,u,rfl,rfl⟩
   .rw[Ri] at h;exact wpAny_eqBool_int h
   .rw[Rh] at h;exact ky i t y u _ _ _ _ h
  .rcases nU hv with⟨j,u,rfl,rfl⟩|⟨y,u,rfl,rfl⟩
   .rw[Rg] at h;exact ku x t j u _ _ _ _ h
   .rw[MA] at h;exact wpAny_eqBool_str h
 «strs»:=λk x t v h=>by
  rcases nU h with⟨i,u,rfl,e⟩|⟨y,u,rfl,e⟩
  .exact nomatch e
  .injection e with e1 _
   subst e1;cases v<;>rfl
def Fa(prog)(w)(i)(t):(nY prog w).is (.inl i) (.int i t)=true:=Ju i t
def E9(prog)(w)(x)(t):(nY prog w).is (.inr x) (.str x t)=true:=Jt x t
inductive V where
 |Zn|bl (b:Bool)|int (i:Int)|str (x:Str)|byt (b:Array UInt8)|flt (b:UInt64)|ref (a:ag)|ty (n:String)
 deriving DecidableEq
def RelV:V->ai->Prop
 |.Zn,u=>u=Value.none
 |.bl b,u=>u=Value.bool b
 |.int i,u=>∃t,u=jn i t
 |.str x,u=>∃t,u=Value.str x t
 |.byt b,u=>∃t,u=Value.bytes b t
 |.flt b,u=>∃t,u=Value.float b t
 |.ref a,u=>u=aP a
 |.ty n,u=>u=Value.type n
abbrev Vals:List V->List ai->Prop:=fk RelV
theorem Vals.length(r:Vals xs us):xs.length=us.length:=iS r
theorem Vals.get:∀{xs:List V}{us:List ai}{i:Nat}{x:V},Vals xs us->xs[i]?=Za x->∃u,us[i]?=Za u/\RelV x u
 |_,_,_,_,.nil,e=>by simp at e
 |_,_,0,_,.cons r _,e=>by simp at e;subst e;exact⟨_,rfl,r⟩
 |_,_,i+1,x,.cons _ t,e=>by
  let⟨u,h1,h2⟩:=Vals.get t (by simpa using e)
  simp_all
theorem Vals.set(r:RelV x u):∀{xs:List V}{us:List ai}(i:Nat),Vals xs us->Vals (xs.set i x) (us.set i u)
 |_,_,_,.nil=>.nil
 |_,_,0,.cons _ t=>.cons r t
 |_,_,i+1,.cons q t=>.cons q (Vals.set r i t)
theorem Vals.append:∀{xs ys:List V}{us ws:List ai},Vals xs us->Vals ys ws->Vals (xs++ys) (us++ws)
 |_,_,_,_,.nil,s=>s
 |_,_,_,_,.cons r t,s=>.cons r (Vals.append t s)
theorem Vals.take:∀{xs:List V}{us:List ai}(n:Nat),Vals xs us->Vals (xs.take n) (us.take n)
 |_,_,0,_=>.nil
 |_,_,_+1,.nil=>.nil
 |_,_,n+1,.cons r t=>.cons r (Vals.take n t)
theorem Vals.drop:∀{xs:List V}{us:List ai}(n:Nat),Vals xs us->Vals (xs.drop n) (us.drop n)
 |_,_,0,r=>r
 |_,_,_+1,.nil=>.nil
 |_,_,n+1,.cons _ t=>Vals.drop n t
def ù:Option V->Option ai->Prop
 |some v,Za u=>RelV v u
 |none,Zb=>True
 |_,_=>False
def KV{κ:Type}:List (κ×V)->List (κ×ai)->Prop:=fk λ(p:κ×V)(q:κ×ai)=>p.1=q.1/\RelV p.2 q.2
def kV:Key->V
 |.inl i=>.int i
 |.inr x=>.str x
inductive HO where
 /-- a list -/
 |lst (xs:List V)
 /-- a tuple (never changes) -/
 |tup (xs:List V)
 /-- a dict whose keys are ints and texts;one whose keys are tuples of ints and texts (the empty one is both) -/
 |dK (R3:List (Key×V))|dT (R3:List (List Key×V))
 /-- a set of ints: its members,its size -/
 |set (S:Int->Bool) (n:Nat)
 /-- an instance of the class at C,its dict at dx,its attributes -/
 |ins (C dx:ag) (fs:List (Str×V))
 /-- the dict of the instance at x -/
 |own (x:ag)
 /-- the dict of an exception -/
 |xd (fs:List (Str×V))
 /-- a bound method,f of x -/
 |met (f x:ag)
 /-- a range object lo,lo+1,.. below hi -/
 |rng (lo hi:Int)
 /-- a thing that is known to the object (the script;a dict while a loop walks it): read,never written while it is so -/
 |Z5 (o:Obj) (u:HO)
 /-- a code object's table -/
 |ϕ (ps:Array ai)
 /-- any Uf thing,by what is true of its one object (a def of one's own: SetO a S n:=HO.ext λh=>..) -/
 |ext (φ:cg->Prop)
abbrev Hp:=ag->Option HO
def upd(H:Hp)(a:ag)(o:HO):Hp:=λb=>if b=a then Za o else H b
def mH:upd H a o a=Za o:=by unfold upd;rw[Zc rfl]
def mF(h:b≠a):upd H a o b=H b:=by unfold upd;rw[Zd h]
def xO:upd (upd H a o) a u=upd H a u:=by
 funext b;unfold upd;split<;>rfl
def EE{H:Hp}{a b:ag}{o u:HO}(h:H a=Za o)(h':H b=Za u)(d:o≠u):a≠b:=by grind
def mQ{H:Hp}{a b:ag}{o:HO}(h:H a=Za o)(h':H b=Zb):a≠b:=by grind
section
variable(P:bT)(w:cy)
def ZO(H:Hp)(h:cg)(a:ag):HO->Prop
 |.lst xs=>xs.length<=aF/\∃(its:List ai)(n:Nat),Vals xs its/\h.get? a=Za { cls:=.type "list",data:=.seq its.toArray n }
 |.tup xs=>xs.length<=aF/\∃its:List ai,Vals xs its/\IsTup h a its.toArray
 |.dK R3=>R3.length<=aF/\(a==ed)=false/\∃vs,KV R3 vs/\h.DictOf (nY P w) a vs
 |.dT R3=>R3.length<=aF/\(a==ed)=false/\∃xs:List (List Key×ag×ai),
   fk (λ(p:List Key×V)(q:List Key×ag×ai)=>p.1=q.1/\H q.2.1=Za (.tup (p.1.map kV))/\RelV p.2 q.2.2) R3 xs /\
   ∃o es ep,h.get? a=Za o/\o.ExactDict/\o.data=.dict es ep/\es.toList=xs.map (entryOfKey (jf (nY P w)))/\(xs.map (·.1)).Nodup
 |.set S n=>h.SetOf (intKind P w) a S n
 |.ins C dx fs=>H dx=Za (.own a)/\fs.length<=1000/\dx≠a/\h.get? a=Za (dq C dx) /\
   ∃mA,h.Ns1 dx mA/\(∀f,ù (fs.lookup f) (mA f))/\kF mA (fs.map (·.1))
 |.own _=>∃o,h.get? a=Za o
 |.xd fs=>∃mA,h.Ns1 a mA/\∀f,ù (fs.lookup f) (mA f)
 |.rng lo hi=>∃t u v,h.get? a=Za { cls:=.type "range",data:=.fields #[.int lo t,.int hi u,.int 1 v] }
 |.Z5 o u=>h.get? a=Za o/\ZO H h a u
 |.ϕ ps=>h.get? a=Za { cls:=.none,data:=.fields ps }
 |.met f x=>h.get? a=Za (PySem.W.methodObj (.ref f) (.ref x))
 |.ext φ=>φ h/\(∃o,h.get? a=Za o)/\∀h1 h2:cg,φ h1->(∀o,h1.get? a=Za o->h2.get? a=Za o)->φ h2
def ċ(H:Hp)(h:cg):Prop:=∀a o,H a=Za o->ZO P w H h a o
end
theorem ZO.lt(x:ZO P w H h a o):a<h.objs.size:=by
 cases o with
 |lst xs=>let⟨_,_,_,_,e⟩:=x;exact au e
 |tup xs=>let⟨_,_,_,p⟩:=x;exact p.lt
 |dK R3=>let⟨_,_,_,_,o,_,_,e,_⟩:=x;exact au e
 |dT R3=>let⟨_,_,_,_,o,_,_,e,_⟩:=x;exact au e
 |set S n=>let⟨o,_,_,_,e,_⟩:=x;exact au e
 |ins C dx fs=>let⟨_,_,_,e,_⟩:=x;exact au e
 |own y=>let⟨_,e⟩:=x;exact au e
 |xd fs=>let⟨_,⟨_,_,_,e,_⟩,_⟩:=x;exact au e
 |rng lo hi=>let⟨_,_,_,e⟩:=x;exact au e
 |Z5 ob u=>let⟨e,_⟩:=x;exact au e
 |ϕ ps=>exact au (x)
 |met f y=>exact au (x)
 |ext φ=>let⟨_,⟨_,e⟩,_⟩:=x;exact au e
theorem fk.ÀM:∀{la1:List α}{la2:List β},fk F la1 la2->(∀a b,F a b->G a b)->fk G la1 la2
 |_,_,.nil,_=>.nil
 |_,_,.cons r t,f=>.cons (f _ _ r) (fk.ÀM t f)
def ZO.ď(x:ZO P w H h a o)(k:∀b u,(b=a\/H b=Za (.own a))->h.get? b=Za u->h'.get? b=Za u)(ho:∀b,H b=Za (.own a)->H' b=Za (.own a))(ht:∀b xs,H b=Za (.tup xs)->H' b=Za (.tup xs)):ZO P w H' h' a o:=by
 induction o with
 |lst xs=>let⟨z,its,n,r,e⟩:=x;exact⟨z,its,n,r,k _ _ (.inl rfl) e⟩
 |tup xs=>let⟨z,its,r,ob,e,c⟩:=x;exact⟨z,its,r,ob,k _ _ (.inl rfl) e,c⟩
 |dK R3=>let⟨z,y,vs,r,ob,es,ep,e,c⟩:=x;exact⟨z,y,vs,r,ob,es,ep,k _ _ (.inl rfl) e,c⟩
 |dT R3 =>
  let⟨z,y,xs,r,ob,es,ep,e,c⟩:=x;exact⟨z,y,xs,fk.ÀM r λp q z=>⟨z.1,ht _ _ z.2.1,z.2.2⟩,ob,es,ep,k _ _ (.inl rfl) e,c⟩
 |set S n=>let⟨ob,es,ep,t,e,c⟩:=x;exact⟨ob,es,ep,t,k _ _ (.inl rfl) e,c⟩
 |ins C dx fs =>
  let⟨d,z,ne,e,mA,⟨od,es,ep,e2,c⟩,r⟩:=x;exact⟨ho _ d,z,ne,k _ _ (.inl rfl) e,mA,⟨od,es,ep,k _ _ (.inr d) e2,c⟩,r⟩
 |own y=>let⟨ob,e⟩:=x;exact⟨ob,k _ _ (.inl rfl) e⟩
 |xd fs=>let⟨mA,⟨od,es,ep,e,c⟩,r⟩:=x;exact⟨mA,⟨od,es,ep,k _ _ (.inl rfl) e,c⟩,r⟩
 |rng lo hi=>let⟨t,u,v,e⟩:=x;exact⟨t,u,v,k _ _ (.inl rfl) e⟩
 |Z5 ob u ih=>let⟨e,q⟩:=x;exact⟨k _ _ (.inl rfl) e,ih q⟩
 |ϕ ps =>
  have e:=x;exact k a _ (.inl rfl) e
 |met f y =>
  have e:=x;exact k a _ (.inl rfl) e
 |ext φ=>let⟨p,⟨o,e⟩,st⟩:=x;exact⟨st _ _ p λo q=>k _ _ (.inl rfl) q,⟨o,k _ _ (.inl rfl) e⟩,st⟩
theorem ċ.lt(x:ċ P w H h)(e:H a=Za o):a<h.objs.size:=(x a o e).lt
def ċ.fresh(x:ċ P w H h)(e:h.objs.size<=a):H a=none:=by
 cases q:H a with
 |none=>rfl
 |some u=>exact absurd (aA (x.lt q) e) (eZ _)
def ċ.kept(x:ċ P w H h)(k:∀b u,h.get? b=Za u->h'.get? b=Za u):ċ P w H h':=λa o e =>
 (x a o e).ď (λb u _ q=>k b u q) (λ_ q=>q) λ_ _ q=>q
def ċ.laid(x:ċ P w H h)(k:∀b u,h.get? b=Za u->h'.get? b=Za u)(hp:h.objs.size<=a)(new:ZO P w (upd H a o) h' a o):ċ P w (upd H a o) h':=λb u e=>by
 have hn:=x.fresh hp;by_cases hb:b=a
 .subst hb;rw[mH] at e;grind
 .rw[mF hb] at e;exact(x b u e).ď (λc v _ q=>k c v q) (λc q=>by rw[mF (mQ q hn)];exact q) λc xs q=>by rw[mF (mQ q hn)];exact q
def Rd(H:Hp)(a:ag)(u:HO):Prop:=H a=Za u\/∃o,H a=Za (.Z5 o u)
def Rd.ok(r:Rd H a u)(x:ċ P w H h):ZO P w H h a u:=by
 obtain r|⟨o,r⟩:=r
 .exact x a u r
 .let⟨_,q⟩:=x a _ r;exact q
def Mut:Option HO->Prop
 |some (.lst _)=>True
 |some (.dK _)=>True
 |some (.dT _)=>True
 |some (.set _ _)=>True
 |some (.ins _ _ _)=>True
 |some (.ext _)=>True
 |_=>False
def ċ.write(ok:ċ P w H h)(mu:Mut (H x))(he:e=x\/H e=Za (.own x))(k:∀b u,b≠e->h.get? b=Za u->h'.get? b=Za u)(WA:∃u,h'.get? e=Za u)(new:ZO P w (upd H x o') h' x o'):ċ P w (upd H x o') h':=λb u q=>by
 have XY:∀c y,H c=Za (.own y)->c≠x:=λc y r z=>by subst z;rw[r] at mu;exact mu
 have XX:∀c xs,H c=Za (.tup xs)->c≠x:=λc xs r z=>by subst z;rw[r] at mu;exact mu
 by_cases hb:b=x
 .subst hb;rw[mH] at q;grind
 .rw[mF hb] at q;by_cases hbe:b=e
  .have q':H b=Za (.own x):=by
    grind
   rw[q] at q';cases q';let⟨v,hv⟩:=WA;exact⟨v,by rw[hbe];exact hv⟩
  .refine(ok b u q).ď (λc v hc r=>k c v ?_ r) (λc r=>by rw[mF (XY c b r)];exact r) λc xs r=>by rw[mF (XX c xs r)];exact r
   grind
structure Un(fs ex:List ag)(H H':Hp)(h h':cg):Prop where
 keep:∀b o,h.get? b=Za o->H b=Zb->b∉fs->b∉ex->h'.get? b=Za o
 slot:∀b o,h.get? b=Za o->H b=Zb->b∈fs->b∉ex->∃sl,h'.get? b=Za { o with slots:=sl }
 free:∀b o,h.get? b=Za o->H b=Zb->b∉ex->H' b=Zb
 there:∀b o,h.get? b=Za o->b∉ex->∃o',h'.get? b=Za o'
 Ā:∀b xs,H b=Za (.tup xs)->H' b=Za (.tup xs)
 ä:∀b o u,H b=Za (.Z5 o u)->H' b=Za (.Z5 o u)
 Ď:∀b ps,H b=Za (.ϕ ps)->∃Sx,H' b=Za (.ϕ (ps++Sx))
def Un.any(u:Un fs ex H H1 h h1)(q:h.get? b=Za ob)(n:H b=Zb)(hx:b∉ex):∃sl,h1.get? b=Za { ob with slots:=sl }:=by
 by_cases hb:b∈fs
 .exact u.slot b ob q n hb hx
 .exact⟨ob.slots,u.keep b ob q n hb hx⟩
def Un.kept(k:∀b u,h.get? b=Za u->h'.get? b=Za u):Un fs ex H H h h' :=
 ⟨λb ob q _ _ _=>k b ob q,λb ob q _ _ _=>⟨ob.slots,k b ob q⟩,λ_ _ _ n _=>n,λb ob q _=>⟨ob,k b ob q⟩,λ_ _ q=>q,λ_ _ _ q=>q,λ_ ps q=>⟨#[],by rw[q];simp⟩⟩
def Un.refl:Un fs ex H H h h:=Un.kept λ_ _ q=>q
def Un.laid(k:∀b u,h.get? b=Za u->h'.get? b=Za u)(hp:h.objs.size<=a)(hn:H a=Zb):Un fs ex H (upd H a o) h h' where
 keep:=λb u q _ _ _=>k b u q
 slot:=λb u q _ _ _=>⟨u.slots,k b u q⟩
 free:=λb u q n _=>by rw[mF (az (aA (au q) hp))];exact n
 there:=λb u q _=>⟨u,k b u q⟩
 Ā:=λb xs q=>by rw[mF (mQ q hn)];exact q
 ä:=λb u xs q=>by rw[mF (mQ q hn)];exact q
 Ď:=λb ps q=>⟨#[],by rw[mF (mQ q hn),q];simp⟩
def Un.write(mu:Mut (H x))(he:e=x\/H e=Za (.own x))(k:∀b u,b≠e->h.get? b=Za u->h'.get? b=Za u)(WA:∃u,h'.get? e=Za u):Un fs ex H (upd H x o) h h':=by
 have hx:∀b,H b=Zb->b≠x:=λb n z=>by subst z;rw[n] at mu;exact mu
 have hb:∀b,H b=Zb->b≠e:=λb n z=>by
  grind
 have hm:∀b u,H b=Za u->¬Mut (Za u)->b≠x:=λb u q nm z=>by grind
 refine⟨λb u q n _ _=>k b u (hb b n) q,λb u q n _ _=>⟨u.slots,k b u (hb b n) q⟩,λb u q n _=>by rw[mF (hx b n)];exact n,λb u q _=>?_,
  λb xs q=>by rw[mF (hm b _ q λz=>z)];exact q,λb u xs q=>by rw[mF (hm b _ q λz=>z)];exact q,λb ps q=>⟨#[],by rw[mF (hm b _ q λz=>z),q];simp⟩⟩
 grind
def trk(h:cg)(H:Hp):List ag:=(bo h.objs.size).filter λa=>(H a).isSome
def Im(h:cg)(H:Hp):cg:=dP h (trk h H)
def Jz(h)(H):(Im h H).objs.size=h.objs.size:=PySem.W.hideAll_size _ _
def Lf(e:h.get? b=Za o)(n:H b=Zb):(Im h H).get? b=Za o :=
 iE _ e λhm=>by
  have q:=(aU.mp hm).2
  grind
def Oc(e:(Im h H).get? b=Za o):h.get? b=Za o/\H b=none:=by
 have e':=iR (trk h H) e;refine⟨e',?_⟩;cases q:H b with
 |none=>rfl
 |some x =>
  have hm:b∈trk h H:=aU.mpr ⟨dg.mpr (au e'),by simp[q]⟩;have z:(Im h H).get? b=none:=kG (trk h H) hm
  grind
def Pj(g h:cg)(L:ag):List (ag×Obj):=(bo h.objs.size).filterMap λa=>if a=L\/(g.get? a).isSome=true then Zb else(h.get? a).map λo=>(a,o)
def rest(g h:cg)(L d:ag):List (ag×Obj):=(Pj g h L).filter λp=>decide (p.1≠d)
structure Mod(K:aa)(mg:Str->Option ai)(base:cg):Prop where
 kin:K.In base
 glob:base.Ns aT mg
 blt:∃mb,base.Ns jx mb/\∀x:Str,x≠"__name__"->mb x=bh x
 nolimit:base.NoLimit
structure Cx where
 prog:bT
 w:cy
 K:aa
 mg:Str->Option ai
 base:cg
 A:cQ
 N:List Str
 Ç:aw
 Ha0:Hp
 env:Env
 outer:List Env
 stack:List Env
 ex:List ag
 fn:Str->Bool
 calm:Bool
 pn:List (ag×Obj)
 xe:ai->aw->Prop
def Ý(l:List Env):List ag:=l.filterMap (·.frame)
abbrev Cx.fs(X:Cx):List ag:=Ý X.outer
def Vis(sc:gH)(x:Str):Prop:=sc.names.lookup x=Za .local\/sc.names.lookup x=Za .cell\/sc.names.lookup x=Za .free
def Loc(sc:gH)(x:Str):Prop:=sc.names.lookup x=Za .local\/sc.names.lookup x=Za .cell
def Look(env:Env)(h:cg)(m:Str->Option ai)(x:Str)(u:ai):Prop :=
 (env.kindOf x=Za .local/\m x=Za u)\/((env.kindOf x=Za .cell\/env.kindOf x=Za .free)/\∃c,env.cells.lookup x=Za c/\h.IsCell c (Za u))
structure Cx.Ok(X:Cx):Prop where
 mod:Mod X.K X.mg X.base
 kind:X.env.scope.kind=.function
 glob:X.env.globals=aT
 blt:X.env.builtins=jx
 above:X.Ç.heap.objs.size<=X.env.locals
 inj:∀x y c,X.env.cells.lookup x=Za c->X.env.cells.lookup y=Za c->x=y
 has:∀x,(X.env.kindOf x=Za .cell\/X.env.kindOf x=Za .free)->∃c,X.env.cells.lookup x=Za c
 cab:∀x c,X.fn x=true->X.env.cells.lookup x=Za c->X.Ç.heap.objs.size<=c
 hd:X.calm=true->X.A.handled=Zb
 frames:X.A.frames=Za X.stack
 ϖ:X.stack=X.outer\/(X.stack=X.env::X.outer/\X.env.frame=Za X.env.locals)
 exf:∀b∈X.ex,b≠X.env.locals/\∀x c,X.env.cells.lookup x=Za c->c≠b
 bs:∀b o,X.base.get? b=Za o->X.Ç.heap.get? b=Za o/\X.Ha0 b=Zb
 bsz:X.base.objs.size<=X.Ç.heap.objs.size
 ê:∀b o,X.base.get? b=Za o->b∉X.ex
 Àv:∀b∈X.ex,b∉X.fs
 ī:X.Ç.heap.FunFrames X.base X.outer
 frf:∀b∈X.fs,X.Ha0 b=Zb
structure Inv(X:Cx)(R1:List (ag×Obj))(O:List (Option V))(H:Hp)(s:aw):Prop where
 ok:X.Ok
 os:s.os=X.Ç.os
 bare:ia s.gens
 base:Un X.fs X.ex X.Ha0 H X.Ç.heap s.heap
 loc:∃m,s.heap.Ns X.env.locals m/\∀(i:Nat)(x:Str)(v:V),X.N[i]?=Za x->O[i]?=Za (Za v)->Vis X.env.scope x->∃u,RelV v u/\Look X.env s.heap m x u
 cell:∀x c,X.env.cells.lookup x=Za c->∃v,s.heap.IsCell c v
 free:H X.env.locals=Zb
 Ð:∀x c,X.env.cells.lookup x=Za c->H c=Zb
 pin:∀p∈X.pn++R1,s.heap.get? p.1=Za p.2/\H p.1=Zb/\p.1≠X.env.locals/\p.1∉X.fs/\∀v,p.2.data≠.cell v
 Zl:ċ X.prog X.w H s.heap
 len:O.length=X.N.length
section
variable{X:Cx}{R1:List (ag×Obj)}{O:List (Option V)}{H H':Hp}{s:aw}{h':cg}
def Cx.Ok.Ãa(ok:X.Ok)(e:X.base.get? b=Za o):b∉X.fs:=λhb=>by
 have:=(ok.ī.mem hb).1
 grind
theorem Inv.bs(I:Inv X R1 O H s):∀b o,X.base.get? b=Za o->s.heap.get? b=Za o/\H b=none:=λb o e =>
 ⟨I.base.keep b o (I.ok.bs b o e).1 (I.ok.bs b o e).2 (I.ok.Ãa e) (I.ok.ê b o e),I.base.free b o (I.ok.bs b o e).1 (I.ok.bs b o e).2 (I.ok.ê b o e)⟩
def Inv.bk(I:Inv X R1 O H s):∀b o,X.base.get? b=Za o->s.heap.get? b=Za o:=λb o e=>(I.bs b o e).1
theorem Inv.mod(I:Inv X R1 O H s):Mod X.K X.mg X.base:=I.ok.mod
def Inv.Ü(I:Inv X R1 O H s):X.K.In s.heap:=I.ok.mod.kin.keeps I.bk
theorem Inv.lt(I:Inv X R1 O H s):X.env.locals<s.heap.objs.size:=let⟨_,hn,_⟩:=I.loc;hn.lt
def Inv.sz(I:Inv X R1 O H s):X.Ç.heap.objs.size<=s.heap.objs.size:=aC I.ok.above (fI I.lt)
def Inv.Â9(I:Inv X R1 O H s)(h:s.heap.objs.size<=a):a∉X.fs:=λhb=>by let⟨_,o,ho,_⟩:=I.ok.ī.mem hb;exact absurd (aA (au ho) (aC I.sz h)) (eZ _)
def Inv.cne(I:Inv X R1 O H s):∀x c,X.env.cells.lookup x=Za c->c≠X.env.locals:=λx c e z=>by
 let⟨v,o,ho,hd⟩:=I.cell x c e;let⟨m,⟨o',es,ep,US,Xo,_⟩,_⟩:=I.loc
 grind
theorem Inv.ī(I:Inv X R1 O H s):s.heap.FunFrames X.base X.outer:=by
 have all:∀l,(∀b∈Ý l,b∈X.fs)->X.Ç.heap.FunFrames X.base l->s.heap.FunFrames X.base l:=by
  intro l;induction l with
  |nil=>intro _ _;trivial
  |cons env r ih =>
   rintro hs ⟨hk,⟨L,o,hf,hn,ho,hd⟩,hr⟩
   have hL:=hs L (by unfold Ý;rw[iZ,hf];exact al);let⟨sl,e⟩:=I.base.slot L o ho (I.ok.frf L hL) hL λz=>I.ok.Àv L z hL;exact⟨hk,⟨L,_,hf,hn,e,hd⟩,ih (λb hb=>hs b (by unfold Ý;rw[iZ,hf];exact af _ hb)) hr⟩
 exact all X.outer (λ_ hb=>hb) I.ok.ī
theorem Inv.stack(I:Inv X R1 O H s):s.heap.FunFrames X.base X.stack:=by
 obtain e|⟨e,hf⟩:=I.ok.ϖ
 .rw[e];exact I.ī
 .rw[e];let⟨m,hn,_⟩:=I.loc;refine .cons (by rw[I.ok.kind];decide) hf hn ?_ I.ī;exact Heap.get?_none_of_le (aC I.ok.bsz I.ok.above)
def Inv.Ű(I:Inv X R1 O H s):∀b∈Ý X.stack,b∈X.env.locals::X.fs:=λb hb=>by
 obtain e|⟨e,hf⟩:=I.ok.ϖ
 .grind
 .rw[e] at hb;unfold Ý at hb;rw[iZ,hf] at hb;exact hb
def Inv.ĺ(I:Inv X R1 O H s):∀b∈Ý X.stack,H b=none:=λb hb=>by
 obtain e|hb:=ap.mp (I.Ű b hb)
 .rw[e];exact I.free
 .let⟨_,o,ho,_⟩:=I.ok.ī.mem hb;exact I.base.free b o ho (I.ok.frf b hb) λz=>I.ok.Àv b z hb
def Inv.step{g':Array GenState}{t':Nat}{d':Drawn}{ch:List ag}(I:Inv X R1 O H s)(Ud:∀b∈ch,(b∈X.ex\/X.Ç.heap.objs.size<=b)/\b≠X.env.locals/\(∀x c,X.env.cells.lookup x=Za c->c≠b)/\∀p∈X.pn++R1,p.1≠b)(keep:∀b o,b≠X.env.locals->b∉X.fs->b∉ch->s.heap.get? b=Za o->H b=Zb->h'.get? b=Za o)(slot:∀b o,b≠X.env.locals->b∈X.fs->b∉ch->s.heap.get? b=Za o->H b=Zb->∃sl,h'.get? b=Za { o with slots:=sl })(free:∀b o,b∉ch->s.heap.get? b=Za o->H b=Zb->H' b=Zb)(there:∀b o,b∉ch->s.heap.get? b=Za o->∃o',h'.get? b=Za o')(Ā:∀b xs,H b=Za (.tup xs)->H' b=Za (.tup xs))(ä:∀b o u,H b=Za (.Z5 o u)->H' b=Za (.Z5 o u))(Ď:∀b ps,H b=Za (.ϕ ps)->∃Sx,H' b=Za (.ϕ (ps++Sx)))(ns:∀m,s.heap.Ns X.env.locals m->h'.Ns X.env.locals m)(Zl:ċ X.prog X.w H' h')(hg:ia g') :
  Inv X R1 O H' { s with heap:=h',gens:=g',drawn:=d',toks:=t' }:=by
 have neL:∀b o,X.Ç.heap.get? b=Za o->b≠X.env.locals:=λb o e=>az (aA (au e) I.ok.above);have Xe:∀b o,X.Ç.heap.get? b=Za o->b∉X.ex->b∉ch:=λb o e hx hb=>by
  rcases(Ud b hb).1 with z|z
  .exact hx z
  .exact absurd (aA (au e) z) (eZ _)
 have UZ:∀x c,X.env.cells.lookup x=Za c->∀v,s.heap.IsCell c v->h'.IsCell c v:=λx c e v ⟨o,ho,hd⟩=>by
  have V8:=λz=>(Ud c z).2.2.1 x c e rfl;by_cases hc:c∈X.fs
  .let⟨sl,q⟩:=slot c o (I.cne x c e) hc V8 ho (I.Ð x c e);exact⟨_,q,hd⟩
  .exact⟨o,keep c o (I.cne x c e) hc V8 ho (I.Ð x c e),hd⟩
 refine⟨I.ok,I.os,hg,⟨λb o e n hb hx=>?_,λb o e n hb hx=>?_,λb o e n hx=>?_,λb o e hx=>?_,λb xs e=>Ā b xs (I.base.Ā b xs e),λb o xs e=>ä b o xs (I.base.ä b o xs e),λb ps e=>?_⟩,?_,λx c e=>?_,?_,λx c e=>?_,λp hp=>?_,Zl,I.len⟩
 .exact keep b o (neL b o e) hb (Xe b o e hx) (I.base.keep b o e n hb hx) (I.base.free b o e n hx)
 .let⟨sl,e1⟩:=I.base.slot b o e n hb hx;let⟨sl',e2⟩:=slot b _ (neL b o e) hb (Xe b o e hx) e1 (I.base.free b o e n hx);exact⟨sl',e2⟩
 .let⟨o',e1⟩:=I.base.there b o e hx;exact free b o' (Xe b o e hx) e1 (I.base.free b o e n hx)
 .let⟨o',e1⟩:=I.base.there b o e hx;exact there b o' (Xe b o e hx) e1
 .let⟨m1,e1⟩:=I.base.Ď b ps e
  grind
 .let⟨m,hn,hl⟩:=I.loc;refine⟨m,ns m hn,λi x v e1 e2 e3=>?_⟩;let⟨u,r,l⟩:=hl i x v e1 e2 e3;refine⟨u,r,?_⟩;obtain l|⟨k,c,e,z⟩:=l
  .exact .inl l
  .exact .inr ⟨k,c,e,UZ x c e _ z⟩
 .let⟨v,z⟩:=I.cell x c e;exact⟨v,UZ x c e v z⟩
 .let⟨m,⟨o,_,_,ho,_⟩,_⟩:=I.loc;exact free _ o (λz=>(Ud _ z).2.1 rfl) ho I.free
 .let⟨v,o,ho,hd⟩:=I.cell x c e;exact free c o (λz=>(Ud c z).2.2.1 x c e rfl) ho (I.Ð x c e)
 .let⟨e,n,ne,nf,d⟩:=I.pin p hp;have V8:=λz=>(Ud p.1 z).2.2.2 p hp rfl;exact⟨keep p.1 p.2 ne nf V8 e n,free p.1 p.2 V8 e n,ne,nf,d⟩
def Inv.un{t':Nat}(I:Inv X R1 O H s)(u:Un X.fs [] H H' s.heap h')(Zl:ċ X.prog X.w H' h'):Inv X R1 O H' { s with heap:=h',toks:=t' }:=by
 let⟨m,⟨o,es,ep,ho,r⟩,_⟩:=id I.loc;let⟨sl,hL⟩:=u.any ho I.free (by simp);exact I.step (ch:=[]) (λ_ z=>nomatch z) (λb o _ hb _ e n=>u.keep b o e n hb (by simp)) (λb o _ hb _ e n=>u.slot b o e n hb (by simp)) (λb o _ e n=>u.free b o e n (by simp)) (λb o _ e=>u.there b o e (by simp)) u.Ā u.ä u.Ď (λm' hm=>by let⟨o',YT,Xs,US,r'⟩:=hm;rw[ho] at US;cases US;exact⟨_,YT,Xs,hL,r'⟩) Zl I.bare
def Inv.call{g':Array GenState}{t':Nat}{d':Drawn}{ch:List ag}(I:Inv X R1 O H s)(u:Un (Ý X.stack) ch H H' s.heap h')(Zl:ċ X.prog X.w H' h')(hg:ia g')(Ud:∀b∈ch,(b∈X.ex\/X.Ç.heap.objs.size<=b)/\b≠X.env.locals/\(∀x c,X.env.cells.lookup x=Za c->c≠b)/\∀p∈X.pn++R1,p.1≠b) :
  Inv X R1 O H' { s with heap:=h',gens:=g',drawn:=d',toks:=t' }:=by
 let⟨m,⟨o,es,ep,ho,r⟩,_⟩:=id I.loc;let⟨sl,hL⟩:=u.any ho I.free λz=>(Ud _ z).2.1 rfl;exact I.step Ud (λb o hL hb hc e n=>u.keep b o e n (λz=>(ap.mp (I.Ű b z)).elim hL hb) hc) (λb o _ _ hc e n=>u.any e n hc) (λb o hc e n=>u.free b o e n hc) (λb o hc e=>u.there b o e hc) u.Ā u.ä u.Ď (λm' hm=>by let⟨o',YT,Xs,US,r'⟩:=hm;rw[ho] at US;cases US;exact⟨_,YT,Xs,hL,r'⟩) Zl hg
def Inv.turned{t':Nat}{it:ag}(I:Inv X R1 O H s)(k:∀b o,b≠it->s.heap.get? b=Za o->h'.get? b=Za o)(hn:H it=Zb)(hL:it≠X.env.locals)(h1:it∈X.ex\/X.Ç.heap.objs.size<=it)(h2:∀x c,X.env.cells.lookup x=Za c->c≠it)(h3:∀p∈X.pn++R1,p.1≠it):Inv X R1 O H { s with heap:=h',toks:=t' }:=by
 have XZ:∀b u,H b=Za u->b≠it:=λb u e z=>by grind
 refine I.step (ch:=[it]) (λb hb=>?_) (λb o _ _ hc e _=>k b o (λz=>hc (by simp[z])) e) (λb o _ _ hc e _=>⟨o.slots,k b o (λz=>hc (by simp[z])) e⟩) (λ_ _ _ _ n=>n)
  (λb o hc e=>⟨o,k b o (λz=>hc (by simp[z])) e⟩) (λ_ _ e=>e) (λ_ _ _ e=>e) (λb ps e=>⟨#[],by rw[e];simp⟩) (λm hm=>?_) (λb u e=>?_) I.bare
 .have e:b=it:=by simpa using hb
  subst e;exact⟨h1,hL,h2,h3⟩
 .let⟨o,es,ep,ho,r⟩:=hm;exact⟨o,es,ep,k _ o (bV hL) ho,r⟩
 .refine(I.Zl b u e).ď (λc v hc q=>k c v ?_ q) (λ_ q=>q) λ_ _ q=>q
  grind
def Inv.tok(I:Inv X R1 O H s)(t):Inv X R1 O H { s with toks:=t }:=I.un Un.refl I.Zl
theorem Inv.kept(I:Inv X R1 O H s)(k:∀b u,s.heap.get? b=Za u->h'.get? b=Za u):Inv X R1 O H { s with heap:=h',toks:=t' }:=I.un (Un.kept k) (I.Zl.kept k)
theorem Inv.laid(I:Inv X R1 O H s)(k:∀b u,s.heap.get? b=Za u->h'.get? b=Za u)(hp:s.heap.objs.size<=a)(new:ZO X.prog X.w (upd H a o) h' a o) :
  Inv X R1 O (upd H a o) { s with heap:=h',toks:=t' }:=I.un (Un.laid k hp (I.Zl.fresh hp)) (I.Zl.laid k hp new)
theorem Inv.write(I:Inv X R1 O H s)(mu:Mut (H x))(he:e=x\/H e=Za (.own x))(k:∀b u,b≠e->s.heap.get? b=Za u->h'.get? b=Za u)(WA:∃u,h'.get? e=Za u)(new:ZO X.prog X.w (upd H x o) h' x o):Inv X R1 O (upd H x o) { s with heap:=h',toks:=t' }:=I.un (Un.write mu he k WA) (I.Zl.write mu he k WA new)
def Inv.ϻ(I:Inv X R1 O H s)(h:∀p∈pins',s.heap.get? p.1=Za p.2/\H p.1=Zb/\p.1≠X.env.locals/\p.1∉X.fs/\∀v,p.2.data≠.cell v):Inv X pins' O H s :=
 ⟨I.ok,I.os,I.bare,I.base,I.loc,I.cell,I.free,I.Ð,λp hp=>(a7.mp hp).elim (λz=>I.pin p (cN _ z)) (h p),I.Zl,I.len⟩
def Ba{N:List Str}(hN:N.Nodup){i j:Nat}{x:Str}(a:N[i]?=Za x)(b:N[j]?=Za x):i=j:=by let⟨h1,e1⟩:=aR.mp a;let⟨h2,e2⟩:=aR.mp b;exact(List.getElem_inj hN).mp (e1.trans e2.symm)
def ym{M:Model}{A:cQ}{E:ai->aw->Prop}{i:Nat}{x:Str}{v:V}{u:ai}{Q:Unit->aw->Prop}(I:Inv X R1 O H s)(hN:X.N.Nodup)(hi:X.N[i]?=Za x)(hx:Loc X.env.scope x)(r:RelV v u)(h:∀s',Inv X R1 (O.set i (Za v)) H s'->(∃a,jg a s.heap s'.heap/\(a=X.env.locals\/X.env.cells.lookup x=Za a))->Q () s')(hf:X.fn x=true\/X.env.scope.names.lookup x=Za .local:=by first|exact .inl rfl|exact .inr rfl|assumption):aM M A (storeName X.env x u) Q E s:=by
 let⟨m,hn,hl⟩:=id I.loc;have Vr:(X.env.scope.kind==.class||(X.env.scope.kind==.module&&X.env.locals != X.env.globals))=false:=by rw[I.ok.kind];rfl
 have hiσ:i<O.length:=by rw[I.len];exact(aR.mp hi).1
 have cne:=I.cne;have TQ:∀{a:ag}{h':cg},(∃o,s.heap.get? a=Za o/\H a=Zb)->jg a s.heap h'->ċ X.prog X.w H h':=λ{a h'} ha hs b ob e=>by
  let⟨_,_,UV⟩:=ha;refine(I.Zl b ob e).ď (λc w' hc q=>(hs.2 c ?_).trans q) (λ_ q=>q) λ_ _ q=>q
  rintro rfl
  obtain rfl|hc:=hc
  .rw[UV] at e;cases e
  .rw[UV] at hc;cases hc
 obtain hk|hk:=hx
 .refine wpAny_storeName_local hk hn (λh' Tk hs=>?_) Vr;let⟨oL,_,_,VL,_⟩:=id hn;refine h _ ⟨I.ok,I.os,I.bare,⟨λb o e n hb hx=>?_,λb o e n hb hx=>?_,I.base.free,λb o e hx=>?_,I.base.Ā,I.base.ä,I.base.Ď⟩,⟨_,Tk,λj y v' e1 e2 e3=>?_⟩,λy c e=>?_,I.free,I.Ð,λp hp=>?_,TQ ⟨oL,VL,I.free⟩ hs,by simpa using I.len⟩ ⟨_,hs,.inl rfl⟩
  .exact(hs.2 b (az (aA (au e) I.ok.above))).trans (I.base.keep b o e n hb hx)
  .let⟨sl,e1⟩:=I.base.slot b o e n hb hx;exact⟨sl,(hs.2 b (az (aA (au e) I.ok.above))).trans e1⟩
  .let⟨o',e1⟩:=I.base.there b o e hx;exact⟨o',(hs.2 b (az (aA (au e) I.ok.above))).trans e1⟩
  .by_cases hj:j=i
   .subst hj;rw[hi] at e1;cases e1;rw[kW hiσ] at e2;cases e2;exact⟨u,r,.inl ⟨hk,by simp⟩⟩
   .rw[f7 (bV hj)] at e2;let⟨u',r',q⟩:=hl j y v' e1 e2 e3;refine⟨u',r',?_⟩;rcases q with⟨k,e⟩|⟨k,c,e,z⟩
    .refine .inl ⟨k,?_⟩;have:y≠x:=λe=>hj (Ba hN e1 (e▸hi));simp[this,e]
    .exact .inr ⟨k,c,e,z.sameBut hs (cne y c e)⟩
  .let⟨w',z⟩:=I.cell y c e;exact⟨w',z.sameBut hs (cne y c e)⟩
  .let⟨e,n,ne,nf,d⟩:=I.pin p hp;exact⟨(hs.2 p.1 ne).trans e,n,ne,nf,d⟩
 .have Uq:X.fn x=true:=by
   obtain z|z:=hf
   .exact z
   .rw[z] at hk;cases hk
  let⟨c,hc⟩:=I.ok.has x (.inl hk);let⟨w',z⟩:=I.cell x c hc;refine wpAny_storeName_cell I.ok.kind hk hc z (λh' hc' hs=>?_);let⟨oc,hoc,Yg⟩:=id z;refine h { s with heap:=h' } ⟨I.ok,I.os,I.bare,⟨λb o e n hb hx=>?_,λb o e n hb hx=>?_,I.base.free,λb o e hx=>?_,I.base.Ā,I.base.ä,I.base.Ď⟩,⟨m,hn.sameBut hs (bV (cne x c hc)),λj y v' e1 e2 e3=>?_⟩,λy c' e=>?_,I.free,I.Ð,λp hp=>?_,TQ ⟨oc,hoc,I.Ð x c hc⟩ hs,by simpa using I.len⟩ ⟨c,hs,.inr hc⟩
  .exact(hs.2 b (az (aA (au e) (I.ok.cab x c Uq hc)))).trans (I.base.keep b o e n hb hx)
  .let⟨sl,e1⟩:=I.base.slot b o e n hb hx;exact⟨sl,(hs.2 b (az (aA (au e) (I.ok.cab x c Uq hc)))).trans e1⟩
  .let⟨o',e1⟩:=I.base.there b o e hx;exact⟨o',(hs.2 b (az (aA (au e) (I.ok.cab x c Uq hc)))).trans e1⟩
  .by_cases hj:j=i
   .subst hj;rw[hi] at e1;cases e1;rw[kW hiσ] at e2;cases e2;exact⟨u,r,.inr ⟨.inl hk,c,hc,hc'⟩⟩
   .rw[f7 (bV hj)] at e2;let⟨u',r',q⟩:=hl j y v' e1 e2 e3;refine⟨u',r',?_⟩;obtain q|⟨k,c',e,z'⟩:=q
    .exact .inl q
    .refine .inr ⟨k,c',e,z'.sameBut hs ?_⟩
     rintro rfl
     exact hj (Ba hN e1 (I.ok.inj _ _ _ e hc▸hi))
  .by_cases hcc:c'=c
   .subst hcc;exact⟨_,hc'⟩
   .let⟨w2,z2⟩:=I.cell y c' e;exact⟨w2,z2.sameBut hs hcc⟩
  .let⟨e,n,ne,nf,d⟩:=I.pin p hp;refine⟨(hs.2 p.1 ?_).trans e,n,ne,nf,d⟩;intro q;rw[q,hoc] at e;have q':oc=p.2:=bL e;exact d w' (by rw[<-q'];exact Yg)
def tI(I:Inv X R1 O H s)(hN:X.N.Nodup)(hi:X.N[i]?=Za x)(hx:Loc X.env.scope x)(r:RelV v u)(h:∀s',Inv X R1 (O.set i (Za v)) H s'->Q () s')(hf:X.fn x=true\/X.env.scope.names.lookup x=Za .local:=by first|exact .inl rfl|exact .inr rfl|assumption):aM M A (storeName X.env x u) Q E s :=
 ym I hN hi hx r (λs' I' _=>h s' I') hf
def Inv.ÀU(I:Inv X R1 O H s)(ho:s'.os=s.os)(u:Un (Ý X.stack) ch H H' s.heap s'.heap)(Zl:ċ X.prog X.w H' s'.heap)(hg:ia s'.gens)(Ud:∀b∈ch,(b∈X.ex\/X.Ç.heap.objs.size<=b)/\b≠X.env.locals/\(∀x c,X.env.cells.lookup x=Za c->c≠b)/\∀p∈X.pn++R1,p.1≠b):Inv X R1 O H' s':=by
 let⟨h',g',d',t',o'⟩:=s';have e:=ho;subst e;exact I.call u Zl hg Ud
end
abbrev XK:=ai->Option ag->Hp->Prop
abbrev St:=List (Option V)
abbrev VK:=V->Hp->Prop
abbrev TE:=St->Hp->VK->Prop
abbrev TT:=St->Hp->(Bool->Hp->Prop)->Prop
abbrev TA:=St->Hp->(List V->Hp->Prop)->Prop
structure Ends where
 nx:St->Hp->Prop
 rt:VK
 bk:St->Hp->Prop:=λ_ _=>False
 ct:St->Hp->Prop:=λ_ _=>False
abbrev TS:=Ends->St->Hp->Prop
def EP(X:Cx)(R1:List (ag×Obj))(O:St)(Q:VK)(u:ai)(s':aw):Prop:=∃v H',Inv X R1 O H' s'/\RelV v u/\Q v H'
def TP(X:Cx)(R1:List (ag×Obj))(O:St)(Q:Bool->Hp->Prop)(b:Bool)(s':aw):Prop:=∃H',Inv X R1 O H' s'/\Q b H'
def AP(X:Cx)(R1:List (ag×Obj))(O:St)(Q:List V->Hp->Prop)(us:List ai)(s':aw):Prop:=∃vs H',Inv X R1 O H' s'/\Vals vs us/\Q vs H'
def SP(X:Cx)(R1:List (ag×Obj))(D:Ends)(f:Flow)(s':aw):Prop :=
 match f with
 |.next=>∃ZG H',Inv X R1 ZG H' s'/\D.nx ZG H'
 |.brk=>∃ZG H',Inv X R1 ZG H' s'/\D.bk ZG H'
 |.cont=>∃ZG H',Inv X R1 ZG H' s'/\D.ct ZG H'
 |.ret u=>∃v ZG H',Inv X R1 ZG H' s'/\RelV v u/\D.rt v H'
def PE(X:Cx)(e:cA)(t:TE):Prop :=
 ∀(R1:List (ag×Obj))(s:aw)(O:St)(H:Hp)(Q:VK),Inv X R1 O H s->t O H Q->aM (model X.prog X.w) X.A (eval e X.env) (EP X R1 O Q) X.xe s
def PT(X:Cx)(e:cA)(t:TT):Prop :=
 ∀(R1:List (ag×Obj))(s:aw)(O:St)(H:Hp)(Q:Bool->Hp->Prop),Inv X R1 O H s->t O H Q->aM (model X.prog X.w) X.A (isTrue e X.env (eval e X.env)) (TP X R1 O Q) X.xe s
def PW(X:Cx)(e:cA)(t:TT):Prop :=
 ∀(whole:Sem ai)(R1:List (ag×Obj))(s:aw)(O:St)(H:Hp)(Q:Bool->Hp->Prop),Inv X R1 O H s->t O H Q->aM (model X.prog X.w) X.A (isTrue e X.env whole) (TP X R1 O Q) X.xe s
def PW.pt(h:PW X e t):PT X e t:=h _
def PA(X:Cx)(es:List cA)(t:TA):Prop :=
 ∀(pos:Pos)(R1:List (ag×Obj))(s:aw)(O:St)(H:Hp)(Q:List V->Hp->Prop),Inv X R1 O H s->t O H Q->aM (model X.prog X.w) X.A (spliced (bI pos (ao es X.env))) (AP X R1 O Q) X.xe s
def PS(X:Cx)(st:bX)(t:TS):Prop :=
 ∀(R1:List (ag×Obj))(s:aw)(O:St)(H:Hp)(D:Ends),Inv X R1 O H s->t D O H->aM (model X.prog X.w) X.A (exec st X.env) (SP X R1 D) X.xe s
def ύ(X:Cx)(st:List bX)(t:TS):Prop :=
 ∀(R1:List (ag×Obj))(s:aw)(O:St)(H:Hp)(D:Ends),Inv X R1 O H s->t D O H->aM (model X.prog X.w) X.A (execs st X.env) (SP X R1 D) X.xe s
def e4b{α β:Sort _}{p q:α->β->Prop}{R:Prop}(k:∀x y,p x y->q x y->R)(h:∃x y,p x y/\q x y):R:=h.elim λx h=>h.elim λy h=>k x y h.1 h.2
def e4{α β:Sort _}{p q r:α->β->Prop}{R:Prop}(k:∀x y,p x y->q x y->r x y->R)(h:∃x y,p x y/\q x y/\r x y):R:=h.elim λx h=>h.elim λy h=>k x y h.1 h.2.1 h.2.2
def e3{α:Sort _}{p q:α->Prop}{R:Prop}(k:∀x,p x->q x->R)(h:∃x,p x/\q x):R:=h.elim λx h=>k x h.1 h.2
def Zx(h:aM M A t Q E s)(hQ:∀a s,Q a s->Q' a s):aM M A t Q' E s:=aZ h hQ λ_ _ x=>x
section
variable{X:Cx}
def J8(i:Nat):TE:=λO H Q=>∃v,O[i]?=Za (Za v)/\Q v H
def tC(v:V):TE:=λ_ H Q=>Q v H
abbrev Ĉ(x:Str):Prop:=(x==("__debug__":Str))=false
def EC(hN:X.N[i]?=Za x)(hv:Vis X.env.scope x)(hd:Ĉ x:=by decide)(Tf:(x==("__classdict__":Str))=false:=by decide):PE X (.Name x pos) (J8 i):=by
 rintro R1 s O H Q I ⟨v,e,h⟩
 let⟨m,hn,hl⟩:=I.loc;let⟨u,r,l⟩:=hl i x v hN e hv;have Sq:EP X R1 O Q u s:=⟨v,H,I,r,h⟩;rcases l with⟨hk,hm⟩|⟨hk,c,hc,SX⟩
 .exact wpAny_Name (wpAny_loadName_local I.ok.kind hk hn hm Sq) hd
 .obtain hk|hk:=hk
  .exact wpAny_Name (wpAny_loadName_cell I.ok.kind hk hc SX Sq) hd
  .exact wpAny_Name (wpAny_loadName_free I.ok.kind hk hc SX Sq Tf) hd
def ZV{i j pos}:PE X (.Constant (.int i) j pos) (tC (.int i)):=λ_ _ _ H _ I h=>wpAny_Constant_int ⟨.int i,H,I.tok _,⟨_,rfl⟩,h⟩
def ÀT{b j pos}:PE X (.Constant (.bool b) j pos) (tC (.bl b)):=λ_ _ _ H _ I h=>Constant_bool ⟨.bl b,H,I,rfl,h⟩
def À3{j pos}:PE X (.Constant .none j pos) (tC .Zn):=λ_ _ _ H _ I h=>Constant_none ⟨.Zn,H,I,rfl,h⟩
def ĩ{x j pos}:PE X (.Constant (.str x) j pos) (tC (.str x)):=λ_ _ _ H _ I h=>lP ⟨.str x,H,I.tok _,⟨_,rfl⟩,h⟩
def Gl(X:Cx)(x:Str):Prop:=X.env.kindOf x=Za .globalImplicit
def rJ(I:Inv X R1 O H s)(hg:Gl X x)(hm:X.mg x=Za u)(h:Q u s)(hd:Ĉ x:=by decide):aM (model X.prog X.w) X.A (eval (.Name x pos) X.env) Q E s :=
 jR I.ok.kind hg (Calls.loadGlobal_global (by rw[I.ok.glob];exact I.mod.glob.keeps I.bk) hm h) hd
def zq(I:Inv X R1 O H s)(hg:Gl X x)(hm:X.mg x=Zb)(hv:bh x=Za u)(h:Q u s)(hn:x≠"__name__":=by decide)(hd:Ĉ x:=by decide):aM (model X.prog X.w) X.A (eval (.Name x pos) X.env) Q E s:=by
 let⟨mb,h1,h2⟩:=I.mod.blt;exact jR I.ok.kind hg (Calls.loadGlobal_builtin (by rw[I.ok.glob];exact I.mod.glob.keeps I.bk) hm (by rw[I.ok.blt];exact h1.keeps I.bk) ((h2 x hn).trans hv) h) hd
def qP(hg:Gl X x)(hm:X.mg x=Za u)(r:RelV v u)(hd:Ĉ x:=by decide):PE X (.Name x pos) (tC v) :=
 λ_ _ _ H _ I h=>rJ I hg hm ⟨v,H,I,r,h⟩ hd
def Ib(hg:Gl X x)(hm:X.mg x=Zb)(hv:bh x=Za u)(r:RelV v u)(hn:x≠"__name__":=by decide)(hd:Ĉ x:=by decide):PE X (.Name x pos) (tC v) :=
 λ_ _ _ H _ I h=>zq I hg hm hv ⟨v,H,I,r,h⟩ hn hd
variable{a b:cA}{ta tb:TE}{pos:Pos}
def PC(X:Cx)(op:CmpOp)(a b:cA)(t:TE):Prop :=
 ∀(R1:List (ag×Obj))(s:aw)(O:St)(H:Hp)(Q:VK),Inv X R1 O H s->t O H Q ->
  aM (model X.prog X.w) X.A (eval a X.env) (λv Sj=>aM (model X.prog X.w) X.A (eval b X.env) (λu TH=>aM (model X.prog X.w) X.A (bN op v u) (EP X R1 O Q) X.xe TH) X.xe Sj) X.xe s
def K1(b)(h:op≠.In)(h2:op≠.NotIn):cS op b=false:=by
 have e1:(op==CmpOp.In)=false:=by cases op<;>first|rfl|exact absurd rfl h
 have e2:(op==CmpOp.NotIn)=false:=by cases op<;>first|rfl|exact absurd rfl h2
 cases b<;>simp[cS,e1,e2]
def tB(t:TE):TT:=λO H Q=>t O H λx H1=>∃c,x=.bl c/\Q c H1
def Mn(h:PC X op a b t)(h1:cS op b=false:=by first|exact K1 _ `d `d|rfl):PE X (.Compare a [op] [b] pos) t:=λR1 s O H Q I hw=>wpAny_Compare1 (h R1 s O H Q I hw) h1
def w5(h:PE X e t)(he:∀whole,isTrue e X.env whole=(do let v <-whole;fR e.pos;holding [v] (truthy v)):=by intro _;rfl):PT X e (tB t):=by refine λR1 s O H Q I hw=>isTrue_plain (Zx (h R1 s O H _ I hw) λv s1=>e4 λx H1 I1 r1 q1=>?_) (he _);let⟨d,rfl,q⟩:=q1;cases r1;exact dG ⟨H1,I1,q⟩
variable{tA tB':TT}{rest:List cA}
def tOr(t u:TT):TT:=λO H Q=>t O H λc H1=>if c=true then Q true H1 else u O H1 Q
def ÂQ(t:TT):TT:=λO H Q=>t O H λc H1=>Q (!c) H1
def Mj(ha:PT X a tA):PW X (.BoolOp .Or [a] pos) tA:=by
 refine λwh R1 s O H Q I h=>isTrue_or (Zx (ha R1 s O H Q I h) λc s1 e=>?_);cases c with
 |false=>exact isTrue_or_nil e
 |true=>exact e
def PB(ha:PT X a tA)(hb:PW X (.BoolOp .Or (b::rest) pos) tB'):PW X (.BoolOp .Or (a::b::rest) pos) (tOr tA tB'):=by
 refine λwh R1 s O H Q I h=>isTrue_or (Zx (ha R1 s O H _ I h) λc s1=>e3 λH1 I1 q1=>?_);cases c with
 |true=>exact⟨H1,I1,q1⟩
 |false=>exact hb wh R1 s1 O H1 Q I1 q1
def BI(ha:PT X a tA):PT X (.UnaryOp .Not a pos) (ÂQ tA):=by exact λR1 s O H Q I h=>isTrue_not (ha R1 s O H (λc H1=>Q (!c) H1) I h)
def Áw(ta tb:TE):TE:=λO H Q=>ta O H λx H1=>∃c,x=.bl c/\if c=true then tb O H1 Q else Q (.bl false) H1
def ÂP(ta tb:TE):TE:=λO H Q=>ta O H λx H1=>∃c,x=.bl c/\if c=true then Q (.bl true) H1 else tb O H1 Q
def Ár(ta:TE):TE:=λO H Q=>ta O H λx H1=>∃c,x=.bl c/\Q (.bl (!c)) H1
def Ht{op}{t}(h:PE X a t):PE X (.BoolOp op [a] pos) t:=λR1 s O H Q I hw=>BoolOp_one (h R1 s O H Q I hw)
def Mo(ha:PE X a ta)(hb:PE X (.BoolOp .And (b::rest) pos) tb):PE X (.BoolOp .And (a::b::rest) pos) (Áw ta tb):=by
 refine λR1 s O H Q I h=>BoolOp_and (Zx (ha R1 s O H _ I h) λv s1=>e4 λx H1 I1 r1 q1=>?_);let⟨c,rfl,q1⟩:=q1;cases r1;apply dG;cases c with
 |true=>exact hb R1 s1 O H1 Q I1 q1
 |false=>exact⟨.bl false,H1,I1,rfl,q1⟩
def ÁE(ha:PE X a ta)(hb:PE X (.BoolOp .Or (b::rest) pos) tb):PE X (.BoolOp .Or (a::b::rest) pos) (ÂP ta tb):=by
 refine λR1 s O H Q I h=>BoolOp_or (Zx (ha R1 s O H _ I h) λv s1=>e4 λx H1 I1 r1 q1=>?_);let⟨c,rfl,q1⟩:=q1;cases r1;apply dG;cases c with
 |false=>exact hb R1 s1 O H1 Q I1 q1
 |true=>exact⟨.bl true,H1,I1,rfl,q1⟩
def QN(ha:PE X a ta):PE X (.UnaryOp .Not a pos) (Ár ta):=by refine λR1 s O H Q I h=>UnaryOp_ (Zx (ha R1 s O H _ I h) λv s1=>e4 λx H1 I1 r1 q1=>?_);let⟨c,rfl,q1⟩:=q1;cases r1;exact not_of (dG ⟨.bl (!c),H1,I1,rfl,q1⟩)
def tIf(t:TT)(ta tb:TE):TE:=λO H Q=>t O H λc H1=>if c=true then ta O H1 Q else tb O H1 Q
def KQ(hc:PT X c tA)(ha:PE X a ta)(hb:PE X b tb):PE X (.IfExp c a b pos) (tIf tA ta tb):=by
 refine λR1 s O H Q I h=>wpAny_IfExp (Zx (hc R1 s O H _ I h) λd s1=>e3 λH1 I1 q1=>?_);cases d with
 |true=>exact ha R1 s1 O H1 Q I1 q1
 |false=>exact hb R1 s1 O H1 Q I1 q1
end
def ZU(K:aa)(H:Hp)(a:ag)(xs:List V):Prop :=
 Rd H a (.lst xs) \/
  ∃(o:Obj)(its:Array ai)(n:Nat),K.lookup a=Za o/\o.cls=.type "list"/\o.dict=Zb/\o.data=.seq its n/\its.size<=aF/\Vals xs its.toList
def â(K:aa)(H:Hp)(a:ag)(xs:List V):Prop :=
 Rd H a (.tup xs) \/
  ∃(o:Obj)(its:Array ai)(n:Nat),K.lookup a=Za o/\o.cls=.type "tuple"/\o.data=.seq its n/\its.size<=aF/\Vals xs its.toList
def Ãx:ai->Option V
 |.none=>Za .Zn
 |.bool b=>Za (.bl b)
 |.int i _=>Za (.int i)
 |.str x _=>Za (.str x)
 |.bytes b _=>Za (.byt b)
 |.float b _=>Za (.flt b)
 |.ref a=>Za (.ref a)
 |.type n=>Za (.ty n)
 |_=>Zb
def RelV.abs(r:RelV x u):Ãx u=Za x:=by
 cases x with
 |Zn=>cases r;rfl
 |bl _=>cases r;rfl
 |int _=>let⟨t,rfl⟩:=r;rfl
 |str _=>let⟨t,rfl⟩:=r;rfl
 |byt _=>let⟨t,rfl⟩:=r;rfl
 |flt _=>let⟨t,rfl⟩:=r;rfl
 |ref _=>cases r;rfl
 |ty _=>cases r;rfl
def RelV.inj(r:RelV x u)(q:RelV y u):x=y:=bL (r.abs.symm.trans q.abs)
theorem Vals.inj:∀{xs ys:List V}{us:List ai},Vals xs us->Vals ys us->xs=ys
 |_,_,_,.nil,.nil=>rfl
 |_,_,_,.cons r t,.cons r' t'=>by rw[r.inj r',Vals.inj t t']
section
variable{X:Cx}{R1:List (ag×Obj)}{O:St}{H:Hp}{s:aw}{a:ag}{xs ys:List V}
def ZU.of{K}(h:H a=Za (.lst xs)):ZU K H a xs:=.inl (.inl h)
def â.of{K}(h:H a=Za (.tup xs)):â K H a xs:=.inl (.inl h)
def Inv.list(I:Inv X R1 O H s)(h:ZU X.K H a xs):∃its:List ai,Vals xs its/\PlainL s.heap a its.toArray/\xs.length<=aF:=by
 obtain h|⟨o,its,n,hk,hc,hd,hs,hz,r⟩:=h
 .let⟨z,its,n,r,e⟩:=h.ok I.Zl;exact⟨its,r,⟨_,n,e,rfl,rfl,rfl⟩,z⟩
 .refine⟨its.toList,r,⟨o,n,I.Ü a o hk,hc,hd,by simpa using hs⟩,?_⟩;have e:=r.length
  grind
def Inv.tuple(I:Inv X R1 O H s)(h:â X.K H a xs):∃its:List ai,Vals xs its/\IsTup s.heap a its.toArray/\xs.length<=aF:=by
 obtain h|⟨o,its,n,hk,hc,hs,hz,r⟩:=h
 .let⟨z,its,r,p⟩:=h.ok I.Zl;exact⟨its,r,p,z⟩
 .refine⟨its.toList,r,⟨o,I.Ü a o hk,hc,n,by simpa using hs⟩,?_⟩;have e:=r.length
  grind
def Inv.ğ(I:Inv X R1 O H s)(h:ZU X.K H a xs)(h':ZU X.K H a ys):xs=ys:=by
 let⟨its,r,⟨o,n,e,_,_,d⟩,_⟩:=I.list h;let⟨SZ,r',⟨o',n',e',_,_,d'⟩,_⟩:=I.list h';rw[e] at e';cases e';have:its=SZ:=by grind
 subst this;exact r.inj r'
def Inv.Àg(I:Inv X R1 O H s)(h:â X.K H a xs)(h':â X.K H a ys):xs=ys:=by
 let⟨its,r,⟨o,e,_,n,d⟩,_⟩:=I.tuple h;let⟨SZ,r',⟨o',e',_,n',d'⟩,_⟩:=I.tuple h';rw[e] at e';cases e';have:its=SZ:=by grind
 subst this;exact r.inj r'
end
abbrev Cx.ĵ(X:Cx)(E:ai->aw->Prop):Cx:={ X with xe:=E }
abbrev Cx.ė(X:Cx):Cx:=X.ĵ λ_ _=>False
theorem Cx.Ok.ĵ{X:Cx}(ok:X.Ok)(E:ai->aw->Prop):(X.ĵ E).Ok :=
 ⟨ok.mod,ok.kind,ok.glob,ok.blt,ok.above,ok.inj,ok.has,ok.cab,ok.hd,ok.frames,ok.ϖ,ok.exf,ok.bs,ok.bsz,ok.ê,ok.Àv,ok.ī,ok.frf⟩
def Cx.Ok.Ù{X:Cx}{E:ai->aw->Prop}(ok:(X.ĵ E).Ok):X.Ok :=
 ⟨ok.mod,ok.kind,ok.glob,ok.blt,ok.above,ok.inj,ok.has,ok.cab,ok.hd,ok.frames,ok.ϖ,ok.exf,ok.bs,ok.bsz,ok.ê,ok.Àv,ok.ī,ok.frf⟩
section
variable{X:Cx}{R1:List (ag×Obj)}{O:St}{H:Hp}{s:aw}{E:ai->aw->Prop}
theorem Inv.ĵ(I:Inv X R1 O H s)(E:ai->aw->Prop):Inv (X.ĵ E) R1 O H s:=⟨I.ok.ĵ E,I.os,I.bare,I.base,I.loc,I.cell,I.free,I.Ð,I.pin,I.Zl,I.len⟩
theorem Inv.Ù(I:Inv (X.ĵ E) R1 O H s):Inv X R1 O H s:=⟨I.ok.Ù,I.os,I.bare,I.base,I.loc,I.cell,I.free,I.Ð,I.pin,I.Zl,I.len⟩
theorem SP.Ù(h:SP (X.ĵ E) R1 D f s'):SP X R1 D f s':=by
 cases f with
 |next=>let⟨ZG,H',I,q⟩:=h;exact⟨ZG,H',I.Ù,q⟩
 |brk=>let⟨ZG,H',I,q⟩:=h;exact⟨ZG,H',I.Ù,q⟩
 |cont=>let⟨ZG,H',I,q⟩:=h;exact⟨ZG,H',I.Ù,q⟩
 |ret u=>let⟨v,ZG,H',I,r,q⟩:=h;exact⟨v,ZG,H',I.Ù,r,q⟩
theorem ύ.ė{st}{t}(h:ύ X.ė st t):ύ X st t:=λR1 s O H D I hw =>
 aZ (h R1 s O H D (I.ĵ _) hw) (λ_ _ q=>q.Ù) λ_ _ z=>bj z
end
section
variable{X:Cx}{st:bX}{rest:List bX}{t u:TS}{e:cA}{te:TE}{pos:Pos}
def Ás:TS:=λD O H=>D.nx O H
def ÂM(t u:TS):TS:=λD O H=>t { D with nx:=u D } O H
def Ò:ύ X [] Ás:=λ_ _ O H _ I h=>fD ⟨O,H,I,h⟩
def m6(h1:PS X st t)(h2:ύ X rest u):ύ X (st::rest) (ÂM t u):=by
 refine λR1 s O H D I h=>jk (Zx (h1 R1 s O H { D with nx:=u D } I h) λf s1 q=>?_);cases f with
 |next =>
  let⟨ZG,H',I',q⟩:=q;exact h2 R1 s1 ZG H' D I' q
 |ret v=>exact q
 |brk=>exact q
 |cont=>exact q
def nq(h1:PS X st t):ύ X [st] t:=by
 refine λR1 s O H D I h=>jk (Zx (h1 R1 s O H D I h) λf s1 q=>?_);cases f with
 |next=>exact fD q
 |ret v=>exact q
 |brk=>exact q
 |cont=>exact q
def Inv.quiet(I:Inv X R1 O H s):interactive X.env=false:=by simp[interactive,I.ok.kind]
def Pr(te:TE):TS:=λD O H=>te O H λ_ H1=>D.nx O H1
def pU(he:PE X e te)(hs:cO e Zb pos.line X.env=pure false:=by rfl):PS X (.Expr e pos) (Pr te):=by exact λR1 s O H D I h=>wpAny_Expr_any (Zx (he R1 s O H _ I h) λv s1=>e4 λx H1 I1 r1 q1=>⟨O,H1,I1,q1⟩) I.quiet hs
def ÂN(te:TE):TS:=λD O H=>te O H D.rt
def rE(he:PE X e te):PS X (.Return (Za e) pos) (ÂN te):=by exact λR1 s O H D I h=>wpAny_Return_some (Zx (he R1 s O H _ I h) λv s1=>e4 λx H1 I1 r1 q1=>⟨x,O,H1,I1,r1,q1⟩)
def Áp:TS:=λD _ H=>D.rt .Zn H
def ÀI:PS X (.Return Zb pos) Áp:=λ_ _ O H _ I h=>wpAny_Return_none ⟨.Zn,O,H,I,rfl,h⟩
def ÂS(c:TT)(t u:TS):TS:=λD O H=>c O H λb H1=>if b=true then t D O H1 else u D O H1
def xw{c}{a b}{tc}(hc:PT X c tc)(ha:ύ X a t)(hb:ύ X b u):PS X (.If c a b pos) (ÂS tc t u):=by
 refine λR1 s O H D I h=>wpAny_If (Zx (hc R1 s O H _ I h) λd s1=>e3 λH1 I1 q1=>?_);cases d with
 |true=>exact ha R1 s1 O H1 D I1 q1
 |false=>exact hb R1 s1 O H1 D I1 q1
abbrev TG:=V->St->Hp->(St->Hp->Prop)->Prop
abbrev TGs:=List V->St->Hp->(St->Hp->Prop)->Prop
def PG(X:Cx)(To:cA)(t:TG):Prop :=
 ∀(R1:List (ag×Obj))(s:aw)(O:St)(H:Hp)(v:V)(u:ai)(Q:St->Hp->Prop),Inv X R1 O H s->RelV v u->t v O H Q ->
  aM (model X.prog X.w) X.A (assign To X.env u) (λ_ s'=>∃ZG H',Inv X R1 ZG H' s'/\Q ZG H') X.xe s
def PGs(X:Cx)(ts:List cA)(t:TGs):Prop :=
 ∀(R1:List (ag×Obj))(s:aw)(O:St)(H:Hp)(vs:List V)(us:List ai)(Q:St->Hp->Prop),Inv X R1 O H s->Vals vs us->t vs O H Q ->
  aM (model X.prog X.w) X.A (assignInOrder ((cP ts X.env).map (·.2)) us) (λ_ s'=>∃ZG H',Inv X R1 ZG H' s'/\Q ZG H') X.xe s
abbrev Pm:=V->V->V->Hp->(Hp->Prop)->Prop
def Ϣ(X:Cx)(t:Pm):Prop :=
 ∀(R1:List (ag×Obj))(s:aw)(O:St)(H:Hp)(o i v:V)(ov iv u:ai)(Q:Hp->Prop),Inv X R1 O H s->RelV o ov->RelV i iv->RelV v u->t o i v H Q ->
  aM (model X.prog X.w) X.A (kK ov iv u) (λ_ s'=>∃H',Inv X R1 O H' s'/\Q H') X.xe s
abbrev TIp:=V->V->Hp->VK->Prop
def PIp(X:Cx)(op:Operator)(t:TIp):Prop :=
 ∀(R1:List (ag×Obj))(s:aw)(O:St)(H:Hp)(x y:V)(v u:ai)(Q:VK),Inv X R1 O H s->RelV x v->RelV y u->t x y H Q ->
  aM (model X.prog X.w) X.A (inplaceOp op v u) (EP X R1 O Q) X.xe s
def Ha(i:Nat):TG:=λv O H Q=>Q (O.set i (Za v)) H
def HY(hN:X.N.Nodup)(hi:X.N[i]?=Za x)(hx:Loc X.env.scope x)(hf:X.fn x=true\/X.env.scope.names.lookup x=Za .local:=by first|exact .inl rfl|exact .inr rfl|assumption):PG X (.Name x pos) (Ha i):=by exact λR1 s O H v u Q I r h=>jL (tI I hN hi hx r (λs' I'=>⟨_,H,I',h⟩) hf)
def Ãp:TGs:=λvs O H Q=>vs=[]/\Q O H
def Âk(t:TG)(u:TGs):TGs:=λvs O H Q=>∃v r,vs=v::r/\t v O H λZG H'=>u r ZG H' Q
def ÀK:PGs X [] Ãp:=by
 rintro R1 s O H vs us Q I r ⟨e,h⟩
 subst e;exact assignInOrder_nil ⟨O,H,I,h⟩
def KJ{e}{t:TG}{u:TGs}(h1:PG X e t)(h2:PGs X es u)(hs:(cP (e::es) X.env).map (·.2)=assign e X.env::(cP es X.env).map (·.2):=by rfl):PGs X (e::es) (Âk t u):=by
 rintro R1 s O H vs us Q I r ⟨v,vr,e1,h⟩
 subst e1;cases r with
 |cons r rr =>
  rw[hs];refine jA (Zx (h1 R1 s O H _ _ _ I r h) λ_ s1=>e4b λϦ H1 I1 q1=>?_);exact h2 R1 s1 Ϧ H1 _ _ Q I1 rr q1
def Ãn(K:aa)(n:Nat)(t:TGs):TG:=λv O H Q=>∃a xs,v=.ref a/\â K H a xs/\xs.length=n/\t xs O H Q
def QJ{t:TGs}(hc:X.calm=true)(h:PGs X es t)(hn:(cP es X.env).length=n:=by rfl)(S6:(cP es X.env).findIdx? (·.1)=none:=by rfl):PG X (.Tuple es k pos) (Ãn X.K n t):=by
 rintro R1 s O H v u Q I r ⟨a,xs,e1,hq,hl,hw⟩
 subst e1;cases r;let⟨its,rv,ht,hz⟩:=I.tuple hq;refine assign_Tuple_tuple (I.ok.hd hc) ht (by simp[hn,<-hl,rv.length]) S6 λh' hx=>?_;have I1:=I.kept (t':=s.toks) λb o e=>hx b o (az (au e)) e;exact h R1 _ O H xs _ Q I1 (by simpa using rv) hw
def Ão(to ti:TE)(t:Pm):TG:=λv O H Q=>to O H λo H1=>ti O H1 λi H2=>t o i v H2 λH3=>Q O H3
def QK{t:Pm}(ho:PE X o to)(hi:PE X i ti)(hs:Ϣ X t)(ha:∀v,assign (.Subscript o i pos) X.env v=(do
   let ov <-holding [v] (eval o X.env);let iv <-holding [v,ov] (eval i X.env)
   fR pos
   holding [v,ov,iv] (kK ov iv v)
   release [v,ov,iv] []):=by intro _;rfl):PG X (.Subscript o i pos) (Ão to ti t):=by
 refine λR1 s O H v u Q I r h=>ae (cD (Zx (ho R1 s O H _ I h) λov s1=>e4 λx H1 I1 r1 q1=>?_));refine ae (cD (Zx (hi R1 s1 O H1 _ I1 q1) λiv s2=>e4 λy H2 I2 r2 q2=>?_));refine ae (eE (ae (cD (Zx (hs R1 s2 O H2 x y v ov iv u _ I2 r1 r2 r q2) λ_ s3=>e3 λH3 I3 q3=>?_))));exact wpAny_release ⟨O,H3,I3,q3⟩
def Ps(te:TE)(g:TG):TS:=λD O H=>te O H λx H1=>g x O H1 D.nx
def Ml{tg e}{te}(he:PE X e te)(hg:PG X tg g)(hs:ij [tg] e pos.line X.env=pure false:=by rfl)(hw:im [tg] e X.env=pure none:=by rfl)(h1:(cP [tg] X.env).map (·.2)=[assign tg X.env]:=by rfl):PS X (.Assign [tg] e pos) (Ps te g):=by
 refine λR1 s O H D I h=>wpAny_Assign_stores (Zx (he R1 s O H _ I h) λv s1=>e4 λx H1 I1 r1 q1=>?_) hs hw;rw[h1];exact Zx (hg R1 s1 O H1 x v _ I1 r1 q1) λ_ s2 q=>q
def tJ{i}{x}{e}{te}{Sv}(hN:X.N.Nodup)(hi:X.N[i]?=Za x)(hx:Loc X.env.scope x)(he:PE X e te)(hs:cO e (Za (.Name x Sv)) pos.line X.env=pure false:=by rfl)(hf:X.fn x=true\/X.env.scope.names.lookup x=Za .local:=by first|exact .inl rfl|exact .inr rfl|assumption) :
  PS X (.Assign [.Name x Sv] e pos) (Ps te (Ha i)):=by
 refine λR1 s O H D I h=>wpAny_Assign_Name (Zx (he R1 s O H _ I h) λv s1=>e4 λy H1 I1 r1 q1=>?_) hs;exact tI I1 hN hi hx r1 (λs2 I2=>⟨_,H1,I2,q1⟩) hf
def ÂO(i j:Nat)(ta:TA):TS:=λD O H=>ta O H λvs H1=>∃v w,vs=[v,w]/\D.nx ((O.set i (Za v)).set j (Za w)) H1
def QF{kt k2 pt2}(hc:X.calm=true)(hN:X.N.Nodup)(hi:X.N[i]?=Za x)(hj:X.N[j]?=Za y)(Ww:i≠j)(hx:X.env.scope.names.lookup x=Za .local)(hy:X.env.scope.names.lookup y=Za .local)(ha:PA X [a,b] ta)(hw:im [.Tuple [.Name x px,.Name y py] kt pt] (.Tuple [a,b] k2 pt2) X.env=pure (Za [x,y]))(hs:ij [.Tuple [.Name x px,.Name y py] kt pt] (.Tuple [a,b] k2 pt2) pos.line X.env=pure false:=by rfl) :
  PS X (.Assign [.Tuple [.Name x px,.Name y py] kt pt] (.Tuple [a,b] k2 pt2) pos) (ÂO i j ta):=by
 refine λR1 s O H D I h=>ae (eE ?_);rw[hs];refine ae (aE ?_);refine ae (Tuple_ (Zx (ha _ R1 s O H _ I h) λus s1=>e4 λvs H1 I1 r1 q1=>?_));let⟨v,w,rfl,q1⟩:=q1;obtain⟨u1,u2,rfl,rv,SN⟩:∃u1 u2,us=[u1,u2]/\RelV v u1/\RelV w u2:=by
  cases r1 with
  |cons p q =>
   cases q with
   |cons p' q' =>
    cases q';exact⟨_,_,rfl,p,p'⟩
 refine dH ?_ (by show 2<=aF;decide);have I2:Inv X R1 O H1 { s1 with heap:=s1.heap.push { cls:=.type "tuple",data:=.seq [u1,u2].toArray } }:=I1.kept λb o e=>aj _ e;rw[hw];refine ae (aE ?_);refine ae (wpAny_rule (ae (unpackItems_tuple (items:=#[u1,u2]) (I.ok.hd hc) (IsTup.new s1.heap _) λh' Uj=>?_)));have I3:=I2.kept (t':=s1.toks) λb o e=>Uj b o (az (au e)) e;refine ae (jA (wpAny_bindName (tI I3 hN hj (.inl hy) SN (λs2 I4=>?_) (.inr hy))));refine jA (wpAny_bindName (tI I4 hN hi (.inl hx) rv (λs3 I5=>assignInOrder_nil (aE ?_)) (.inr hx)));rw[List.set_comm _ _ (bV Ww)] at I5;exact⟨_,H1,I5,q1⟩
def ÂX(i:Nat)(te:TE)(ti:TIp):TS:=λD O H=>∃x,O[i]?=Za (Za x)/\te O H λy H1=>ti x y H1 λz H2=>D.nx (O.set i (Za z)) H2
def QG{e}{te}(hN:X.N.Nodup)(hi:X.N[i]?=Za x)(hx:Loc X.env.scope x)(he:PE X e te)(ho:PIp X op ti)(hf:X.fn x=true\/X.env.scope.names.lookup x=Za .local:=by first|exact .inl rfl|exact .inr rfl|assumption) :
  PS X (.AugAssign (.Name x Sv) op e pos) (ÂX i te ti):=by
 rintro R1 s O H D I ⟨v,e1,h⟩
 let⟨m,hn,hl⟩:=I.loc;have vis:Vis X.env.scope x:=by obtain k|k:=hx;exact .inl k;exact .inr (.inl k)
 let⟨u,r,l⟩:=hl i x v hi e1 vis;apply wpAny_AugAssign_Name;have go:aM (model X.prog X.w) X.A (eval e X.env) (λw TH=>aM (model X.prog X.w) X.A (inplaceOp op u w) (λr R4=>aM (model X.prog X.w) X.A (storeName X.env x r) (λ_=>SP X R1 D .next) X.xe R4) X.xe TH) X.xe s:=by refine Zx (he R1 s O H _ I h) λw s1=>e4 λy H1 I1 r1 q1=>?_;refine Zx (ho R1 s1 O H1 v y u w _ I1 r r1 q1) λz s2=>e4 λzv H2 I2 r2 q2=>?_;exact tI I2 hN hi hx r2 (λs3 I3=>⟨_,H2,I3,q2⟩) hf
 rcases l with⟨hk,hm⟩|⟨hk,c,hc,SX⟩
 .exact wpAny_loadName_local I.ok.kind hk hn hm go
 .obtain hk|hk:=hk
  .exact wpAny_loadName_cell I.ok.kind hk hc SX go
  .obtain k|k:=hx
   .have:X.env.scope.names.lookup x=Za .free:=hk
    simp_all
   .have:X.env.scope.names.lookup x=Za .free:=hk
    simp_all
def Áv(to ti te:TE)(U6:V->V->Hp->VK->Prop)(XC:TIp)(U3:Pm):TS:=λD O H=>to O H λo H1=>ti O H1 λi H2=>U6 o i H2 λx H3=>te O H3 λy H4=>XC x y H4 λz H5=>U3 o i z H5 λH6=>D.nx O H6
def ÂE(X:Cx)(t:V->V->Hp->VK->Prop):Prop :=
 ∀(R1:List (ag×Obj))(s:aw)(O:St)(H:Hp)(o i:V)(ov iv:ai)(Q:VK),Inv X R1 O H s->RelV o ov->RelV i iv->t o i H Q ->
  aM (model X.prog X.w) X.A (iQ ov iv) (EP X R1 O Q) X.xe s
def NQ{o i e}{to ti te}(ho:PE X o to)(hi:PE X i ti)(hg:ÂE X U6)(he:PE X e te)(hp:PIp X op XC)(hs:Ϣ X U3)(ha:∀ov iv new,augStore i ov iv new=(do holding [new,ov,iv] (kK ov iv new);release [new,ov,iv] [];pure .next):=by intros;rfl):PS X (.AugAssign (.Subscript o i SG) op e pos) (Áv to ti te U6 XC U3):=by
 refine λR1 s O H D I h=>wpAny_AugAssign_SubscriptAny (Zx (ho R1 s O H _ I h) λov s1=>e4 λx1 H1 I1 r1 q1=>?_) ha;refine Zx (hi R1 s1 O H1 _ I1 q1) λiv s2=>e4 λx2 H2 I2 r2 q2=>?_;refine Zx (hg R1 s2 O H2 x1 x2 ov iv _ I2 r1 r2 q2) λold s3=>e4 λx3 H3 I3 r3 q3=>?_;refine Zx (he R1 s3 O H3 _ I3 q3) λv s4=>e4 λx4 H4 I4 r4 q4=>?_;refine Zx (hp R1 s4 O H4 x3 x4 old v _ I4 r3 r4 q4) λnew s5=>e4 λx5 H5 I5 r5 q5=>?_;exact Zx (hs R1 s5 O H5 x1 x2 x5 ov iv new _ I5 r1 r2 r5 q5) λ_ s6=>e3 λH6 I6 q6=>⟨O,H6,I6,q6⟩
def ipI(f:Int->Int->Int):TIp:=λx y H Q=>∃i j,x=.int i/\y=.int j/\Q (.int (f i j)) H
def MC:PIp X .Add (ipI λi j=>i+j):=by
 rintro R1 s O H x y v u Q I r1 r2 ⟨i,j,e1,e2,q⟩
 subst e1;subst e2;let⟨t,rfl⟩:=r1;let⟨t',rfl⟩:=r2;exact iadd_int ⟨.int _,H,I.tok _,⟨_,rfl⟩,q⟩
def Qj(c:TT)(tb:TS):TS:=λD O H=>∃W:Nat->St->Hp->Prop,(∃m,W m O H)/\∀m O H,W m O H ->
 c O H λb H1=>if b=true then ∃N:St->Hp->Prop,(∀ZG H',N ZG H'->∃m',m'<m/\W m' ZG H')/\tb { D with nx:=N,ct:=N,bk:=D.nx } O H1 else D.nx O H1
def FB(hp:PassesOwn (model X.prog X.w) X.A X.env X.xe)(hc:PT X c tc)(hb:ύ X body tb):PS X (.While c body [] pos) (Qj tc tb):=by
 rintro R1 s O H D I ⟨W,⟨m0,w0⟩,TC⟩
 refine wpAny_While (codeAny_whileLoop (λn s'=>∃ZG H',Inv X R1 ZG H' s'/\W n ZG H') ?_ m0 ⟨O,H,I,w0⟩)
 rintro n s1 ⟨Ϧ,H1,I1,w1⟩
 refine en hp (Zx (hc R1 s1 Ϧ H1 _ I1 (TC n Ϧ H1 w1)) λb s2=>e3 λH2 I2 q2=>?_);cases b with
 |true =>
  let⟨N,hN,q2⟩:=q2;refine en hp (Zx (hb R1 s2 Ϧ H2 _ I2 q2) λf s3 q3=>?_);cases f with
  |next =>
   let⟨Ŗ,H3,I3,n3⟩:=q3;let⟨m',hm,w3⟩:=hN Ŗ H3 n3;exact⟨m',hm,Ŗ,H3,I3,w3⟩
  |cont =>
   let⟨Ŗ,H3,I3,n3⟩:=q3;let⟨m',hm,w3⟩:=hN Ŗ H3 n3;exact⟨m',hm,Ŗ,H3,I3,w3⟩
  |brk=>exact q3
  |ret v=>exact q3
 |false =>
  exact fD ⟨Ϧ,H2,I2,q2⟩
end
structure It where
 go:Nat->Hp->Prop
 yld:Nat->Hp->V->Hp->Prop
 stop:Nat->Hp->Prop
def AO(X:Cx)(R1:List (ag×Obj))(H:Hp)(b:ag):Prop :=
 H b=Zb/\b≠X.env.locals/\b∉X.fs/\(b∈X.ex\/X.Ç.heap.objs.size<=b)/\(∀x c,X.env.cells.lookup x=Za c->c≠b)/\∀p∈X.pn++R1,p.1≠b
def Inv.Ź(I:Inv X R1 O H s)(hb:s.heap.objs.size<=b)(hn:H' b=Zb):AO X R1 H' b:=by
 refine⟨hn,fH (aA I.lt hb),I.Â9 hb,.inr (aC I.sz hb),λx c e z=>?_,λp hp z=>?_⟩
 .let⟨v,q⟩:=I.cell x c e;exact absurd (aA q.lt (by rw[z];exact hb)) (eZ _)
 .exact absurd (aA (au (I.pin p hp).1) (by rw[z];exact hb)) (eZ _)
structure Turn(P:bT)(w:cy)(K:aa)(tg:cA)(J:It)(fp:List ag)(it:ag)(tn:Nat->cg->Prop):Prop where
 mem:it∈fp
 obj:∀i h,tn i h->∀b∈fp,∃o,h.get? b=Za o/\∀v,o.data≠.cell v
 keep:∀i h h',tn i h->(∀b∈fp,∀o,h.get? b=Za o->h'.get? b=Za o)->tn i h'
 item:∀(X:Cx),X.prog=P->X.w=w->X.K=K->X.calm=true->∀(i:Nat)(R1:List (ag×Obj))(s:aw)(O:St)(H:Hp)(E:ai->aw->Prop),Inv X R1 O H s->(∀b∈fp,AO X R1 H b)->tn i s.heap->J.go i H ->
  aM (model P w) X.A (pyNext (.ref it)) (λr s1=>∃u,r=Za u /\
   aM (model P w) X.A (kD tg (.ref it) u) (λ_ s2=>∃x H',Inv X R1 O H' s2/\RelV x u/\J.yld i H x H'/\tn (i+1) s2.heap/\∀b∈fp,H' b=Zb) E s1) E s
 done:∀(X:Cx),X.prog=P->X.w=w->X.K=K->X.calm=true->∀(i:Nat)(R1:List (ag×Obj))(s:aw)(O:St)(H:Hp)(E:ai->aw->Prop),Inv X R1 O H s->(∀b∈fp,AO X R1 H b)->tn i s.heap->J.stop i H ->
  aM (model P w) X.A (pyNext (.ref it)) (λr s1=>r=Zb/\Inv X R1 O H s1) E s
 self:∀(A:cQ)(i:Nat)(s:aw)(Q:ai->aw->Prop)(E:ai->aw->Prop),tn i s.heap->Q (.ref it) s->aM (model P w) A (pyIter (.ref it)) Q E s
abbrev TI:=St->Hp->(It->Hp->Prop)->Prop
def PIE(X:Cx)(R1:List (ag×Obj))(O:St)(tg:cA)(R:It->Hp->Prop)(VH:ai)(s2:aw):Prop :=
 ∃(it:ag)(fp:List ag)(tn:Nat->cg->Prop)(J:It)(H':Hp),VH=.ref it/\Inv X R1 O H' s2/\Turn X.prog X.w X.K tg J fp it tn/\tn 0 s2.heap/\(∀b∈fp,AO X R1 H' b)/\R J H'
def PI(X:Cx)(tg iter:cA)(wi:TI):Prop :=
 ∀(R1:List (ag×Obj))(s:aw)(O:St)(H:Hp)(R:It->Hp->Prop),Inv X R1 O H s->wi O H R ->
  aM (model X.prog X.w) X.A (eval iter X.env) (λv s1=>aM (model X.prog X.w) X.A (pyIter v) (PIE X R1 O tg R) X.xe s1) X.xe s
def GY(ho:s.heap.get? it=Za o)(hc:o.cls=.type n)(hd:o.data=.fields vs)(hn:["enumerate","zip","dict_itemiterator","dict_reverseitemiterator","odict_iterator","itertools.zip_longest","itertools.pairwise"].contains n=false)(hQ:Q () s):aM M A (kD tg (.ref it) u) Q E s:=by
 cases tg<;>first
  |exact aE hQ
  | (cases u<;>first
    |exact aE hQ
    | (refine ae (wpAny_load ho ?_)
       rw[hc,hd];show aM M A (if(["enumerate","zip","dict_itemiterator","dict_reverseitemiterator","odict_iterator","itertools.zip_longest","itertools.pairwise"].contains n&&vs[0]?==Za (rawInt _))=true then _ else _) Q E s;rw[Zd `g];exact aE hQ))
def Itl(K:aa)(a:ag):It :=
 ⟨λi H=>∃xs x,ZU K H a xs/\xs[i]?=Za x,λi H x H'=>H'=H/\∀xs,ZU K H a xs->xs[i]?=Za x,λi H=>∃xs,ZU K H a xs/\xs.length<=i⟩
def Itt(K:aa)(a:ag):It :=
 ⟨λi H=>∃xs x,â K H a xs/\xs[i]?=Za x,λi H x H'=>H'=H/\∀xs,â K H a xs->xs[i]?=Za x,λi H=>∃xs,â K H a xs/\xs.length<=i⟩
def Itr(lo:Int)(n:Nat):It:=⟨λi _=>i<n,λi H x H'=>H'=H/\x=.int (lo+i),λi _=>n<=i⟩
def CI{P}{w}{K}{tg}(a it):Turn P w K tg (Itl K a) [it] it (λi h=>h.IsListIter it a i) where
 mem:=by simp
 obj:=λi h st b hb=>by
  have e:b=it:=by simpa using hb
  subst e;let⟨o,e,c,d⟩:=st
  grind
 keep:=λi h h' st k=>st.at λo e=>k it (by simp) o e
 item:=by intro X hP hw hK hc i R1 s O H E I hf st hg;subst hP hw hK;let⟨xs,x,hq,hx⟩:=hg;let⟨its,rv,p,hz⟩:=I.list hq;let⟨u,hu,ru⟩:=rv.get hx;let⟨f0,f1,f2,f3,f4,f5⟩:=hf it (by simp);refine wpAny_pyNext_list_item st p.isList (by simpa using hu) λh' TF sb=>?_;have I1:=I.turned (t':=s.toks) (λb o hb e=>(sb.2 b hb).trans e) f0 f1 f3 f4 f5;let⟨o,e,c,d⟩:=id TF;exact⟨u,rfl,GY e c d (Zf rfl) ⟨x,H,I1,ru,⟨rfl,λys hy=>by rw[I.ğ hy hq];exact hx⟩,TF,λb hb=>(hf b hb).1⟩⟩
 done:=by intro X hP hw hK hc i R1 s O H E I hf st hg;subst hP hw hK;let⟨xs,hq,hx⟩:=hg;let⟨its,rv,p,hz⟩:=I.list hq;let⟨f0,f1,f2,f3,f4,f5⟩:=hf it (by simp);have hl:=rv.length;exact wpAny_pyNext_list_end (I.ok.hd hc) st p.isList (by simp;lia) λh' eb=>⟨rfl,I.turned (λb o hb e=>eb b o hb e) f0 f1 f3 f4 f5⟩
 self:=λ_ _ _ _ _ st h=>wpAny_pyIter_listiter st h
def Go{P}{w}{K}{tg}(a it):Turn P w K tg (Itt K a) [it] it (λi h=>h.IsTupleIter it a i) where
 mem:=by simp
 obj:=λi h st b hb=>by
  have e:b=it:=by simpa using hb
  subst e;let⟨o,e,c,d⟩:=st
  grind
 keep:=λi h h' st k=>st.at λo e=>k it (by simp) o e
 item:=by intro X hP hw hK hc i R1 s O H E I hf st hg;subst hP hw hK;let⟨xs,x,hq,hx⟩:=hg;let⟨its,rv,p,hz⟩:=I.tuple hq;let⟨u,hu,ru⟩:=rv.get hx;let⟨f0,f1,f2,f3,f4,f5⟩:=hf it (by simp);refine wpAny_pyNext_tuple_item st (p) (by simpa using hu) λh' TF sb=>?_;have I1:=I.turned (t':=s.toks) (λb o hb e=>(sb.2 b hb).trans e) f0 f1 f3 f4 f5;let⟨o,e,c,d⟩:=id TF;exact⟨u,rfl,GY e c d (Zf rfl) ⟨x,H,I1,ru,⟨rfl,λys hy=>by rw[I.Àg hy hq];exact hx⟩,TF,λb hb=>(hf b hb).1⟩⟩
 done:=by intro X hP hw hK hc i R1 s O H E I hf st hg;subst hP hw hK;let⟨xs,hq,hx⟩:=hg;let⟨its,rv,p,hz⟩:=I.tuple hq;let⟨f0,f1,f2,f3,f4,f5⟩:=hf it (by simp);have hl:=rv.length;exact wpAny_pyNext_tuple_end (I.ok.hd hc) st (p) (by simp;lia) λh' eb=>⟨rfl,I.turned (λb o hb e=>eb b o hb e) f0 f1 f3 f4 f5⟩
 self:=λ_ _ _ _ _ st h=>wpAny_pyIter_tupleiter st h
def Gp{P}{w}{K}{tg}(it)(lo)(n):Turn P w K tg (Itr lo n) [it] it (λi h=>IsRangeIter h it (lo+(i:Nat)*1) ((n:Int)-(i:Nat)) 1) where
 mem:=by simp
 obj:=λi h st b hb=>by
  grind
 keep:=λi h h' st k=>k it (by simp) _ st
 item:=by intro X hP hw hK hc i R1 s O H E I hf st hg;subst hP hw hK;let⟨f0,f1,f2,f3,f4,f5⟩:=hf it (by simp);have W:=Walks.range (prog:=X.prog) (w:=X.w) (I.ok.hd hc) it lo 1 n;refine W.item i s _ _ hg st λv h' tk hv TF kk=>?_;let⟨t,rfl⟩:=hv;have I1:Inv X R1 O H { s with heap:=h',toks:=tk }:=I.turned (λb o hb e=>kk b o (by simpa using hb) e) f0 f1 f3 f4 f5;refine⟨_,rfl,GY TF rfl rfl (Zf rfl) ⟨.int (lo+i),H,I1,⟨t,?_⟩,⟨rfl,rfl⟩,TF,λb hb=>(hf b hb).1⟩⟩;rw[lV]
 done:=by intro X hP hw hK hc i R1 s O H E I hf st hg;subst hP hw hK;let⟨f0,f1,f2,f3,f4,f5⟩:=hf it (by simp);exact wpAny_pyNext_range_end (I.ok.hd hc) st (by have:n<=i:=hg;lia) λh' eb=>⟨rfl,I.turned (λb o hb e=>eb b o hb e) f0 f1 f3 f4 f5⟩
 self:=λ_ _ _ _ _ st h=>wpAny_pyIter_rangeiter st h
section
variable{X:Cx}{tg:cA}
def Âb(K:aa)(tl:TE):TI:=λO H R=>tl O H λx H1=>∃a,x=.ref a/\(∃xs,ZU K H1 a xs)/\R (Itl K a) H1
def NS{l}{tl}(hl:PE X l tl):PI X tg l (Âb X.K tl):=by
 refine λR1 s O H R I h=>Zx (hl R1 s O H _ I h) λv s1=>e4 λx H1 I1 r1 q1=>?_;let⟨a,rfl,⟨xs,hq⟩,q⟩:=q1;cases r1;let⟨its,rv,p,hz⟩:=I1.list hq;apply hJ p.isList;refine⟨s1.heap.objs.size,[s1.heap.objs.size],_,_,H1,rfl,I1.kept λb o e=>aj _ e,CI a _,⟨_,aO _ rfl,rfl,rfl⟩,λb hb=>?_,q⟩;have e:b=s1.heap.objs.size:=by simpa using hb
 subst e;exact I1.Ź (ak _) (I1.Zl.fresh (ak _))
def Ky{R1}{O}{H}{s}{R:It->Hp->Prop}{E}{lo hi}{t u v}{tk}(I:Inv X R1 O H s)(h1:-(2^62)<=lo)(h2:lo<2^62)(h3:-(2^62)<=hi)(h4:hi<2^62)(q:R (Itr lo (hi-lo).toNat) H):aM (model X.prog X.w) X.A (pyIter (.ref s.heap.objs.size)) (PIE X R1 O tg R) E { s with heap:=s.heap.push { cls:=.type "range",data:=.fields #[.int lo t,.int hi u,.int 1 v] },toks:=tk }:=by
 apply wpAny_pyIter_range (IsRange.new ..) (small_one h1 h2 h3 h4);have I1:Inv X R1 O H { s with heap:=s.heap.push { cls:=.type "range",data:=.fields #[.int lo t,.int hi u,.int 1 v] },toks:=tk }:=I.kept λb o e=>aj _ e;refine⟨(s.heap.push { cls:=.type "range",data:=.fields #[.int lo t,.int hi u,.int 1 v] }).objs.size,[(s.heap.push { cls:=.type "range",data:=.fields #[.int lo t,.int hi u,.int 1 v] }).objs.size],_,_,H,rfl,
  I1.kept λb o e=>aj _ e,Gp _ lo (hi-lo).toNat,?_,λb hb=>?_,q⟩
 .have e1:lo+((0:Nat):Int)*1=lo:=by simp
  have e2:(((hi-lo).toNat:Nat):Int)-((0:Nat):Int)=Builtin.Range.rangeSize lo hi 1:=by rw[rangeSize_one];grind
  rw[e1,e2];exact aO _ rfl
 .have e:b=(s.heap.push { cls:=.type "range",data:=.fields #[.int lo t,.int hi u,.int 1 v] }).objs.size:=by simpa using hb
  subst e;exact I1.Ź (ak _) (I1.Zl.fresh (ak _))
def Âa(ta:TA):TI:=λO H R=>ta O H λvs H1=>∃j:Int,vs=[.int j]/\-(2^62)<=j/\j<2^62/\R (Itr 0 j.toNat) H1
def IZ{a}{ta}{p pos}(hg:Gl X "range")(hm:X.mg "range"=Zb)(ha:PA X [a] ta)(hs:ao [a] X.env=[(false,eval a X.env)]:=by rfl):PI X tg (.Call (.Name "range" p) [a] [] pos) (Âa ta):=by
 refine λR1 s O H R I h=>Call_ (zq I hg hm boot_range (dN (Zx (ha pos R1 s O H _ I h) λus s1=>e4 λvs H1 I1 r1 q1=>?_) hs rfl));let⟨j,rfl,q1,q2,q⟩:=q1;cases r1 with
 |cons r rr =>
  cases rr;let⟨t,rfl⟩:=r;exact call_range_1 (Ky I1 `l `l q1 q2 (by simpa using q))
def ÂU(wi:TI)(g:TG)(tb:TS):TS:=λD O H=>wi O H λJ H1=>∃W:Nat->Nat->St->Hp->Prop,(∃m,W 0 m O H1)/\∀i m O H,W i m O H ->
 (J.stop i H/\D.nx O H)\/(J.go i H/\∃N:St->Hp->Prop,(∀ZG H',N ZG H'->∃m',m'<m/\W (i+1) m' ZG H')/\∀x H',J.yld i H x H'->g x O H' λĴ H2=>tb { D with nx:=N,ct:=N,bk:=D.nx } Ĵ H2)
def BM(fp:List ag)(h:cg):List (ag×Obj):=fp.filterMap λb=>(h.get? b).map λo=>(b,o)
def ut(hb:b∈fp)(e:h.get? b=Za o):(b,o)∈BM fp h:=gC.mpr ⟨b,hb,by rw[e];rfl⟩
def Jm(hp:p∈BM fp h):p.1∈fp/\h.get? p.1=Za p.2:=by
 let⟨b,hb,e⟩:=gC.mp hp;cases q:h.get? b with
 |none=>grind
 |some o =>
  grind
def Inv.pinned(I:Inv X R1 O H s)(hf:∀b∈fp,AO X R1 H b)(ho:∀b∈fp,∃o,s.heap.get? b=Za o/\∀v,o.data≠.cell v):Inv X (R1++BM fp s.heap) O H s :=
 I.ϻ λp hp=>(a7.mp hp).elim (λz=>I.pin p (aL _ z)) λz=>by
  let⟨hb,e⟩:=Jm z;let⟨f0,f1,f2,_⟩:=hf p.1 hb
  grind
def Inv.Ĝ(I:Inv X (R1++pl) O H s):Inv X R1 O H s:=I.ϻ λp hp=>I.pin p (aL _ (cN _ hp))
def EB(hp:PassesOwn (model X.prog X.w) X.A X.env X.xe)(hc:X.calm=true)(hi:PI X tg iter wi)(hg:PG X tg g)(hb:ύ X body tb)(hs:∀x,a6 iter X.env x=pure x:=by intro _;rfl):PS X (.For tg iter body [] pos) (ÂU wi g tb):=by
 refine λR1 s O H D I h=>wpAny_For (Zx (hi R1 s O H _ I h) λv s1 h1=>Zx h1 λVH s2 h2=>?_) hs;let⟨it,fp,tn,J,H2,rfl,I2,T,Td,f2,W,⟨m0,w0⟩,TC⟩:=h2;have TD:∀{H':Hp},(∀b∈fp,H' b=Zb)->∀b∈fp,AO X R1 H' b:=λhn b hb=>⟨hn b hb,(f2 b hb).2⟩;refine codeAny_forLoop_any (λn s'=>∃i ZG H',Inv X R1 ZG H' s'/\tn i s'.heap/\(∀b∈fp,H' b=Zb)/\W i n ZG H') ?_ m0 ⟨0,O,H2,I2,Td,λb hb=>(f2 b hb).1,w0⟩
 rintro n s3 ⟨i,Ŗ,H3,I3,V0,WQ,w3⟩
 rcases TC i n Ŗ H3 w3 with⟨stop,qn⟩|⟨go,N,hN,step⟩
 .refine en hp (Zx (T.done X rfl rfl rfl hc i R1 s3 Ŗ H3 X.xe I3 (TD WQ) V0 stop) λr s4 ⟨hr,I4⟩=>?_);subst hr;exact fD ⟨Ŗ,H3,I4,qn⟩
 .refine en hp (Zx (T.item X rfl rfl rfl hc i R1 s3 Ŗ H3 X.xe I3 (TD WQ) V0 go) λr s4 ⟨u,hr,h4⟩=>?_);subst hr;refine en hp (Zx h4 λ_ s5=>e4 λx H5 I5 r5 ⟨y5,st5,fr5⟩=>?_);have I5':=I5.pinned (TD fr5) (T.obj _ _ st5);refine en hp (Zx (hg _ s5 Ŗ H5 x u _ I5' r5 (step x H5 y5)) λ_ s6=>e4b λσ6 H6 I6 q6=>?_);refine en hp (Zx (hb _ s6 σ6 H6 _ I6 q6) λf s7 q7=>?_);have again:∀{Ϸ:St}{H7:Hp},Inv X (R1++BM fp s5.heap) Ϸ H7 s7->N Ϸ H7->∃m,m<n/\∃i ZG H',Inv X R1 ZG H' s7/\tn i s7.heap/\(∀b∈fp,H' b=Zb)/\W i m ZG H':=λ{Ϸ H7} I7 n7=>by let⟨m',hm,w7⟩:=hN Ϸ H7 n7;refine⟨m',hm,i+1,Ϸ,H7,I7.Ĝ,T.keep _ _ _ st5 λb hb o e=>(I7.pin (b,o) (aL _ (aL _ (ut hb e)))).1,λb hb=>?_,w7⟩;let⟨o,e,d⟩:=T.obj _ _ st5 b hb;exact(I7.pin (b,o) (aL _ (aL _ (ut hb e)))).2.1
  cases f with
  |next=>let⟨Ϸ,H7,I7,n7⟩:=q7;exact again I7 n7
  |cont=>let⟨Ϸ,H7,I7,n7⟩:=q7;exact again I7 n7
  |brk=>let⟨Ϸ,H7,I7,q7⟩:=q7;exact⟨Ϸ,H7,I7.Ĝ,q7⟩
  |ret v=>let⟨x7,Ϸ,H7,I7,r7,q7⟩:=q7;exact⟨x7,Ϸ,H7,I7.Ĝ,r7,q7⟩
end
abbrev R2:=V->V->Hp->VK->Prop
def Û(X:Cx)(f:ai->ai->Sem ai)(r:R2):Prop :=
 ∀(R1:List (ag×Obj))(s:aw)(O:St)(H:Hp)(x y:V)(v u:ai)(Q:VK),Inv X R1 O H s->RelV x v->RelV y u->r x y H Q ->
  aM (model X.prog X.w) X.A (f v u) (EP X R1 O Q) X.xe s
def UnR(X:Cx)(f:ai->Sem ai)(r:V->Hp->VK->Prop):Prop :=
 ∀(R1:List (ag×Obj))(s:aw)(O:St)(H:Hp)(x:V)(v:ai)(Q:VK),Inv X R1 O H s->RelV x v->r x H Q ->
  aM (model X.prog X.w) X.A (f v) (EP X R1 O Q) X.xe s
def ZY(X:Cx)(f:ai)(r:List V->Hp->VK->Prop):Prop :=
 ∀(R1:List (ag×Obj))(s:aw)(O:St)(H:Hp)(xs:List V)(us:List ai)(Q:VK),Inv X R1 O H s->Vals xs us->r xs H Q ->
  aM (model X.prog X.w) X.A (call f us) (EP X R1 O Q) X.xe s
def tOp(r:R2)(ta tb:TE):TE:=λO H Q=>ta O H λx H1=>tb O H1 λy H2=>r x y H2 Q
def tUn(r:V->Hp->VK->Prop)(ta:TE):TE:=λO H Q=>ta O H λx H1=>r x H1 Q
def rI(C:Int->Int->Prop)(g:Int->Int->V):R2:=λx y H Q=>∃i j,x=.int i/\y=.int j/\C i j/\Q (g i j) H
def rI0(g:Int->Int->V):R2:=λx y H Q=>∃i j,x=.int i/\y=.int j/\Q (g i j) H
def rU(g:Int->V):V->Hp->VK->Prop:=λx H Q=>∃i,x=.int i/\Q (g i) H
section
variable{X:Cx}{a b c:cA}{ta tb tc:TE}{pos:Pos}
def RY(ha:PE X a ta)(hb:PE X b tb){R1:List (ag×Obj)}{s:aw}{O:St}{H:Hp}{R:V->V->Hp->Prop}(I:Inv X R1 O H s)(h:ta O H λx H1=>tb O H1 λy H2=>R x y H2){Q:ai->aw->Prop}{f:ai->ai->Sem ai}(hf:∀v u s2 x y H2,Inv X R1 O H2 s2->RelV x v->RelV y u->R x y H2->aM (model X.prog X.w) X.A (f v u) Q X.xe s2) :
  aM (model X.prog X.w) X.A (eval a X.env) (λv Sj=>aM (model X.prog X.w) X.A (eval b X.env) (λu TH=>aM (model X.prog X.w) X.A (f v u) Q X.xe TH) X.xe Sj) X.xe s:=by
 refine Zx (ha R1 s O H _ I h) λv s1=>e4 λx H1 I1 r1 q1=>?_;refine Zx (hb R1 s1 O H1 _ I1 q1) λu s2=>e4 λy H2 I2 r2 q2=>?_;exact hf v u s2 x y H2 I2 r1 r2 q2
def uD{op:Operator}{r:R2}(ho:Û X (dJ op) r)(ha:PE X a ta)(hb:PE X b tb):PE X (.BinOp a op b pos) (tOp r ta tb):=by exact λR1 s O H Q I h=>wpAny_BinOp (RY ha hb I h λv u s2 x y H2 I2 rx ry q=>ho R1 s2 O H2 x y v u Q I2 rx ry q)
def PD{op:UnaryOp}{r}(ho:UnR X (unaryOp op) r)(ha:PE X a ta):PE X (.UnaryOp op a pos) (tUn r ta):=by exact λR1 s O H Q I h=>UnaryOp_ (Zx (ha R1 s O H _ I h) λv s1=>e4 λx H1 I1 r1 q1=>ho R1 s1 O H1 x v Q I1 r1 q1)
def opI{f:ai->ai->Sem ai}{C:Int->Int->Prop}{g:Int->Int->Int}(rule:∀(i j:Int)(t u:Tok)(s:aw)(Q:ai->aw->Prop)(E:ai->aw->Prop),C i j->Q (.int (g i j) s.toks) { s with toks:=s.toks+1 }->aM (model X.prog X.w) X.A (f (.int i t) (.int j u)) Q E s) :
  Û X f (rI C λi j=>.int (g i j)):=by
 rintro R1 s O H x y v u Q I rx ry ⟨i,j,rfl,rfl,hc,q⟩
 let⟨t,rfl⟩:=rx;let⟨t',rfl⟩:=ry;exact rule i j t t' s _ _ hc ⟨.int (g i j),H,I.tok _,⟨_,rfl⟩,q⟩
def ÁJ{f:ai->ai->Sem ai}{g:Int->Int->Int}(rule:∀(i j:Int)(t u:Tok)(s:aw)(Q:ai->aw->Prop)(E:ai->aw->Prop),Q (.int (g i j) s.toks) { s with toks:=s.toks+1 }->aM (model X.prog X.w) X.A (f (.int i t) (.int j u)) Q E s) :
  Û X f (rI0 λi j=>.int (g i j)):=by
 rintro R1 s O H x y v u Q I rx ry ⟨i,j,rfl,rfl,q⟩
 let⟨t,rfl⟩:=rx;let⟨t',rfl⟩:=ry;exact rule i j t t' s _ _ ⟨.int (g i j),H,I.tok _,⟨_,rfl⟩,q⟩
def PL{f:ai->ai->Sem ai}{g:Int->Int->Bool}(rule:∀(i j:Int)(t u:Tok)(s:aw)(Q:ai->aw->Prop)(E:ai->aw->Prop),Q (.bool (g i j)) s->aM (model X.prog X.w) X.A (f (.int i t) (.int j u)) Q E s) :
  Û X f (rI0 λi j=>.bl (g i j)):=by
 rintro R1 s O H x y v u Q I rx ry ⟨i,j,rfl,rfl,q⟩
 let⟨t,rfl⟩:=rx;let⟨t',rfl⟩:=ry;exact rule i j t t' s _ _ ⟨.bl (g i j),H,I,rfl,q⟩
def ÂF(i j:Int):Prop:=0<=j/\j<=1000000/\i.natAbs<2^64
def Àh(i j:Int):Prop:=(-(2^64)<i/\i<2^64)\/(-(2^64)<j/\j<2^64)
def Àh.ok(h:Àh i j):jP i j:=by
 rcases h with⟨h1,h2⟩|⟨h1,h2⟩
 .exact .of_left (intBits_le_64 h1 h2)
 .exact .of_right (intBits_le_64 h1 h2)
def Àr:Û X (dJ .Add) (rI0 λi j=>.int (i+j)):=ÁJ λ_ _ _ _ _ _ _ q=>add_int q
def QR:Û X (dJ .Sub) (rI0 λi j=>.int (i-j)):=ÁJ λ_ _ _ _ _ _ _ q=>sub_int q
def QV:Û X (dJ .Mult) (rI Àh λi j=>.int (i*j)):=opI λ_ _ _ _ _ _ _ hc q=>mul_int q hc.ok
def Mu:Û X (dJ .Mod) (rI (λ_ j=>0<j) λi j=>.int (i%j)):=opI λi j _ _ _ _ _ hc q=>by exact mod_int' `l (by rw[Int.fmod_eq_emod_of_nonneg i `l];exact q)
def QT:Û X (dJ .Pow) (rI ÂF λi j=>.int (i^j.toNat)):=opI λ_ _ _ _ _ _ _ hc q=>pow_int_small hc.1 hc.2.1 hc.2.2 q
def unI{f:ai->Sem ai}{g:Int->Int}(rule:∀(i:Int)(t:Tok)(s:aw)(Q:ai->aw->Prop)(E:ai->aw->Prop),Q (.int (g i) s.toks) { s with toks:=s.toks+1 }->aM (model X.prog X.w) X.A (f (.int i t)) Q E s) :
  UnR X f (rU λi=>.int (g i)):=by
 rintro R1 s O H x v Q I rx ⟨i,rfl,q⟩
 let⟨t,rfl⟩:=rx;exact rule i t s _ _ ⟨.int (g i),H,I.tok _,⟨_,rfl⟩,q⟩
def L7:UnR X (unaryOp .USub) (rU λi=>.int (-i)):=unI λ_ _ _ _ _ q=>neg_int q
def Â0:V->V->Bool
 |.Zn,.Zn=>true|.Zn,.int _=>true|.int _,.Zn=>true|.Zn,.bl _=>true|.bl _,.Zn=>true|.Zn,.str _=>true|.str _,.Zn=>true
 |.int _,.int _=>true|.bl _,.bl _=>true|.str _,.str _=>true|.byt _,.byt _=>true
 |.int _,.str _=>true|.str _,.int _=>true|.bl _,.str _=>true|.str _,.bl _=>true
 |_,_=>false
def rNe:R2:=λx y H Q=>Â0 x y=true/\Q (.bl (!decide (x=y))) H
def OX:decide (V.int i=V.int j)=(i==j):=by rw[cj];simp
def RB:decide (V.bl i=V.bl j)=(i==j):=by rw[cj];simp
def OW:decide (V.str i=V.str j)=(i==j):=by rw[cj];simp
def OY:decide (V.byt i=V.byt j)=(i.toList==j.toList):=by
 rw[cj]
 simp_all
def pQ(I:Inv X R1 O H s)(q:Q (.bl k) H)(e:k=k'):EP X R1 O Q (.bool k') s:=by subst e;exact⟨.bl k,H,I,rfl,q⟩
def ÁI:Û X (bN .NotEq) rNe:=by
 rintro R1 s O H x y v u Q I rx ry ⟨hs,q⟩
 cases x with
 |Zn =>
  cases rx;cases y with
  |Zn=>cases ry;exact PySem.EqNone.ne_none_none (pQ I q (by simp))
  |bl j=>cases ry;exact PySem.EqNone.ne_none_bool (pQ I q (by simp))
  |int j=>let⟨t',rfl⟩:=ry;exact PySem.EqNone.ne_none_int (pQ I q (by simp))
  |str j=>let⟨t',rfl⟩:=ry;exact PySem.EqNone.ne_none_str (pQ I q (by simp))
  |_=>exact absurd (show false=true from hs) bG
 |bl i =>
  cases rx;cases y with
  |Zn=>cases ry;exact PySem.EqNone.ne_bool_none (pQ I q (by simp))
  |bl j=>cases ry;exact ne_bool (pQ I q (congrArg not RB))
  |str j=>let⟨t',rfl⟩:=ry;exact PySem.EqMixed.ne_bool_str (pQ I q (by simp))
  |_=>exact absurd (show false=true from hs) bG
 |int i =>
  let⟨t,rfl⟩:=rx;cases y with
  |Zn=>cases ry;exact PySem.EqNone.ne_int_none (pQ I q (by simp))
  |int j=>let⟨t',rfl⟩:=ry;exact ne_int (pQ I q (congrArg not OX))
  |str j=>let⟨t',rfl⟩:=ry;exact PySem.EqMixed.ne_int_str (pQ I q (by simp))
  |_=>exact absurd (show false=true from hs) bG
 |str i =>
  let⟨t,rfl⟩:=rx;cases y with
  |Zn=>cases ry;exact PySem.EqNone.ne_str_none (pQ I q (by simp))
  |bl j=>cases ry;exact PySem.EqMixed.ne_str_bool (pQ I q (by simp))
  |int j=>let⟨t',rfl⟩:=ry;exact PySem.EqMixed.ne_str_int (pQ I q (by simp))
  |str j=>let⟨t',rfl⟩:=ry;exact ne_str (pQ I q (congrArg not OW))
  |_=>exact absurd (show false=true from hs) bG
 |byt i =>
  let⟨t,rfl⟩:=rx;cases y with
  |byt j=>let⟨t',rfl⟩:=ry;exact PySem.W.ne_bytes (pQ I q (congrArg not OY))
  |_=>exact absurd (show false=true from hs) bG
 |_=>cases y<;>exact absurd (show false=true from hs) bG
def PF:Û X (bN .Lt) (rI0 λi j=>.bl (decide (i<j))):=PL λ_ _ _ _ _ _ _ q=>lt_int q
def PH:Û X (bN .LtE) (rI0 λi j=>.bl (decide (i<=j))):=PL λ_ _ _ _ _ _ _ q=>le_int q
def PK:Û X (bN .Gt) (rI0 λi j=>.bl (decide (j<i))):=PL λ_ _ _ _ _ _ _ q=>gt_int q
def M7:Û X (bN .GtE) (rI0 λi j=>.bl (decide (j<=i))):=PL λ_ _ _ _ _ _ _ q=>ge_int q
def N2:Û X (bN .IsNot) (λx y H Q=>y=.Zn/\Q (.bl (!decide (x=.Zn))) H):=by
 rintro R1 s O H x y v u Q I rx ry ⟨rfl,q⟩
 cases ry;refine isnot_none_gen (pQ I q ?_);cases x<;>first
  |(cases rx;rfl)
  |(let⟨t,rfl⟩:=rx;rfl)
def Û.or(h:Û X f r)(h':Û X f r'):Û X f (λx y H Q=>r x y H Q\/r' x y H Q):=by
 intro R1 s O H x y v u Q I rx ry q;obtain q|q:=q
 .exact h R1 s O H x y v u Q I rx ry q
 .exact h' R1 s O H x y v u Q I rx ry q
def wc(b)(h:op≠.In:=by decide)(h2:op≠.NotIn:=by decide):cS op b=false:=by
 have e1:(op==CmpOp.In)=false:=by cases op<;>first|rfl|exact absurd rfl h
 have e2:(op==CmpOp.NotIn)=false:=by cases op<;>first|rfl|exact absurd rfl h2
 cases b<;>simp[cS,e1,e2]
def Ia{op:CmpOp}{r}(ho:Û X (bN op) r)(ha:PE X a ta)(hb:PE X b tb)(hm:cS op b=false):PE X (.Compare a [op] [b] pos) (tOp r ta tb):=by exact λR1 s O H Q I h=>wpAny_Compare1 (RY ha hb I h λv u s2 x y H2 I2 rx ry q=>ho R1 s2 O H2 x y v u Q I2 rx ry q) hm
def Áo(t:TE):TT:=λO H Q=>t O H λx H'=>∃k,x=.bl k/\Q k H'
def vX{op:CmpOp}{r}(ho:Û X (bN op) r)(ha:PE X a ta)(hb:PE X b tb)(hm:cS op b=false):PT X (.Compare a [op] [b] pos) (Áo (tOp r ta tb)):=by
 refine λR1 s O H Q I h=>wpAny_isTrue_Compare1 (Zx (ha R1 s O H _ I h) λv s1=>e4 λx H1 I1 r1 q1=>Zx (hb R1 s1 O H1 _ I1 q1) λu s2=>e4 λy H2 I2 r2 q2 =>
  Zx (ho R1 s2 O H2 x y v u _ I2 r1 r2 q2) λc s3=>e4 λz H3 I3 r3 ⟨k,e,q3⟩=>?_) hm
 subst e;cases r3;exact dG ⟨H3,I3,q3⟩
def Qo(r r':R2)(ta tb tc:TE):TE:=λO H Q=>ta O H λx H1=>tb O H1 λy H2=>r x y H2 λz H3=>∃k,z=.bl k /\
 (if k=true then tc O H3 λw' H4=>r' y w' H4 Q else Q (.bl false) H3)
def FE(ho:Û X (bN op) r)(US:Û X (bN op') r')(ha:PE X a ta)(hb:PE X b tb)(hc:PE X c tc)(hm:lastMarks [op,op'] [b,c]=false:=by with_unfolding_all rfl):PE X (.Compare a [op,op'] [b,c] pos) (Qo r r' ta tb tc):=by
 refine λR1 s O H Q I h=>Compare_chain (Zx (ha R1 s O H _ I h) λv s1=>e4 λx H1 I1 r1 q1=>chain_link (Zx (hb R1 s1 O H1 _ I1 q1) λu s2=>e4 λy H2 I2 r2 q2 =>
  Zx (ho R1 s2 O H2 x y v u _ I2 r1 r2 q2) λd s3=>e4 λz H3 I3 r3 ⟨k,e,q3⟩=>?_)) hm
 subst e;cases r3;apply dG;cases k with
 |false=>exact ite_ff ⟨.bl false,H3,I3,rfl,q3⟩
 |true=>exact ite_tt (chain_last (Zx (hc R1 s3 O H3 _ I3 q3) λw' s4=>e4 λz' H4 I4 r4 q4=>US R1 s4 O H4 y z' u w' Q I4 r2 r4 q4))
def xg:(aF:Nat)<2^63:=Zf rfl
def Ϫ:Û X (dJ .Add) (λx y H Q=>∃i j,x=.str i/\y=.str j/\i.length+j.length<=aF/\Q (.str (i++j)) H):=by
 rintro R1 s O H x y v u Q I rx ry ⟨i,j,rfl,rfl,hz,q⟩
 let⟨t,rfl⟩:=rx;let⟨t',rfl⟩:=ry;exact add_str (λt' tk=>⟨.str (i++j),H,I.tok _,⟨_,rfl⟩,q⟩) hz
def rF(r:Vals [x] us):∃u,us=[u]/\RelV x u:=by
 cases r with
 |cons r1 r2=>cases r2;exact⟨_,rfl,r1⟩
def JU(r:Vals [x,y] us):∃u w',us=[u,w']/\RelV x u/\RelV y w':=by
 cases r with
 |cons r1 r2 =>
  cases r2 with
  |cons r3 r4=>cases r4;exact⟨_,_,rfl,r1,r3⟩
def LQ:ZY X (.builtin "abs") (λxs H Q=>∃i,xs=[.int i]/\Q (.int (if i<0 then -i else i)) H):=by
 rintro R1 s O H xs us Q I r ⟨i,rfl,q⟩
 let⟨u,rfl,t,rfl⟩:=rF r;exact call_abs_int λu tk=>⟨.int (if i<0 then -i else i),H,I.tok _,⟨_,rfl⟩,q⟩
def JP:ZY X (.type "int") (λxs H Q=>(∃i,xs=[.int i]/\Q (.int i) H)\/∃k,xs=[.bl k]/\Q (.int (if k then 1 else 0)) H):=by
 intro R1 s O H xs us Q I r h;rcases h with⟨i,rfl,q⟩|⟨k,rfl,q⟩
 .let⟨u,rfl,t,rfl⟩:=rF r;exact call_int_int ⟨.int i,H,I,⟨_,rfl⟩,q⟩
 .let⟨u,rfl,rfl⟩:=rF r;exact call_int_bool ⟨.int (if k then 1 else 0),H,I.tok _,⟨_,rfl⟩,q⟩
end
structure ϴ(h:cg)(x dx C:ag)(mA:Str->Option ai):Prop where
 obj:h.get? x=Za (dq C dx)
 ns:h.Ns1 dx mA
 ne:dx≠x
def CZ{h:cg}{dx:ag}{mA:Str->Option ai}(n:h.Ns1 dx mA):∃od,h.get? dx=Za od/\∀name,io name od=Za (mA name):=by
 let⟨o,es,ep,ho,hd,hk,_,hm⟩:=n;refine⟨o,ho,λname=>?_⟩;have e:=hm name;unfold nsFind findBy at e;rw[<-Array.find?_toList] at e;unfold io;rw[hd];dsimp only;split
 .grind
 .rename_i q;have a:es.toList.any (·.refKey)=false:=by rw[List.any_eq_false];intro y hy;let⟨z,t,Vj⟩:=hk y (Array.mem_toList_iff.mp hy);simp[DictEntry.refKey,Vj]
  grind
def ϴ.look(I:ϴ h x dx C mA):∃od,PySem.W.InstAt h x (dq C dx) C (Za od)/\∀name,io name od=Za (mA name) :=
 let⟨od,ho,hl⟩:=CZ I.ns
 ⟨od,⟨I.obj,rfl,rfl,ho⟩,hl⟩
section
variable{prog:bT}{w:cy}{A:cQ}{E:ai->aw->Prop}{s:aw}{K:aa}{x dx C f:ag}{mA:Str->Option ai}{name:Str}{v:ai}
def OA(X:K.In s.heap)(I:ϴ s.heap x dx C mA)(hg:eB K C name=true)(hh:cE K C=true)(ha:aJ K (.ref C) name=Za Zb)(hv:mA name=Za v)(hv':kf v=true)(h:Q v { s with toks:=s.toks+1 }) :
  aM (model prog w) A (getAttr (.ref x) name expr) Q E s:=by
 let⟨od,J,hl⟩:=I.look;exact PySem.W.get_value X J (iC hg).1 (PySem.W.findObj_own hh ha rfl (by rw[hl,hv])) hv' h
def Li(X:K.In s.heap)(I:ϴ s.heap x dx C mA)(hg:eB K C name=true)(hf:aJ K (.ref C) name=Za (Za (.ref f)))(ht:gQ K (.ref f)=true)(hv:mA name=Zb)(h:Q (.ref f,[.ref x]) s) :
  aM (model prog w) A (fK (.ref x) name pl) Q E s:=by
 let⟨od,J,hl⟩:=I.look;exact PySem.W.method_fn X J (iC hg).1 (iC hg).2 hf (beq_iff_eq.mp ht) (by show(io name od).map (·.isSome)=Za false;rw[hl,hv];rfl) h
def ND(X:K.In s.heap)(I:ϴ s.heap x dx C mA)(hs:aJ K (.ref C) "__setattr__"=Za (Za (.builtin "object.__setattr__")))(hp:gB K C=true)(ht:jm K C name=Za Zb)(hh:cE K C=true)(hw:kF mA ns)(hsz:ns.length<=aF)(h:∀h',ϴ h' x dx C (λy=>if y=name then Za v else mA y)->jg dx s.heap h'->Q () { s with heap:=h',toks:=s.toks+2 }) :
  aM (model prog w) A (setAttr (.ref x) name v) Q E s:=by
 let⟨od,J,hl⟩:=I.look;refine ly X J hs (PySem.W.osa_open X J hp ht λb=>?_);let⟨cd,hc,Xo⟩:=lL hh;have hx:=I.obj;refine ae (aE (ae (ae (k6 hx (ae (PySem.W.Looks.here (iD X hc) ?_))))));rw[Xo];refine aE (ae (aE (ae ?_)));refine wpAny_nsSet1 I.ns λh' Xj UE=>?_;let⟨oD,esD,epD,Yh,YA,YC⟩:=Xj.count (lK name v hw);refine ae (wpAny_lookBehind Yh (by rw[YA];exact pastItsLine_dict (aC YC (by rw[bu];lia))) ?_);exact aE (h _ ⟨(UE.2 _ (bV I.ne)).trans I.obj,Xj,I.ne⟩ UE)
def K5(X:K.In s.heap)(hm:fU K C=true)(hi:aJ K (.ref C) "__init__"=Za (Za (.ref f)))(hf:PySem.W.typeIn K (.ref f)=Za (.type "function"))(h:eX (model prog w) (A.under (.builtin "type.__call__" ⟨.ref C::vs,kw⟩)) (.call (.ref f) ⟨.ref (s.heap.objs.size+1)::vs,kw⟩) (PySem.W.InitBack (s.heap.objs.size+1) R)
   {s with heap:=(s.heap.push bS).push (dq C s.heap.objs.size) }) :
  eX (model prog w) A (.call (.ref C) ⟨vs,kw⟩) R s:=by
 exact PySem.W.make_core (PySem.W.makes_of X hm) (dB X hi) (λself=>mh X self hf) (.inl rfl) h
end
def Å(f:Str)(v:V):List (Str×V)->List (Str×V)
 |[]=>[(f,v)]
 |(g,x)::r=>if g=f then(g,v)::r else(g,x)::Å f v r
theorem yM(f g)(v):∀fs:List (Str×V),(Å f v fs).lookup g=if g=f then Za v else fs.lookup g
 |[]=>by
  show gL g [(f,v)]=_;by_cases h:g=f
  .have hb:(g==f)=true:=beq_iff_eq.mpr h
   grind
  .grind
 |(k,x)::r=>by
  have ih:=yM f g v r;rw[show Å f v ((k,x)::r)=(if k=f then(k,v)::r else(k,x)::Å f v r) from rfl]
  grind
theorem yx(f)(v):∀fs:List (Str×V),f∈(Å f v fs).map (·.1)/\∀g,g∈fs.map (·.1)->g∈(Å f v fs).map (·.1)
 |[]=>⟨by simp[Å],λg h=>by simp at h⟩
 |(k,x)::r=>by
  let⟨i1,i2⟩:=yx f v r;rw[show Å f v ((k,x)::r)=(if k=f then(k,v)::r else(k,x)::Å f v r) from rfl]
  grind
theorem vg(f)(v):∀fs:List (Str×V),(Å f v fs).length<=fs.length+1
 |[]=>by simp[Å]
 |(k,x)::r=>by
  have ih:=vg f v r;rw[show Å f v ((k,x)::r)=(if k=f then(k,v)::r else(k,x)::Å f v r) from rfl]
  grind
def ù.some_of(r:ù (Za v) o):∃u,o=Za u/\RelV v u:=by
 cases o with
 |none=>exact(r).elim
 |some u=>exact⟨u,rfl,r⟩
def ù.none_of(r:ù Zb o):o=none:=by
 cases o with
 |none=>rfl
 |some u=>exact(r).elim
def C7(r:RelV v u):kf u=true:=by
 cases v with
 |Zn=>cases(r);rfl
 |bl b=>cases(r);rfl
 |int i=>let⟨t,rfl⟩:=(r);rfl
 |str x=>let⟨t,rfl⟩:=(r);rfl
 |byt b=>let⟨t,rfl⟩:=(r);rfl
 |flt b=>let⟨t,rfl⟩:=(r);rfl
 |ref a=>cases(r);rfl
 |ty n=>cases(r);rfl
section
variable{P:bT}{w:cy}{H:Hp}{h:cg}{a C dx:ag}{fs:List (Str×V)}
def Al(Zl:ċ P w H h)(e:H a=Za (.ins C dx fs)):∃mA,ϴ h a dx C mA/\(∀f,ù (fs.lookup f) (mA f))/\kF mA (fs.map (·.1))/\fs.length<=1000/\H dx=Za (.own a):=by let⟨d,z,ne,ob,mA,n,r,q⟩:=(Zl a _ e);exact⟨mA,⟨ob,n,ne⟩,r,q,z,d⟩
end
structure ϥ(K:aa)(C:ag):Prop where
 pg:eB K C ci=true
 hd:cE K C=true
 po:gB K C=true
 sa:aJ K (.ref C) "__setattr__"=Za (Za (.builtin "object.__setattr__"))
def ϥ.get{K}{C}(c:ϥ K C)(f):eB K C f=true:=c.pg
def Z9(K:aa)(C:ag)(f:Str):Prop:=aJ K (.ref C) f=Za Zb
def Z9.Ál{K}{C}{f}(n:Z9 K C f):jm K C f=Za none:=by unfold jm;rw[n];rfl
structure Con(K:aa)(C:ag)(f:Str)(v:V)(u:ai):Prop where
 at_:aJ K (.ref C) f=Za (Za u)
 rel:RelV v u
 get:cM K u "__get__"=Za Zb
 cp:PySem.W.copiedNames.contains f=false
structure Meth(K:aa)(C:ag)(m:Str)(f:ag):Prop where
 at_:aJ K (.ref C) m=Za (Za (.ref f))
 fn:gQ K (.ref f)=true
 kp:bU K (.ref f)=true
section
variable{X:Cx}{R1:List (ag×Obj)}{O:St}{H:Hp}{s:aw}{a C dx:ag}{fs:List (Str×V)}{f:Str}{v:V}{A:cQ}{E:ai->aw->Prop}
def G6(I:Inv X R1 O H s)(e:H a=Za (.ins C dx fs))(c:ϥ X.K C)(n:Z9 X.K C f)(l:fs.lookup f=Za v)(h:∀u s',Inv X R1 O H s'->RelV v u->Q u s'):aM (model X.prog X.w) A (getAttr (.ref a) f b) Q E s:=by
 let⟨mA,Zi,r,_,_,_⟩:=Al I.Zl e;let⟨u,hu,ru⟩:=ù.some_of (by rw[<-l];exact r f);exact OA I.Ü Zi (c.get f) c.hd n hu (C7 ru) (h u _ (I.tok _) ru)
def Ao(I:Inv X R1 O H s)(e:H a=Za (.ins C dx fs))(c:ϥ X.K C)(k:Meth X.K C m g)(l:fs.lookup m=Zb)(h:Q (.ref g,[.ref a]) s):aM (model X.prog X.w) A (fK (.ref a) m pl) Q E s:=by
 let⟨mA,Zi,r,_,_,_⟩:=Al I.Zl e;have hn:=ù.none_of (by rw[<-l];exact r m);exact Li I.Ü Zi (c.get m) k.at_ k.fn hn h
def Gy(I:Inv X R1 O H s)(e:H a=Za (.ins C dx fs))(c:ϥ X.K C)(n:Z9 X.K C f)(hl:fs.length<1000)(ry:RelV y u)(h:∀s',Inv X R1 O (upd H a (.ins C dx (Å f y fs))) s'->Q () s'):aM (model X.prog X.w) A (setAttr (.ref a) f u) Q E s:=by
 let⟨mA,Zi,r,wi,_,ho⟩:=Al I.Zl e;have hz:(fs.map (·.1)).length<=aF:=by rw[ac,kq];lia
 refine ND I.Ü Zi c.sa c.po n.Ál c.hd wi hz λh' O' sb=>h _ ?_;have hd:∃o,h'.get? dx=Za o:=let⟨o,_,_,e',_⟩:=O'.ns;⟨o,e'⟩;refine I.write (by rw[e];exact cH) (.inr ho) (λb q hb z=>(sb.2 b hb).trans z) hd ?_;refine⟨by rw[mF Zi.ne];exact ho,?_,Zi.ne,O'.obj,_,O'.ns,λg=>?_,λg hg=>?_⟩
 .have:=vg f y fs;lia
 .rw[yM];by_cases q:g=f
  .rw[Zc q,Zc q];exact ry
  .simp_all
 .by_cases q:g=f
  .rw[q];exact(yx f y fs).1
  .refine(yx f y fs).2 g (wi g λz=>hg ?_);show(if g=f then Za u else mA g)=Zb;rw[Zd q];exact z
def Inv.made(I:Inv X R1 O H s):Inv X R1 O (upd (upd H s.heap.objs.size (.own (s.heap.objs.size+1))) (s.heap.objs.size+1) (.ins C s.heap.objs.size []))
  {s with heap:=(s.heap.push bS).push (dq C s.heap.objs.size) }:=by
 have e1:(s.heap.push bS).get? s.heap.objs.size=Za bS:=aO s.heap rfl;have e2:((s.heap.push bS).push (dq C s.heap.objs.size)).get? (s.heap.objs.size+1)=Za (dq C s.heap.objs.size):=by
  have:=aO (s.heap.push bS) (o:=dq C s.heap.objs.size) rfl
  simp_all
 have e3:(s.heap.push bS).Ns s.heap.objs.size (λ_=>Zb):=⟨bS,#[],_,e1,rfl,(λe he=>absurd he (by simp)),λ_=>rfl⟩;have I1:=I.laid (o:=.own (s.heap.objs.size+1)) (t':=s.toks) (λb u q=>aj _ q) (ak _) ⟨_,e1⟩;refine I1.laid (λb u q=>aj _ q) (jo (iI _ _)) ?_;have ne:s.heap.objs.size≠s.heap.objs.size+1:=az (bv _);refine⟨by rw[mF ne,mH],aV _,ne,e2,λ_=>Zb,(lf e3).at λo q=>aj _ q,λ_=>cH,λy hy=>absurd rfl hy⟩
def IF{f}{s}(hb:cm e f env (eval e env)=eval e env)(h:aM (model prog w) A (eval e env) (λo Sj=>aM (model prog w) A (getAttr o f true) Q E Sj) E s):aM (model prog w) A (eval (.Attribute e f pos) env) Q E s :=
 Attribute_any_ h (by rw[arm_eval_Attribute,hb])
end
def ÂV(K:aa)(ta:TE)(f:Str):TE:=λO H Q=>ta O H λx H1=>∃a C dx fs v,x=.ref a/\H1 a=Za (.ins C dx fs)/\ϥ K C/\Z9 K C f/\fs.lookup f=Za v/\Q v H1
def Â1(K:aa)(ta tv:TE)(f:Str):TS:=λD O H=>tv O H λy H1=>ta O H1 λx H2=>∃a C dx fs,x=.ref a/\H2 a=Za (.ins C dx fs)/\ϥ K C/\Z9 K C f/\fs.length<1000 /\
 D.nx O (upd H2 a (.ins C dx (Å f y fs)))
section
variable{X:Cx}{o e Sa:cA}{f:Str}{pos Sv:Pos}{ta tv:TE}
def pC(he:PE X e ta)(hb:cm e f X.env (eval e X.env)=eval e X.env):PE X (.Attribute e f pos) (ÂV X.K ta f):=by refine λR1 s O H Q I h=>IF hb (Zx (he R1 s O H _ I h) λu s1=>e4 λx H1 I1 rx ⟨a,C,dx,fs,v,ex,ea,c,n,l,q⟩=>?_);subst ex;obtain rfl:u=aP a:=rx;exact G6 I1 ea c n l λu' s2 I2 ru=>⟨v,H1,I2,ru,q⟩
def zo(ha:PE X o ta)(hv:PE X Sa tv)(hs:cO Sa (Za (.Attribute o f Sv)) pos.line X.env=pure false):PS X (.Assign [.Attribute o f Sv] Sa pos) (Â1 X.K ta tv f):=by refine λR1 s O H D I h=>jU (Zx (hv R1 s O H _ I h) λu s1=>e4 λy H1 I1 ry q=>Zx (ha R1 s1 O H1 _ I1 q) λov s2=>e4 λx H2 I2 rx ⟨a,C,dx,fs,ex,ea,c,n,l,q2⟩=>?_) hs;subst ex;obtain rfl:ov=aP a:=rx;exact Gy I2 ea c n l ry λs3 I3=>⟨O,_,I3,q2⟩
end
section
variable{X:Cx}{R1:List (ag×Obj)}{O:St}{H:Hp}{s:aw}{A:cQ}{E:ai->aw->Prop}{Q:ai->aw->Prop}{c:ai}{b:Bool}
inductive Į (K:aa) (H:Hp):V->ai->Prop where
 |Zn:Į K H .Zn (.type "NoneType")
 |bl (x:Bool):Į K H (.bl x) (.type "bool")
 |int (i:Int):Į K H (.int i) (.type "int")
 |str (x:Str):Į K H (.str x) (.type "str")
 |flt (x:UInt64):Į K H (.flt x) (.type "float")
 |lst {a:ag}{xs:List V} (e:H a=Za (.lst xs)):Į K H (.ref a) (.type "list")
 |Z5 {a:ag}{o:Obj}{xs:List V} (e:H a=Za (.Z5 o (.lst xs))):Į K H (.ref a) (.type "list")
 |tup {a:ag}{xs:List V} (e:H a=Za (.tup xs)):Į K H (.ref a) (.type "tuple")
 |dK {a:ag}{R3:List (Key×V)} (e:H a=Za (.dK R3)):Į K H (.ref a) (.type "dict")
 |dT {a:ag}{R3:List (List Key×V)} (e:H a=Za (.dT R3)):Į K H (.ref a) (.type "dict")
 |ins {a C dx:ag}{fs:List (Str×V)} (e:H a=Za (.ins C dx fs)) (cl:ϥ K C) (ha:aJ K (.ref C) "__class__"=Za (Za (.builtin "object.__class__")))
   (hn:cM K (.builtin "object.__class__") "__get__"=Za (Za (.builtin "getset_descriptor.__get__"))) (htk:fT K (.builtin "object.__class__")=Za true)
   (hm:bJ K C (.type "object")=Za true):Į K H (.ref a) (.ref C)
def Jw(I:Inv X R1 O H s)(rx:RelV x u)(ty:Į X.K H x t)(e:bA X.K t c=Za b)(h:∀tk,Q (.bool b) { s with toks:=tk }) :
  aM (model X.prog X.w) A (call (.builtin "isinstance") [u,c]) Q E s:=by
 cases ty with
 |Zn=>cases(rx);exact bM lz I.Ü cH e (λz=>nomatch z) h
 |bl y=>cases(rx);exact bM PySem.W.kitx_bool I.Ü cH e (λz=>nomatch z) h
 |int i=>let⟨t,rfl⟩:=(rx);exact bM PySem.W.kitx_int I.Ü cH e (λz=>nomatch z) h
 |str y=>let⟨t,rfl⟩:=(rx);exact bM PySem.W.kitx_str I.Ü cH e (λz=>nomatch z) h
 |flt y=>let⟨t,rfl⟩:=(rx);exact bM PySem.W.kitx_float I.Ü cH e (λz=>nomatch z) h
 |@lst a xs ea =>
  cases(rx);let⟨_,_,n,_,h1⟩:=(I.Zl a _ ea);exact bM i0 I.Ü ⟨_,h1,rfl⟩ e (λz=>nomatch z) h
 |@Z5 a ob xs ea =>
  cases(rx);let⟨_,_,_,n,_,h1⟩:=(I.Zl a _ ea);exact bM i0 I.Ü ⟨_,h1,rfl⟩ e (λz=>nomatch z) h
 |@tup a xs ea =>
  cases(rx);let⟨_,_,_,p⟩:=(I.Zl a _ ea);let⟨o,h1,h2,_⟩:=p;exact bM k8 I.Ü ⟨o,h1,h2⟩ e (λz=>nomatch z) h
 |@dK a R3 ea =>
  cases(rx);let⟨_,_,vs,_,p⟩:=(I.Zl a _ ea);let⟨o,es,ep,h1,h2,_⟩:=p;exact bM lA I.Ü ⟨o,h1,h2.1⟩ e (λz=>nomatch z) h
 |@dT a R3 ea =>
  cases(rx);let⟨_,_,xs,_,o,es,ep,h1,h2,_⟩:=(I.Zl a _ ea);exact bM lA I.Ü ⟨o,h1,h2.1⟩ e (λz=>nomatch z) h
 |@ins a C dx fs ea cl ha hn htk hm =>
  cases(rx);let⟨mA,Zi,_⟩:=Al I.Zl ea;let⟨od,J,_⟩:=Zi.look;exact bM (PySem.W.kitx_own (cl.get _) cl.hd ha hn htk hm) I.Ü J e (λz=>nomatch z) h
end
structure Zw(k:Nat)(A:cQ):Prop where
 hd:A.handled=Zb
 dp:A.depth+3*k+5<recursionLimit
 un:A.units+16*k+200<fB
def Zw.mono(r:Zw k A)(h:j<=k):Zw j A:=⟨r.hd,by have:=r.dp;lia,by have:=r.un;lia⟩
theorem Zw.deeper(r:Zw (k+1) A)(env:Env):Zw k (A.deeper env) :=
 ⟨r.hd,by have:=r.dp;show A.depth+1+3*k+5<_;lia,by have:=r.un;show A.units+3+16*k+200<_;lia⟩
def GT{A:cQ}{C:ag}{us:List ai}{kw:List (Str×ai)}:(A.under (.builtin "type.__call__" ⟨.ref C::us,kw⟩)).depth=A.depth+1:=by
 first|rfl|simp[Code.weight]
def GS{A:cQ}{C:ag}{us:List ai}{kw:List (Str×ai)}:(A.under (.builtin "type.__call__" ⟨.ref C::us,kw⟩)).units=A.units+1:=by
 first|rfl|simp[Code.cUnits]
def Zw.make(r:Zw (k+1) A)(C:ag)(us:List ai)(kw:List (Str×ai)):Zw k (A.under (.builtin "type.__call__" ⟨.ref C::us,kw⟩)) :=
 ⟨r.hd,by have:=r.dp;rw[GT];lia,by have:=r.un;rw[GS];lia⟩
theorem Zw.depth(r:Zw k A):A.depth<recursionLimit:=by have:=r.dp;lia
theorem Zw.units(r:Zw k A):A.units+64<fB:=by have:=r.un;lia
def L9:TA:=λ_ H Q=>Q [] H
def MY(ta:TE)(tr:TA):TA:=λO H Q=>ta O H λx H1=>tr O H1 λxs H2=>Q (x::xs) H2
section
variable{X:Cx}{e:cA}{es:List cA}{te:TE}{t:TA}{pos:Pos}
def Y7:PA X [] L9:=λ_ _ _ _ H Q I h=>gI ⟨[],H,I,.nil,h⟩
abbrev Œ(X:Cx)(e:cA)(es:List cA):Prop:=ao (e::es) X.env=(false,eval e X.env)::ao es X.env
def mR(ha:PE X e te)(hr:PA X es t)(hs:Œ X e es:=by rfl):PA X (e::es) (MY te t):=by intro pos R1 s O H Q I h;rw[hs];refine eY (Zx (ha R1 s O H _ I h) λu s1=>e4 λx H1 I1 r1 q1=>?_);exact Zx (hr pos R1 s1 O H1 _ I1 q1) λus s2=>e4 λxs H2 I2 r2 q2=>⟨x::xs,H2,I2,.cons r1 r2,q2⟩
def ÂK(t:TA):TE:=λO H Q=>t O H λxs H1=>xs.length<=aF/\∀p,H1 p=Zb->Q (.ref p) (upd H1 p (.tup xs))
def ÂR(t:TA):TE:=λO H Q=>t O H λxs H1=>xs.length<=aF/\∀p,H1 p=Zb->Q (.ref p) (upd H1 p (.lst xs))
def vZ{x1}(h:PA X es t):PE X (.Tuple es x1 pos) (ÂK t):=by refine λR1 s O H Q I hq=>wpAny_Tuple_spliced (Zx (h pos R1 s O H _ I hq) λus s1=>e4 λxs H1 I1 r ⟨z,q⟩=>⟨by rw[<-r.length];exact z,?_⟩);have hf:=I1.Zl.fresh (ak _);refine⟨.ref s1.heap.objs.size,upd H1 s1.heap.objs.size (.tup xs),I1.laid (λb u e=>aj _ e) (ak _) ?_,rfl,q _ hf⟩;exact⟨z,us,r,⟨_,aO _ rfl,rfl,_,rfl⟩⟩
def Mm(h:PA X es t):PE X (.List es pos) (ÂR t):=by refine λR1 s O H Q I hq=>wpAny_List_spliced (Zx (h pos R1 s O H _ I hq) λus s1=>e4 λxs H1 I1 r ⟨z,q⟩=>⟨by rw[<-r.length];exact z,?_⟩);have hf:=I1.Zl.fresh (ak _);refine⟨.ref s1.heap.objs.size,upd H1 s1.heap.objs.size (.lst xs),I1.laid (λb u e=>aj _ e) (ak _) ?_,rfl,q _ hf⟩;exact⟨z,us,0,r,aO _ rfl⟩
end
abbrev Sp:=List V->Hp->VK->XK->Prop
abbrev CXT:=List Env->Hp->aw->XK->ai->aw->Prop
structure ϵ(P:bT)(w:cy)(K:aa)(mg:Str->Option ai)(base:cg)(A:cQ)(outer:List Env)(s:aw)(H:Hp):Prop where
 frames:A.frames=Za outer
 mod:Mod K mg base
 bs:∀b o,base.get? b=Za o->s.heap.get? b=Za o/\H b=Zb
 bsz:base.objs.size<=s.heap.objs.size
 ī:s.heap.FunFrames base outer
 frf:∀b∈Ý outer,H b=Zb
 Zl:ċ P w H s.heap
 bare:ia s.gens
def CE(outer:List Env)(P:bT)(w:cy)(H:Hp)(s:aw)(Q:VK)(u:ai)(s':aw):Prop :=
 ∃v H',s'.os=s.os/\ia s'.gens/\Un (Ý outer) [] H H' s.heap s'.heap/\ċ P w H' s'.heap/\RelV v u/\Q v H'
def CR(CX:CXT)(outer:List Env)(P:bT)(w:cy)(H:Hp)(s:aw)(Q:VK)(E:XK)(r:k9)(s':aw):Prop :=
 match r with
 |.ok (.ret u)=>CE outer P w H s Q u s'
 |.ok _=>False
 |.error e=>CX outer H s E e s'
structure ZA(P:bT)(w:cy)(K:aa)(mg:Str->Option ai)(base:cg)(CX:CXT)(k:Nat)(f:ag)(fd:cT)(ps:List Str)(sp:Sp):Prop where
 len:∀vs H Q E,sp vs H Q E->vs.length=ps.length
 run:∀(A:cQ)(outer:List Env)(s:aw)(H:Hp)(args:Args)(us:List ai)(vs:List V)(Q:VK)(E:XK),Zw k A->ϵ P w K mg base A outer s H->jS s fd args (ps.zip us)->Vals vs us->sp vs H Q E ->
  eX (model P w) A (.call (.ref f) args) (CR CX outer P w H s Q E) s
def ZA.imp{P}{w}{K}{mg}{base}{CX:CXT}{k}{f}{fd}{ps}{sp VB:Sp}(F:ZA P w K mg base CX k f fd ps sp)(h:∀vs H Q E,VB vs H Q E->sp vs H Q E):ZA P w K mg base CX k f fd ps VB :=
 ⟨λvs H Q E q=>F.len vs H Q E (h _ _ _ _ q),λA outer s H args us vs Q E hr he hb hv hs=>F.run A outer s H args us vs Q E hr he hb hv (h _ _ _ _ hs)⟩
def ϵ.make{P}{w}{K}{mg}{base}{A}{outer}{s}{H}(e:ϵ P w K mg base A outer s H)(C)(us)(kw) :
  ϵ P w K mg base (A.under (.builtin "type.__call__" ⟨.ref C::us,kw⟩)) outer s H:=⟨by first|exact e.frames|(simpa[Around.under,Code.envs,Code.isFrame,pushEnvs] using e.frames),e.mod,e.bs,e.bsz,e.ī,e.frf,e.Zl,e.bare⟩
section
variable{X:Cx}{R1:List (ag×Obj)}{O:St}{H:Hp}{s s':aw}
def Inv.ÀP(I:Inv X R1 O H s):ϵ X.prog X.w X.K X.mg X.base X.A X.stack s H :=
 ⟨I.ok.frames,I.ok.mod,I.bs,aC I.ok.bsz I.sz,I.stack,I.ĺ,I.Zl,I.bare⟩
def Inv.after(I:Inv X R1 O H s)(h:CE X.stack X.prog X.w H s Q u s'):EP X R1 O Q u s':=by let⟨v,H',os,bare,un,Zl,r,q⟩:=h;let⟨hh,g,d,t,os'⟩:=s';obtain rfl:os'=s.os:=os;exact⟨v,H',I.call un Zl bare (λb z=>absurd z (by simp)),r,q⟩
end
def Gq(sp:Sp)(SS:List V)(E:XK)(t:TA):TE:=λO H Q=>t O H λvs H1=>sp (vs++SS) H1 Q E
def JW(C:ag)(m:Str)(sp:Sp)(SS:List V)(E:XK)(ta:TE)(t:TA):TE:=λO H Q=>ta O H λx H1=>∃a dx fs,x=.ref a/\H1 a=Za (.ins C dx fs)/\fs.lookup m=Zb /\
 t O H1 λvs H2=>sp (x::(vs++SS)) H2 Q E
def JX(C:ag)(sp:Sp)(SS:List V)(E:XK)(t:TA):TE:=λO H Q=>t O H λvs H1=>∀x dx,H1 x=Zb->H1 dx=Zb->dx≠x ->
 sp (.ref x::(vs++SS)) (upd (upd H1 dx (.own x)) x (.ins C dx [])) (λv H2=>v=.Zn/\Q (.ref x) H2) E
def Binds(K:aa)(fd:cT)(ps:List Str)(ds:List ai):Prop :=
 ∀(s:aw)(us:List ai),K.In s.heap->(us++ds).length=ps.length->jS s fd ⟨us,[]⟩ (ps.zip (us++ds))
def Binds.all{K}{fd}{ps}(h:∀us:List ai,us.length=ps.length->gA fd ⟨us,[]⟩=pure (ps.zip us)):Binds K fd ps []:=λs us _ hl=>by rw[bQ] at hl ⊢;exact .of_eq (h us hl)
def oW(CX:CXT)(X:Cx)(E:XK):Prop:=∀(R1:List (ag×Obj))(O:St)(H:Hp)(s:aw)(e:ai)(s':aw),Inv X R1 O H s->CX X.stack H s E e s'->X.xe e s'
section
variable{X:Cx}{CX:CXT}{k:Nat}{f C:ag}{fd:cT}{ps:List Str}{sp:Sp}{SS:List V}{ds:List ai}{E:XK}{x m:Str}{p pos R8:Pos}{e o:cA}{es:List cA}{ta:TE}{t:TA}
def Hs(F:ZA X.prog X.w X.K X.mg X.base CX k f fd ps sp)(hr:Zw k X.A)(hb:Binds X.K fd ps ds)(hd:Vals SS ds)(hx:oW CX X E)(I:Inv X R1 O H s)(r:Vals vs us)(h:sp (vs++SS) H Q E):aM (model X.prog X.w) X.A (call (.ref f) us) (EP X R1 O Q) X.xe s:=by
 have r2:=r.append hd;have hl:(us++ds).length=ps.length:=by rw[<-r2.length];exact F.len _ _ _ _ h
 refine iP (fS (F.run X.A X.stack s H ⟨us,[]⟩ (us++ds) (vs++SS) Q E hr I.ÀP (hb s us I.Ü hl) r2 h) λr s' hq=>?_);cases r with
 |error e=>exact hx R1 O H s e s' I hq
 |ok fl =>
  cases fl with
  |ret u=>exact I.after hq
  |next=>exact bj hq
  |brk=>exact bj hq
  |cont=>exact bj hq
def NY(F:ZA X.prog X.w X.K X.mg X.base CX k f fd ps sp)(hr:Zw k X.A)(hg:Gl X x)(hm:X.mg x=Za (.ref f))(hk:bU X.K (.ref f)=true)(hb:Binds X.K fd ps ds)(hd:Vals SS ds)(hx:oW CX X E)(ha:PA X (e::es) t)(SI:Ĉ x:=by decide)(he:Œ X e es:=by rfl)(Sf:(bI pos (ao es X.env)).any (·.1)=false:=by rfl) :
  PE X (.Call (.Name x p) (e::es) [] pos) (Gq sp SS E t):=by
 refine λR1 s O H Q I h=>dy (rJ I hg hm ?_ SI);refine eV I.ok.mod.kin hk (Zx (ha pos R1 s O H _ I h) λus s1=>e4 λvs H1 I1 r q=>⟨I1.Ü,?_⟩) he Sf;exact Hs F hr hb hd hx I1 r q
def NW(he:PE X o ta)(c:ϥ X.K C)(hm:Meth X.K C m f)(F:ZA X.prog X.w X.K X.mg X.base CX k f fd ps sp)(hr:Zw k X.A)(hb:Binds X.K fd ps ds)(hd:Vals SS ds)(hx:oW CX X E)(ha:PA X (e::es) t)(S6:Œ X e es:=by rfl)(Sf:(bI pos (ao es X.env)).any (·.1)=false:=by rfl)(ht:eval (.Call (.Attribute o m R8) (e::es) [] pos) X.env=(do
   let ov <-eval o X.env
   fR R8.atName
   let(f,first) <-holding [ov] (fK ov m pl)
   iB pos f first (bI pos (ao (e::es) X.env)) (eA pos (cI [] X.env))):=by rfl) :
  PE X (.Call (.Attribute o m R8) (e::es) [] pos) (JW C m sp SS E ta t):=by
 refine λR1 s O H Q I h=>g5 (Zx (he R1 s O H _ I h) λu s1=>e4 λx H1 I1 rx ⟨a,dx,fs,ex,ea,l,q⟩=>?_) ht;subst ex;obtain rfl:u=aP a:=rx;apply Ao I1 ea c hm l;refine eV I.ok.mod.kin hm.kp (Zx (ha pos R1 s1 O H1 _ I1 q) λus s2=>e4 λvs H2 I2 r q2=>⟨I2.Ü,?_⟩) S6 Sf;exact Hs (vs:=.ref a::vs) F hr hb hd hx I2 (.cons rfl r) q2
def KO(he:PE X o ta)(c:ϥ X.K C)(hm:Meth X.K C m f)(F:ZA X.prog X.w X.K X.mg X.base CX k f fd ps sp)(hr:Zw k X.A)(hb:Binds X.K fd ps ds)(hd:Vals SS ds)(hx:oW CX X E)(ht:eval (.Call (.Attribute o m R8) [] [] pos) X.env=(do
   let ov <-eval o X.env
   fR R8.atName
   let(f,first) <-holding [ov] (fK ov m pl)
   iB pos f first (bI pos (ao [] X.env)) (eA pos (cI [] X.env))):=by rfl) :
  PE X (.Call (.Attribute o m R8) [] [] pos) (JW C m sp SS E ta L9):=by
 refine λR1 s O H Q I h=>g5 (Zx (he R1 s O H _ I h) λu s1=>e4 λx H1 I1 rx ⟨a,dx,fs,ex,ea,l,q⟩=>?_) ht;subst ex;obtain rfl:u=aP a:=rx;apply Ao I1 ea c hm l;exact kM I1.Ü hm.kp (Hs (vs:=[.ref a]) F hr hb hd hx I1 (.cons rfl .nil) q)
structure Mk(K:aa)(C f:ag):Prop where
 makes:fU K C=true
 init:aJ K (.ref C) "__init__"=Za (Za (.ref f))
 fn:gQ K (.ref f)=true
 kp:bU K (.ref C)=true
def Fy(M:Mk X.K C f)(F:ZA X.prog X.w X.K X.mg X.base CX k f fd ps sp)(hr:Zw (k+1) X.A)(hb:Binds X.K fd ps ds)(hd:Vals SS ds)(hx:oW CX X E)(I:Inv X R1 O H s)(r:Vals vs us)(h:∀x dx,H x=Zb->H dx=Zb->dx≠x->sp (.ref x::(vs++SS)) (upd (upd H dx (.own x)) x (.ins C dx [])) (λv H2=>v=.Zn/\Q (.ref x) H2) E) :
  aM (model X.prog X.w) X.A (call (.ref C) us) (EP X R1 O Q) X.xe s:=by
 have hq:=h (s.heap.objs.size+1) s.heap.objs.size (I.Zl.fresh (dD _)) (I.Zl.fresh (ak _)) (az (bv _));have I2:=Inv.made (C:=C) I;have r2:Vals (V.ref (s.heap.objs.size+1)::(vs++SS)) (aP (s.heap.objs.size+1)::(us++ds)):=.cons rfl (r.append hd);have hl:(aP (s.heap.objs.size+1)::us++ds).length=ps.length:=by have e:=r2.length;rw[F.len _ _ _ _ hq] at e;exact e.symm
 refine iP (K5 I.Ü M.makes M.init (beq_iff_eq.mp M.fn) (fS (F.run _ X.stack _ _ ⟨aP (s.heap.objs.size+1)::us,[]⟩ (aP (s.heap.objs.size+1)::(us++ds)) _ _ E (hr.make C us [])
  (I2.ÀP.make C us []) (hb _ (aP (s.heap.objs.size+1)::us) I2.Ü hl) r2 hq) λr s' Ti=>?_))
 cases r with
 |error e=>exact hx R1 O _ _ e s' I2 Ti
 |ok fl =>
  cases fl with
  |ret u =>
   let⟨v,H',I3,rv,rfl,q3⟩:=I2.after Ti;exact⟨rv,⟨V.ref (s.heap.objs.size+1),H',I3,rfl,q3⟩⟩
  |next=>exact bj Ti
  |brk=>exact bj Ti
  |cont=>exact bj Ti
def NX(M:Mk X.K C f)(F:ZA X.prog X.w X.K X.mg X.base CX k f fd ps sp)(hr:Zw (k+1) X.A)(hg:Gl X x)(hm:X.mg x=Za (.ref C))(hb:Binds X.K fd ps ds)(hd:Vals SS ds)(hx:oW CX X E)(ha:PA X (e::es) t)(SI:Ĉ x:=by decide)(he:Œ X e es:=by rfl)(Sf:(bI pos (ao es X.env)).any (·.1)=false:=by rfl) :
  PE X (.Call (.Name x p) (e::es) [] pos) (JX C sp SS E t):=by
 refine λR1 s O H Q I h=>dy (rJ I hg hm ?_ SI);refine eV I.ok.mod.kin M.kp (Zx (ha pos R1 s O H _ I h) λus s1=>e4 λvs H1 I1 r q=>⟨I1.Ü,?_⟩) he Sf;exact Fy M F hr hb hd hx I1 r q
def KP(M:Mk X.K C f)(F:ZA X.prog X.w X.K X.mg X.base CX k f fd ps sp)(hr:Zw (k+1) X.A)(hg:Gl X x)(hm:X.mg x=Za (.ref C))(hb:Binds X.K fd ps ds)(hd:Vals SS ds)(hx:oW CX X E)(SI:Ĉ x:=by decide):PE X (.Call (.Name x p) [] [] pos) (JX C sp SS E L9):=by
 refine λR1 s O H Q I h=>dy (rJ I hg hm ?_ SI);exact kM I.Ü M.kp (Fy M F hr hb hd hx I .nil h)
end
section
variable{fd:cT}{ps ks:List Str}
structure ÃA(K:aa)(fd:cT)(ps ks:List Str)(g:List ai->List ai->List ai)(gV:List V->List V->List V):Prop where
 to:∀(s:aw)(us ws:List ai),K.In s.heap->(g us ws).length=ps.length->jS s fd ⟨us,ks.zip ws⟩ (ps.zip (g us ws))
 rel:∀{vs:List V}{us:List ai}{zs:List V}{ws:List ai},Vals vs us->Vals zs ws->Vals (gV vs zs) (g us ws)
end
structure K'(N P:List Str)(sc:gH):Prop where
 kind:sc.kind=.function
 co:sc.isCoroutine=false
 gen:sc.isGenerator=false
 nd:N.Nodup
 pre:N.take P.length=P
 par:∀x∈P,sc.names.lookup x=Za .local\/sc.names.lookup x=Za .cell
 À5:∀y∈sc.names,y.2≠.free
def Ê{N P:List Str}{sc:gH}(h1:sc.kind=.function:=by rfl)(h2:sc.isCoroutine=false:=by rfl)(h3:sc.isGenerator=false:=by rfl)(h4:N.Nodup:=by decide +kernel)(h5:N.take P.length=P:=by rfl)(h6:∀x∈P,sc.names.lookup x=Za .local\/sc.names.lookup x=Za .cell:=by decide +kernel)(h7:∀y∈sc.names,y.2≠.free:=by decide +kernel):K' N P sc:=⟨h1,h2,h3,h4,h5,h6,h7⟩
theorem Dl{kindOf}{x}:∀{binds:List (Str×ai)}{m:Str->Option ai},(∀v,(x,v)∉binds)->lW kindOf binds m x=m x
 |[],_,_=>rfl
 |(n,v)::r,m,h=>by
  unfold lW;rw[Dl λw hw=>h w (af _ hw)];split
  .have:x≠n:=by rintro rfl;exact h v al
   simp[this]
  .rfl
theorem Do{kindOf}{x}:∀{binds:List (Str×ai)}{m:Str->Option ai},(∀v,(x,v)∉binds)->lY kindOf binds m x=m x
 |[],_,_=>rfl
 |(n,v)::r,m,h=>by
  unfold lY;rw[Do λw hw=>h w (af _ hw)];split
  .rfl
  .have:x≠n:=by rintro rfl;exact h v al
   simp[this]
theorem Dm{kindOf}{x}{v}:∀{P:List Str}{vs:List ai}{i:Nat}{m:Str->Option ai},P.Nodup->P[i]?=Za x->vs[i]?=Za v->kindOf x=Za .local ->
  lW kindOf (P.zip vs) m x=Za v
 |[],_,_,_,_,h,_,_=>by simp at h
 |_::_,[],_,_,_,_,h,_=>by simp at h
 |p::P,w::vs,0,m,nd,h1,h2,hk=>by
  simp at h1 h2;subst h1;subst h2;show lW kindOf ((p,w)::P.zip vs) m p=_;unfold lW;rw[Dl λv hv=>(aK.mp nd).1 (jF hv).1,Zc hk];simp
 |p::P,w::vs,i+1,m,nd,h1,h2,hk=>by show lW kindOf ((p,w)::P.zip vs) m x=_;unfold lW;exact Dm (i:=i) (aK.mp nd).2 (by simpa using h1) (by simpa using h2) hk
theorem Dp{kindOf}{x}{v}:∀{P:List Str}{vs:List ai}{i:Nat}{m:Str->Option ai},P.Nodup->P[i]?=Za x->vs[i]?=Za v->kindOf x≠Za .local ->
  lY kindOf (P.zip vs) m x=Za v
 |[],_,_,_,_,h,_,_=>by simp at h
 |_::_,[],_,_,_,_,h,_=>by simp at h
 |p::P,w::vs,0,m,nd,h1,h2,hk=>by
  simp at h1 h2;subst h1;subst h2;show lY kindOf ((p,w)::P.zip vs) m p=_;unfold lY;rw[Do λv hv=>(aK.mp nd).1 (jF hv).1,Zd hk];simp
 |p::P,w::vs,i+1,m,nd,h1,h2,hk=>by show lY kindOf ((p,w)::P.zip vs) m x=_;unfold lY;exact Dp (i:=i) (aK.mp nd).2 (by simpa using h1) (by simpa using h2) hk
def start(N:List Str)(vs:List V):St:=vs.map Za++aQ (N.length-vs.length) Zb
def Ep(CX:CXT)(P:bT)(w:cy)(K:aa)(mg:Str->Option ai)(base:cg)(N:List Str)(qual:Str)(scope:gH)(f:ag)(cd:ai)(A:cQ)(outer:List Env)(s:aw)(H:Hp)(E:XK):Cx where
 prog:=P
 w:=w
 K:=K
 mg:=mg
 base:=base
 A:=A.deeper (eg qual scope s.heap.objs.size f cd)
 N:=N
 Ç:=s
 Ha0:=H
 env:=eg qual scope s.heap.objs.size f cd
 outer:=outer
 stack:=eg qual scope s.heap.objs.size f cd::outer
 ex:=[]
 calm:=true
 fn:=λ_=>true
 pn:=[]
 xe:=λe s'=>aM (model P w) (A.deeper (eg qual scope s.heap.objs.size f cd)) (leaving (eg qual scope s.heap.objs.size f cd) e) (λ_ XQ=>CX outer H s E e XQ) (λe' XQ=>CX outer H s E e' XQ) s'
def FX{sc:gH}{n:Nat}{x:Str}(h:sc.names.lookup x=Za .cell):∃c,(cellsFrom n sc.names []).lookup x=Za c:=by have q:=kh sc.names n [] (.inl h);exact eQ.mp q
def Jy{CX:CXT}{P:bT}{w:cy}{K:aa}{mg:Str->Option ai}{base:cg}{N ps:List Str}{qual:Str}{scope:gH}{f:ag}{cd:ai}{A:cQ}{outer:List Env}{s s1:aw}{H:Hp}{E:XK}{us:List ai}{vs:List V}(S:K' N ps scope)(hd:A.handled=Zb)(e0:ϵ P w K mg base A outer s H)(hl:vs.length=ps.length)(r:Vals vs us)(x:InCallC s s.heap.objs.size (lW (eg qual scope s.heap.objs.size f cd).kindOf (ps.zip us) λ_=>Zb) (cellsFrom (s.heap.objs.size+1) scope.names []) (lY (eg qual scope s.heap.objs.size f cd).kindOf (ps.zip us) λ_=>Zb) s1) :
  Inv (Ep CX P w K mg base N qual scope f cd A outer s H E) [] (start N vs) H s1:=by
 have Sf:ps.length<=N.length:=by have:=congrArg cC S.pre;rw[eM] at this;lia
 let⟨h1,tk,rfl,hk⟩:=x.done;have V6:∀b:ag,b∉(Ep CX P w K mg base N qual scope f cd A outer s H E).ex:=λb z=>absurd (show b∈([]:List ag) from z) (by simp);refine⟨⟨e0.mod,S.kind,rfl,rfl,ak _,λy z c h1 h2=>?_,λy hy=>?_,λy c _ h=>?_,λ_=>hd,Around.frames_deeper e0.frames,.inr ⟨rfl,rfl⟩,λb z=>absurd z (V6 b),e0.bs,e0.bsz,λb _ _=>V6 b,λb z=>absurd z (V6 b),e0.ī,e0.frf⟩,
  rfl,e0.bare,Un.kept hk,⟨_,x.toInCall.ns,λi y v h1 h2 h3=>?_⟩,λy c h=>⟨_,x.cell y c h⟩,e0.Zl.fresh (ak _),λy c h=>?_,λp hp=>absurd (show p∈([]:List (ag×Obj)) from hp) (by simp),e0.Zl.kept hk,?_⟩
 .exact name_of_addr x.apart (dF h1) (dF h2)
 .have hy:=hy;obtain hy|hy:=hy
  .exact FX hy
  .exact absurd rfl (S.À5 _ (dF hy))
 .exact fI (x.above y c (dF h))
 .have hi:i<vs.length:=by
   unfold start at h2;by_cases hi:i<vs.length
   .exact hi
   .rw[di (by simpa using hi)] at h2;rw[gU] at h2;split at h2<;>cases h2
  have ha:vs[i]?=Za v:=by
   unfold start at h2;rw[du (by simpa using hi),aG] at h2;cases e:vs[i]? with
   |none=>rw[e] at h2;cases h2
   |some a=>rw[e] at h2;cases h2;rfl
  let⟨u,hu,rv⟩:=r.get ha;have hp:ps[i]?=Za y:=by rw[<-S.pre,List.getElem?_take_of_lt `l];exact h1
  have ndP:ps.Nodup:=by rw[<-S.pre];exact S.nd.sublist (List.take_sublist _ _)
  refine⟨u,rv,?_⟩;obtain k|k:=S.par y (dA hp)
  .exact .inl ⟨k,Dm ndP hp hu k⟩
  .let⟨c,e⟩:=FX k;refine .inr ⟨.inl k,c,e,?_⟩;have q:=x.cell y c e;rw[Dp ndP hp hu (by show scope.names.lookup y≠_;rw[k];decide)] at q;exact q
 .exact e0.Zl.fresh (fI (x.above y c (dF h)))
 .unfold start;show _=N.length;rw[aY,ac,d8];lia
def P0{CX:CXT}{P}{w}{K}{mg}{base}{k}{f}{name qual}{params:Arguments}{body}{scope}{dV kV Tq pm Sc ct oc}{an od}{Uz:Array (Option ai)}{N ps}{sp:Sp}(lk:K.lookup f=Za ⟨oc,od,.func (bW name qual params body scope dV kV Tq pm an Sc ct),Uz⟩)(Tf:gg K Sc qual=true)(S:K' N ps scope)(len:∀vs H Q E,sp vs H Q E->vs.length=ps.length)(Tv:∀(A:cQ)(outer:List Env)(s:aw)(H:Hp)(vs:List V)(Q:VK)(E:XK),Zw k (A.deeper (eg qual scope s.heap.objs.size f Sc))->sp vs H Q E ->
   ∃t,ύ (Ep CX P w K mg base N qual scope f Sc A outer s H E) body t/\t { nx:=λ_ H'=>Q .Zn H',rt:=Q } (start N vs) H) :
  ZA P w K mg base CX (k+1) f (bW name qual params body scope dV kV Tq pm an Sc ct) ps sp:=by
 refine⟨len,λA outer s H args us vs Q E hr e0 hb r Uv=>?_⟩;have hl:=len _ _ _ _ Uv;have KX:=e0.mod.kin.keeps λb o e=>(e0.bs b o e).1;have lim:=e0.mod.nolimit.keeps λb o e=>(e0.bs b o e).1;have Wr:∀y∈ps.zip us,scope.names.lookup y.1=Za .local\/(scope.names.lookup y.1=Za .cell/\((cellsFrom (s.heap.objs.size+1) scope.names []).lookup y.1).isSome=true):=λ⟨n,v⟩ hy=>by
  obtain q|q:=S.par n (jF hy).1
  .exact .inl q
  .exact .inr ⟨q,kh _ _ _ (.inl q)⟩
 refine codeAny_call_function hr.depth (KX _ _ lk) rfl S.co S.gen rfl (PySem.W.codeRec_of KX Tf) (hb _ _ _ _ ?_);refine wpAny_newFunctionEnv_cells S.kind Wr λenv he s1 x=>?_;subst he;refine⟨lim.keeps x.toInCall.keep,codeAny_func ?_⟩;let⟨t,ht,hq⟩:=Tv A outer s H vs Q E (hr.deeper _) Uv;have I:Inv (Ep CX P w K mg base N qual scope f Sc A outer s H E) [] (start N vs) H s1:=Jy S hr.hd e0 hl r x;refine aZ (ht [] s1 (start N vs) H _ I hq) (λfl s' hs=>?_) λe s' hs=>hs;have Sq:∀{ZG:St}{H':Hp}{v:V}{u:ai},Inv (Ep CX P w K mg base N qual scope f Sc A outer s H E) [] ZG H' s'->RelV v u->Q v H'->CE outer P w H s Q u s' :=
  λ{ZG H' v u} J rv q=>⟨v,H',J.os,J.bare,J.base,J.Zl,rv,q⟩
 cases fl with
 |ret u =>
  let⟨v,ZG,H',J,rv,q⟩:=hs;exact Sq J rv q
 |next =>
  let⟨ZG,H',J,q⟩:=hs;exact Sq (v:=V.Zn) J rfl q
 |brk =>
  let⟨_,_,_,q⟩:=hs
  simp_all
 |cont =>
  let⟨_,_,_,q⟩:=hs
  simp_all
section
variable{X:Cx}{x:Str}{p pos:Pos}{e:cA}{es:List cA}{t:TA}{id T:String}{r:List V->Hp->VK->Prop}
def tCB(r:List V->Hp->VK->Prop)(t:TA):TE:=λO H Q=>t O H λvs H1=>r vs H1 Q
def oP(hc:ZY X (.builtin id) r)(hg:Gl X x)(hm:X.mg x=Zb)(hv:bh x=Za (.builtin id))(ha:PA X (e::es) t)(hn:x≠"__name__":=by decide)(SI:Ĉ x:=by decide)(he:Œ X e es:=by rfl)(Sf:(bI pos (ao es X.env)).any (·.1)=false:=by rfl):PE X (.Call (.Name x p) (e::es) [] pos) (tCB r t):=by
 refine λR1 s O H Q I h=>dy (zq I hg hm hv ?_ hn SI);exact iK (Zx (ha pos R1 s O H _ I h) λus s1=>e4 λvs H1 I1 r1 q1=>hc R1 s1 O H1 vs us Q I1 r1 q1) he Sf
def yu(hc:ZY X (.type T) r)(hg:Gl X x)(hm:X.mg x=Zb)(hv:bh x=Za (.type T))(ha:PA X (e::es) t)(hn:x≠"__name__":=by decide)(SI:Ĉ x:=by decide)(he:Œ X e es:=by rfl)(Sf:(bI pos (ao es X.env)).any (·.1)=false:=by rfl):PE X (.Call (.Name x p) (e::es) [] pos) (tCB r t):=by
 refine λR1 s O H Q I h=>dy (zq I hg hm hv ?_ hn SI);exact dN (Zx (ha pos R1 s O H _ I h) λus s1=>e4 λvs H1 I1 r1 q1=>hc R1 s1 O H1 vs us Q I1 r1 q1) he Sf
end
end L2
namespace HT
open PySem PyProof.Rows
section
variable{prog:bT}{w:cy}{A:cQ}{E:ai->aw->Prop}{s:aw}
def À(n d:Nat):Option Int->Nat
 |none=>d
 |some v=>if v<0 then(v+(n:Int)).toNat else min v.toNat n
def IB(v:Int)(n d:Nat):(if v<0 then max (v+(n:Int)) 0 else min v (n:Int))=((À n d (Za v):Nat):Int):=by
 show(if v<0 then max (v+n) 0 else min v n)=(((if v<0 then(v+n).toNat else min v.toNat n):Nat):Int)
 grind
def Hi(lo hi:Option Int)(n:Nat):fX lo hi 1 (n:Int)=(((À n 0 lo:Nat):Int),((À n n hi:Nat):Int)):=by
 have h1:¬((1:Int)<0):=by lia
 unfold fX;refine Prod.ext ?_ ?_
 .cases lo with
  |none=>rfl
  |some v=>exact IB v n 0
 .cases hi with
  |none=>rfl
  |some v=>exact IB v n n
def GJ(i j:Nat):dW (i:Int) (j:Int) 1=j-i:=by
 unfold dW;have h1:(1:Int)>0:=by lia
 simp[h1,if_true,Int.ediv_one];split<;>lia
def zX(p:kj v o)(h:Q o s):aM (model prog w) A (Builtin.Slice.slicePartIndex v) Q E s:=by
 cases p with
 |none=>exact slicePart_none h
 |int i t=>exact slicePart_int h
def xR{sl:ag}{vl vu:ai}{lo hi:Option Int}{n:Nat}{Q:Int×Int×Nat->aw->Prop}(hs:s.heap.IsSliceOf sl vl vu .none)(pl:kj vl lo)(pu:kj vu hi)(h:Q (((À n 0 lo:Nat):Int),1,À n n hi-À n 0 lo) s):aM (model prog w) A (Builtin.Slice.sliceApplied (.ref sl) (pure (n:Int))) Q E s:=by
 let⟨os,UG,WJ,Xm⟩:=id hs;refine ae (ae (ko UG Xm rfl (ae (ko UG Xm rfl (ae (ko UG Xm rfl (aE ?_)))))));refine ae (slicePart_none ?_);refine ae (zX pl (ae (zX pu (ae (aE ?_)))));show aM _ _ (match fX lo hi 1 n with|(lo,hi)=>pure (lo,(1:Int),dW lo hi 1)) _ _ s;rw[Hi lo hi n];show aM _ _ (pure (((À n 0 lo:Nat):Int),(1:Int),dW ((À n 0 lo:Nat):Int) ((À n n hi:Nat):Int) 1)) _ _ s;rw[GJ];exact aE h
def KI(xs:Array ai)(i k:Nat):((bo k).filterMap λ(m:Nat)=>xs[((i:Int)+(m:Int)*1).toNat]?).toArray=((xs.toList.drop i).take k).toArray:=by
 have e:(λ(m:Nat)=>xs[(i+(m:Int)*1).toNat]?)=λm=>xs[i+m]?:=by
  funext m
  have:(i+(m:Int)*1).toNat=i+m:=by lia
  rw[this]
 have:=pick_run xs i k;have e2:((λx=>xs[x]?)∘λx=>i+x)=λm=>xs[i+m]?:=rfl
 simp_all
def Ġ{t sl}{items:Array ai}{vl vu}{lo hi}{Q}(ht:IsTup s.heap t items)(hs:s.heap.IsSliceOf sl vl vu .none)(pl:kj vl lo)(pu:kj vu hi)(hw:¬(À items.size 0 lo=0/\À items.size items.size hi=items.size))(h:Q (.ref s.heap.objs.size) { s with heap:=s.heap.push { cls:=.type "tuple",data:=.seq ((items.toList.drop (À items.size 0 lo)).take (À items.size items.size hi-À items.size 0 lo)).toArray } })(hsz:items.size<=aF):aM (model prog w) A (iQ (.ref t) (.ref sl)) Q E s:=by
 have TU:sizeOk (.seq ((items.toList.drop (À items.size 0 lo)).take (À items.size items.size hi-À items.size 0 lo)).toArray):=by show((items.toList.drop (À items.size 0 lo)).take (À items.size items.size hi-À items.size 0 lo)).toArray.size<=aF;rw[bi,eM,gT,lH];lia
 let⟨os,UG,WJ,Xm⟩:=id hs;have hTs:s.TypeIs (.ref sl) "slice":=⟨os,UG,WJ⟩;unfold iQ
 try with_reducible apply cD
 refine ae (wpAny_sequenceKey ht.typeIs (Zf rfl) ?_);refine ae (wpAny_callSpecial?_slot ht.typeIs dO
  (wpAny_call_entry dO ht.typeIs entry_tuple_getitem ?_ (args_tuple_getitem _ _)))
 show aM _ _ (Builtin.Tuple.tupleItemsOf (.ref t) >>= _) _ _ s;refine ae (tupleItemsOf_ ht ?_);refine ae (wpAny_typeOf hTs ?_);rw[Zc (Zf rfl)];refine ae (xR hs pl pu ?_);have T0:¬((((À items.size 0 lo:Nat):Int)==0&&(1:Int)==1&&(À items.size items.size hi-À items.size 0 lo)==items.size)=true):=by
  grind
 show aM _ _ (if(((À items.size 0 lo:Nat):Int)==0&&(1:Int)==1&&(À items.size items.size hi-À items.size 0 lo)==items.size)=true then _ else _) _ _ s;rw[Zd T0,KI]
 first
  |exact ae (dH (aE ⟨_,rfl,aE h⟩) TU)
  |exact ae (dH (ae (aE (aE ⟨_,rfl,aE h⟩))) TU)
  |exact ae (ae (dH (aE (aE ⟨_,rfl,aE h⟩)) TU))
  |exact ae (ae (dH (aE ⟨_,rfl,aE h⟩) TU))
end
end HT
namespace L2
open PySem PySem.Spec PyProof.Rows
abbrev TO:=St->Hp->(Option Int->Hp->Prop)->Prop
def PO(X:Cx)(e:Option cA)(t:TO):Prop :=
 ∀(R1:List (ag×Obj))(s:aw)(O:St)(H:Hp)(Q:Option Int->Hp->Prop),Inv X R1 O H s->t O H Q ->
  aM (model X.prog X.w) X.A (evalPart e X.env) (λu s'=>∃o H',Inv X R1 O H' s'/\kj u o/\Q o H') X.xe s
def Nv:TO:=λ_ H Q=>Q Zb H
def Áq(t:TE):TO:=λO H Q=>t O H λx H1=>∃i,x=.int i/\Q (Za i) H1
section
variable{X:Cx}{e:cA}{te:TE}{lo hi:Option cA}{tl th:TO}{pos p2:Pos}
def ÀJ:PO X Zb Nv:=by exact λR1 s O H Q I h=>aE ⟨Zb,H,I,.none,h⟩
def NR(h:PE X e te):PO X (Za e) (Áq te):=by refine λR1 s O H Q I hw=>Zx (h R1 s O H _ I hw) λu s1=>e4 λx H1 I1 r1 q1=>?_;let⟨i,rfl,q⟩:=q1;let⟨t,rfl⟩:=r1;exact⟨Za i,H1,I1,.int i t,q⟩
def SlR(X:Cx)(r:V->Option Int->Option Int->Hp->VK->Prop):Prop :=
 ∀(R1:List (ag×Obj))(s:aw)(O:St)(H:Hp)(x:V)(v vl vu:ai)(lo hi:Option Int)(sl:ag)(Q:VK),Inv X R1 O H s->RelV x v->s.heap.IsSliceOf sl vl vu .none->kj vl lo->kj vu hi->r x lo hi H Q ->
  ∃T id,jt (.type T) "__getitem__"=pure (Za (.builtin id))/\s.TypeIs v T/\aM (model X.prog X.w) X.A (iQ v (.ref sl)) (EP X R1 O Q) X.xe s
def SlR.or(h:SlR X r)(h':SlR X r'):SlR X (λx lo hi H Q=>r x lo hi H Q\/r' x lo hi H Q):=by
 intro R1 s O H x v vl vu lo hi sl Q I rx hs pl pu q;obtain q|q:=q
 .exact h R1 s O H x v vl vu lo hi sl Q I rx hs pl pu q
 .exact h' R1 s O H x v vl vu lo hi sl Q I rx hs pl pu q
def tSl(r:V->Option Int->Option Int->Hp->VK->Prop)(te:TE)(tl th:TO):TE:=λO H Q=>te O H λx H1=>tl O H1 λl H2=>th O H2 λu H3=>r x l u H3 Q
def KN(hr:SlR X r)(he:PE X e te)(hl:PO X lo tl)(hu:PO X hi th):PE X (.Subscript e (.Slice lo hi Zb p2) pos) (tSl r te tl th):=by refine λR1 s O H Q I h=>Subscript_ (Zx (he R1 s O H _ I h) λv s1=>e4 λx H1 I1 r1 q1=>?_);refine wpAny_Slice (Zx (hl R1 s1 O H1 _ I1 q1) λvl s2=>e4 λl H2 I2 pl q2=>Zx (hu R1 s2 O H2 _ I2 q2) λvu s3=>e4 λu H3 I3 pu q3=>?_);apply aE;have I4:Inv X R1 O H3 { s3 with heap:=s3.heap.push { cls:=.type "slice",data:=.fields #[vl,vu,.none] } }:=I3.kept λb ob q=>aj _ q;let⟨T,id,hT,ht,hg⟩:=hr R1 { s3 with heap:=s3.heap.push { cls:=.type "slice",data:=.fields #[vl,vu,.none] } } O H3 x v vl vu l u s3.heap.objs.size Q I4 r1 (Heap.IsSliceOf.new ..) pl pu q3;exact tail_any ht hT hg (by with_unfolding_all rfl)
def MR(xs:List V)(lo hi:Option Int):List V:=(xs.drop (HT.À xs.length 0 lo)).take (HT.À xs.length xs.length hi-HT.À xs.length 0 lo)
def yV(xs)(lo hi):(MR xs lo hi).length<=xs.length:=by unfold MR;rw[eM,gT];lia
def Â2(K:aa):V->Option Int->Option Int->Hp->VK->Prop:=λx lo hi H Q=>∃a xs,x=.ref a/\â K H a xs /\
 ¬(HT.À xs.length 0 lo=0/\HT.À xs.length xs.length hi=xs.length)/\∀p,H p=Zb->Q (.ref p) (upd H p (.tup (MR xs lo hi)))
def Qu:SlR X (Â2 X.K):=by
 rintro R1 s O H x v vl vu lo hi sl Q I rx hs pl pu ⟨a,xs,rfl,hx,hw,q⟩
 cases rx;let⟨its,r,ht,hz⟩:=I.tuple hx;have R5:its.toArray.size=xs.length:=r.length.symm;refine⟨"tuple",_,dO.lookup,ht.typeIs,?_⟩;refine HT.Ġ ht hs pl pu (by rw[R5];exact hw) ?_ (by rw[R5];exact hz);rw[R5];refine⟨.ref s.heap.objs.size,_,I.laid (λb ob q=>aj _ q) (ak _) ?_,rfl,q _ (I.Zl.fresh (ak _))⟩;exact⟨aC (yV xs lo hi) hz,_,(r.drop (HT.À xs.length 0 lo)).take (HT.À xs.length xs.length hi-HT.À xs.length 0 lo),IsTup.new _ _⟩
end
def Ϥ(n:Nat)(i:Int):Option Nat:=if 0<=i then(if i<n then Za i.toNat else Zb) else if -(n:Int)<=i then Za (i+n).toNat else Zb
def ü{α:Type}(xs:List α)(i:Int):Option α:=(Ϥ xs.length i).bind λj=>xs[j]?
def Il(h:Ϥ n i=Za j):seqIndex? i n=Za j/\j<n/\-(n:Int)<=i/\i<n:=by
 unfold Ϥ at h;by_cases h0:0<=i
 .rw[Zc h0] at h;by_cases h1:i<n
  .rw[Zc h1] at h;have e:=bL h;exact⟨by rw[seqIndex_of h0 h1,e],by lia,by lia,h1⟩
  .simp_all
 .rw[Zd h0] at h;by_cases h1:-n<=i
  .rw[Zc h1] at h;have e:=bL h;exact⟨by rw[seqIndex_neg `l h1,e],by lia,h1,by lia⟩
  .simp_all
def Et(h:ü xs i=Za v):∃j,seqIndex? i xs.length=Za j/\xs[j]?=Za v/\j<xs.length/\-(xs.length:Int)<=i/\i<xs.length:=by
 unfold ü at h;cases e:Ϥ xs.length i with
 |none=>rw[e] at h;cases h
 |some j =>
  rw[e] at h;let⟨h1,h2,h3,h4⟩:=Il e;exact⟨j,h1,h,h2,h3,h4⟩
def nT{α:Type}{xs:List α}{j:Nat}{v:α}(h:xs[j]?=Za v):ü xs (j:Int)=Za v:=by
 have hj:=(aR.mp h).1;have e:Ϥ xs.length j=Za j:=by unfold Ϥ;rw[Zc `l,Zc `l];simp
 unfold ü;rw[e];exact h
def II(b:cA):Prop:=∀o i,subscripted b false o i=operate [o,i] (iQ o i)
def IxR(X:Cx)(r:R2):Prop :=
 ∀(Sa So:cA)(R1:List (ag×Obj))(s:aw)(O:St)(H:Hp)(x y:V)(v u:ai)(Q:VK),Inv X R1 O H s->RelV x v->RelV y u->r x y H Q ->
  subscripted So false v u=operate [v,u] (iQ v u)->aM (model X.prog X.w) X.A (subscriptTail Sa So v u) (EP X R1 O Q) X.xe s
def MtR(X:Cx)(id:String)(r:V->List V->Hp->VK->Prop):Prop :=
 ∀(R1:List (ag×Obj))(s:aw)(O:St)(H:Hp)(x:V)(xs:List V)(v:ai)(us:List ai)(Q:VK),Inv X R1 O H s->RelV x v->Vals xs us->r x xs H Q ->
  aM (model X.prog X.w) X.A (call (.builtin id) (v::us)) (EP X R1 O Q) X.xe s
section
variable{X:Cx}{a b:cA}{ta tb:TE}{pos:Pos}
def IxR.or(h:IxR X r)(h':IxR X r'):IxR X (λx y H Q=>r x y H Q\/r' x y H Q):=by
 intro Sa So R1 s O H x y v u Q I rx ry q hs;obtain q|q:=q
 .exact h Sa So R1 s O H x y v u Q I rx ry q hs
 .exact h' Sa So R1 s O H x y v u Q I rx ry q hs
def sW{r}(hr:IxR X r)(ha:PE X a ta)(hb:PE X b tb)(hs:II b):PE X (.Subscript a b pos) (tOp r ta tb):=by exact λR1 s O H Q I h=>Subscript_ (RY ha hb I h λv u s2 x y H2 I2 rx ry q=>hr a b R1 s2 O H2 x y v u Q I2 rx ry q (hs _ _))
def RQ(K:aa):R2:=λx y H Q=>∃p xs i v,x=.ref p/\y=.int i/\ZU K H p xs/\ü xs i=Za v/\Q v H
def RO(K:aa):R2:=λx y H Q=>∃p xs i v,x=.ref p/\y=.int i/\â K H p xs/\ü xs i=Za v/\Q v H
def RP:R2:=λx y H Q=>∃z i c,x=.str z/\y=.int i/\z.length<=aF/\ü z.cps.toList i=Za c/\Q (.str ⟨#[c]⟩) H
def ÀN:IxR X (RQ X.K):=by
 intro Sa So R1 s O H x y v u Q I rx ry h hs;let⟨p,xs,i,z,rfl,rfl,hq,he,q⟩:=h;cases rx;let⟨t,rfl⟩:=ry;let⟨its,r,pl,hz⟩:=I.list hq;let⟨j,h1,h2,h3,h4,h5⟩:=Et he;let⟨w,ew,SN⟩:=r.get h2;have hl:=r.length;have hn:=xg;have Sq:EP X R1 O Q w s:=⟨z,H,I,SN,q⟩;by_cases h0:0<=i
 .have hj:i.toNat=j:=by
   rw[seqIndex_of h0 h5] at h1
   grind
  exact item_listR pl.isList h0 `l (by rw[hj];simpa using ew) Sq hs
 .have hj:(i+its.toArray.size).toNat=j:=by rw[seqIndex_neg `l h4] at h1;rw[bi,<-hl];exact bL h1
  exact subscriptTail_builtinR pl.isList.typeIs slot_list_getitem.lookup
   (wpAny_getItem_list_neg pl.isList `l (by rw[bi]<;>lia) `l (by rw[hj];simpa using ew) ⟨rfl,Sq⟩) hs
def Z8:IxR X (RO X.K):=by
 intro Sa So R1 s O H x y v u Q I rx ry h hs;let⟨p,xs,i,z,rfl,rfl,hq,he,q⟩:=h;cases rx;let⟨t,rfl⟩:=ry;let⟨its,r,pl,hz⟩:=I.tuple hq;let⟨j,h1,h2,h3,h4,h5⟩:=Et he;let⟨w,ew,SN⟩:=r.get h2;have hl:=r.length;have hn:=xg;have Sq:EP X R1 O Q w s:=⟨z,H,I,SN,q⟩;exact subscriptTail_builtinR pl.typeIs dO.lookup
  (getItem_tuple pl `l `l (by rw[bi,<-hl];exact h1) (by simpa using ew) ⟨rfl,Sq⟩) hs
def Ca:IxR X RP:=by
 intro Sa So R1 s O H x y v u Q I rx ry h hs;let⟨z,i,c,rfl,rfl,hz,he,q⟩:=h;let⟨t,rfl⟩:=rx;let⟨t',rfl⟩:=ry;let⟨j,h1,h2,h3,h4,h5⟩:=Et he;have hl:z.cps.toList.length=z.length:=by simp[Str.length]
 rw[hl] at h1 h4 h5;have hn:=xg;exact tail_any (typeIs_str s z t) slot_str_getitem.lookup (getItem_str (by have e1:decide (i < -(2^63:Int))=false:=Zh `l;have e2:decide (i>=2^63)=false:=Zh `l;rw[e1,e2,Bool.or_false]) (by rw[h1];simpa using h2) ⟨.str ⟨#[c]⟩,H,I.tok _,⟨_,rfl⟩,q⟩) hs
def GR(its:List ai)(n j:Nat)(u:ai):ki (·.setIfInBounds j u) { cls:=.type "list",data:=.seq its.toArray n }={ cls:=.type "list",data:=.seq (its.set j u).toArray n }:=by simp[ki]
theorem Inv.lst{R1}{O}{H}{s}{p}{xs}(I:Inv X R1 O H s)(h:H p=Za (.lst xs)) :
  ∃(its:List ai)(n:Nat),Vals xs its/\s.heap.get? p=Za { cls:=.type "list",data:=.seq its.toArray n }/\xs.length<=aF:=by
 let⟨z,its,n,r,e⟩:=I.Zl p _ h;exact⟨its,n,r,e,z⟩
def Inv.À6{R1:List (ag×Obj)}{O:St}{H:Hp}{s:aw}{p:ag}{xs ys:List V}{its SZ:List ai}{n n':Nat}{f:Obj->Obj}(I:Inv X R1 O H s)(h:H p=Za (.lst xs))(ho:s.heap.get? p=Za { cls:=.type "list",data:=.seq its.toArray n })(hf:f { cls:=.type "list",data:=.seq its.toArray n }={ cls:=.type "list",data:=.seq SZ.toArray n' })(r:Vals ys SZ)(hz:ys.length<=aF)(t:Nat) :
  Inv X R1 O (upd H p (.lst ys)) { s with heap:=s.heap.update p f,toks:=t }:=by
 have e:(s.heap.update p f).get? p=Za { cls:=.type "list",data:=.seq SZ.toArray n' }:=by rw[d6 f ho (by rw[hf]<;>rfl),hf]
 refine I.write (by rw[h];trivial) (.inl rfl) (λb u hb q=>(kP _ _ (bV hb)).trans q) ⟨_,e⟩ ?_;exact⟨hz,SZ,n',r,e⟩
def Py:V->V->V->Hp->(Hp->Prop)->Prop:=λo i v H Q=>∃p xs k j,o=.ref p/\i=.int k/\H p=Za (.lst xs)/\Ϥ xs.length k=Za j/\Q (upd H p (.lst (xs.set j v)))
def set_list:Ϣ X Py:=by
 rintro R1 s O H o i v ov iv u Q I ro ri rv ⟨p,xs,k,j,rfl,rfl,hp,hj,q⟩
 cases ro;let⟨t,rfl⟩:=ri;let⟨its,n,r,ho,hz⟩:=I.lst hp;let⟨h1,h2,h3,h4⟩:=Il hj;have hl:=r.length;have hn:=xg;have I' :=
  I.À6 hp ho (GR its n j u) (r.set rv j) (by rw[jG];exact hz) s.toks
 by_cases h0:0<=k
 .have hk:k.toNat=j:=by
   rw[seqIndex_of h0 h4] at h1
   grind
  exact PySem.W.ki_setAt ho h0 `l (by rw[bi,<-hl];exact h4) (by rw[hk];exact⟨_,I',q⟩)
 .have hk:(k+its.toArray.size).toNat=j:=by
   rw[seqIndex_neg `l h3] at h1
   grind
  exact PySem.W.ki_setBack ho `l (by rw[bi,<-hl];exact h3) `l (by rw[hk];exact⟨_,I',q⟩)
def Ds(lo hi)(n):(gy lo hi Zb n).1=((HT.À n 0 lo:Nat):Int)/\(gy lo hi Zb n).2.1=((HT.À n n hi:Nat):Int)/\(gy lo hi Zb n).2.2=1:=by
 refine⟨?_,?_,rfl⟩
 .cases lo with
  |none=>simp[gy,HT.À]
  |some i =>
   simp[gy,HT.À,mj,show(1:Int)>0 by decide,if_true];by_cases h:i<0
   .simp only[h,if_true]<;>lia
   .simp[h,if_false]<;>lia
 .cases hi with
  |none=>simp[gy,HT.À]
  |some i =>
   simp[gy,HT.À,mj,show(1:Int)>0 by decide,if_true];by_cases h:i<0
   .simp only[h,if_true]<;>lia
   .simp[h,if_false]<;>lia
def Bu(its:List ai)(lo hi:Option Int):slicePick its.toArray lo hi Zb=((its.drop (HT.À its.length 0 lo)).take (HT.À its.length its.length hi-HT.À its.length 0 lo)).toArray:=by let⟨h1,h2,h3⟩:=Ds lo hi its.toArray.size;unfold slicePick;rw[h1,h2,h3];simp only[sliceRange_one,pick_run,bi]<;>rfl
def Â3(K:aa):V->Option Int->Option Int->Hp->VK->Prop:=λx lo hi H Q=>∃a xs,x=.ref a/\ZU K H a xs/\∀p,H p=Zb->Q (.ref p) (upd H p (.lst (MR xs lo hi)))
def ÀH:SlR X (Â3 X.K):=by
 rintro R1 s O H x v vl vu lo hi sl Q I rx hs pl pu ⟨a,xs,rfl,hx,q⟩
 cases rx;let⟨its,r,ht,hz⟩:=I.list hx;have R5:=r.length;refine⟨"list",_,slot_list_getitem.lookup,ht.isList.typeIs,?_⟩;refine wpAny_getItem_list_slice ht.isList hs pl pu .none (by simp) ?_ `g;rw[Bu,<-R5];refine⟨.ref s.heap.objs.size,_,I.laid (λb ob q=>aj _ q) (ak _) ?_,rfl,q _ (I.Zl.fresh (ak _))⟩;exact⟨aC (yV xs lo hi) hz,_,0,(r.drop (HT.À xs.length 0 lo)).take (HT.À xs.length xs.length hi-HT.À xs.length 0 lo),aO _ rfl⟩
def uu:V->Bool
 |.Zn=>true
 |.bl _=>true
 |.int _=>true
 |.str _=>true
 |_=>false
def ϭ:V->V->Bool
 |.Zn,.Zn=>true
 |.bl a,.bl b=>a==b
 |.bl a,.int b=>(if a then 1 else 0)==b
 |.int a,.bl b=>a==(if b then 1 else 0)
 |.int a,.int b=>a==b
 |.str a,.str b=>a==b
 |_,_=>false
def HB(ry:RelV y u)(rx:RelV x v)(fy:uu y=true)(fx:uu x=true):lN A s u v (ϭ y x):=by
 cases y with
 |Zn =>
  cases ry;cases x with
  |Zn=>cases rx;exact SeqAt.EqAt.same _
  |bl b=>cases rx;exact SeqAt.EqAt.none_bool b
  |int b=>let⟨t,rfl⟩:=rx;exact SeqAt.EqAt.none_int b t
  |str b=>let⟨t,rfl⟩:=rx;exact SeqAt.EqAt.none_str b t
  |_=>exact absurd (fx) bG
 |bl a =>
  cases ry;cases x with
  |Zn=>cases rx;exact SeqAt.EqAt.bool_none a
  |bl b=>cases rx;exact SeqAt.EqAt.bool_bool a b
  |int b=>let⟨t,rfl⟩:=rx;exact SeqAt.EqAt.bool_int a b t
  |str b=>let⟨t,rfl⟩:=rx;exact SeqAt.EqAt.bool_str a b t
  |_=>exact absurd (fx) bG
 |int a =>
  let⟨t',rfl⟩:=ry;cases x with
  |Zn=>cases rx;exact SeqAt.EqAt.int_none a t'
  |bl b=>cases rx;exact SeqAt.EqAt.int_bool a t' b
  |int b=>let⟨t,rfl⟩:=rx;exact SeqAt.EqAt.int_int a t' b t
  |str b=>let⟨t,rfl⟩:=rx;exact ky a t' b t
  |_=>exact absurd (fx) bG
 |str a =>
  let⟨t',rfl⟩:=ry;cases x with
  |Zn=>cases rx;exact SeqAt.EqAt.str_none a t'
  |bl b=>cases rx;exact SeqAt.EqAt.str_bool a t' b
  |int b=>let⟨t,rfl⟩:=rx;exact ku a t' b t
  |str b=>let⟨t,rfl⟩:=rx;exact SeqAt.EqAt.str_str a t' b t
  |_=>exact absurd (fx) bG
 |_=>exact absurd (fy) bG
def Ϯ(x:V)(u:ai):Bool:=match u with
 |.none=>ϭ .Zn x
 |.bool b=>ϭ (.bl b) x
 |.int i _=>ϭ (.int i) x
 |.str z _=>ϭ (.str z) x
 |_=>false
def MK(r:RelV y u)(f:uu y=true):Ϯ x u=ϭ y x:=by
 cases y with
 |Zn=>cases r;rfl
 |bl b=>cases r;rfl
 |int i=>let⟨t,rfl⟩:=r;rfl
 |str z=>let⟨t,rfl⟩:=r;rfl
 |_=>exact absurd (f) bG
theorem yf:∀{xs:List V}{us:List ai},Vals xs us->xs.all uu=true->us.any (Ϯ x)=xs.any λy=>ϭ y x
 |_,_,.nil,_=>rfl
 |y::xs,u::us,.cons r t,f=>by rw[i6,cJ] at f;rw[dZ,dZ,MK r f.1,yf t f.2]
theorem vC(rx:RelV x v)(fx:uu x=true):∀{xs:List V}{us:List ai},Vals xs us->xs.all uu=true->∀u∈us,lN A s u v (Ϯ x u)
 |_,_,.nil,_=>λu hu=>by cases hu
 |y::xs,u::us,.cons r t,f=>λu' hu=>by
  rw[i6,cJ] at f;obtain rfl|hu:=ap.mp hu
  .rw[MK r f.1];exact HB r rx f.1 fx
  .exact vC rx fx t f.2 u' hu
def inV(x:V)(xs:List V):Bool:=xs.any λy=>ϭ y x
def rIn(K:aa)(neg:Bool):R2:=λx y H Q=>∃p xs,y=.ref p/\(ZU K H p xs\/â K H p xs)/\uu x=true/\xs.all uu=true/\Q (.bl (if neg then !inV x xs else inV x xs)) H
def Je:Û X (bN .In) (rIn X.K false):=by
 rintro R1 s O H x y v u Q I rx ry ⟨p,xs,rfl,hq,fx,fs,q⟩
 cases ry;obtain hq|hq:=hq
 .let⟨its,r,pl,hz⟩:=I.list hq;refine SeqAt.in_listAt (Ϯ x) pl.isList (λw hw=>vC rx fx r fs w (by simpa using hw)) ⟨.bl _,H,I,rfl,?_⟩;rw[show its.toArray.any (Ϯ x)=its.any (Ϯ x) by simp,yf r fs];exact q
 .let⟨its,r,pl,hz⟩:=I.tuple hq;refine SeqAt.in_tupleAt (Ϯ x) pl (λw hw=>vC rx fx r fs w (by simpa using hw)) ⟨.bl _,H,I,rfl,?_⟩;rw[show its.toArray.any (Ϯ x)=its.any (Ϯ x) by simp,yf r fs];exact q
def DD:Û X (bN .NotIn) (rIn X.K true):=by
 rintro R1 s O H x y v u Q I rx ry ⟨p,xs,rfl,hq,fx,fs,q⟩
 cases ry;obtain hq|hq:=hq
 .let⟨its,r,pl,hz⟩:=I.list hq;refine SeqAt.notIn_listAt (Ϯ x) pl.isList (λw hw=>vC rx fx r fs w (by simpa using hw)) ⟨.bl _,H,I,rfl,?_⟩;rw[show its.toArray.any (Ϯ x)=its.any (Ϯ x) by simp,yf r fs];exact q
 .let⟨its,r,pl,hz⟩:=I.tuple hq;refine SeqAt.notIn_tupleAt (Ϯ x) pl (λw hw=>vC rx fx r fs w (by simpa using hw)) ⟨.bl _,H,I,rfl,?_⟩;rw[show its.toArray.any (Ϯ x)=its.any (Ϯ x) by simp,yf r fs];exact q
def ž:ZY X (.builtin "len") (λxs H Q=>∃p ys,xs=[.ref p]/\(ZU X.K H p ys\/â X.K H p ys)/\Q (.int ys.length) H):=by
 rintro R1 s O H xs us Q I r ⟨p,ys,rfl,hq,q⟩
 let⟨u,rfl,rfl⟩:=rF r;have hn:=xg;obtain hq|hq:=hq
 .let⟨its,r',pl,hz⟩:=I.list hq;have R5:=r'.length;exact Calls.call_len_list pl.isList (by simp only[bi]<;>lia) ⟨.int ys.length,H,I.tok _,⟨s.toks+1,by rw[bi,R5]⟩,q⟩
 .let⟨its,r',pl,hz⟩:=I.tuple hq;have R5:=r'.length;exact len_tuple pl (by simp only[bi]<;>lia) ⟨.int ys.length,H,I.tok _,⟨s.toks+1,by rw[bi,R5]⟩,q⟩
def ģ:ZY X (.builtin "len") (λxs H Q=>∃z,xs=[.str z]/\z.length<=aF/\Q (.int z.length) H):=by
 rintro R1 s O H xs us Q I r ⟨z,rfl,hz,q⟩
 let⟨u,rfl,t,rfl⟩:=rF r;have hn:=xg;exact len_str `l ⟨.int z.length,H,I.tok _,⟨_,rfl⟩,q⟩
def ZY.or(h:ZY X f r)(h':ZY X f r'):ZY X f (λxs H Q=>r xs H Q\/r' xs H Q):=by
 intro R1 s O H xs us Q I rs q;obtain q|q:=q
 .exact h R1 s O H xs us Q I rs q
 .exact h' R1 s O H xs us Q I rs q
def wZ:ZY X (.type "list") (λxs H Q=>∃p ys,xs=[.ref p]/\(ZU X.K H p ys\/â X.K H p ys)/\∀l,H l=Zb->Q (.ref l) (upd H l (.lst ys))):=by
 rintro R1 s O H xs us Q I r ⟨p,ys,rfl,hq,q⟩
 let⟨u,rfl,rfl⟩:=rF r;have Sq:∀its,Vals ys its->ys.length<=aF->∀h' c',(∀b o',s.heap.get? b=Za o'->h'.get? b=Za o') ->
   h'.get? s.heap.objs.size=Za { cls:=.type "list",dict:=Zb,data:=.seq its.toArray c',slots:=#[] }->EP X R1 O Q (.ref s.heap.objs.size) { s with heap:=h' }:=λits r' hz h' c' kp e =>
  ⟨.ref s.heap.objs.size,_,I.laid kp (ak _) (show ZO X.prog X.w _ h' _ (.lst ys) from⟨hz,its,c',r',e⟩),rfl,q _ (I.Zl.fresh (ak _))⟩
 obtain hq|hq:=hq
 .let⟨its,r',pl,hz⟩:=I.list hq;have R5:=r'.length;let⟨o,ho,hc,n,hd⟩:=pl.isList;exact call_list_seq p (.inl rfl) ho hc hd (λh' c' kp e=>Sq its r' hz h' c' kp e) `g
 .let⟨its,r',pl,hz⟩:=I.tuple hq;have R5:=r'.length;let⟨o,ho,hc,n,hd⟩:=pl;exact call_list_seq p (.inr rfl) ho hc hd (λh' c' kp e=>Sq its r' hz h' c' kp e) `g
def Ck:ZY X (.type "tuple") (λxs H Q=>∃p ys,xs=[.ref p]/\((ZU X.K H p ys/\∀l,H l=Zb->Q (.ref l) (upd H l (.tup ys)))\/(â X.K H p ys/\Q (.ref p) H))):=by
 intro R1 s O H xs us Q I r h;let⟨p,ys,rfl,h⟩:=h;let⟨u,rfl,rx⟩:=rF r;cases rx;rcases h with⟨hq,q⟩|⟨hq,q⟩
 .let⟨its,r',pl,hz⟩:=I.list hq;have R5:=r'.length;refine call_tuple_list pl.isList (λh' kp=>?_) (by simp only[bi]<;>lia);have I1:Inv X R1 O H { s with heap:=h' }:=I.kept (t':=s.toks) kp;have I2:Inv X R1 O (upd H h'.objs.size (.tup ys)) { s with heap:=h'.push { cls:=.type "tuple",data:=.seq its.toArray } } :=
   I1.laid (t':=s.toks) (λb o e=>aj _ e) (ak _) (show ZO X.prog X.w _ _ _ (.tup ys) from⟨hz,its,r',IsTup.new _ _⟩)
  exact⟨.ref h'.objs.size,_,I2,rfl,q _ (I1.Zl.fresh (ak _))⟩
 .let⟨its,r',pl,hz⟩:=I.tuple hq;exact call_tuple_same pl ⟨.ref p,H,I,rfl,q⟩
def tyV(K:aa)(T:String)(x:V)(H:Hp):Prop:=match x with
 |.str _=>T="str"
 |.int _=>T="int"
 |.ref p=>(T="list"/\∃xs,ZU K H p xs)\/(T="tuple"/\∃o,K.lookup p=Za o/\o.cls=.type "tuple"/\o.dict=Zb) \/
   (T="dict"/\((∃R3,H p=Za (.dK R3))\/∃R3,H p=Za (.dT R3)))\/(T="set"/\∃S n,H p=Za (.set S n))
 |_=>False
def Qg(I:Inv X R1 O H s)(r:RelV x v)(ty:tyV X.K T x H) :
  s.TypeIs v T/\∀a,v=.ref a->∃ob,s.heap.get? a=Za ob/\ob.dict=none:=by
 cases x with
 |str z =>
  let⟨t,rfl⟩:=r;cases(ty);exact⟨typeIs_str s z t,λ_ e=>nomatch e⟩
 |int i =>
  let⟨t,rfl⟩:=r;cases(ty);exact⟨typeIs_int s i t,λ_ e=>nomatch e⟩
 |ref p =>
  cases r;rcases ty with⟨rfl,xs,hq⟩|⟨rfl,o,hk,hc,hd⟩|⟨rfl,hk⟩|⟨rfl,S,n,hk⟩
  .let⟨its,_,pl,_⟩:=I.list hq;refine⟨pl.isList.typeIs,λa e=>?_⟩;cases e;let⟨o,n,e,c,hd,_⟩:=pl;exact⟨o,e,hd⟩
  .refine⟨⟨o,I.Ü p o hk,hc⟩,λa e=>?_⟩;cases e;exact⟨o,I.Ü _ o hk,hd⟩
  .have z:∃o,s.heap.get? p=Za o/\o.ExactDict:=by
    rcases hk with⟨R3,hk⟩|⟨R3,hk⟩
    .let⟨_,_,_,_,o,_,_,e,ex,_⟩:=I.Zl p _ hk;exact⟨o,e,ex⟩
    .let⟨_,_,_,_,o,_,_,e,ex,_⟩:=I.Zl p _ hk;exact⟨o,e,ex⟩
   let⟨o,e,ex⟩:=z;refine⟨⟨o,e,ex.1⟩,λa e2=>?_⟩;cases e2;exact⟨o,e,ex.2.1⟩
  .let⟨o,_,_,_,e,ex,_⟩:=I.Zl p _ hk;refine⟨⟨o,e,ex.1⟩,λa e2=>?_⟩;cases e2;exact⟨o,e,ex.2.1⟩
 |_=>exact bj ty
def tBM(K:aa)(T:String)(r:V->List V->Hp->VK->Prop)(to:TE)(t:TA):TE:=λO H Q=>to O H λx H1=>tyV K T x H1/\t O H1 λxs H2=>r x xs H2 Q
variable{o e:cA}{es:List cA}{to:TE}{t:TA}{name:Str}{R8 R6:Pos}{T id:String}{r:V->List V->Hp->VK->Prop}
def M6(pa:PlainAttrs T)(slot:Slot T name id)(Yb:typeOf (.builtin id)=pure (.type "method_descriptor"))(hm:MtR X id r)(ho:PE X o to)(ha:PA X (e::es) t)(SB:cm o name X.env (eval o X.env)=eval o X.env:=by rfl)(TL:((bI R6 (ao (e::es) X.env)).all (λx=>!x.1)&&(eA R6 (cI [] X.env)).all (λx=>x.1.isSome)
   && decide ((e::es).length+([]:List fV).length+(if([]:List fV).isEmpty then 0 else 1)<30))=true:=by rfl)(Sy:(R8.endLine==R6.line)=true:=by rfl)(hs:Œ X e es:=by rfl)(SH:(bI R6 (ao es X.env)).any (·.1)=false:=by rfl) :
  PE X (.Call (.Attribute o name R8) (e::es) [] R6) (tBM X.K T r to t):=by
 refine λR1 s O H Q I h=>wpAny_Call_method_late SB TL Sy rfl (Zx (ho R1 s O H _ I h) λv s1=>e4 λx H1 I1 r1 ⟨ty,q1⟩=>?_);let⟨h1,h2⟩:=Qg I1 r1 ty;refine⟨T,id,pa,slot,Yb,h1,h2,?_⟩;have hA:=ha R6 R1 s1 O H1 _ I1 q1;rw[hs] at hA ⊢;refine fC (by show(false||(bI R6 (ao es X.env)).any (·.1))=false;rw[SH]<;>rfl) (fW ?_);exact Zx hA λus s2=>e4 λvs H2 I2 r2 q2=>hm R1 s2 O H2 x vs v us Q I2 r1 r2 q2
end
def MtM(X:Cx)(id:String)(r:V->List V->Hp->VK->Prop):Prop :=
 ∀(R1:List (ag×Obj))(s:aw)(O:St)(H:Hp)(x:V)(xs:List V)(v:ai)(us:List ai)(Q:VK),Inv X R1 O H s->RelV x v->Vals xs us->r x xs H Q ->
  aM (model X.prog X.w) X.A (call (.builtin id) (v::us)) (EP X R1 O Q) X.xe s
def Vals.one:∀{x:V}{us:List ai},Vals [x] us->∃u,us=[u]/\RelV x u
 |_,_,.cons r .nil=>⟨_,rfl,r⟩
theorem Vals.rep(h:Vals xs us):∀k:Nat,Vals (aQ k xs).flatten (aQ k us).flatten
 |0=>.nil
 |k+1=>by rw[eR,eR,gN,gN];exact Vals.append h (Vals.rep h k)
theorem C9(its):∀(k:Nat)(Sl:List ai),
  List.foldl (λx1 x2=>x1++x2) Sl.toArray (aQ k its.toArray)=(Sl++(aQ k its).flatten).toArray
 |0,Sl=>by simp
 |k+1,Sl=>by
  have e:Sl.toArray++its.toArray=(Sl++its).toArray:=by simp
  have e2:(Sl++its)++(aQ k its).flatten=Sl++(aQ (k+1) its).flatten:=by
   grind
  rw[<-e2,<-C9 its k (Sl++its),<-e,eR,List.foldl_cons]
section
variable{X:Cx}{R1:List (ag×Obj)}{O:St}{H:Hp}{s:aw}{l:ag}{xs ys:List V}
def Inv.Ãd{its SZ:List ai}{n:Nat}{f:Array ai->Array ai}{t':Nat}(I:Inv X R1 O H s)(hH:H l=Za (.lst xs))(e:s.heap.get? l=Za { cls:=.type "list",data:=.seq its.toArray n })(hf:f its.toArray=SZ.toArray)(hv:Vals ys SZ)(hz:ys.length<=aF) :
  Inv X R1 O (upd H l (.lst ys)) { s with heap:=s.heap.update l (ki f),toks:=t' }:=by
 have q:=PySem.IsL.update e f;rw[hf] at q;refine I.write (by rw[hH];exact trivial) (.inl rfl) (λb' u hb hu=>(kP s.heap (ki f) (bV hb)).trans hu) ⟨_,q⟩ ?_;exact⟨hz,SZ,_,hv,q⟩
def Inv.À8(I:Inv X R1 O H s)(hv:Vals ys its)(hz:ys.length<=aF) :
  Inv X R1 O (upd H s.heap.objs.size (.lst ys)) { s with heap:=s.heap.push { cls:=.type "list",data:=.seq its.toArray },toks:=t' } :=
 I.laid (λ_ _ q=>aj _ q) (ak _) ⟨hz,its,0,hv,aO _ rfl⟩
theorem Inv.fresh(I:Inv X R1 O H s):H s.heap.objs.size=none:=I.Zl.fresh (ak _)
def Inv.À7(I:Inv X R1 O H s)(hH:H l=Za (.lst xs)):xs.length<=aF/\∃(its:List ai)(n:Nat),Vals xs its/\xs.length=its.length/\s.heap.get? l=Za { cls:=.type "list",data:=.seq its.toArray n }:=by let⟨z,its,n,r,e⟩:=I.Zl l _ hH;exact⟨z,its,n,r,r.length,e⟩
def K0(h:n<=aF):f9 n=false:=by
 unfold f9
 grind
def NM:V->List V->Hp->VK->Prop:=λx vs H Q=>∃l xs y,x=.ref l/\vs=[y]/\H l=Za (.lst xs)/\xs.length<aF/\Q .Zn (upd H l (.lst (xs++[y])))
def CW:MtM X "list.append" NM:=by
 rintro R1 s O H x vs v us Q I rx rv ⟨l,xs,y,rfl,rfl,hH,hz,q⟩
 cases rx;let⟨u,rfl,ru⟩:=rv.one;let⟨z,its,n,r,hl,e⟩:=I.À7 hH;refine jv lg ⟨_,e,rfl⟩ F.entry_list_append (F.args_list_append_2 _ _) (PySem.list_append l its.toArray n u `g) ⟨e,?_⟩;refine⟨.Zn,_,I.Ãd hH e (by simp) (r.append (.cons ru .nil)) ?_,rfl,q⟩;rw[aY,lr];lia
def RM:R2:=λx y H Q=>∃l k xs,x=.ref l/\y=.int k/\H l=Za (.lst xs)/\-(2^63)<=k/\k<2^63/\xs.length*k.toNat<=aF /\
 ∀p,H p=Zb->Q (.ref p) (upd H p (.lst (aQ k.toNat xs).flatten))
def Ol(xs:List α)(k:Nat):(aQ k xs).flatten.length=k*xs.length:=by simp_all
def QS:Û X (dJ .Mult) RM:=by
 rintro R1 s O H x y v u Q I rx ry ⟨l,k,xs,rfl,rfl,hH,h1,h2,hz,q⟩
 cases rx;let⟨t,rfl⟩:=ry;let⟨z,its,n,r,hl,e⟩:=I.À7 hH;have R5:its.toArray.size*k.toNat<=aF:=by rw[bi,<-hl];exact hz
 have YB:¬its.toArray.size*k.toNat>(2^63-1)/8:=by have:aF<=(2^63-1)/8:=Zf rfl;lia
 have Yu:¬(!Builtin.List.listFitsIndex k)=true:=by
  rw[fitsIndex_both h1 h2]
  grind
 have Wo:¬f9 (its.toArray.size*k.toNat)=true:=by
  rw[K0 R5]
  grind
 have Tj:List.foldl (λx1 x2=>x1++x2) #[] (aQ (if its.toArray.isEmpty=true then 0 else k.toNat) its.toArray)=(aQ k.toNat its).flatten.toArray:=by
  have f0:=λm=>by have:=C9 its m [];rw[fb] at this;exact this
  rw[f0];cases its with
  |nil=>simp
  |cons a r'=>rw[Zd (by simp)]
 refine wpAny_binaryOp_repeat_ref (Zf rfl) ⟨_,e,rfl⟩ (λs'=>typeIs_int s' k t) noFill_list_mul F.fills_int_mul F.slot_int_rmul repeat_list F.slot_int_index.lookup
  (jv F.slot_int_rmul (typeIs_int s k t) F.entry_int_rmul (F.args_int_rmul_2 _ _) (int___rmul___int_list k t l its.toArray n)
   ⟨e,rfl,⟨_,e,rfl⟩,jv F.slot_list_mul ⟨_,e,rfl⟩ F.entry_list_mul (F.args_list_mul_2 _ _) (AutoListH.list___mul___list_int_3 l its.toArray n k t Yu YB Wo) ⟨e,?_⟩⟩)
 rw[Tj];exact⟨.ref _,_,I.À8 (r.rep k.toNat) (by rw[Ol,Nat.mul_comm];exact hz),rfl,q _ I.fresh⟩
end
open PySem PySem.Spec PyProof.Rows
section
variable{κ:Type}[DecidableEq κ]
def pL(R3:List (κ×V))(k:κ):Option V:=(R3.find? λkv=>decide (kv.1=k)).map (·.2)
def rH(R3:List (κ×V))(k:κ)(v:V):List (κ×V) :=
 if(R3.any λkv=>decide (kv.1=k))=true then R3.map (λkv=>if kv.1=k then(kv.1,v) else kv) else R3++[(k,v)]
def zj(R3:List (κ×V))(k:κ):List (κ×V):=R3.filter λkv=>decide (kv.1≠k)
def xp{p:κ×V}{r}{k:κ}(e:p.1=k):pL (p::r) k=Za p.2:=by simp[pL,bP,e]
def xq{p:κ×V}{r}{k:κ}(e:¬p.1=k):pL (p::r) k=pL r k:=by simp[pL,bP,e]
theorem AR(k:κ):∀R3:List (κ×V),(R3.any λkv=>decide (kv.1=k))=(pL R3 k).isSome
 |[]=>rfl
 |p::r=>by
  rw[dZ];by_cases e:p.1=k
  .simp only[xp e,Zg e,Bool.true_or,Option.isSome_some]
  .rw[xq e,Zh e,Bool.false_or];exact AR k r
def rV(R3)(k:κ)(v):(rH R3 k v).length<=R3.length+1:=by
 unfold rH;split
 .simp_all
 .simp_all
def vz{R3}{k:κ}(v)(h:pL R3 k=Zb):rH R3 k v=R3++[(k,v)]:=by unfold rH;rw[AR,h];exact Zd (Zf rfl)
def ù.ì(r:ù o u):o.isSome=u.isSome:=by
 cases o with
 |none=>cases u with
  |none=>rfl
  |some _=>exact(r).elim
 |some _=>cases u with
  |none=>exact(r).elim
  |some _=>rfl
theorem ù.getD(r:ù o u)(rd:RelV d d'):RelV (o.getD d) (u.getD d'):=by
 cases o with
 |none=>cases u with
  |none=>exact rd
  |some _=>exact(r).elim
 |some _=>cases u with
  |none=>exact(r).elim
  |some _=>exact r
def KV.val{R3}{vs}(r:KV R3 vs)(k:κ):ù (pL R3 k) (kJ vs k):=by
 induction r with
 |nil=>exact cH
 |@cons p q ps qs h t ih =>
  let⟨h1,h2⟩:=h;by_cases e:p.1=k
  .have e':=h1.symm.trans e;have b:kJ (q::qs) k=Za q.2:=by simp[kJ,bP,e']
   rw[xp e,b];exact h2
  .have e':¬q.1=k:=λz=>e (h1.trans z);have b:kJ (q::qs) k=kJ qs k:=by simp[kJ,bP,e']
   rw[xq e,b];exact ih
theorem KV.any(r:KV R3 vs)(k:κ):(R3.any λkv=>decide (kv.1=k))=vs.any λkv=>decide (kv.1=k):=by
 induction r with
 |nil=>rfl
 |cons h t ih=>rw[dZ,dZ,ih,h.1]
def KV.À1(r:KV R3 vs)(k:κ)(ry:RelV y u) :
  KV (R3.map λkv=>if kv.1=k then(kv.1,y) else kv) (vs.map λkv=>if kv.1=k then(kv.1,u) else kv):=by
 induction r with
 |nil=>exact .nil
 |@cons p q ps qs h t ih =>
  rw[am,am];refine .cons ?_ ih
  grind
def KV.put(r:KV R3 vs)(k:κ)(ry:RelV y u):KV (rH R3 k y) (stored vs k u):=by
 unfold rH stored;rw[r.any k];by_cases e:(vs.any λkv=>decide (kv.1=k))=true
 .rw[Zc e,Zc e];exact r.À1 k ry
 .rw[Zd e,Zd e];exact kO r ⟨rfl,ry⟩
def KV.drop(r:KV R3 vs)(k:κ):KV (zj R3 k) (without vs k):=by
 unfold zj without;induction r with
 |nil=>exact .nil
 |@cons p q ps qs h t ih =>
  let⟨h1,h2⟩:=h;rw[gY,gY];by_cases e:p.1=k
  .grind
  .have e':¬q.1=k:=λz=>e (h1.trans z);have a:decide (p.1≠k)=true:=by simp[e]
   have b:decide (q.1≠k)=true:=by simp[e']
   rw[Zc a,Zc b];exact .cons ⟨h1,h2⟩ ih
def KV.keys{R3:List (κ×V)}{vs:List (κ×ai)}(r:KV R3 vs):R3.map (·.1)=vs.map (·.1):=by
 induction r with
 |nil=>rfl
 |cons h t ih=>rw[am,am,ih,h.1]
theorem KV.length(r:KV R3 vs):R3.length=vs.length:=iS r
def Lu(R3)(k:κ):(zj R3 k).length<=R3.length:=cG _ _
end
def zf(r:RelV (kV k) u):(nY P w).is k u=true:=by
 obtain i|x:=k
 .let⟨t,e⟩:=(r);subst e;exact Fa P w i t
 .let⟨t,rfl⟩:=(r);exact E9 P w x t
theorem C6:∀{ks:List Key}{us:List ai},Vals (ks.map kV) us->ItemsAre (nY P w) ks us
 |[],_,r=>by rw[cX] at r;cases r;exact .nil
 |k::ks,_,r=>by
  rw[am] at r;cases r with
  |cons h t=>exact .cons (zf h) (C6 t)
abbrev KT(H:Hp):List (List Key×V)->List (List Key×ag×ai)->Prop:=fk λp q=>p.1=q.1/\H q.2.1=Za (.tup (p.1.map kV))/\RelV p.2 q.2.2
def KT.val{H}{R3}{xs}(r:KT H R3 xs)(k):ù (pL R3 k) ((lZ xs k).map (·.2)):=by
 induction r with
 |nil=>exact cH
 |@cons p q ps qs h t ih =>
  let⟨h1,_,h2⟩:=h;by_cases e:p.1=k
  .have e':=h1.symm.trans e;have b:lZ (q::qs) k=Za q.2:=by simp[lZ,bP,e']
   rw[xp e,b];exact h2
  .have e':¬q.1=k:=λz=>e (h1.trans z);have b:lZ (q::qs) k=lZ qs k:=by simp[lZ,bP,e']
   rw[xq e,b];exact ih
def KT.À1(r:KT H R3 xs)(k)(ry:RelV y u) :
  KT H (R3.map λkv=>if kv.1=k then(kv.1,y) else kv) (xs.map (putAt k u)):=by
 induction r with
 |nil=>exact .nil
 |@cons p q ps qs h t ih =>
  rw[am,am];refine .cons ?_ ih;let⟨h1,h2,h3⟩:=h;unfold putAt;by_cases e:p.1=k
  .simp_all
  .simp_all
def KT.put(r:KT H R3 xs)(k)(hb:H b=Za (.tup (k.map kV)))(ry:RelV y u) :
  KT H (rH R3 k y) (storedH xs k b u):=by
 have e:(R3.any λkv=>decide (kv.1=k))=(lZ xs k).isSome:=by rw[AR,(r.val k).ì,dY]
 unfold rH storedH;rw[e];by_cases q:(lZ xs k).isSome=true
 .rw[Zc q,Zc q];exact r.À1 k ry
 .rw[Zd q,Zd q];exact kO r ⟨rfl,hb,ry⟩
def KT.keeps(r:KT H R3 xs)(ht:∀b ys,H b=Za (.tup ys)->H' b=Za (.tup ys)):KT H' R3 xs :=
 fk.ÀM r λ_ _ z=>⟨z.1,ht _ _ z.2.1,z.2.2⟩
section
variable{P:bT}{w:cy}{H:Hp}{h:cg}{a:ag}
def Px(ok:ċ P w H h)(e:Rd H a u):ZO P w H h a u:=e.ok ok
def vO(ok:ċ P w H h)(e:Rd H a (.dK R3)):R3.length<=aF/\(a==ed)=false/\∃vs,KV R3 vs/\h.DictOf (nY P w) a vs :=
 Px ok e
def Ng(ok:ċ P w H h)(e:H a=Za (.dK R3)):R3.length<=aF/\(a==ed)=false/\∃vs,KV R3 vs/\h.DictOf (nY P w) a vs:=vO ok (.inl e)
def zu(ok:ċ P w H h)(e:H a=Za (.tup (ks.map kV))):(jf (nY P w)).is h ks a:=by let⟨_,its,r,o,h1,h2,n,h3⟩:=(ok a _ e);exact⟨o,its.toArray,n,h1,h2,h3,by simpa using C6 r⟩
def Cw(ok:ċ P w H h)(e:Rd H a (.dT R3)):R3.length<=aF/\(a==ed)=false /\
  ∃xs,KT H R3 xs/\h.DictOfH (jf (nY P w)) a xs:=by
 let⟨z,y,xs,r,o,es,ep,h1,h2,h3,h4,h5⟩:=(Px ok e);refine⟨z,y,xs,r,o,es,ep,h1,h2,h3,h4,λx hx=>?_,h5⟩;have all:∀{l:List (List Key×V)}{m:List (List Key×ag×ai)},KT H l m->∀x∈m,(jf (nY P w)).is h x.1 x.2.1:=by
  intro l m q;induction q with
  |nil=>intro x hx;exact nomatch hx
  |@cons p q ps qs hq t ih =>
   intro x hx;obtain e|hx:=ap.mp hx
   .subst e;exact zu ok (by rw[<-hq.1];exact hq.2.1)
   .exact ih x hx
 exact all r x hx
def Âp(ok:ċ P w H h)(e:H a=Za (.dT R3)):R3.length<=aF/\(a==ed)=false /\
  ∃xs,KT H R3 xs/\h.DictOfH (jf (nY P w)) a xs:=Cw ok (.inl e)
end
def Æ(H:Hp)(a:ag)(y:V)(r:Option V):Prop :=
 (∃R3 k,Rd H a (.dK R3)/\y=kV k/\r=pL R3 k)\/∃R3 k b,Rd H a (.dT R3)/\y=.ref b/\H b=Za (.tup (k.map kV))/\r=pL R3 k
def Ė(H:Hp)(a:ag)(y v:V)(H':Hp):Prop :=
 (∃R3 k,H a=Za (.dK R3)/\y=kV k/\R3.length<aF/\H'=upd H a (.dK (rH R3 k v))) \/
 ∃R3 k b,H a=Za (.dT R3)/\y=.ref b/\H b=Za (.tup (k.map kV))/\R3.length<aF/\H'=upd H a (.dT (rH R3 k v))
theorem Æ.k{H}{a}{R3}{k}(e:H a=Za (.dK R3)):Æ H a (kV k) (pL R3 k):=.inl ⟨R3,k,.inl e,rfl,rfl⟩
def Æ.t{H}{a b}{R3}{k}(e:H a=Za (.dT R3))(eb:H b=Za (.tup (k.map kV))):Æ H a (.ref b) (pL R3 k):=.inr ⟨R3,k,b,.inl e,rfl,eb,rfl⟩
theorem Ė.k{H}{a}{R3}{k}{v}(e:H a=Za (.dK R3))(hl:R3.length<aF):Ė H a (kV k) v (upd H a (.dK (rH R3 k v))):=.inl ⟨R3,k,e,rfl,hl,rfl⟩
def Ė.t{H}{a b}{R3}{k}{v}(e:H a=Za (.dT R3))(eb:H b=Za (.tup (k.map kV)))(hl:R3.length<aF) :
  Ė H a (.ref b) v (upd H a (.dT (rH R3 k v))):=.inr ⟨R3,k,b,e,rfl,eb,hl,rfl⟩
section
variable{X:Cx}{R1:List (ag×Obj)}{O:St}{H:Hp}{s:aw}{a:ag}{y v:V}{u r:ai}{o:Option V}{A:cQ}{E:ai->aw->Prop}
def Inv.big(I:Inv X R1 O H s):ed<s.heap.objs.size:=by have h:=(I.mod.glob.keeps I.bk).lt;exact ip (Zf rfl) h
def Dc(hu:A.units+1<fB)(I:Inv X R1 O H s)(g:Æ H a y (Za v))(ry:RelV y u)(h:∀w' s',Inv X R1 O H s'->RelV v w'->Q w' s') :
  aM (model X.prog X.w) A (iQ (.ref a) u) Q E s:=by
 rcases g with⟨R3,k,e,ey,l⟩|⟨R3,k,b,e,ey,eb,l⟩
 .subst ey;let⟨z,hd,vs,rel,dd⟩:=vO I.Zl e;let⟨w',hw,SN⟩:=ù.some_of (by rw[l];exact rel.val k);exact wpAny_getItem_of (zf ry) dd.mapOf hw (h w' _ (I.tok _) SN)
 .subst ey;cases(ry);let⟨z,hd,xs,rel,dd⟩:=Cw I.Zl e;let⟨w',hw,SN⟩:=ù.some_of (by rw[l];exact rel.val k);let⟨p,hp,hp2⟩:=gS.mp hw;apply wpAny_getItem_heap (fF hu) (zu I.Zl eb) dd hp;rw[hp2];exact h w' _ (I.tok _) SN
def Ât(hu:A.units+1<fB)(I:Inv X R1 O H s)(g:Æ H a y o)(ry:RelV y u)(h:∀s',Inv X R1 O H s'->Q (.bool o.isSome) s') :
  aM (model X.prog X.w) A (bN .In u (.ref a)) Q E s:=by
 rcases g with⟨R3,k,e,ey,l⟩|⟨R3,k,b,e,ey,eb,l⟩
 .subst ey;let⟨z,hd,vs,rel,dd⟩:=vO I.Zl e;apply wpAny_in_of (zf ry) hd dd.mapOf;rw[<-(rel.val k).ì,<-l];exact h _ (I.tok _)
 .subst ey;cases(ry);let⟨z,hd,xs,rel,dd⟩:=Cw I.Zl e;apply wpAny_in_heap (fF hu) (zu I.Zl eb) hd dd;have q:=(rel.val k).ì;rw[dY] at q;rw[<-q,<-l];exact h _ (I.tok _)
def Pc(hu:A.units+1<fB)(I:Inv X R1 O H s)(g:Æ H a y o)(ry:RelV y u)(h:∀s',Inv X R1 O H s'->Q (.bool (!o.isSome)) s') :
  aM (model X.prog X.w) A (bN .NotIn u (.ref a)) Q E s:=by
 rcases g with⟨R3,k,e,ey,l⟩|⟨R3,k,b,e,ey,eb,l⟩
 .subst ey;let⟨z,hd,vs,rel,dd⟩:=vO I.Zl e;apply wpAny_notIn_of (zf ry) hd dd.mapOf;rw[<-(rel.val k).ì,<-l];exact h _ (I.tok _)
 .subst ey;cases(ry);let⟨z,hd,xs,rel,dd⟩:=Cw I.Zl e;apply wpAny_notIn_heap (fF hu) (zu I.Zl eb) hd dd;have q:=(rel.val k).ì;rw[dY] at q;rw[<-q,<-l];exact h _ (I.tok _)
def Ay(I:Inv X R1 O H s)(mu:Mut (H a))(hs:jg a s.heap h')(he:∃q,h'.get? a=Za q)(new:ZO X.prog X.w (upd H a ob) h' a ob) :
  Inv X R1 O (upd H a ob) { s with heap:=h',toks:=t' } :=
 I.write mu (.inl rfl) (λb q hb z=>(hs.2 b hb).trans z) he new
def EL(z:R3.length<=aF)(hd:(a==ed)=false)(rel:KV R3 vs)(dd:h'.DictOf (nY P w) a vs) :
  ZO P w H' h' a (.dK R3):=⟨z,hd,vs,rel,dd⟩
def Db(hu:A.units+1<fB)(I:Inv X R1 O H s)(g:Ė H a y v H')(ry:RelV y u)(rv:RelV v r)(h:∀s',Inv X R1 O H' s'->Q () s') :
  aM (model X.prog X.w) A (kK (.ref a) u r) Q E s:=by
 rcases g with⟨R3,k,e,ey,l,eH⟩|⟨R3,k,b,e,ey,eb,l,eH⟩
 .subst ey eH;let⟨z,hd,vs,rel,dd⟩:=Ng I.Zl e;have hz:vs.length<=aF:=by rw[<-rel.length];exact z
  have hl:(rH R3 k v).length<=aF:=by have:=rV R3 k v;lia
  refine wpAny_setItem_pairs (zf ry) dd λh' Ux hs=>h _ ?_;have he:∃q,h'.get? a=Za q:=let⟨q,_,_,hq,_⟩:=Ux;⟨q,hq⟩;exact Ay I (by rw[e];exact cH) hs he (EL hl hd (rel.put k rv) Ux)
 .subst ey eH;cases(ry);let⟨z,hd,xs,rel,dd⟩:=Âp I.Zl e;have hz:xs.length<=aF:=by rw[<-iS rel];exact z
  have hl:(rH R3 k v).length<=aF:=by have:=rV R3 k v;lia
  refine wpAny_setItem_heap (fF hu) (zu I.Zl eb) dd λh' Ux hs=>h _ ?_;let⟨q,es,ep,hq,h2,h3,h4,_,h5⟩:=Ux;refine Ay I (by rw[e];exact cH) hs ⟨q,hq⟩ ⟨hl,hd,_,(rel.put k eb rv).keeps λc ys ec=>?_,q,es,ep,hq,h2,h3,h4,h5⟩;rw[mF (EE ec e (λz=>nomatch z))];exact ec
end
section
variable{X:Cx}{R1:List (ag×Obj)}{O:St}{H:Hp}{s:aw}{a:ag}{R3:List (Key×V)}{k:Key}{u:ai}{A:cQ}{E:ai->aw->Prop}
def Âs(I:Inv X R1 O H s)(e:H a=Za (.dK R3))(ry:RelV (kV k) u)(l:pL R3 k=Za v)(hm:Sx=[]\/∃x,Sx=[x])(h:∀w' s',Inv X R1 O (upd H a (.dK (zj R3 k))) s'->RelV v w'->Q w' s'):aM (model X.prog X.w) A (call (.builtin "dict.pop") (.ref a::u::Sx)) Q E s:=by
 let⟨z,hd,vs,rel,dd⟩:=Ng I.Zl e;let⟨w',hw,SN⟩:=ù.some_of (by rw[<-l];exact rel.val k);have hp:(keyPart u).isSome=true:=by
  obtain i|x:=k
  .let⟨t,q⟩:=(ry);subst q;rfl
  .let⟨t,rfl⟩:=(ry);rfl
 have ha:argsOk "dict.pop" ⟨.ref a::u::Sx,[]⟩:=by
  obtain q|⟨x,q⟩:=hm
  .subst q;exact PySem.F.args_dict_pop_2 _ _
  .subst q;exact PySem.F.args_dict_pop_3 _ _ _
 refine jN kA dd.typeIs PySem.F.entry_dict_pop ha (meets_dict_pop_there (nY X.prog X.w) a (zf ry) Sx hm hp)
  ⟨vs,w',dd,by rw[<-rel.length];exact z,hw,λh' Ux hs=>h w' _ ?_ SN⟩
 have he:∃q,h'.get? a=Za q:=let⟨q,_,_,hq,_⟩:=Ux;⟨q,hq⟩;exact Ay I (by rw[e];exact cH) hs he (EL (aC (Lu R3 k) z) hd (rel.drop k) Ux)
def P7(I:Inv X R1 O H s)(e:Rd H a (.dK R3))(h:∀t s',Inv X R1 O H s'->Q (.int R3.length t) s'):aM (model X.prog X.w) A (call (.builtin "len") [.ref a]) Q E s:=by let⟨z,hd,vs,rel,dd⟩:=vO I.Zl e;refine call_len_dict hd dd (by rw[<-rel.length];rw[kq] at z;lia) ?_;rw[<-rel.length];exact h _ _ (I.tok _)
end
def RZ(i:cA):Prop:=∀ov iv,subscripted i false ov iv=operate [ov,iv] (iQ ov iv)
def Nx{prog}{w}{A}{E}{s}{env:Env}{Sa So}{pos}{T id:String}{Q}(hl:jt (.type T) "__getitem__"=pure (Za (.builtin id)))(hs:RZ So)(h:aM (model prog w) A (eval Sa env) (λo Sj=>aM (model prog w) A (eval So env) (λi TH=>TH.TypeIs o T/\aM (model prog w) A (iQ o i) Q E TH) E Sj) E s) :
  aM (model prog w) A (eval (.Subscript Sa So pos) env) Q E s:=by
 refine Subscript_ (aZ h (λo Sj WO=>aZ WO (λi TH Wz=>?_) λ_ _ x=>x) λ_ _ x=>x);let⟨hT,Wz⟩:=Wz;apply ae;rw[getitemInPython_of_ne hT.not_modules];refine ae (wpAny_specialOf hT hl ?_);have Sq:aM (model prog w) A (subscripted So false o i) (λr R4=>aM (model prog w) A (letTemporaryGo Sa o r >>= λ_=>pure r) Q E R4) E TH:=by rw[hs o i];exact wpAny_operating (aZ Wz (λr R4 VQ=>ae (wpAny_letTemporaryGo (aE VQ))) λ_ _ x=>x)
 first
  |exact aE (ae Sq)
  |exact ae (aE (ae Sq))
  |exact ae Sq
def yU(I:Inv X R1 O H s)(g:Æ H a y o):s.TypeIs (.ref a) "dict":=by
 rcases g with⟨R3,k,e,_,_⟩|⟨R3,k,b,e,_,_,_⟩
 .let⟨_,_,vs,_,dd⟩:=vO I.Zl e;exact dd.typeIs
 .let⟨_,_,xs,_,dd⟩:=Cw I.Zl e;exact dd.typeIs
def Áu(td ty:TE):TE:=λO H Q=>td O H λx H1=>ty O H1 λy H2=>∃a v,x=.ref a/\Æ H2 a y (Za v)/\Q v H2
def ÂW(ty td:TE):TE:=λO H Q=>ty O H λy H1=>td O H1 λx H2=>∃a o,x=.ref a/\Æ H2 a y o/\Q (.bl o.isSome) H2
def Pu(td ty tv:TE):TS:=λD O H=>tv O H λv H1=>td O H1 λx H2=>ty O H2 λy H3=>∃a H4,x=.ref a/\Ė H3 a y v H4/\D.nx O H4
section
variable{X:Cx}{o i Sa:cA}{pos Sv:Pos}{td ty tv:TE}
def sO(hu:X.A.units+1<fB)(ho:PE X o td)(hi:PE X i ty)(hs:RZ i):PE X (.Subscript o i pos) (Áu td ty):=by refine λR1 s O H Q I h=>Nx jD.lookup hs (Zx (ho R1 s O H _ I h) λu s1=>e4 λx H1 I1 rx q1=>Zx (hi R1 s1 O H1 _ I1 q1) λiv s2=>e4 λy H2 I2 ry ⟨a,v,ex,g,q2⟩=>?_);subst ex;obtain rfl:u=aP a:=rx;exact⟨yU I2 g,Dc hu I2 g ry λw' s3 I3 SN=>⟨v,H2,I3,SN,q2⟩⟩
def Mr(hu:X.A.units+1<fB)(hi:PE X i ty)(ho:PE X o td):PC X .In i o (ÂW ty td):=by refine λR1 s O H Q I h=>Zx (hi R1 s O H _ I h) λiv s1=>e4 λy H1 I1 ry q1=>Zx (ho R1 s1 O H1 _ I1 q1) λu s2=>e4 λx H2 I2 rx ⟨a,ov,ex,g,q2⟩=>?_;subst ex;obtain rfl:u=aP a:=rx;exact Ât hu I2 g ry λs3 I3=>⟨.bl ov.isSome,H2,I3,rfl,q2⟩
def sN(hu:X.A.units+1<fB)(ho:PE X o td)(hi:PE X i ty)(hv:PE X Sa tv)(hs:cO Sa (Za (.Subscript o i Sv)) pos.line X.env=pure false) :
  PS X (.Assign [.Subscript o i Sv] Sa pos) (Pu td ty tv):=by
 refine λR1 s O H D I h=>wpAny_Assign_Subscript (Zx (hv R1 s O H _ I h) λr s1=>e4 λv H1 I1 rv q1=>Zx (ho R1 s1 O H1 _ I1 q1) λu s2=>e4 λx H2 I2 rx q2=>Zx (hi R1 s2 O H2 _ I2 q2) λiv s3=>e4 λy H3 I3 ry ⟨a,H4,ex,g,q3⟩=>?_) hs;subst ex;obtain rfl:u=aP a:=rx;exact Db hu I3 g ry rv λs4 I4=>⟨O,H4,I4,q3⟩
def FT(h:cg)(hb:ed<h.objs.size):ZO P w H (h.push { cls:=.type "dict",data:=.dict #[] }) h.objs.size (.dK []) :=
 ⟨aV _,beq_eq_false_iff_ne.mpr (bV (az hb)),[],.nil,kQ h⟩
def Lr(h:cg)(hb:ed<h.objs.size):ZO P w H (h.push { cls:=.type "dict",data:=.dict #[] }) h.objs.size (.dT []) :=
 ⟨aV _,beq_eq_false_iff_ne.mpr (bV (az hb)),[],.nil,_,#[],0,aO _ rfl,⟨rfl,rfl,rfl⟩,rfl,rfl,iL⟩
def Qn:TE:=λ_ H Q=>∀p,H p=Zb->Q (.ref p) (upd H p (.dK []))
def Qm:TE:=λ_ H Q=>∀p,H p=Zb->Q (.ref p) (upd H p (.dT []))
def é:PE X (.Dict [] [] pos) Qn:=λR1 s O H Q I h =>
 wpAny_Dict_empty ⟨.ref s.heap.objs.size,_,I.laid (λ_ _ q=>aj _ q) (ak _) (FT s.heap I.big),rfl,h _ (I.Zl.fresh (ak _))⟩
def Àq:PE X (.Dict [] [] pos) Qm:=λR1 s O H Q I h =>
 wpAny_Dict_empty ⟨.ref s.heap.objs.size,_,I.laid (λ_ _ q=>aj _ q) (ak _) (Lr s.heap I.big),rfl,h _ (I.Zl.fresh (ak _))⟩
end
def Hk:List (TE×TE)->St->Hp->(List (V×V)->Hp->Prop)->Prop
 |[],_,H,Q=>Q [] H
 |(tk,tv)::r,O,H,Q=>tk O H λx H1=>tv O H1 λy H2=>Hk r O H2 λps H3=>Q ((x,y)::ps) H3
abbrev VV:List (V×V)->List (ai×ai)->Prop:=fk λp q=>RelV p.1 q.1/\RelV p.2 q.2
def PPs(X:Cx)(pos:Pos)(keys:List (Option cA))(Tn:List cA)(U4:List (TE×TE)):Prop :=
 ∀(R1:List (ag×Obj))(s:aw)(O:St)(H:Hp)(Q:List (V×V)->Hp->Prop),Inv X R1 O H s->Hk U4 O H Q ->
  aM (model X.prog X.w) X.A (evalPairs (pairTrees keys Tn X.env pos)) (λvs s'=>∃ps H',Inv X R1 O H' s'/\VV ps vs/\Q ps H') X.xe s
def HX:PPs X pos [] [] []:=λR1 s O H Q I h=>pairTrees_nil_walk ⟨[],H,I,.nil,h⟩
def FC(hk:PE X k tk)(hv:PE X v tv)(hr:PPs X pos ks vs U4) :
  PPs X pos (Za k::ks) (v::vs) ((tk,tv)::U4):=λR1 s O H Q I h =>
 pairTrees_cons_walk (Zx (hk R1 s O H _ I h) λu s1=>e4 λx H1 I1 rx q1=>Zx (hv R1 s1 O H1 _ I1 q1) λw2 s2=>e4 λy H2 I2 ry q2 =>
  Zx (hr R1 s2 O H2 _ I2 q2) λws s3=>e4 λps H3 I3 rel q3=>⟨(x,y)::ps,H3,I3,.cons ⟨rx,ry⟩ rel,q3⟩)
def B9(R3 Sx:List (Key×V)):List (Key×V):=Sx.foldl (λSl kv=>rH Sl kv.1 kv.2) R3
def KV.merge:∀{Sx:List (Key×V)}{rs:List (Key×ai)}{R3:List (Key×V)}{vs:List (Key×ai)},KV Sx rs->KV R3 vs->KV (B9 R3 Sx) (merged vs rs):=by
 intro Sx rs R3 vs r;induction r generalizing R3 vs with
 |nil=>intro q;exact q
 |@cons p q ps qs h t ih =>
  intro r0;have e:KV (rH R3 p.1 p.2) (stored vs q.1 q.2):=by have:=r0.put p.1 h.2;rw[<-h.1];exact this
  exact ih e
theorem wg:∀(Sx R3:List (Key×V)),(B9 R3 Sx).length<=R3.length+Sx.length
 |[],R3=>by show R3.length<=R3.length+0;lia
 |p::r,R3=>by
  have h1:=wg r (rH R3 p.1 p.2);have h2:=rV R3 p.1 p.2;show(B9 (rH R3 p.1 p.2) r).length<=_
  grind
theorem AI:∀{R3:List (Key×V)}{ws:List (ai×ai)},VV (R3.map λkv=>(kV kv.1,kv.2)) ws->∃rs,Carries (nY P w) ws rs/\KV R3 rs
 |[],_,r=>by rw[cX] at r;cases r;exact⟨[],cH,.nil⟩
 |p::R3,_,r=>by
  rw[am] at r;cases r with
  |@cons a b as bs h t =>
   let⟨rs,c,q⟩:=AI t;let⟨b1,b2⟩:=b;exact⟨(p.1,b2)::rs,⟨zf h.1,rfl,c⟩,.cons ⟨rfl,h.2⟩ q⟩
def Át(U4:List (TE×TE)):TE:=λO H Q=>∀p,H p=Zb->Hk U4 O (upd H p (.dK [])) λps H2=>H2 p=Za (.dK [])/\∃R3:List (Key×V),ps=R3.map (λkv=>(kV kv.1,kv.2))/\R3.length<=15/\Q (.ref p) (upd H2 p (.dK (B9 [] R3)))
def HZ(h:PPs X pos keys Tn U4)(Vs:keys.all (·.isSome)=true)(hl:keys.length=Tn.length)(h0:keys≠[])(h15:keys.length<=15):PE X (.Dict keys Tn pos) (Át U4):=by
 intro R1 s O H Q I q;have hn:=I.Zl.fresh (ak s.heap.objs.size);have I1:=I.laid (t':=s.toks) (λ_ _ q=>aj _ q) (ak _) (FT s.heap I.big);refine wpAny_Dict_walk (knd:=nY X.prog X.w) Vs hl h0 h15 (Zx (h R1 _ O _ _ I1 (q _ hn)) λws s2=>e4 λps H2 I2 rel ⟨e,R3,ep,lk,q2⟩=>?_);subst ep;let⟨rs,c,rk⟩:=AI rel;let⟨z,hd,Ts,⟨⟩,dd⟩:=Ng I2.Zl e;refine⟨rs,c,dd,λh' Ux hs=>⟨.ref s.heap.objs.size,_,?_,rfl,q2⟩⟩;have hz:(B9 [] R3).length<=aF:=by have h1:=wg R3 [];rw[jH] at h1;rw[kq];lia
 have he:∃q,h'.get? s.heap.objs.size=Za q:=let⟨q,_,_,hq,_⟩:=Ux;⟨q,hq⟩;exact Ay I2 (by rw[e];exact cH) hs he (EL hz hd (rk.merge .nil) Ux)
structure M1(X:Cx)(o:cA)(m:Str)(R8:Pos)(e:cA)(R6:Pos):Prop where
 base:cm o m X.env (eval o X.env)=eval o X.env
 few:((bI R6 (ao [e] X.env)).all (λx=>!x.1)&&(eA R6 (cI [] X.env)).all (λx=>x.1.isSome)
  && decide (([e]:List cA).length+([]:List fV).length+(if([]:List fV).isEmpty then 0 else 1)<30))=true
 line:(R8.endLine==R6.line)=true
 trees:bI R6 (ao [e] X.env)=[(false,eval e X.env)]
structure M2(X:Cx)(o:cA)(m:Str)(R8:Pos)(e f:cA)(R6:Pos):Prop where
 base:cm o m X.env (eval o X.env)=eval o X.env
 few:((bI R6 (ao [e,f] X.env)).all (λx=>!x.1)&&(eA R6 (cI [] X.env)).all (λx=>x.1.isSome)
  && decide (([e,f]:List cA).length+([]:List fV).length+(if([]:List fV).isEmpty then 0 else 1)<30))=true
 line:(R8.endLine==R6.line)=true
 trees:bI R6 (ao [e,f] X.env)=[(false,eval e X.env),(false,eval f X.env)]
def IsD(H:Hp)(a:ag):Prop:=(∃R3,Rd H a (.dK R3))\/∃R3,Rd H a (.dT R3)
def HA(I:Inv X R1 O H s)(d:IsD H a) :
  s.TypeIs (.ref a) "dict"/\(∀b,aP a=.ref b->∃ob,s.heap.get? b=Za ob/\ob.dict=Zb)/\(a==ed)=false:=by
 rcases d with⟨R3,e⟩|⟨R3,e⟩
 .let⟨_,hd,vs,_,dd⟩:=vO I.Zl e;refine⟨dd.typeIs,λb q=>?_,hd⟩;cases q;let⟨ob,_,_,h1,h2,_⟩:=dd;exact⟨ob,h1,h2.2.1⟩
 .let⟨_,hd,xs,_,dd⟩:=Cw I.Zl e;refine⟨dd.typeIs,λb q=>?_,hd⟩;cases q;let⟨ob,_,_,h1,h2,_⟩:=dd;exact⟨ob,h1,h2.2.1⟩
section
variable{X:Cx}{R1:List (ag×Obj)}{O:St}{H:Hp}{s:aw}{a:ag}{y d:V}{u r:ai}{o:Option V}{A:cQ}{E:ai->aw->Prop}
def RG(hu:A.units+1<fB)(I:Inv X R1 O H s)(g:Æ H a y o)(ry:RelV y u)(rd:RelV d r)(h:∀w' s',Inv X R1 O H s'->RelV (o.getD d) w'->Q w' s') :
  aM (model X.prog X.w) A (call (.builtin "dict.get") [.ref a,u,r]) Q E s:=by
 rcases g with⟨R3,k,e,ey,l⟩|⟨R3,k,b,e,ey,eb,l⟩
 .subst ey;let⟨z,hd,vs,rel,dd⟩:=vO I.Zl e;refine jN g9 dd.typeIs kl (jX _ _ _) (meets_dict_get_default (nY X.prog X.w) a (zf ry) hd r) ⟨_,dd.mapOf,h _ _ (I.tok _) ?_⟩;rw[l];exact(rel.val k).getD rd
 .subst ey;cases(ry);let⟨z,hd,xs,rel,dd⟩:=Cw I.Zl e;refine jN g9 dd.typeIs kl (jX _ _ _) (meetsH_dict_get_default (jf (nY X.prog X.w)) a b hd r) ⟨fF hu,k,xs,zu I.Zl eb,dd,h _ _ (I.tok _) ?_⟩;rw[l];exact(rel.val k).getD rd
end
def Ma(td ty tx:TE):TE:=λO H Q=>td O H λx H1=>∃a,x=.ref a/\IsD H1 a/\ty O H1 λy H2=>tx O H2 λz H3=>∃o,Æ H3 a y o/\Q (o.getD z) H3
def Ql(td ty:TE):TE:=λO H Q=>td O H λx H1=>∃a,x=.ref a/\IsD H1 a/\ty O H1 λy H2=>∃R3 k v,H2 a=Za (.dK R3)/\y=kV k/\pL R3 k=Za v/\Q v (upd H2 a (.dK (zj R3 k)))
section
variable{X:Cx}{o e f:cA}{R8 R6:Pos}{td ty tx:TE}
def A9(hu:X.A.units+1<fB)(ho:PE X o td)(he:PE X e ty)(hf:PE X f tx)(m:M2 X o "get" R8 e f R6):PE X (.Call (.Attribute o "get" R8) [e,f] [] R6) (Ma td ty tx):=by
 refine λR1 s O H Q I h=>wpAny_Call_method m.base m.few m.line gJ g9 PySem.F.type_dict_get (Zx (ho R1 s O H _ I h) λu s1=>e4 λx H1 I1 rx ⟨a,ex,d,q1⟩=>?_);subst ex;obtain rfl:u=aP a:=rx;let⟨t1,t2,_⟩:=HA I1 d;refine⟨t1,t2,?_⟩;rw[m.trees];refine fC rfl (fW (eY (Zx (he R1 s1 O H1 _ I1 q1) λiv s2=>e4 λy H2 I2 ry q2 =>
  eY (Zx (hf R1 s2 O H2 _ I2 q2) λfv s3=>e4 λz H3 I3 rz ⟨ov,g,q3⟩=>gI ?_))))
 exact RG hu I3 g ry rz λw' s4 I4 SN=>⟨_,H3,I4,SN,q3⟩
def FD(ho:PE X o td)(he:PE X e ty)(m:M1 X o "pop" R8 e R6):PE X (.Call (.Attribute o "pop" R8) [e] [] R6) (Ql td ty):=by refine λR1 s O H Q I h=>wpAny_Call_method m.base m.few m.line gJ kA PySem.F.type_dict_pop (Zx (ho R1 s O H _ I h) λu s1=>e4 λx H1 I1 rx ⟨a,ex,d,q1⟩=>?_);subst ex;obtain rfl:u=aP a:=rx;let⟨t1,t2,_⟩:=HA I1 d;refine⟨t1,t2,?_⟩;rw[m.trees];refine fC rfl (fW (eY (Zx (he R1 s1 O H1 _ I1 q1) λiv s2=>e4 λy H2 I2 ry ⟨R3,k,v,ea,ey,l,q2⟩=>gI ?_)));subst ey;exact Âs I2 ea ry l (.inl rfl) λw' s3 I3 SN=>⟨v,_,I3,SN,q2⟩
end
end L2
namespace Att
open PySem PySem.W PySem.Calls PyProof.Rows
def zg:∀(ns:List Int)(vs:List ai),WellAll P h vs (ns.map iH)->IntsAre vs ns:=by
 intro ns;induction ns with
 |nil =>
  intro vs w;rw[cX] at w;cases w;exact .nil
 |cons n ns ih =>
  intro vs w;rw[am] at w;cases w with
  |cons a b =>
   cases a;exact .cons _ _ (ih _ b)
def IR{l:gP}{n}(hn:l.most=Za n){P:Params}{h}{args}{U2}(UF:l.row.toRowW.claim.pre args=true)(Ya:WellAll P h U2 args) :
  ∃a vs ns,U2=[aP a]/\args=[WData.list (ns.map iH)]/\h.get? a=Za { cls:=.type "list",data:=.seq vs.toArray }/\IntsAre vs ns/\ns.length<=n:=by
 have hsh:=(pre_splitW UF).1;have hc:l.pre.holds [] { args:=args }=true:=(pre_splitW UF).2;let⟨d,r,rfl,h1,h2⟩:=hasAllW_cons hsh;obtain rfl:=hasAllW_nil h2;let⟨xs,rfl,h3⟩:=hasW_list h1;let⟨ns,rfl⟩:=items_int h3;have R5:ns.length<=n:=by
  have h4:(WTm.not (.lt (.lit (.int n)) (.len (.arg 0)))).holds [] { args:=[.list (ns.map .int)] }=true:=by have h4:=(holds_andW hc).1;rw[hn] at h4;exact h4
  have h5:=condW_of h4 (w_not (w_lt w_lit (w_len_list (w_arg rfl))))
  grind
 cases Ya with
 |cons w1 w2 =>
  cases w2;cases w1 with
  |list ho Vs=>exact⟨_,_,ns,rfl,rfl,ho,zg ns _ Vs,R5⟩
def IY(l:gP)(args):l.row.toRowW.claim.post args (.bool true) args=true :=
 postW_of
  (show WShape.has [] (.bool true) .bool=true by first|rfl|decide|simp[WShape.has,WShape.arms,WShape.armsAll])
  (w_eq_bool (w_res rfl) w_lit) rfl
end Att
namespace L2
open PySem PySem.Spec PyProof.Rows
theorem CH:∀{vs:List ai}{ns:List Int},IntsAre vs ns->Vals (ns.map V.int) vs
 |_,_,.nil=>.nil
 |_,_,.cons n t h=>.cons ⟨t,rfl⟩ (CH h)
def Pn(H:Hp):Prop:=∀b,H b=Zb\/∃o xs,H b=Za (.Z5 o (.lst xs))
def Lb{P}{w}{K}{mg mb}{CX:CXT}{k}{fa a}{fd}{x}{sp:Sp}{Sj}{vs}{ns}(KX:K.In Sj.heap)(TZ:Sj.heap.Ns aT mg)(hb:Sj.heap.Ns jx mb)(hbb:∀x:Str,x≠"__name__"->mb x=bh x)(Ym:Sj.heap.NoLimit)(hg:Sj.gens=#[])(ha:Sj.heap.get? a=Za { cls:=.type "list",data:=.seq vs.toArray })(hi:IntsAre vs ns)(hl:ns.length<=aF)(hr:Zw k jM)(F:∀base:cg,K.In base->base.Ns aT mg->ZA P w K mg base CX k fa fd [x] sp)(WK:∀(s:aw)(u:ai),jS s fd ⟨[u],[]⟩ [(x,u)])(Uv:∀H:Hp,Pn H->ZU K H a (ns.map V.int)->sp [.ref a] H (λv _=>v=.bl true) λ_ _ _=>False)(YO:∀H e s',CX [] H Sj (λ_ _ _=>False) e s'->False) :
  eX (model P w) jM (.call (.ref fa) ⟨[.ref a],[]⟩) (λr s'=>r=.ok (.ret (.bool true))/\OldK Sj.heap s'.heap/\s'.os=Sj.os/\ia s'.gens) Sj:=by
 have rv:=CH hi;have X3:=hi.length;have WX:∀H:Hp,Pn H->ZU K H a (ns.map V.int)->ċ P w H Sj.heap->(∀b,H b≠Zb->b=a)->(H a≠Zb->K.lookup a=Zb) ->
   eX (model P w) jM (.call (.ref fa) ⟨[.ref a],[]⟩) (λr s'=>r=.ok (.ret (.bool true))/\OldK Sj.heap s'.heap/\s'.os=Sj.os/\ia s'.gens) Sj:=by
  intro H hO hS Zl hA hK;have TW:∀{b:ag}{o:Obj},Sj.heap.get? b=Za o->H b=Zb->(Im Sj.heap H).get? b=Za o:=λe n=>Lf e n;have V6:∀{b:ag}{o:Obj}{es:Array DictEntry}{ep:Nat},Sj.heap.get? b=Za o->o.data=.dict es ep->H b=none:=λ{b o es ep} e d=>by
   grind
  have Xb:∀{b:ag}{m:Str->Option ai},Sj.heap.Ns b m->(Im Sj.heap H).Ns b m:=λ{b m} ⟨o,es,ep,e,d,r⟩=>⟨o,es,ep,TW e (V6 e d),d,r⟩;have hKb:=λb o e=>TW (KX b o e) (by
   cases q:H b with
   |none=>rfl
   |some u =>
    have e':=hA b (by rw[q];simp);subst e';rw[hK (by rw[q];simp)] at e;cases e)
  have hM:Mod K mg (Im Sj.heap H):=⟨hKb,Xb TZ,⟨mb,Xb hb,hbb⟩,let⟨mc,h1,h2⟩:=Ym;⟨mc,Xb h1,h2⟩⟩;have e0:ϵ P w K mg (Im Sj.heap H) jM [] Sj H:=⟨rfl,hM,λb o e=>Oc e,jo (Jz _ _),trivial,λb hb=>absurd (show b∈([]:List ag) from hb) (by simp),Zl,.of_eq hg⟩;refine fS ((F _ hKb (Xb TZ)).run jM [] Sj H ⟨[.ref a],[]⟩ [.ref a] [.ref a] _ _ hr e0 (WK Sj (.ref a)) (.cons rfl .nil) (Uv H hO hS)) λr s' h=>?_;cases r with
  |error e=>exact(YO H e s' h).elim
  |ok fl =>
   cases fl with
   |next=>exact bj h
   |brk=>exact bj h
   |cont=>exact bj h
   |ret u =>
    let⟨v,H',os,bare,un,Yf,r',q⟩:=h;have q':=q;subst q';obtain rfl:u=Value.bool true:=r';refine⟨rfl,OldK.of_keep λb o e=>?_,os,bare⟩;cases q:H b with
    |none=>exact un.keep b o e q (λz=>absurd (show b∈([]:List ag) from z) (by simp)) (by simp)
    |some u =>
     obtain z|⟨ob,xs,z⟩:=hO b
     .grind
     .have z2:=un.ä b ob _ z;let⟨e1,_⟩:=Zl b _ z;let⟨e2,_⟩:=Yf b _ z2
      grind
 cases hk:K.lookup a with
 |some o =>
  have e:=KX a o hk;rw[ha] at e;cases e;refine WX (λ_=>Zb) (λ_=>.inl rfl) (.inr ⟨_,vs.toArray,_,hk,rfl,rfl,rfl,by rw[bi,X3];exact hl,by simpa using rv⟩) (λb u z=>by have z':=z;cases z') (λb z=>absurd rfl z) λz=>absurd rfl z
 |none =>
  refine WX (λb=>if b=a then Za (.Z5 { cls:=.type "list",data:=.seq vs.toArray } (.lst (ns.map V.int))) else Zb) (λb=>?_) (.inl (.inr ⟨{ cls:=.type "list",data:=.seq vs.toArray },Zc rfl⟩)) (λb u z=>?_) (λb z=>?_) λ_=>hk
  .grind
  .by_cases hb:b=a
   .have z':=(Zc hb).symm.trans z;cases z';subst hb;exact⟨ha,by rw[ac];exact hl,vs,_,rv,ha⟩
   .grind
  .grind
def oJ(s:bX)(j:Nat):bX:=match s with
 |.ClassDef _ _ _ body _ _ _ _ _ _ _=>body.getD j (.Pass ⟨0,0,0,0⟩)
 |_=>.Pass ⟨0,0,0,0⟩
def o8(s:bX):Arguments:=match s with
 |.FunctionDef _ a _ _ _ _ _ _ _ _=>a
 |_=>{ posonlyargs:=[],args:=[],vararg:=Zb,kwonlyargs:=[],kw_defaults:=[],kwarg:=Zb,defaults:=[] }
def oK(s:bX):List bX:=match s with
 |.FunctionDef _ _ b _ _ _ _ _ _ _=>b
 |_=>[]
def mJ(s:bX):gH:=match s with
 |.FunctionDef _ _ _ _ _ _ sc _ _ _=>sc
 |_=>{ kind:=.function,names:=[],isGenerator:=false,isCoroutine:=false }
abbrev E0:XK:=λ_ _ _=>False
structure ý(K:aa)(x qual:Str)(st:bX)(f:ag)(fd:cT):Prop where
 ex:∃(oc:ai)(od:Option ag)(kV Tq pm:ai)(an:Option ag)(Sc ct:ai)(Uz:Array (Option ai)),
  fd=bW x qual (o8 st) (oK st) (mJ st) .none kV Tq pm an Sc ct/\K.lookup f=Za ⟨oc,od,.func fd,Uz⟩/\gg K Sc qual=true
 kp:bU K (.ref f)=true
section
variable{K:aa}
def ý.binds{x qual}{st}{f}{fd}{ps}(F:ý K x qual st f fd)(h:∀(kV Tq pm:ai)(an:Option ag)(Sc ct:ai)(us:List ai),us.length=ps.length->gA (bW x qual (o8 st) (oK st) (mJ st) .none kV Tq pm an Sc ct) ⟨us,[]⟩=pure (ps.zip us)):Binds K fd ps []:=by
 let⟨oc,od,kV,Tq,pm,an,Sc,ct,Uz,rfl,lk,Tf⟩:=F.ex;exact .all (h kV Tq pm an Sc ct)
def MH{x qual}{st}{f}{oc}{od an}{Uz:Array (Option ai)}{kV Tq pm Sc ct}(l:K.lookup f=Za ⟨oc,od,.func (bW x qual (o8 st) (oK st) (mJ st) .none kV Tq pm an Sc ct),Uz⟩)(c:gg K Sc qual=true)(k:bU K (.ref f)=true):ý K x qual st f (bW x qual (o8 st) (oK st) (mJ st) .none kV Tq pm an Sc ct):=⟨⟨oc,od,kV,Tq,pm,an,Sc,ct,Uz,rfl,l,c⟩,k⟩
end
def o7(hr:Zw k A):A.units+1<fB:=aW (ms `g _) hr.units
section
variable{X:Cx}
def pv(i)(hN:X.N[i]?=Za x:=by rfl)(hv:Vis X.env.scope x:=by first|exact eL rfl|exact gR (eL rfl)|exact gR (gR rfl))(hd:Ĉ x:=by decide)(Tf:(x==("__classdict__":Str))=false:=by decide):PE X (.Name x pos) (J8 i):=EC hN hv hd Tf
def Di:ZY X (.builtin "len") (λxs H Q=>∃a R3,xs=[V.ref a]/\H a=Za (.dK R3)/\Q (.int R3.length) H):=by
 rintro R1 s O H xs us Q I r ⟨a,R3,rfl,ha,q⟩
 let⟨u,rfl,rfl⟩:=rF r;exact P7 I (.inl ha) λt s' I'=>⟨.int R3.length,H,I',⟨t,rfl⟩,q⟩
end
def Ou{A B:Prop}(h:B):if false=true then A else B:=by grind
def Ot{A B:Prop}(h:A):if true=true then A else B:=by grind
def wH{c A B:Prop}[Decidable c](h1:c->A)(h2:¬c->B):if c then A else B:=by grind
def ZT(H H':Hp):Prop:=∀b o,H b=Za o->H' b=Za o
def ZT.trans(a:ZT H H1)(b:ZT H1 H2):ZT H H2:=λc o h=>b c o (a c o h)
def ZT.free(e:ZT H H')(h:H' l=Option.none):H l=Option.none:=by
 cases q:H l with
 |none=>rfl
 |some o =>
  rw[e l o q] at h;cases h
def ZT.seq{K}{H H'}{a}{xs}(e:ZT H H')(h:ZU K H a xs):ZU K H' a xs:=by
 rcases h with(h|⟨o,h⟩)|h
 .exact .inl (.inl (e _ _ h))
 .exact .inl (.inr ⟨o,e _ _ h⟩)
 .exact .inr h
section
variable{κ:Type}[DecidableEq κ]
def Ab:∀{l:List κ}{k:κ},l.Nodup->¬k∈l->(l++[k]).Nodup
 |[],k,_,_=>by simp
 |a::r,k,h,hk=>by
  let⟨h1,h2⟩:=aK.mp h
  grind
end
def ff:(bO==bO)=true:=rfl
def rM(cells:List (Str×ag)):List (Str×iG)->List (Str×ag)->List (Str×ag)
 |[],cs=>cs
 |(n,k)::r,cs=>rM cells r (if k==.free then(n,(cells.lookup n).getD 0)::cs else cs)
theorem yF(env:Env):∀(names:List (Str×iG))(cs:List (Str×ag)),(∀y∈names,y.2=.free->∃c,env.cells.lookup y.1=Za c) ->
  (forIn names cs λ(x:Str×iG)(r:List (Str×ag))=>match x with
   |(name,kind)=>if(kind==.free)=true then(do let c <-cellOf env name;pure (eO ((name,c)::r))) else pure (eO r):Sem (List (Str×ag)))=pure (rM env.cells names cs)
 |[],cs,_=>rfl
 |(n,k)::r,cs,h=>by
  rw[List.forIn_cons];by_cases hk:k=.free
  .subst hk;let⟨c,hc⟩:=h (n,.free) al rfl;have hc:=hc;have ih:=yF env r ((n,c)::cs) λy hy=>h y (af _ hy);have e1:rM env.cells ((n,bO)::r) cs=rM env.cells r ((n,c)::cs):=by
    show rM env.cells r (if(bO==bO)=true then(n,(env.cells.lookup n).getD 0)::cs else cs)=_
    simp_all
   rw[e1,<-ih];have e2:cellOf env n=pure c:=by unfold cellOf;rw[hc]
   simp_all
  .have hb:(k==bO)=false:=by simpa using hk
   have ih:=yF env r cs λy hy=>h y (af _ hy);have e1:rM env.cells ((n,k)::r) cs=rM env.cells r cs:=by
    show rM env.cells r (if(k==bO)=true then(n,(env.cells.lookup n).getD 0)::cs else cs)=_
    simp_all
   simp_all
def qw(h:∀y∈scope.names,y.2=.free->∃c,env.cells.lookup y.1=Za c):closureFor scope env=pure (rM env.cells scope.names []):=by have e:=yF env scope.names [] h;refine Eq.trans ?_ (congrArg (λm:Sem (List (Str×ag))=>m >>= pure) e);rfl
theorem FW:∀(names:List (Str×iG))(cs:List (Str×ag)),(∀z∈names,z.2=.free->∃c,cells.lookup z.1=Za c)->(∀z d,cs.lookup z=Za d->cells.lookup z=Za d) ->
  (rM cells names cs).lookup y=Za c->cells.lookup y=Za c
 |[],cs,_,WJ,h=>WJ y c h
 |(n,k)::r,cs,hf,WJ,h=>by
  refine FW r _ (λz hz=>hf z (af _ hz)) ?_ h;by_cases hk:k=.free
  .subst hk;let⟨d,hd⟩:=hf (n,.free) al rfl
   grind
  .grind
theorem AH:∀(names:List (Str×iG))(cs:List (Str×ag)),(cs.lookup y).isSome=true->((rM cells names cs).lookup y).isSome=true
 |[],cs,h=>h
 |(n,k)::r,cs,h=>by
  refine AH r _ ?_;by_cases hk:(k==bO)=true
  .rw[Zc hk,cx];cases z:(y==n)
   .exact h
   .rfl
  .rw[Zd hk];exact h
theorem Dh:∀(names:List (Str×iG))(cs:List (Str×ag)),(y,bO)∈names->((rM cells names cs).lookup y).isSome=true
 |(n,k)::r,cs,h=>by
  obtain e|e:=ap.mp h
  .cases e;refine AH r _ ?_;rw[Zc ff,cx];simp
  .exact Dh r _ e
def ą(X:Cx)(scope:gH)(cl:List (Str×ag))(C:ag)(Nb:List Str)(R4:aw)(R9:Hp)(fp:List ag):Cx where
 prog:=X.prog
 w:=X.w
 K:=X.K
 mg:=X.mg
 base:=X.base
 A:=X.A
 N:=Nb
 Ç:=R4
 Ha0:=R9
 env:=compEnvC scope cl C X.env
 outer:=X.stack
 stack:=X.stack
 ex:=fp
 fn:=λ_=>false
 calm:=true
 pn:=[]
 xe:=λ_ _=>False
structure Ã(N:List Str)(WS:gH)(scope:gH)(x:Str)(fr:List Str)(ix:List Nat):Prop where
 kind:scope.kind=.function
 cell:∀y∈scope.names,y.2≠.cell
 loc:scope.names.lookup x=Za .local
 nm:∀y∈scope.names,y.2=.local->scope.names.lookup y.1=Za .local
 free:∀y∈scope.names,y.2=.free->WS.names.lookup y.1=Za .cell
 nd:(x::fr).Nodup
 idx:∀p∈fr.zip ix,N[p.2]?=Za p.1
 Ý:∀y∈fr,scope.names.lookup y=Za .free/\WS.names.lookup y=Za .cell
 len:ix.length=fr.length
def cok{N:List Str}{e c:gH}{x:Str}{fr:List Str}{ix:List Nat}(h1:c.kind=.function:=by rfl)(h2:∀y∈c.names,y.2≠.cell:=by decide +kernel)(h3:c.names.lookup x=Za .local:=by rfl)(h4:∀y∈c.names,y.2=.local->c.names.lookup y.1=Za .local:=by decide +kernel)(h5:∀y∈c.names,y.2=.free->e.names.lookup y.1=Za .cell:=by decide +kernel)(h6:(x::fr).Nodup:=by decide +kernel)(h7:∀p∈fr.zip ix,N[p.2]?=Za p.1:=by decide +kernel)(h8:∀y∈fr,c.names.lookup y=Za .free/\e.names.lookup y=Za .cell:=by decide +kernel)(h9:ix.length=fr.length:=by rfl):Ã N e c x fr ix:=⟨h1,h2,h3,h4,h5,h6,h7,h8,h9⟩
def Kb{X:Cx}{N ps:List Str}{e c:gH}{x:Str}{fr:List Str}{ix:List Nat}(S:K' N ps e)(h0:X.N=N:=by rfl)(WP:X.env.scope=e:=by rfl)(h1:c.kind=.function:=by rfl)(h2:∀y∈c.names,y.2≠.cell:=by decide +kernel)(h3:c.names.lookup x=Za .local:=by rfl)(h4:∀y∈c.names,y.2=.local->c.names.lookup y.1=Za .local:=by decide +kernel)(h5:∀y∈c.names,y.2=.free->e.names.lookup y.1=Za .cell:=by decide +kernel)(h6:(x::fr).Nodup:=by decide +kernel)(h7:∀p∈fr.zip ix,N[p.2]?=Za p.1:=by decide +kernel)(h8:∀y∈fr,c.names.lookup y=Za .free/\e.names.lookup y=Za .cell:=by decide +kernel)(h9:ix.length=fr.length:=by rfl):Ã X.N X.env.scope c x fr ix:=by rw[h0,WP];exact⟨h1,h2,h3,h4,h5,h6,h7,h8,h9⟩
def É(ix:List Nat)(O:St):St:=ix.map λi=>(O[i]?).getD Zb
def Hj(X:Cx)(Sr:List cA)(t:TT):Prop :=
 ∀(R1:List (ag×Obj))(s:aw)(O:St)(H:Hp)(Q:Bool->Hp->Prop),Inv X R1 O H s->t O H Q ->
  aM (model X.prog X.w) X.A (forIn Sr true λc r=>if r=true then do let ok <-isTrue c X.env (eval c X.env);pure (eO ok) else pure (eO r)) (TP X R1 O Q) X.xe s
def Ám:TT:=λ_ H Q=>Q true H
def A8:Hj X [] Ám:=λR1 s O H Q I h=>aE ⟨H,I,h⟩
def KH(h:PT X c t):Hj X [c] t:=by intro R1 s O H Q I hq;rw[List.forIn_cons];apply ae;refine ae (Zx (h R1 s O H Q I hq) λb s1 h1=>aE ?_);show aM _ _ (forIn [] b _) _ _ _;exact aE h1
def ĳ(J:It)(tc:TT)(te:TE)(cap:St)(D:ag)(H1:Hp)(Q:VK):Prop :=
 ∃Pv:Nat->Nat->List V->Hp->Prop,(∃m,Pv 0 m [] (upd H1 D (.lst [])))/\∀i m ys H2,Pv i m ys H2 ->
  (J.stop i H2/\H2 D=Za (.lst ys)/\Q (.ref D) H2)\/(J.go i H2/\∀x H3,J.yld i H2 x H3->tc (Za x::cap) H3 λb H4=>if b=true then
   te (Za x::cap) H4 λv H5=>H5 D=Za (.lst ys)/\ys.length<aF/\∃m',m'<m/\Pv (i+1) m' (ys++[v]) (upd H5 D (.lst (ys++[v])))
   else ∃m',m'<m/\Pv (i+1) m' ys H4)
def JY(wi:TI)(ix:List Nat)(tc:TT)(te:TE):TE:=λO H Q=>wi O H λJ H1=>∀D,H1 D=Zb->ĳ J tc te (É ix O) D H1 Q
theorem qQ{env:Env}(hk:env.scope.kind=.function):∀{names:List (Str×iG)}{y:Str},names.lookup y=Za .free->env.scope.names.lookup y=Za .cell ->
  (names.map λ(n,k)=>if(k==bO&&env.scope.kind==.function&&env.kindOf n==Za .cell) then(n,iF) else(n,k)).lookup y=Za .cell
 |[],_,h,_=>by simp at h
 |(n,k)::r,y,h,hc=>by
  have ih:=@qQ env hk r y;show gL y ((if(k==bO&&env.scope.kind==.function&&env.kindOf n==Za .cell)=true then(n,iF) else(n,k))::_)=_;cases hx:y==n with
  |true =>
   simp[cx,hx] at h;have e:y=n:=by simpa using hx
   have e2:env.kindOf y=Za .cell:=hc
   simp_all
  |false =>
   simp[cx,hx] at h;split
   .simp only[cx,hx];exact ih h hc
   .simp only[cx,hx];exact ih h hc
def LN{ix:List Nat}{O:St}{k:Nat}{v:V}(h:(É ix O)[k]?=Za (Za v)):∃i,ix[k]?=Za i/\O[i]?=Za (Za v):=by
 unfold É at h;rw[aG] at h;cases e:ix[k]? with
 |none=>rw[e] at h;cases h
 |some i =>
  rw[e] at h;refine⟨i,rfl,?_⟩;have h2:(O[i]?).getD Zb=Za v:=bL h;cases q:O[i]? with
  |none=>rw[q] at h2;cases h2
  |some o=>rw[q] at h2;exact congrArg Za h2
def Qe(X:Cx)(R1:List (ag×Obj))(C:ag):Prop:=C≠X.env.locals/\X.Ç.heap.objs.size<=C/\(∀y c,X.env.cells.lookup y=Za c->c≠C)/\∀p∈X.pn++R1,p.1≠C
def He(I:Nat->aw->Prop)(TC:∀n s,I n s->aM (model prog w) A (pyNext it) (λr Sj=>match r with
   |none=>R (.ok .next) Sj
   |some v=>aM (model prog w) A (kD To it v) (λ_ Ç=>aM (model prog w) A (assign To env v) (λ_ TH =>
     aM (model prog w) A (forIn Sr true λc r=>if r=true then do let ok <-isTrue c env (eval c env);pure (eO ok) else pure (eO r)) (λok R4 =>
      if ok=true then aM (model prog w) A (eval elt env) (λx VC =>
       aM (model prog w) A (call (.builtin "list.append") [Sl,x]) (λ_ sa5=>∃m,m<n/\I m sa5) (kL (model prog w) A env λe s'=>R (.error e) s') VC) (kL (model prog w) A env λe s'=>R (.error e) s') R4
      else ∃m,m<n/\I m R4) (kL (model prog w) A env λe s'=>R (.error e) s') TH) (kL (model prog w) A env λe s'=>R (.error e) s') Ç) (kL (model prog w) A env λe s'=>R (.error e) s') Sj) (kL (model prog w) A env λe s'=>R (.error e) s') s)(n:Nat)(h:I n s) :
  eX (model prog w) A (.compLoop (.ListComp elt [⟨To,iter,Sr,0⟩] scope pos) 0 it Sl env) R s:=by
 refine codeAny_loop rfl I (λn s hI=>?_) n h;apply wpAny_noted;rw[compTurn_list];refine ae (eE (ae (aZ (TC n s hI) (λr Sj WO=>?_) λ_ _ h'=>h')));cases r with
 |none=>exact aE WO
 |some v =>
  refine ae (aZ WO (λ_ Ç h₀=>?_) λ_ _ h'=>h');refine ae (aZ h₀ (λ_ TH Wz=>ae (aZ Wz (λok R4 VQ=>?_) λ_ _ h'=>h')) λ_ _ h'=>h');cases ok with
  |false=>exact aE ⟨rfl,VQ⟩
  |true =>
   exact ae (ae (aZ VQ (λx VC ha4=>ae (aZ ha4 (λ_ sa5 hb5=>aE (aE ⟨rfl,hb5⟩)) λ_ _ h'=>h')) λ_ _ h'=>h'))
structure ĉ(N:List Str)(WS:gH)(scope:gH)(xs fr:List Str)(ix:List Nat):Prop where
 kind:scope.kind=.function
 cell:∀y∈scope.names,y.2≠.cell
 nm:∀y∈scope.names,y.2=.local->scope.names.lookup y.1=Za .local
 free:∀y∈scope.names,y.2=.free->WS.names.lookup y.1=Za .cell
 nd:(xs++fr).Nodup
 idx:∀p∈fr.zip ix,N[p.2]?=Za p.1
 Ý:∀y∈fr,scope.names.lookup y=Za .free/\WS.names.lookup y=Za .cell
 len:ix.length=fr.length
def Âv{X:Cx}{N ps:List Str}{e c:gH}{xs fr:List Str}{ix:List Nat}(S:K' N ps e)(h0:X.N=N:=by rfl)(WP:X.env.scope=e:=by rfl)(h1:c.kind=.function:=by rfl)(h2:∀y∈c.names,y.2≠.cell:=by decide +kernel)(h4:∀y∈c.names,y.2=.local->c.names.lookup y.1=Za .local:=by decide +kernel)(h5:∀y∈c.names,y.2=.free->e.names.lookup y.1=Za .cell:=by decide +kernel)(h6:(xs++fr).Nodup:=by decide +kernel)(h7:∀p∈fr.zip ix,N[p.2]?=Za p.1:=by decide +kernel)(h8:∀y∈fr,c.names.lookup y=Za .free/\e.names.lookup y=Za .cell:=by decide +kernel)(h9:ix.length=fr.length:=by rfl):ĉ X.N X.env.scope c xs fr ix:=by rw[h0,WP];exact⟨h1,h2,h4,h5,h6,h7,h8,h9⟩
def EX(J:It)(gt:TG)(k:Nat)(tc:TT)(te:TE)(cap:St)(D:ag)(H1:Hp)(Q:VK):Prop :=
 ∃Pv:Nat->Nat->List V->St->Hp->Prop,(∃m,Pv 0 m [] (aQ k Zb++cap) (upd H1 D (.lst [])))/\∀i m ys Ĵ H2,Pv i m ys Ĵ H2 ->
  (J.stop i H2/\H2 D=Za (.lst ys)/\Q (.ref D) H2)\/(J.go i H2/\∀x H3,J.yld i H2 x H3->gt x Ĵ H3 λŖ H3'=>tc Ŗ H3' λb H4=>if b=true then
   te Ŗ H4 λv H5=>H5 D=Za (.lst ys)/\ys.length<aF/\∃m',m'<m/\Pv (i+1) m' (ys++[v]) Ŗ (upd H5 D (.lst (ys++[v])))
   else ∃m',m'<m/\Pv (i+1) m' ys Ŗ H4)
def Hm(wi:TI)(ix:List Nat)(gt:TG)(k:Nat)(tc:TT)(te:TE):TE:=λO H Q=>wi O H λJ H1=>∀D,H1 D=Zb->EX J gt k tc te (É ix O) D H1 Q
def wO{PR:ai->ag->k9->aw->Prop}{R1:List (ag×Obj)}{O:St}{H2:Hp}{s2:aw}{it:ag}{fp:List ag}{tn:Nat->cg->Prop}{J:It}{Q:VK}(hc:X.calm=true)(S:ĉ X.N X.env.scope scope xs fr ix)(hg:∀cl C R4 R9 fp,PG (ą X scope cl C (xs++fr) R4 R9 fp) tg gt)(ht:∀cl C R4 R9 fp,Hj (ą X scope cl C (xs++fr) R4 R9 fp) Sr tc)(he:∀cl C R4 R9 fp,PE (ą X scope cl C (xs++fr) R4 R9 fp) elt te)(Sb:∀y∈scope.names,y.2=.free->∃c,X.env.cells.lookup y.1=Za c)(I2:Inv X R1 O H2 s2)(T:Turn X.prog X.w X.K tg J fp it tn)(Td:tn 0 s2.heap)(f2:∀b∈fp,AO X R1 H2 b)(q2:∀D,H2 D=Zb->EX J gt xs.length tc te (É ix O) D H2 Q)(Vo:∀D C H' s',Inv X R1 O H' s'->H' C=Zb->Qe X R1 C->(∃m,s'.heap.Ns C m)->Q (.ref D) H'->PR (.ref D) C (.ok .next) s') :
  aM (model X.prog X.w) X.A (newList []) (λSl R4=>aM (model X.prog X.w) X.A (newFunctionEnv scope X.env.globals (rM X.env.cells scope.names []) [] X.env.qual Zb .none (Za X.env)) (λUu VC =>
   eX (model X.prog X.w) X.A (.compStart (.ListComp elt [⟨tg,iter,Sr,0⟩] scope pos) 0 (.ref it) Sl { Uu with scope:=relabel scope X.env }) (PR Sl Uu.locals) VC) X.xe R4) X.xe s2:=by
 refine dH ?_;have hD:H2 s2.heap.objs.size=none:=I2.Zl.fresh (ak _);have I3:Inv X R1 O (upd H2 s2.heap.objs.size (.lst [])) { s2 with heap:=s2.heap.push { cls:=.type "list",dict:=Zb,data:=.seq ([]:List ai).toArray } } :=
  I2.À8 (its:=[]) (t':=s2.toks) (.nil) (aV _)
 let⟨Pv,⟨m0,p0⟩,TC⟩:=q2 s2.heap.objs.size hD;generalize hD':s2.heap.objs.size=D at *;generalize hs3:({ s2 with heap:=s2.heap.push { cls:=.type "list",dict:=Zb,data:=.seq ([]:List ai).toArray } }:aw)=s3 at *;have Wu:∀b o,s2.heap.get? b=Za o->s3.heap.get? b=Za o:=λb o e=>by rw[<-hs3];exact aj _ e
 have hH3:∀b,b≠D->(upd H2 D (.lst [])) b=H2 b:=λb hb=>mF hb;have f3:∀b∈fp,AO X R1 (upd H2 D (.lst [])) b/\b<s3.heap.objs.size:=λb hb=>by let⟨o,e,_⟩:=T.obj _ _ Td b hb;have Sd:=au e;refine⟨⟨?_,(f2 b hb).2⟩,au (Wu b o e)⟩;rw[hH3 b (by rw[<-hD'];exact az Sd)];exact(f2 b hb).1
 have V0:tn 0 s3.heap:=T.keep _ _ _ Td λb hb o e=>Wu b o e;refine wpAny_newFunctionEnv S.cell (by intro y hy;simp at hy) (λh4 Yi Yd=>?_) S.kind;generalize hC:s3.heap.objs.size=C at *;let X':Cx:=ą X scope (rM X.env.cells scope.names []) C (xs++fr) s3 (upd H2 D (.lst [])) fp;have TM:∀y c,(rM X.env.cells scope.names []).lookup y=Za c->X.env.cells.lookup y=Za c:=λy c e=>FW scope.names [] Sb (λz d hz=>by simp at hz) e;have Ut:∀y,(y,bO)∈scope.names->∃c,(rM X.env.cells scope.names []).lookup y=Za c:=λy hy=>eQ.mp (Dh scope.names [] hy);have VG:∀b o,s3.heap.get? b=Za o->h4.get? b=Za o:=λb o e=>Yd.extBut b o (by rw[<-hC];exact az (au e)) (aj _ e);have TR:∀(l:List (Str×iG)) y k,(l.map λ(n,k)=>if(k==bO&&X.env.scope.kind==.function&&X.env.kindOf n==Za .cell) then(n,iF) else(n,k)).lookup y=Za k->(k=.cell\/k=.free) ->
   (∀z∈l,z.2≠.cell)->(y,bO)∈l:=by
  intro l;induction l with
  |nil=>intro y k e _ _;simp at e
  |cons z r ih =>
   intro y k e hk hn;let⟨n,kz⟩:=z;rw[am] at e;by_cases hy:y=n
   .grind
   .have hb:(y==n)=false:=by simpa using hy
    refine af _ (ih y k ?_ hk λz hz=>hn z (af _ hz));have e:gL y ((if(kz==bO&&X.env.scope.kind==.function&&X.env.kindOf n==Za .cell)=true then(n,iF) else(n,kz))::_)=Za k:=e;by_cases hq:(kz==bO&&X.env.scope.kind==.function&&X.env.kindOf n==Za .cell)=true
    .rw[Zc hq,cx] at e;simp only[hb] at e;exact e
    .rw[Zd hq,cx] at e;simp only[hb] at e;exact e
 have ok':X'.Ok:=by
  refine⟨I3.ok.mod,S.kind,I3.ok.glob,I3.ok.blt,?_,λy z c e1 e2=>I3.ok.inj y z c (TM y c e1) (TM z c e2),λy hy=>?_,λy c e _=>(by cases e),λ_=>I3.ok.hd hc,I3.ok.frames,.inl rfl,λb hb=>⟨?_,λy c e=>(f3 b hb).1.2.2.2.2.1 y c (TM y c e)⟩,I3.bs,aC I3.ok.bsz I3.sz,λb o e hb=>?_,λb hb z=>?_,I3.stack,I3.ĺ⟩
  .show s3.heap.objs.size<=C;rw[hC];exact ak _
  .obtain hy|hy:=hy
   .exact Ut y (TR scope.names y _ hy (.inl rfl) S.cell)
   .exact Ut y (TR scope.names y _ hy (.inr rfl) S.cell)
  .exact az (f3 b hb).2
  .rcases(f3 b hb).1.2.2.2.1 with z|z
   .exact I3.ok.ê b o e z
   .exact absurd (aA (au e) (aC I3.ok.bsz z)) (eZ _)
  .obtain z|z:=ap.mp (I3.Ű b z)
   .exact(f3 b hb).1.2.1 z
   .exact(f3 b hb).1.2.2.1 z
 have UM:∀{h':cg}{m:Str->Option ai},(∀b o,s3.heap.get? b=Za o->(∃v,o.data=.cell v)->h'.get? b=Za o)->∀(k:Nat)(y:Str)(v:V),fr[k]?=Za y->(É ix O)[k]?=Za (Za v)->∃u,RelV v u/\Look X'.env h' m y u:=by
  intro h' m hkc k y v hy hv;let⟨i,hix,hσ⟩:=LN hv;have X8:(y,i)∈fr.zip ix:=by apply dA (i:=k);rw[List.getElem?_zip_eq_some];exact⟨hy,hix⟩
  have hN:X.N[i]?=Za y:=S.idx (y,i) X8;let⟨hfr,SX⟩:=S.Ý y (dA hy);let⟨m3,hn3,hl3⟩:=I3.loc;let⟨u,ru,l⟩:=hl3 i y v hN hσ (.inr (.inl SX));refine⟨u,ru,?_⟩;rcases l with⟨kd,_⟩|⟨_,c,ec,ic⟩
  .have kd:X.env.scope.names.lookup y=Za .local:=kd;rw[SX] at kd;cases kd
  .refine .inr ⟨.inl (qQ I3.ok.kind hfr SX),c,?_,?_⟩
   .let⟨c',e'⟩:=Ut y (dF hfr);have:=TM y c' e';rw[ec] at this;cases this;exact e'
   .let⟨o,ho,hd⟩:=ic;exact⟨o,hkc c o ho ⟨_,hd⟩,hd⟩
 have hNd:X'.N.Nodup:=S.nd;have X2:(aQ xs.length Zb++É ix O).length=X'.N.length:=by show _=(xs++fr).length;unfold É;rw[aY,aY,d8,ac,S.len]
 have I4:Inv X' [] (aQ xs.length Zb++É ix O) (upd H2 D (.lst [])) { s3 with heap:=h4,toks:=s3.toks+([]:List (Str×ai)).length }:=by
  refine⟨ok',rfl,I3.bare,Un.kept VG,⟨_,Yi,λk y v e1 e2 e3=>?_⟩,λy c e=>?_,?_,λy c e=>I3.Ð y c (TM y c e),λp hp=>?_,I3.Zl.kept VG,X2⟩
  .have e1:(xs++fr)[k]?=Za y:=e1;by_cases hk:k<xs.length
   .rw[du (by rw[d8];exact hk),gU,Zc hk] at e2;cases e2
   .have hk:xs.length<=k:=eP hk;rw[di hk] at e1;rw[di (by rw[d8];exact hk),d8] at e2;exact UM (λb o e _=>VG b o e) (k-xs.length) y v e1 e2
  .let⟨v,o,ho,hd⟩:=I3.cell y c (TM y c e);exact⟨v,o,VG c o ho,hd⟩
  .exact I3.Zl.fresh (by show s3.heap.objs.size<=C;rw[hC];exact ak _)
  .exact absurd (show p∈([]:List (ag×Obj)) from hp) (by simp)
 have TD:∀{H':Hp}{b:ag},b∈fp->H' b=Zb->AO X' [] H' b:=λ{H' b} hb hn=>by
  refine⟨hn,?_,?_,.inl hb,λy c e=>(f3 b hb).1.2.2.2.2.1 y c (TM y c e),λp hp=>absurd (show p∈([]:List (ag×Obj)) from hp) (by simp)⟩
  .exact az (f3 b hb).2
  .intro z;obtain z|z:=ap.mp (I3.Ű b z)
   .exact(f3 b hb).1.2.1 z
   .exact(f3 b hb).1.2.2.1 z
 have Ud:∀b∈fp,(b∈X.ex\/X.Ç.heap.objs.size<=b)/\b≠X.env.locals/\(∀y c,X.env.cells.lookup y=Za c->c≠b)/\∀p∈X.pn++R1,p.1≠b:=λb hb =>
  ⟨(f3 b hb).1.2.2.2.1,(f3 b hb).1.2.1,(f3 b hb).1.2.2.2.2.1,(f3 b hb).1.2.2.2.2.2⟩
 have Sq:∀{ZG:St}{H':Hp}{s':aw},Inv X' [] ZG H' s'->Q (.ref D) H'->PR (.ref D) C (.ok .next) s':=λ{ZG H' s'} I' q'=>by
  let⟨m',Tk,_⟩:=I'.loc;have J:=I3.ÀU (s':=s') (ch:=fp) I'.os I'.base I'.Zl I'.bare Ud;refine Vo D C H' s' J I'.free ⟨?_,?_,λy c e=>?_,λp hp=>?_⟩ ⟨m',Tk⟩ q'
  .rw[<-hC];exact fH I3.lt
  .rw[<-hC];exact I3.sz
  .let⟨v,z⟩:=I3.cell y c e;rw[<-hC];exact az z.lt
  .rw[<-hC];exact az (au (I3.pin p hp).1)
 have loop:eX (model X.prog X.w) X.A (.compLoop (.ListComp elt [⟨tg,iter,Sr,0⟩] scope pos) 0 (.ref it) (.ref D) X'.env) (PR (.ref D) C) { s3 with heap:=h4,toks:=s3.toks+([]:List (Str×ai)).length }:=by
  refine He (λn s'=>∃i ys σ5 H',Inv X' [] σ5 H' s'/\tn i s'.heap/\(∀b∈fp,H' b=Zb)/\Pv i n ys σ5 H') ?_ m0 ⟨0,[],_,_,I4,T.keep _ _ _ V0 λb hb o e=>VG b o e,λb hb=>(f3 b hb).1.1,p0⟩
  rintro n s5 ⟨i,ys,σ5,H5,I5,st5,fr5,p5⟩
  rcases TC i n ys σ5 H5 p5 with⟨stop,hd5,qn⟩|⟨go,step⟩
  .refine aZ (T.done X' rfl rfl rfl rfl i [] s5 _ H5 (λ_ _=>False) I5 (λb hb=>TD hb (fr5 b hb)) st5 stop) (λr s6 ⟨hr,I6⟩=>?_) λ_ _ z=>bj z;subst hr;exact Sq I6 qn
  .refine aZ (T.item X' rfl rfl rfl rfl i [] s5 _ H5 (λ_ _=>False) I5 (λb hb=>TD hb (fr5 b hb)) st5 go) (λr s6 ⟨u,hr,h6⟩=>?_) λ_ _ z=>bj z;subst hr;dsimp only;refine aZ h6 (λ_ s6' h6'=>?_) λ_ _ z=>bj z;let⟨xv,H6,I6,r6,y6,XI,fr6⟩:=h6';have I6':=I6.pinned (λb hb=>TD hb (fr6 b hb)) (T.obj _ _ XI);refine aZ (hg _ _ _ _ _ _ s6' _ H6 xv u _ I6' r6 (step xv H6 y6)) (λ_ s7 h7=>?_) λ_ _ z=>bj z;let⟨Ϸ,H7,I7,q7⟩:=h7;refine aZ (ht _ _ _ _ _ _ s7 _ H7 _ I7 q7) (λb s8=>e3 λH8 I8 q8=>?_) λ_ _ z=>bj z;have back:∀{H9:Hp}{s9:aw}{VW:List V},Inv X' ([]++BM fp s6'.heap) Ϸ H9 s9->(∃m',m'<n/\Pv (i+1) m' VW Ϸ H9) ->
     ∃m,m<n/\∃i ys σ5 H',Inv X' [] σ5 H' s9/\tn i s9.heap/\(∀b∈fp,H' b=Zb)/\Pv i m ys σ5 H':=λ{H9 s9 VW} I9 h9=>by
    let⟨m',hm,p9⟩:=h9;refine⟨m',hm,i+1,VW,_,H9,I9.Ĝ,T.keep _ _ _ XI λb hb o e=>(I9.pin (b,o) (aL _ (aL _ (ut hb e)))).1,λb hb=>?_,p9⟩;let⟨o,e,d⟩:=T.obj _ _ XI b hb;exact(I9.pin (b,o) (aL _ (aL _ (ut hb e)))).2.1
   cases b with
   |false =>
    rw[Zd bG] at q8 ⊢;exact back I8 q8
   |true =>
    rw[Zc rfl] at q8 ⊢;refine aZ (he _ _ _ _ _ _ s8 _ H8 _ I8 q8) (λw9 s9=>e4 λv9 H9 I9 r9 ⟨hd9,hz9,q9⟩=>?_) λ_ _ z=>bj z;refine aZ (CW (X:=X') _ s9 _ H9 (.ref D) [v9] (.ref D) [w9] (λ_ H'=>H'=upd H9 D (.lst (ys++[v9]))) I9 rfl (.cons r9 .nil) ⟨D,ys,v9,rfl,rfl,hd9,hz9,rfl⟩) (λ_ W3 h10=>?_) λ_ _ z=>bj z;let⟨_,H10,UN,_,rfl⟩:=h10;exact back UN q9
 exact codeAny_compStart_list loop (T.self _ 0 _ _ _ (T.keep _ _ _ V0 λb hb o e=>VG b o e) loop)
theorem ĳ.g(h:ĳ J tc te cap D H1 Q):EX J (Ha 0) 1 tc te cap D H1 Q:=by
 let⟨Pv,⟨m,p⟩,h⟩:=h;refine⟨λi m ys Ĵ H2=>Pv i m ys H2/\∃o,Ĵ=o::cap,⟨m,p,Zb,rfl⟩,λi m ys Ĵ H2 ⟨p,o,e⟩=>?_⟩;subst e;refine(h i m ys H2 p).imp id λ⟨g,h⟩=>⟨g,λx H3 y=>?_⟩;show tc (Za x::cap) H3 _
 simp_all
def De{PR:ai->ag->k9->aw->Prop}{R1:List (ag×Obj)}{O:St}{H2:Hp}{s2:aw}{it:ag}{fp:List ag}{tn:Nat->cg->Prop}{J:It}{Q:VK}(hc:X.calm=true)(S:Ã X.N X.env.scope scope x fr ix)(ht:∀cl C R4 R9 fp,Hj (ą X scope cl C (x::fr) R4 R9 fp) Sr tc)(he:∀cl C R4 R9 fp,PE (ą X scope cl C (x::fr) R4 R9 fp) elt te)(Sb:∀y∈scope.names,y.2=.free->∃c,X.env.cells.lookup y.1=Za c)(I2:Inv X R1 O H2 s2)(T:Turn X.prog X.w X.K (.Name x px) J fp it tn)(Td:tn 0 s2.heap)(f2:∀b∈fp,AO X R1 H2 b)(q2:∀D,H2 D=Zb->ĳ J tc te (É ix O) D H2 Q)(Vo:∀D C H' s',Inv X R1 O H' s'->H' C=Zb->Qe X R1 C->(∃m,s'.heap.Ns C m)->Q (.ref D) H'->PR (.ref D) C (.ok .next) s') :
  aM (model X.prog X.w) X.A (newList []) (λSl R4=>aM (model X.prog X.w) X.A (newFunctionEnv scope X.env.globals (rM X.env.cells scope.names []) [] X.env.qual Zb .none (Za X.env)) (λUu VC =>
   eX (model X.prog X.w) X.A (.compStart (.ListComp elt [⟨.Name x px,iter,Sr,0⟩] scope pos) 0 (.ref it) Sl { Uu with scope:=relabel scope X.env }) (PR Sl Uu.locals) VC) X.xe R4) X.xe s2 :=
 wO (xs:=[x]) hc ⟨S.kind,S.cell,S.nm,S.free,S.nd,S.idx,S.Ý,S.len⟩ (λcl C R4 R9 fp=>HY S.nd rfl (.inl (dI S.loc)) (.inr (dI S.loc))) ht he Sb I2 T Td f2 (λD hD=>(q2 D hD).g) Vo
def v6(hc:X.calm=true)(S:Ã X.N X.env.scope scope x fr ix)(hi:PI X (.Name x px) iter wi)(ht:∀cl C R4 R9 fp,Hj (ą X scope cl C (x::fr) R4 R9 fp) Sr tc)(he:∀cl C R4 R9 fp,PE (ą X scope cl C (x::fr) R4 R9 fp) elt te)(hs:∀v,a6 iter X.env v=pure v:=by intro _;rfl):PE X (.ListComp elt [⟨.Name x px,iter,Sr,0⟩] scope pos) (JY wi ix tc te):=by
 intro R1 s O H Q I h;have Sb:∀y∈scope.names,y.2=.free->∃c,X.env.cells.lookup y.1=Za c:=λy hy hf=>I.ok.has y.1 (.inl (S.free y hy hf));refine fA rfl hs (qw Sb) S.kind S.nm (Zx (hi R1 s O H _ I h) λv s1 h1=>Zx h1 λVH s2 h2=>?_);let⟨it,fp,tn,J,H2,rfl,I2,T,Td,f2,q2⟩:=h2;refine De hc S ht he Sb I2 T Td f2 q2 λD C H' s' I' Vv ⟨b1,b2,b3,b4⟩ TZ q'=>?_;let⟨m',Tk⟩:=TZ;refine⟨m',Tk,λh' Vc=>⟨.ref D,H',?_,rfl,q'⟩⟩;exact I'.turned (λb o hb e=>Vc.extBut b o hb e) Vv b1 (.inr b2) b3 b4
def wD(hN:X.N.Nodup)(UJ:X.N[i]?=Za y)(Um:X.env.scope.names.lookup y=Za .local)(hc:X.calm=true)(S:Ã X.N X.env.scope scope x fr ix)(hi:PI X (.Name x px) iter wi)(ht:∀cl C R4 R9 fp,Hj (ą X scope cl C (x::fr) R4 R9 fp) Sr tc)(he:∀cl C R4 R9 fp,PE (ą X scope cl C (x::fr) R4 R9 fp) elt te)(Uk:cO (.ListComp elt [⟨.Name x px,iter,Sr,0⟩] scope pos) (Za (.Name y py)) ń.line X.env=pure true:=by rfl)(hs:∀v,a6 iter X.env v=pure v:=by intro _;rfl):PS X (.Assign [.Name y py] (.ListComp elt [⟨.Name x px,iter,Sr,0⟩] scope pos) ń) (Ps (JY wi ix tc te) (Ha i)):=by
 intro R1 s O H D0 I h;have Sb:∀y∈scope.names,y.2=.free->∃c,X.env.cells.lookup y.1=Za c:=λy hy hf=>I.ok.has y.1 (.inl (S.free y hy hf));rw[exec_Assign_Name_used _ _ _ _ Uk];refine ae (eE (ae ?_));refine ae (aZ (fA rfl hs (qw Sb) S.kind S.nm
  (Zx (hi R1 s O H _ I h) λv s1 h1=>Zx h1 λVH s2 h2=>?_)) (λ_ s' hq=>aE (aE hq)) λ_ _ e=>e)
 let⟨it,fp,tn,J,H2,rfl,I2,T,Td,f2,q2⟩:=h2;refine De hc S ht he Sb I2 T Td f2 q2 λD C H' s' I' Vv ⟨b1,b2,b3,b4⟩ TZ q'=>?_;let⟨m',Tk⟩:=TZ;refine jL (ym (v:=.ref D) I' hN UJ (.inl Um) rfl (λs5 I5 sb=>?_) (.inr Um));let⟨a5,sb,YH⟩:=sb;have YN:C≠a5:=by
  obtain z|z:=YH
  .rw[z];exact b1
  .exact(b3 _ _ z).symm
 refine⟨m',Tk.sameBut sb YN,λh' Vc=>⟨_,H',?_,q'⟩⟩;exact I5.turned (λb o hb e=>Vc.extBut b o hb e) Vv b1 (.inr b2) b3 b4
def Dst(h h':cg):Prop:=∀(b:Nat)(o:Obj),h.objs[b]?=Za o->∃o':Obj,h'.objs[b]?=Za o'/\o'.dict=o.dict
def Dst.trans(x:Dst a b)(y:Dst b c):Dst a c:=λq o e=>by
 let⟨o1,e1,d1⟩:=x q o e;let⟨o2,e2,d2⟩:=y q o1 e1
 simp_all
def Dst.refl:Dst a a:=λ_ o e=>⟨o,e,rfl⟩
structure Kd{α:Type}(t:Sem α):Prop where
 k:∀{M Γ Q E p s},Sem.wp M Γ t Q E p s->Sem.wp M Γ t (λa p' s'=>Q a p' s'/\Dst s.heap s'.heap) E p s
theorem Kd.pure:Kd (Pure.pure a:Sem α):=⟨λw=>by exact⟨w,.refl⟩⟩
def Kd.uns:Kd (unsupported x:Sem α):=⟨λw=>w.elim⟩
theorem Kd.load:Kd (load a):=⟨λ⟨o,e,w⟩=>⟨o,e,w,.refl⟩⟩
theorem Kd.stack:Kd stack:=⟨λw=>⟨w,.refl⟩⟩
theorem Kd.alloc:Kd (alloc o):=⟨λ{_ _ _ _ _ s} w=>⟨w,λb o' e=>⟨o',by
 show(s.heap.objs.push o)[b]?=_;rw[Array.getElem?_push]
 grind,rfl⟩⟩⟩
theorem Kd.update(h:∀o,(f o).dict=o.dict):Kd (update a f):=⟨λ{_ _ _ _ _ s} w=>⟨w.1,w.2,λb o e=>by
 unfold Heap.update
 grind⟩⟩
def Kd.bind(h:Kd m)(k:∀a,Kd (f a)):Kd (m >>= f):=⟨λw=>by rw[Sem.wp_bind'] at w ⊢;exact Sem.wp_mono _ _ _ (λa p' s' ⟨w,d⟩=>Sem.wp_mono _ _ _ (λ_ _ _ ⟨q,e⟩=>⟨q,d.trans e⟩) (λ_ _ _ z=>z) _ _ ((k a).k w)) (λ_ _ _ z=>z) _ _ (h.k w)⟩
def Kd.any(k:Kd t)(h:aM M A t Q E s):aM M A t (λa s'=>Q a s'/\Dst s.heap s'.heap) E s:=λΓ p hΓ=>k.k (h Γ p hΓ)
def xz:Kd (field v i):=by
 unfold field fieldsOf;refine .bind ?_ λa=>by split<;>first|exact .pure|exact .uns
 split
 .refine .bind .load λa=>by split<;>first|exact .pure|exact .uns
 .exact .uns
def Dk(h:cg)(a:ag)(d:Option ag):Prop:=∀dx,d=Za dx->∃oe,h.get? a=Za oe/\oe.dict=Za dx
def PN{h:cg}{a:ag}{o:Obj}(e:h.get? a=Za o):h.objs[a]?=Za o:=by
 unfold Heap.get? at e;split at e
 .cases e
 .exact e
def Dk.go{h h':cg}{a:ag}{d:Option ag}(x:Dk h a d)(y:Dst h h')(z:∃o,h'.get? a=Za o):Dk h' a d:=λdx e=>by
 let⟨oe,e1,e2⟩:=x dx e;let⟨o',e3,e4⟩:=y a oe (PN e1);let⟨o,e5⟩:=z;have:=PN e5
 grind
def Ãc(o):(Obj.mapFields f o).dict=o.dict:=by unfold Obj.mapFields;split<;>rfl
def Hv:Kd (setField v i x):=by
 unfold setField updateField;split
 .refine .bind .load λa=>?_;split
  .split
   .exact .update Ãc
   .exact .uns
  .exact .uns
 .exact .uns
theorem FH:∀l,Kd (readyFrames l)
 |[]=>.pure
 |e::l=>by
  unfold readyFrames behindIsImport;split
  .refine .bind .load λo=>?_;split
   .exact .pure
   refine .bind ?_ λi=>.bind ?_ λb=>.bind (.update λ_=>rfl) λ_=>FH l
   .repeat' (first|split|exact .pure|exact .bind xz λ_=>.pure)
   .unfold keptBack underTheClaimsCaller
    repeat' (first|split|exact .pure|exact .bind (.bind .stack λ_=>.pure) λ_=>.pure)
  .exact .uns
def Ld:Kd (PySem.frameOf env):=by
 unfold PySem.frameOf frameEnvs frameObject;refine .bind (.bind .stack λ_=>.pure) λl=>.bind ?_ λr=>by split<;>first|exact .pure|exact .uns
 split
 .exact .pure
 .exact .bind (FH _) λ_=>.pure
def Lc:Kd (entryPlaceOf f b):=.bind .stack λ_=>by split<;>exact .pure
def Rj:Kd (km a b c d e l):=by
 unfold km newFields newObj newObjAsIs;dsimp only;generalize (_++_:List ai)=L;split
 .exact .bind .uns λ_=>.bind .alloc λ_=>.pure
 .exact .bind .alloc λ_=>.pure
def Àa:Kd (noteFrame e env):=by
 unfold noteFrame;split
 .refine .bind xz λh=>?_
  repeat' (first|split|exact .pure|refine .bind xz λ_=>?_|refine .bind Hv λ_=>?_|exact .bind Ld λ_=>.bind Lc λ_=>.bind Rj λ_=>Hv)
 .exact .uns
def Ī:Kd (setFlight e a):=by
 refine .bind xz λh=>?_;split
 .exact Hv
 .exact .pure
def Ō:Kd (leaving env e):=.bind Àa λ_=>Ī
abbrev bmV:List ai:=[.type "ValueError",.type "Exception",.type "BaseException",.type "object"]
structure Ϗ(K:aa)(C:ag):Prop where
 ob:∃dd cd sl,K.lookup C=Za ⟨.type "type",dd,.cls cd,sl⟩
 ga:aJ K (.ref C) "__getattribute__"=Za (Za (.builtin "BaseException.__getattribute__"))
 gt:aJ K (.ref C) "__getattr__"=Za Zb
 ha:aJ K (.ref C) "__class__"=Za (Za (.builtin "object.__class__"))
 hn:cM K (.builtin "object.__class__") "__get__"=Za (Za (.builtin "getset_descriptor.__get__"))
 ht:fT K (.builtin "object.__class__")=Za true
 mo:bJ K C (.type "object")=Za true
 mb:bJ K C (.type "BaseException")=Za true
structure Exc(K:aa)(C:ag):Prop extends Ϗ K C where
 ex:fL K C bmV "ValueError.__new__"=true
def Âo{K:aa}{C:ag}(z:fL K C bmV "ValueError.__new__"=true):∃dd cd sl,K.lookup C=Za ⟨.type "type",dd,.cls cd,sl⟩:=by
 unfold fL at z;split at z
 .exact⟨_,_,_,‹_›⟩
 .cases z
def Exc.obj{K}{C}{h}(Zj:Exc K C)(X:K.In h):∃bm N nm q bs hdct sn sub ab col dd k0 k1 k2 k3 k5 mN,
  h.get? C=Za (kr nm q C N bs bm hdct sn sub ab col dd k0 k1 k2 k3 k5 "ValueError.__new__")/\h.Ns N mN/\mN "__init__"=Zb/\OwnTail h bmV bm:=by
 have z:=Zj.ex;unfold fL at z;split at z
 case h_2=>cases z
 case h_1 ddv Sc slv lk =>
  split at z
  case h_2=>cases z
  case h_1 D bm a0 a1 a2 a3 nw a5 em es =>
   have z':((((D=C/\nw="ValueError.__new__")/\Sc.hasDel=false)/\jy K bmV bm=true)/\PySem.W.nsOkIn K Sc.ns=true)/\bF K Sc.ns "__init__"=Za none:=by
    simp_all
   let⟨⟨⟨⟨⟨eD,eN⟩,UW⟩,tl⟩,okn⟩,ini⟩:=z';rcases Sc with⟨c1,c2,c3,c4,c5,c6,c7,c8,c9,Y1,c11⟩;subst em UW eD eN;have YS:slv=#[a0,a1,a2,a3,Za (.builtin "ValueError.__new__"),a5]:=by
    rcases slv with⟨l⟩
    grind
   subst YS;refine⟨bm,c4,c1,c5,c2,c6,c7,c8,c9,Y1,ddv,a0,a1,a2,a3,a5,h.nsMap c4,X _ _ lk,?_,?_,k7 X tl⟩
   .exact .of_isNs (PySem.W.isNs_of_in X okn)
   .exact PySem.W.nsMap_none_of_in X okn ini
def J6(h:cg)(a C:ag):Prop:=∃ox vs,h.get? a=Za ox/\ox.cls=.ref C/\ox.data=.fields vs
def FQ(C a:ag)(d:Option ag):HO:=.ext λh=>J6 h a C/\Dk h a d
def OG(I:J6 h a C)(D:Dk h a d):ZO P w H h a (FQ C a d):=by
 refine⟨⟨I,D⟩,?_,λh1 h2 p k=>⟨?_,λdx e=>?_⟩⟩
 .let⟨ox,_,e,_⟩:=I;exact⟨ox,e⟩
 .let⟨⟨ox,vs,e,c,d⟩,_⟩:=p;exact⟨ox,vs,k _ e,c,d⟩
 .let⟨oe,e1,e2⟩:=p.2 dx e;exact⟨oe,k _ e1,e2⟩
section
variable{K:aa}
open PySem.W Builtin Builtin.ObjectAttr Builtin.Getset_descriptor in
def JF(Zj:Ϗ K C)(X:K.In s.heap)(I:J6 s.heap x C)(h:Q (Za (.ref C)) { s with toks:=s.toks+1 }) :
  aM (model prog w) A (getAttr? (.ref x) "__class__") Q E s:=by
 let⟨hh,g,d,t,os⟩:=s;have L0:eC (model prog w) hh (typeOf (.ref x)) (.ref C):=by let⟨ox,vs,SY,Tz,WC⟩:=I;have SY:hh.get? x=Za ox:=SY;exact Tz▸(kH SY).andThen .now
 have L1:=dB (M:=model prog w) X Zj.ga;have L2:=dB (M:=model prog w) X Zj.gt;have L3:eC (model prog w) hh (Builtin.ObjectAttr.find (.ref x) (.ref C) "__class__") (.bind (.builtin "getset_descriptor.__get__") (.builtin "object.__class__")):=by have M1:=dB (M:=model prog w) X Zj.ha;have M2:eC (model prog w) hh (Builtin.ObjectAttr.getOf (Za (.builtin "object.__class__"))) (Za (.builtin "getset_descriptor.__get__")):=looks_specialIn X Zj.hn;have M3:=looks_takesIn (M:=model prog w) X Zj.ht;refine M1.andThen (M2.andThen ?_);refine Looks.andThen (a:=Za (.builtin "getset_descriptor.__get__",.builtin "object.__class__")) ?_ (Looks.tag .now);exact M3.andThen .now
 have LO:=gG (M:=model prog w) X Zj.mo;have Y0:∀{A:cQ}{tk:Nat}{R:k9->aw->Prop},R (.ok (.ret (.ref C))) ⟨hh,g,d,tk,os⟩->eX (model prog w) A (.call (.builtin "getset_descriptor.__get__") ⟨[.builtin "object.__class__",.ref x,.ref C],[]⟩) R ⟨hh,g,d,tk,os⟩:=by
  intro A tk R hq;let⟨ox,vs,SY,Tz,WC⟩:=I;have SY:hh.get? x=Za ox:=SY;refine eU KF.slot_gs.plain KF.entry_gs (KF.slot_gs.check _ _ _ _ _ _ _ _ KF.type_class (KF.args_gs _ _ _) ?_);unfold Builtin.«getset_descriptor.__get__» descrGet;rw[dga_obj];refine ae (aE ?_);unfold descrGetter descrCheckInstance descrNameAndClass ju;simp only[KF.owner_class]
  repeat lk
  refine⟨i9 _ (by decide +kernel),kE KF.entry_class ?_⟩;unfold Builtin.«object.__class__» shownTypeOf
  repeat lk
  exact hq
 have LB:eC (model prog w) hh (ju (.ref x) (.type "BaseException")) true:=L0.andThen (gG X Zj.mb);have f3:=PySem.F.slot_gs_get;have hx2:(fN "BaseException.__getattribute__"==fN "object.__getattribute__")=false:=by decide +kernel
 have cls:∀{tk:Tok}{R:k9->aw->Prop},R (.ok (.ret (.ref C))) ⟨hh,g,d,t+1,os⟩->eX (model prog w) A (.call (.builtin "BaseException.__getattribute__") ⟨[.ref x,.str "__class__" tk],[]⟩) R ⟨hh,g,d,t+1,os⟩:=by
  intro tk R hq;have hk:builtinKind "BaseException.__getattribute__"=Za .slot:=by decide +kernel
  have TJ:splitId "BaseException.__getattribute__"=Za ("BaseException","__getattribute__"):=by decide +kernel
  have ha:=F.args_bexc_ga (.ref x) (.str "__class__" tk);apply eU (by decide +kernel) F.entry_bexc_ga;simp only[checkBuiltinCall,hk,TJ];refine ae (LB.at ?_)
  repeat (any_goals (first|assumption|wp_step))
  let⟨ox,vs,SY,Tz,WC⟩:=id I;have SY:hh.get? x=Za ox:=SY;refine cW SY (aE ?_);rw[Tz];clear SY Tz WC;refine ae (L3.at ?_)
  repeat (any_goals (first|assumption|wp_step))
  apply Y0
  repeat (any_goals (first|assumption|wp_step))
 have f4:=jz.ga.bind (.ref x);unfold getAttr? getAttrBy? getAttrBy;refine ae (wpAny_mkText (ae (wpAny_attempt (cD (ae (L0.at (ae (L1.at ?_))))))));show aM _ _ (iW _ _ _ _ _ _) _ _ _;unfold iW;refine ae (L2.at ?_)
 repeat (any_goals (first|assumption|wp_step))
 apply cls
 repeat (any_goals (first|assumption|wp_step))
end
section
variable{K:aa}
open PySem.W in
def FG(Zj:Ϗ K C):KitX K (.ref a) (.ref C) (λh=>J6 h a C) where
 ty:=λ_ _ _ ⟨_,_,e,c,_⟩=>c▸(kH e).andThen .now
 it:=λ_ h X _=>by let⟨dd,cd,sl,hk⟩:=Zj.ob;have hC:=X _ _ hk;exact λA' Q' E' s' k z=>ae (k6 (k _ _ hC) (aE z))
 ne:=λh tp dd its n sl X htp=>by
  let⟨dd,cd,sl,hk⟩:=Zj.ob;have hC:=X _ _ hk
  grind
 ca:=λX I k=>JF Zj X I k
end
def P9:V->ai
 |.ref a=>.ref a
 |.ty n=>.type n
 |_=>.none
def LM(r:RelV c u)(h:(∃a,c=.ref a)\/∃n,c=.ty n):u=P9 c:=by rcases h with⟨a,rfl⟩|⟨n,rfl⟩<;>exact r
def ÁB(K:aa):List V->Hp->VK->Prop:=λxs H Q=>∃x c t b,xs=[x,c]/\((∃a,c=.ref a)\/∃n,c=.ty n)/\(Į K H x t\/(∃a C d,x=.ref a/\t=.ref C/\H a=Za (FQ C a d)/\Ϗ K C)\/(∃a ys,x=.ref a/\t=.type "list"/\ZU K H a ys)\/∃a ys,x=.ref a/\t=.type "tuple"/\â K H a ys)/\bA K t (P9 c)=Za b/\Q (.bl b) H
def Bi:ZY X (.builtin "isinstance") (ÁB X.K):=by
 rintro R1 s O H xs us Q I r ⟨x,c,t,b,rfl,hc,ty,e,q⟩
 let⟨u,v,rfl,ru,rv⟩:=JU r;rw[LM rv hc];have Sq:∀tk,EP X R1 O Q (.bool b) { s with toks:=tk }:=λtk=>⟨.bl b,H,I.tok tk,rfl,q⟩;obtain ty|⟨a,C,d,rfl,rfl,ha,Zj⟩|⟨a,ys,rfl,rfl,hq⟩|⟨a,ys,rfl,rfl,hq⟩:=ty
 .exact Jw I ru ty e Sq
 .cases(ru);let⟨p,_⟩:=I.Zl a _ ha;exact bM (FG Zj) I.Ü p.1 e (λz=>nomatch z) Sq
 .cases(ru);let⟨its,r',pl,_⟩:=I.list hq;let⟨o,h1,h2,_⟩:=pl.isList;exact bM i0 I.Ü ⟨o,h1,h2⟩ e (λz=>nomatch z) Sq
 .cases(ru);let⟨its,r',pl,_⟩:=I.tuple hq;let⟨o,h1,h2,_⟩:=pl;exact bM k8 I.Ü ⟨o,h1,h2⟩ e (λz=>nomatch z) Sq
def ZO.there(x:ZO P w H h a o):∃ob,h.get? a=Za ob:=by
 cases o with
 |lst xs=>let⟨_,_,_,_,e⟩:=x;exact⟨_,e⟩
 |tup xs=>let⟨_,_,_,ob,e,_⟩:=x;exact⟨ob,e⟩
 |dK R3=>let⟨_,_,_,_,ob,_,_,e,_⟩:=x;exact⟨ob,e⟩
 |dT R3=>let⟨_,_,_,_,ob,_,_,e,_⟩:=x;exact⟨ob,e⟩
 |set S n=>let⟨ob,_,_,_,e,_⟩:=x;exact⟨ob,e⟩
 |ins C dx fs=>let⟨_,_,_,e,_⟩:=x;exact⟨_,e⟩
 |own y=>exact x
 |xd fs=>let⟨_,⟨ob,_,_,e,_⟩,_⟩:=x;exact⟨ob,e⟩
 |rng lo hi=>let⟨_,_,_,e⟩:=x;exact⟨_,e⟩
 |Z5 ob u=>let⟨e,_⟩:=x;exact⟨ob,e⟩
 |ϕ ps=>exact⟨_,x⟩
 |met f y=>exact⟨_,x⟩
 |ext φ=>exact x.2.1
def Z'(P:bT)(w:cy):CXT:=λouter H s E e s'=>∃(a C:ag)(t:ai)(B:cg)(H':Hp)(d:Option ag),e=.ref a/\s'.os=s.os/\ia s'.gens/\Un (Ý outer) [] H H' s.heap s'.heap/\ċ P w H' s'.heap /\
 gw B outer a (.ref C) t s'.heap/\(∀b u o,H' b=Za u->s'.heap.get? b=Za o->B.get? b=Za o) /\
 (∀b o,s.heap.get? b=Za o->b∉Ý outer->∃o',s'.heap.get? b=Za o'/\B.get? b=Za o')/\Dk s'.heap a d/\E (.ref C) d H'
def sA:oW (Z' P w) X E0:=λ_ _ _ _ _ _ _ h=>by let⟨_,_,_,_,_,_,_,_,_,_,_,_,_,_,_,z⟩:=h;exact z.elim
def Ii(hf:env.frame=Za L)(h:b∈Ý (env::outer)):b=L\/b∈Ý outer:=by
 unfold Ý at h ⊢
 simp_all
def Ap(hf:env.frame=Za L)(h:b∈Ý outer):b∈Ý (env::outer):=by
 unfold Ý at h ⊢
 simp_all
section
variable{K:aa}
def pN:oW (Z' P w) (Ep (Z' P w) P w K mg base N qual scope f cd A outer Ç Ha0 E) E:=by
 rintro R1 O H s e s' I ⟨a,C,t,B,H',d,rfl,UG,Us,un,Zl,fl,UC,Tt,dk,hE⟩
 have hlow:∀b o,Ç.heap.get? b=Za o->b≠Ç.heap.objs.size:=λb o e=>az (au e);refine aZ (Ō.any (wpAny_leaves_onW (Q:=λ_ s2=>∃h',s2={ s' with heap:=h' }/\gw B outer a (.ref C) t h'/\s'.heap.UpToSlots h') I.ok.frames rfl fl λh' UL up=>⟨h',rfl,UL,up⟩)) (λ_ s2 ⟨⟨h',z,UL,up⟩,ds⟩=>?_) λ_ _ z=>z;subst z;have dk':=dk.go ds (UL.there.imp λ_ z=>z.1);have eq1:Ý (eg qual scope Ç.heap.objs.size f cd::outer)=Ç.heap.objs.size::Ý outer:=rfl;have SQ:∀b o,Ç.heap.get? b=Za o->b∉Ý outer->b∉Ý (eg qual scope Ç.heap.objs.size f cd::outer):=λb o e n z=>by
  grind
 have ub:Un (Ý outer) [] Ha0 H Ç.heap s.heap:=I.base;have old:∀b o,Ç.heap.get? b=Za o->b∉Ý outer->∃o',h'.get? b=Za o'/\B.get? b=Za o':=λb o e n=>by let⟨o1,e1⟩:=ub.there b o e (by simp);let⟨o2,e2,e3⟩:=Tt b o1 e1 (SQ b o e n);exact⟨o2,UL.1 b o2 e3,e3⟩
 refine⟨a,C,t,B,H',d,rfl,UG.trans I.os,Us,⟨λb o e n hb _=>?_,λb o e n hb _=>?_,λb o e n _=>?_,λb o e _=>?_,λb xs e=>un.Ā b xs (ub.Ā b xs e),λb o u e=>un.ä b o u (ub.ä b o u e),λb ps e=>?_⟩,?_,UL,?_,old,dk',hE⟩
 .have e1:=ub.keep b o e n hb (by simp);have n1:=ub.free b o e n (by simp);have e2:=un.keep b o e1 n1 (SQ b o e hb) (by simp);let⟨o2,e3,e4⟩:=Tt b o e1 (SQ b o e hb);rw[e2] at e3;cases e3;exact UL.1 b o e4
 .let⟨sl,e1⟩:=ub.slot b o e n hb (by simp);have n1:=ub.free b o e n (by simp);let⟨V1,e2⟩:=un.slot b _ e1 n1 (Ap rfl hb) (by simp);let⟨_,o3,e3,Ul⟩:=fl.2.2.1.mem (Ap rfl hb);let⟨sl3,e4⟩:=up b _ e3 Ul
  grind
 .let⟨o1,e1⟩:=ub.there b o e (by simp);exact un.free b o1 e1 (ub.free b o e n (by simp)) (by simp)
 .by_cases hb:b∈Ý outer
  .let⟨_,o3,e3,Ul⟩:=fl.2.2.1.mem (Ap rfl hb);let⟨sl3,e4⟩:=up b _ e3 Ul;exact⟨_,e4⟩
  .grind
 .let⟨m1,e1⟩:=ub.Ď b ps e;let⟨m2,e2⟩:=un.Ď b _ e1
  grind
 .refine λb u e=>(Zl b u e).ď (λc v hc q=>?_) (λ_ q=>q) λ_ _ q=>q;obtain z|z:=hc
  .subst z;exact UL.1 _ _ (UC _ u v e q)
  .exact UL.1 _ _ (UC c _ v z q)
 .intro b u o e q;obtain⟨o1,q1⟩:∃o1,s'.heap.get? b=Za o1:=by exact(Zl b u e).there
  have z:=UC b u o1 e q1;have z2:=UL.1 b o1 z
  grind
def AN(X:Cx)(E:XK):Prop:=∀(R1:List (ag×Obj))(O:St)(H:Hp)(s:aw)(a C:ag)(vs:List ai)(h':cg),Inv X R1 O H s->Heap.MadeExcOf s.heap h' a (.ref C) vs->E (.ref C) Zb H->X.xe (.ref a) { s with heap:=h' }
def Ad:AN (Ep (Z' P w) P w K mg base N qual scope f cd A outer Ç Ha0 E) E:=by
 intro R1 O H s a C vs WO I mk hE;have ϖ:=I.stack;let l:=Ý (eg qual scope Ç.heap.objs.size f cd::outer);have SA:∀env∈(eg qual scope Ç.heap.objs.size f cd::outer),∀b,env.frame=Za b->b∈l:=λenv he b hb=>gC.mpr ⟨env,he,hb⟩;have W2:∀b o,s.heap.get? b=Za o->b∉l->(dP s.heap l).get? b=Za o:=λb o e n=>iE l e n;have ub:Un (Ý outer) [] Ha0 H Ç.heap s.heap:=I.base;have SQ:∀b o,Ç.heap.get? b=Za o->b∉Ý outer->b∉l:=λb o e n z=>by
  obtain z|z:=Ii rfl z
  .exact az (au e) z
  .exact n z
 have U5:∀b u,H b=Za u->b∉l:=λb u e z=>by rw[I.ĺ b z] at e;cases e
 refine wpAny_leaves_madeW (I.ok.frames) rfl (λb o e=>iR l e) (kg ϖ SA) mk λh' t fl tup nt up=>?_;have S7:=λb o e n=>fl.1 b o (W2 b o e n);have frame:∀b o,s.heap.get? b=Za o->b∈l->∃sl,h'.get? b=Za { o with slots:=sl }:=λb o e hb=>by let⟨_,o3,e3,Ul⟩:=ϖ.mem hb;rw[e] at e3;cases e3;exact up b o (mk.keeps b o e) Ul
 refine⟨a,C,.ref t,dP s.heap l,H,Zb,rfl,I.os,I.bare,⟨λb o e n hb _=>?_,λb o e n hb _=>?_,λb o e n _=>ub.free b o e n (by simp),λb o e _=>?_,ub.Ā,ub.ä,ub.Ď⟩,λb u e=>?_,fl,λb u o e q=>?_,λb o e n=>?_,(λ_ z=>nomatch z),hE⟩
 .exact S7 b o (ub.keep b o e n hb (by simp)) (SQ b o e hb)
 .let⟨sl,e1⟩:=ub.slot b o e n hb (by simp)
  grind
 .let⟨o1,e1⟩:=ub.there b o e (by simp)
  grind
 .refine(I.Zl b u e).ď (λc v hc q=>?_) (λ_ q=>q) λ_ _ q=>q
  grind
 .let⟨o1,q1⟩:=(I.Zl b u e).there
  grind
 .let⟨o1,e1⟩:=ub.there b o e (by simp)
  simp_all
end
def Qk(C:ag)(E:XK)(te:TE):TS:=λ_ O H=>te O H λ_ H1=>E (.ref C) Zb H1
def qO(Zj:Exc X.K C)(hg:Gl X x)(hm:X.mg x=Za (.ref C))(hc:X.calm=true)(ha:PE X e te)(hp:AN X E)(hd:Ĉ x:=by decide)(he:ao [e] X.env=[(false,eval e X.env)]:=by rfl):PS X (.Raise (Za (.Call (.Name x np) [e] [] R6)) Zb pos) (Qk C E te):=by
 intro R1 s O H D I h;let⟨bm,N,nm,q,bs,hdct,sn,sub,ab,col,dd,k0,k1,k2,k3,k5,mN,hC,hN,hni,T⟩:=Zj.obj I.mod.kin;refine wpAny_Raise_call_subT (nm:=nm) (q:=q) (N:=N) (bs:=bs) (hdct:=hdct) (sn:=sn) (sub:=sub) (ab:=ab) (col:=col) (dd:=dd) (k0:=k0) (k1:=k1) (k2:=k2) (k3:=k3) (k5:=k5)
  cz (T.hasType cz.hasBase) (I.ok.hd hc) (by rw[he];rfl) hni (rJ I hg hm ⟨rfl,?_⟩ hd)
 rw[he];apply fW;refine eY (Zx (ha R1 s O H _ I h) λu TH=>e4 λv H2 I2 r2 q2=>?_);refine gI ⟨rfl,?_,I2.bk _ _ hC,hN.keeps I2.bk,T.keeps I2.bk,λh' a mk=>hp R1 O H2 TH a C _ h' I2 mk q2⟩;show 1<=aF;decide
def Cb(K:aa)(D:ag):Prop:=∀{h:cg},K.In h->∃bm N nm q bs hdct sn sub ab col dd k0 k1 k2 k3 k5,h.get? D=Za (kr nm q D N bs bm hdct sn sub ab col dd k0 k1 k2 k3 k5 "ValueError.__new__")/\OwnTail h bmV bm
def Exc.cb{K:aa}{D:ag}(Zj:Exc K D):Cb K D:=λX=>by let⟨bm,N,nm,q,bs,hdct,sn,sb,ab,col,dd,k0,k1,k2,k3,k5,mN,hD,hN,hni,T⟩:=Zj.obj X;exact⟨bm,N,nm,q,bs,hdct,sn,sb,ab,col,dd,k0,k1,k2,k3,k5,hD,T⟩
section
variable{K:aa}
def Fd{h}{g:Array GenState}{d:Drawn}{t}{os:OsState}{Q}(ZC:Ϗ K C)(ZD:Cb K D)(X:K.In h)(sub:bJ K C (.ref D)=Za true)(he:h.get? e=Za oe)(Vr:oe.cls=.ref C)(hq:Q true ⟨h,g,d,t,os⟩):aM M A (excMatches (.ref e) (.ref D)) Q E ⟨h,g,d,t,os⟩:=by
 have L0:eC M h (typeOf (.ref e)) (.ref C):=Vr▸(kH he).andThen .now;have L1:eC M h (isSubtype (.ref C) (.ref D)) true:=gG X sub;let⟨bm,N,nm,q,bs,hdct,sn,sb,ab,col,dd,k0,k1,k2,k3,k5,hD,T⟩:=ZD X;have YD:(aP D::bm).contains (.type "BaseException")=true:=by rw[mw,T.hasType cz.hasBase,Bool.or_true]
 have f:=tc_notTuple
 repeat (first|with_reducible refine cW hD ?_|(with_reducible refine jj hD ?_;rw[YD])|with_reducible refine L0.at ?_|with_reducible refine L1.at ?_|wp_step)
 grind
end
def XO(X:Cx)(R1:List (ag×Obj))(O:St)(E:XK):ai->aw->Prop:=λe s'=>∃H1 s1,Inv X R1 O H1 s1/\Z' X.prog X.w X.stack H1 s1 E e s'
def PEx(X:Cx)(e:cA)(t:XK->TE):Prop:=∀(R1:List (ag×Obj))(s:aw)(O:St)(H:Hp)(Q:VK)(E:XK),Inv X R1 O H s->t E O H Q->aM (model X.prog X.w) X.A (eval e X.env) (EP X R1 O Q) (XO X R1 O E) s
def PSx(X:Cx)(st:bX)(t:XK->TS):Prop:=∀(R1:List (ag×Obj))(s:aw)(O:St)(H:Hp)(D:Ends)(E:XK),Inv X R1 O H s->t E D O H->aM (model X.prog X.w) X.A (exec st X.env) (SP X R1 D) (XO X R1 O E) s
def ÂD(X:Cx)(st:List bX)(t:XK->TS):Prop:=∀(R1:List (ag×Obj))(s:aw)(O:St)(H:Hp)(D:Ends)(E:XK),Inv X R1 O H s->t E D O H->aM (model X.prog X.w) X.A (execs st X.env) (SP X R1 D) (XO X R1 O E) s
def NG(F:ZA X.prog X.w X.K X.mg X.base (Z' X.prog X.w) k f fd ps sp)(hr:Zw k X.A)(hb:Binds X.K fd ps ds)(hd:Vals SS ds)(I:Inv X R1 O H s)(r:Vals vs us)(h:sp (vs++SS) H Q E):aM (model X.prog X.w) X.A (call (.ref f) us) (EP X R1 O Q) (XO X R1 O E) s:=by
 have r2:=r.append hd;have hl:(us++ds).length=ps.length:=by rw[<-r2.length];exact F.len _ _ _ _ h
 refine iP (fS (F.run X.A X.stack s H ⟨us,[]⟩ (us++ds) (vs++SS) Q E hr I.ÀP (hb s us I.Ü hl) r2 h) λr s' hq=>?_);cases r with
 |error e=>exact⟨H,s,I,hq⟩
 |ok fl =>
  cases fl with
  |ret u=>exact I.after hq
  |next=>exact bj hq
  |brk=>exact bj hq
  |cont=>exact bj hq
def KM(F:ZA X.prog X.w X.K X.mg X.base (Z' X.prog X.w) k f fd ps sp)(hr:Zw k X.A)(hg:Gl X x)(hm:X.mg x=Za (.ref f))(hk:bU X.K (.ref f)=true)(hb:Binds X.K fd ps ds)(hd:Vals SS ds)(ha:PA X.ė (e::es) t)(SI:Ĉ x:=by decide)(he:Œ X e es:=by rfl)(Sf:(bI pos (ao es X.env)).any (·.1)=false:=by rfl) :
  PEx X (.Call (.Name x p) (e::es) [] pos) (λE=>Gq sp SS E t):=by
 refine λR1 s O H Q E I h=>dy (rJ I hg hm ?_ SI);refine eV I.ok.mod.kin hk (aZ (ha pos R1 s O H _ (I.ĵ _) h) (λus s1=>e4 λvs H1 I1 r q=>⟨I1.Ù.Ü,?_⟩) λ_ _ z=>bj z) he Sf;exact NG F hr hb hd I1.Ù r q
def õ(X:Cx)(a:ag):Cx:={ X with A:=X.A.mark (Za (.ref a)),calm:=false,xe:=λ_ _=>False }
def ÂL(K:aa)(D:ag)(i:Nat)(tb:XK->TS)(th:TS):TS:=λDn O H=>tb (λcls d H'=>∃C,cls=.ref C/\Ϗ K C/\bJ K C (.ref D)=Za true /\
  ∀a,H' a=Zb->th { nx:=λZG H''=>Dn.nx (ZG.set i Zb) H'',rt:=Dn.rt,bk:=λZG H''=>Dn.bk (ZG.set i Zb) H'',ct:=λZG H''=>Dn.ct (ZG.set i Zb) H'' } (O.set i (Za (.ref a))) (upd H' a (FQ C a d))) Dn O H
theorem Inv.õ(I:Inv X R1 O H s):Inv (L2.õ X a) R1 O H s :=
 ⟨⟨I.ok.mod,I.ok.kind,I.ok.glob,I.ok.blt,I.ok.above,I.ok.inj,I.ok.has,I.ok.cab,λz=>Bool.noConfusion (z),I.ok.frames,I.ok.ϖ,I.ok.exf,I.ok.bs,I.ok.bsz,I.ok.ê,I.ok.Àv,I.ok.ī,I.ok.frf⟩,I.os,I.bare,I.base,I.loc,I.cell,I.free,I.Ð,I.pin,I.Zl,I.len⟩
def Inv.Ϻ(ok:X.Ok)(I:Inv (L2.õ X a) R1 O H s):Inv X R1 O H s :=
 ⟨ok,I.os,I.bare,I.base,I.loc,I.cell,I.free,I.Ð,I.pin,I.Zl,I.len⟩
def An(I:Inv X R1 O H s)(hN:X.N.Nodup)(hi:X.N[i]?=Za n)(hl:X.env.scope.names.lookup n=Za .local)(h:∀s',Inv X R1 (O.set i Zb) H s'->Q () s'):aM M A (do bindName X.env n .none;unbindBehindTheSuite X.env n pos) Q E s:=by
 let⟨m,hn,hm⟩:=id I.loc;refine wpAny_nameGoes_keeps hl hn (by rw[I.ok.kind];rfl) λh' v Tk hs=>h _ ?_;let⟨oL,_,_,VL,_⟩:=id hn;have hk:∀b o,b≠X.env.locals->s.heap.get? b=Za o->h'.get? b=Za o:=λb o hb e=>(hs.2 b hb).trans e;have low:∀b o,X.Ç.heap.get? b=Za o->b≠X.env.locals:=λb o e=>az (aA (au e) I.ok.above);refine⟨I.ok,I.os,I.bare,⟨λb o e z hb hx=>hk b o (low b o e) (I.base.keep b o e z hb hx),λb o e z hb hx=>?_,I.base.free,λb o e hx=>?_,I.base.Ā,I.base.ä,I.base.Ď⟩,⟨_,Tk,λj y v' e1 e2 e3=>?_⟩,λy c e=>?_,I.free,I.Ð,λp hp=>?_,λb u e=>?_,by simpa using I.len⟩
 .let⟨sl,e1⟩:=I.base.slot b o e z hb hx;exact⟨sl,hk b _ (low b o e) e1⟩
 .let⟨o',e1⟩:=I.base.there b o e hx
  simp_all
 .have hj:j≠i:=λz=>by
   subst z;rw[gM] at e2
   simp_all
  rw[f7 (bV hj)] at e2;let⟨u,r,l⟩:=hm j y v' e1 e2 e3;refine⟨u,r,?_⟩;rcases l with⟨kd,e⟩|⟨kd,c,e,z⟩
  .refine .inl ⟨kd,?_⟩;have hy:y≠n:=λz=>hj (Ba hN e1 (z▸hi))
   grind
  .exact .inr ⟨kd,c,e,z.sameBut hs (I.cne y c e)⟩
 .let⟨w',z⟩:=I.cell y c e;exact⟨w',z.sameBut hs (I.cne y c e)⟩
 .let⟨e,z,ne,nf,d⟩:=I.pin p hp;exact⟨hk _ _ ne e,z,ne,nf,d⟩
 .refine(I.Zl b u e).ď (λc v hc q=>hk c v ?_ q) (λ_ q=>q) λ_ _ q=>q
  rintro rfl
  obtain hc|hc:=hc
  .rw[<-hc,I.free] at e;cases e
  .rw[I.free] at hc;cases hc
def Âm(un:Un (Ý ϖ) [] H H' h0 h1)(Zl:ċ P w H' h1)(fl:gw B ϖ a (.ref C) t h1)(UC:∀b u o,H' b=Za u->h1.get? b=Za o->B.get? b=Za o)(Tt:∀b o,h0.get? b=Za o->b∉Ý ϖ->∃o',h1.get? b=Za o'/\B.get? b=Za o')(st:B.StaysIn h2)(up:h1.UpToSlots h2) :
  Un (Ý ϖ) [] H H' h0 h2/\ċ P w H' h2:=by
 have frame:∀b o,h1.get? b=Za o->b∈Ý ϖ->∃sl,h2.get? b=Za { o with slots:=sl }:=λb o e hb=>by let⟨_,o3,e3,Ul⟩:=fl.2.2.1.mem (hb);rw[e] at e3;cases e3;exact up b o e Ul
 refine⟨⟨λb o e n hb hx=>?_,λb o e n hb hx=>?_,un.free,λb o e hx=>?_,un.Ā,un.ä,un.Ď⟩,λb u e=>?_⟩
 .have e2:=un.keep b o e n hb hx;let⟨o2,e3,e4⟩:=Tt b o e hb;rw[e2] at e3;cases e3;exact st b _ e4
 .let⟨sl,e1⟩:=un.slot b o e n hb hx
  grind
 .by_cases hb:b∈Ý ϖ
  .let⟨o1,e1⟩:=un.there b o e hx
   grind
  .let⟨o2,e3,e4⟩:=Tt b o e hb;exact⟨o2,st b _ e4⟩
 .refine(Zl b u e).ď (λc v hc q=>?_) (λ_ q=>q) λ_ _ q=>q;obtain z|z:=hc
  .subst z;exact st _ _ (UC _ u v e q)
  .exact st _ _ (UC c _ v z q)
def QE(hc:X.calm=true)(S6:X.stack=X.env::X.outer)(hf:X.env.frame=Za X.env.locals)(Vp:X.ex=[])(hb:ÂD X body tb)(hg:Gl X x)(hm:X.mg x=Za (.ref D))(ZD:Cb X.K D)(hN:X.N.Nodup)(hi:X.N[i]?=Za n)(hl:X.env.scope.names.lookup n=Za .local)(hh:∀a,ύ (õ X a) (W0::bs) th)(hd:Ĉ x:=by decide) :
  PS X (.Try body [.ExceptHandler (Za (.Name x np)) (Za n) (W0::bs) hp] [] [] pos) (ÂL X.K D i tb th):=by
 refine λR1 s O H Dn I h=>wpAny_Try_except (aZ (hb R1 s O H Dn _ I h) (λfl s1 q1=>?_) λe s1 q1=>?_)
 .cases fl with
  |next=>exact fD q1
  |brk=>exact q1
  |cont=>exact q1
  |ret v=>exact q1
 .let⟨H1,s2,J,a,C,t,B,H',d,rfl,UG,Us,un,Zl,fl,UC,Tt,dk,C',⟨⟩,ZC,sub,hth⟩:=q1;have Yt:X.A.frames=Za (X.env::X.outer):=by rw[<-S6];exact J.ok.frames
  have ha:s2.heap.get? a=none:=by
   cases q:s2.heap.get? a with
   |none=>rfl
   |some o =>
    exfalso;by_cases hb:a∈Ý X.stack
    .let⟨_,o3,e3,Ul⟩:=fl.2.2.1.mem (show a∈X.stack.filterMap (·.frame) from hb);let⟨oe,vs,e4,_,e5,_⟩:=fl.first;rw[e4] at e3;cases e3;exact Ul vs e5
    .let⟨o',_,e⟩:=Tt a o q hb;rw[fl.2.1] at e;cases e
  have inv:∀{h2:cg}{tk:Nat},B.StaysIn h2->s1.heap.UpToSlots h2->Inv X R1 O H' { s1 with heap:=h2,toks:=tk }:=λ{h2 tk} st up=>by let⟨u2,ok2⟩:=Âm un Zl fl UC Tt st up;exact J.ÀU (s':={ s1 with heap:=h2,toks:=tk }) (ch:=[]) UG u2 ok2 Us (λb z=>absurd z (by simp))
  have VP:H' a=none:=by
   cases q:H' a with
   |none=>rfl
   |some u =>
    exfalso;let⟨oe,e4,_⟩:=fl.there;have:=UC a u oe q e4;rw[fl.2.1] at this;cases this
  have fl1:gw B (X.env::X.outer) a (.ref C) t s1.heap:=by rw[<-S6];exact fl
  refine aZ (Àa.any (wpAny_looks_onW (Q:=λ_ s2=>∃h',s2={ s1 with heap:=h' }/\Heap.HeldW B (X.env::X.outer) a (.ref C) t _ h'/\s1.heap.UpToSlots h') Yt hf fl1 λh' x up=>⟨h',rfl,x,up⟩)) (λ_ s4 ⟨⟨h4,z,held4,up4⟩,ds4⟩=>?_) λ_ _ z=>z;subst z;refine aZ (Ī.any (wpAny_landsW (Q:=λ_ s2=>∃h',s2={ s1 with heap:=h' }/\gw B (X.env::X.outer) a (.ref C) t h'/\h4.UpToSlots h') held4 λh' x up=>⟨h',rfl,x,up⟩)) (λ_ s5 ⟨⟨h5,z,fl5,up5⟩,ds5⟩=>?_) λ_ _ z=>z;subst z;have I5:Inv X R1 O H' { s1 with heap:=h5 }:=inv (tk:=s1.toks) fl5.1 (up4.trans up5);have I5h:Inv (õ X a) R1 O H' { s1 with heap:=h5 }:=I5.õ;refine wpAny_handleBy_cons (codeAny_handlers_test (rJ (X:=õ X a) I5h hg hm ?_ hd)) (by intro z;cases z);let⟨oe,e4,YU⟩:=fl5.there;refine Fd ZC ZD I5.Ü sub e4 YU (codeAny_handlers_suite_as ?_);refine aZ (Ī.any (lands_againW (Q:=λ_ s2=>∃h',s2={ s1 with heap:=h' }/\gw B (X.env::X.outer) a (.ref C) t h'/\h5.UpToSlots h') fl5 λh' x up=>⟨h',rfl,x,up⟩)) (λ_ s6 ⟨⟨h6,z,fl6,up6⟩,ds6⟩=>?_) λ_ _ z=>z;subst z;have I6:Inv X R1 O H' { s1 with heap:=h6 }:=inv (tk:=s1.toks) fl6.1 ((up4.trans up5).trans up6);have Xd:∀b o,s2.heap.get? b=Za o->b≠a:=λb o e z=>by rw[z,ha] at e;cases e
  have I7:Inv X R1 O (upd H' a (FQ C a d)) { s1 with heap:=h6 }:=by
   refine⟨I6.ok,I6.os,I6.bare,⟨I6.base.keep,I6.base.slot,λb o e z hx=>?_,I6.base.there,λb xs e=>?_,λb o u e=>?_,λb ps e=>?_⟩,I6.loc,I6.cell,?_,λy c e=>?_,λp hp=>?_,λb u e=>?_,I6.len⟩
   .let⟨o',e'⟩:=J.base.there b o e hx;rw[mF (Xd b o' e')];exact I6.base.free b o e z hx
   .rw[mF (mQ (I6.base.Ā b xs e) VP)];exact I6.base.Ā b xs e
   .rw[mF (mQ (I6.base.ä b o u e) VP)];exact I6.base.ä b o u e
   .let⟨m1,e1⟩:=I6.base.Ď b ps e;exact⟨m1,by rw[mF (mQ e1 VP)];exact e1⟩
   .let⟨m,⟨o,_,_,ho,_⟩,_⟩:=J.loc;rw[mF (Xd _ o ho)];exact I6.free
   .let⟨v,o,ho,_⟩:=J.cell y c e;rw[mF (Xd _ o ho)];exact I6.Ð y c e
   .let⟨e1,z1,r1⟩:=I6.pin p hp;refine⟨e1,?_,r1⟩;rw[mF (Xd _ _ (J.pin p hp).1)];exact z1
   .by_cases hb:b=a
    .subst hb;rw[mH] at e;cases e;let⟨oe,vs,e7,c7,d7,_⟩:=fl6.first;exact OG ⟨oe,vs,e7,c7,d7⟩ (dk.go ((ds4.trans ds5).trans ds6) ⟨oe,e7⟩)
    .rw[mF hb] at e;exact(I6.Zl b u e).ď (λc v _ q=>q) (λc q=>by rw[mF (mQ q VP)];exact q) λc xs q=>by rw[mF (mQ q VP)];exact q
  refine tI (v:=.ref a) I7 hN hi (.inl hl) rfl (λs8 I8=>?_) (.inr hl);refine aZ (hh a R1 s8 _ _ _ I8.õ (hth a VP)) (λfl9 s9 q9=>?_) λ_ _ z=>bj z;have ok:=I8.ok;cases fl9 with
  |next =>
   let⟨σ9,H9,I9,q9⟩:=q9;exact An (I9.Ϻ ok) hN hi hl λW3 UN=>⟨_,H9,UN,q9⟩
  |brk =>
   let⟨σ9,H9,I9,q9⟩:=q9;exact An (I9.Ϻ ok) hN hi hl λW3 UN=>⟨_,H9,UN,q9⟩
  |cont =>
   let⟨σ9,H9,I9,q9⟩:=q9;exact An (I9.Ϻ ok) hN hi hl λW3 UN=>⟨_,H9,UN,q9⟩
  |ret v =>
   let⟨y,σ9,H9,I9,r9,q9⟩:=q9;exact An (I9.Ϻ ok) hN hi hl λW3 UN=>⟨y,_,H9,UN,r9,q9⟩
def KC{st}{t}(h:PSx X st t):ÂD X [st] t:=by
 refine λR1 s O H Dn E I hq=>jk (Zx (h R1 s O H Dn E I hq) λf s1 q=>?_);cases f with
 |next=>exact fD q
 |brk=>exact q
 |cont=>exact q
 |ret v=>exact q
def ϑ(a b:Str):Bool:=!f8 b.cps.toList a.cps.toList
theorem wV:∀a:List Nat,f8 a a=false
 |[]=>rfl
 |a::r=>by show(decide (a<a)||(a==a&&f8 r r))=false;rw[wV r];simp
theorem vf:∀{a b c:List Nat},f8 a b=true->f8 b c=true->f8 a c=true
 |[],_,[],h1,h2=>by
  cases ‹List Nat› with
  |nil=>exact h1
  |cons x r=>exact absurd (show f8 (x::r) []=true from h2) (by intro z;cases z)
 |[],_,_::_,_,_=>rfl
 |a::r,[],_,h1,_=>by cases h1
 |a::r,b::t,[],_,h2=>by cases h2
 |a::r,b::t,c::u,h1,h2=>by
  have h1:(decide (a<b)||(a==b&&f8 r t))=true:=h1;have h2:(decide (b<c)||(b==c&&f8 t u))=true:=h2;show(decide (a<c)||(a==c&&f8 r u))=true;simp only[fc,cJ,beq_iff_eq] at h1 h2 ⊢;obtain h1|⟨e1,g1⟩:=h1
  .grind
  .obtain h2|⟨e2,g2⟩:=h2
   .exact .inl `l
   .exact .inr ⟨e1.trans e2,vf g1 g2⟩
theorem yv:∀a b:List Nat,f8 a b=false->f8 b a=false->a=b
 |[],[],_,_=>rfl
 |[],_::_,h,_=>by cases h
 |_::_,[],_,h=>by cases h
 |a::r,b::t,h1,h2=>by
  have h1:(decide (a<b)||(a==b&&f8 r t))=false:=h1;have h2:(decide (b<a)||(b==a&&f8 t r))=false:=h2;simp only[Bool.or_eq_false_iff,Bool.and_eq_false_iff,beq_eq_false_iff_ne] at h1 h2;have e:a=b:=by lia
  subst e;rw[yv r t (h1.2.resolve_left λz=>z rfl) (h2.2.resolve_left λz=>z rfl)]
def Js(a b):ϑ a b=true\/ϑ b a=true:=by
 unfold ϑ;cases h:f8 b.cps.toList a.cps.toList with
 |false=>exact .inl rfl
 |true =>
  right;cases h2:f8 a.cps.toList b.cps.toList with
  |false=>rfl
  |true =>
   have:=vf h h2;rw[wV] at this;cases this
def K9(h1:ϑ a b=true)(h2:ϑ b a=true):a=b:=by
 unfold ϑ at h1 h2;have e:=yv b.cps.toList a.cps.toList (by simpa using h1) (by simpa using h2);let⟨⟨x⟩⟩:=a;let⟨⟨y⟩⟩:=b
 grind
def C0(h1:ϑ a b=true)(h2:ϑ b c=true):ϑ a c=true:=by
 unfold ϑ at *;cases h:f8 c.cps.toList a.cps.toList with
 |false=>rfl
 |true =>
  have h2:f8 c.cps.toList b.cps.toList=false:=by simpa using h2
  cases h3:f8 b.cps.toList c.cps.toList with
  |true =>
   have:=vf h3 h
   grind
  |false =>
   have e:=yv _ _ h3 h2
   grind
def Ka(x:Str):List Str->List Str
 |[]=>[x]
 |y::r=>if ϑ x y then x::y::r else y::Ka x r
def ZR:List Str->List Str
 |[]=>[]
 |x::r=>Ka x (ZR r)
theorem yz(x):∀l,(Ka x l).Perm (x::l)
 |[]=>.refl _
 |y::r=>by
  unfold Ka;split
  .exact .refl _
  .exact((yz x r).cons y).trans (.swap x y r)
theorem mW:∀l,(ZR l).Perm l
 |[]=>.refl _
 |x::r=>(yz x (ZR r)).trans ((mW r).cons x)
theorem yP(x):∀l,l.Pairwise (λa b=>ϑ a b=true)->(Ka x l).Pairwise (λa b=>ϑ a b=true)
 |[],_=>by simp[Ka]
 |y::r,h=>by
  let⟨h1,h2⟩:=de.mp h;unfold Ka;split
  .rename_i Xf;refine de.mpr ⟨λz hz=>?_,h⟩;obtain rfl|hz:=ap.mp hz
   .exact Xf
   .exact C0 Xf (h1 z hz)
  .rename_i Xf;refine de.mpr ⟨λz hz=>?_,yP x r h2⟩;obtain rfl|hz:=ap.mp ((yz x r).mem_iff.mp hz)
   .exact(Js z y).resolve_left Xf
   .exact h1 z hz
theorem ql:∀l,(ZR l).Pairwise (λa b=>ϑ a b=true)
 |[]=>.nil
 |x::r=>yP x _ (ql r)
theorem qp:∀{l m:List Str},l.Perm m->l.Pairwise (λa b=>ϑ a b=true)->m.Pairwise (λa b=>ϑ a b=true)->l=m
 |[],m,p,_,_=>(List.nil_perm.mp p).symm
 |a::l,[],p,_,_=>absurd (List.perm_nil.mp p) (by simp)
 |a::l,b::m,p,h1,h2=>by
  let⟨a1,a2⟩:=de.mp h1;let⟨b1,b2⟩:=de.mp h2;have e:a=b:=by
   have ha:=p.mem_iff.mp al;have hb:=p.mem_iff.mpr al;obtain e|ha:=ap.mp ha
   .exact e
   .obtain e|hb:=ap.mp hb
    .exact e.symm
    .exact K9 (a1 b hb) (b1 a ha)
  subst e;rw[qp (List.Perm.cons_inv p) a2 b2]
def EY(p:l.Perm m):ZR l=ZR m:=qp ((mW l).trans (p.trans (mW m).symm)) (ql l) (ql m)
def wz(l):(ZR l).length=l.length:=(mW l).length_eq
theorem uq:∀(p:Str)(l:List Str),risingS p l=true->(p::l).Pairwise (λa b=>ϑ a b=true)
 |p,[],_=>List.pairwise_singleton _ _
 |p,x::r,h=>by
  have h:(!f8 x.cps.toList p.cps.toList&&risingS x r)=true:=h;rw[cJ] at h;have ih:=uq x r h.2;refine de.mpr ⟨λz hz=>?_,ih⟩;obtain rfl|hz:=ap.mp hz
  .exact h.1
  .exact C0 (h.1) ((de.mp ih).1 z hz)
def xQ:∀(l:List Str),sortedS l=true->l.Pairwise (λa b=>ϑ a b=true)
 |[],_=>.nil
 |x::r,h=>uq x r h
def MB(p:l.Perm m)(h:sortedS l=true):l=ZR m:=qp (p.trans (mW m).symm) (xQ l h) (ql m)
theorem zT:∀{ss:List Str}{us:List ai},Vals (ss.map V.str) us->StrsAre us ss
 |[],_,.nil=>.nil
 |x::ss,_,.cons ⟨t,e⟩ r=>by subst e;exact .cons x t (zT r)
theorem Ee:∀{ss:List Str}{us:List ai},StrsAre us ss->Vals (ss.map V.str) us
 |_,_,.nil=>.nil
 |_,_,.cons x t r=>.cons ⟨t,rfl⟩ (Ee r)
theorem HK:∀(xs:List V)(us:List ai),xs.length=us.length->(∀(j:Nat) x u,xs[j]?=Za x->us[j]?=Za u->RelV x u)->Vals xs us
 |[],[],_,_=>.nil
 |[],_::_,e,_=>by cases e
 |_::_,[],e,_=>by cases e
 |x::xs,u::us,e,h=>.cons (h 0 x u rfl rfl) (HK xs us (jY e) λj y v e1 e2=>h (j+1) y v (by simpa using e1) (by simpa using e2))
def Ž:ZY X (.builtin "sorted") (λxs H Q=>∃p ss,xs=[.ref p]/\ZU X.K H p (ss.map V.str)/\ss.length<64/\∀l,H l=Zb->Q (.ref l) (upd H l (.lst ((ZR ss).map V.str)))):=by
 rintro R1 s O H xs us Q I r ⟨p,ss,rfl,hq,hz,q⟩
 let⟨u,rfl,rfl⟩:=rF r;let⟨its,rv,pl,VI⟩:=I.list hq;have hS:=zT rv;have hl:its.length=ss.length:=by have:=rv.length;grind
 refine sorted_strs pl.isList hS `l λVF ss' h1 h2 h3=>?_;have e:=MB h2 h3;subst e;let⟨ep,SY⟩:=sortedAll_at s.heap its VF;have hf:=I.Zl.fresh (dD _);refine⟨.ref _,_,I.laid (λb o e=>sortedAll_old e) (dD _) ?_,rfl,q _ hf⟩;refine⟨?_,VF.toList,ep,Ee h1,?_⟩
 .rw[ac,wz]
  simp_all
 .rw[SY]
def qX(hc:X.calm=true):ZY X (.builtin "sorted") (λxs H Q=>∃p R3 ss,xs=[.ref p]/\Rd H p (.dK R3)/\R3.map (·.1)=ss.map aq/\ss.length<64/\∀l,H l=Zb->Q (.ref l) (upd H l (.lst ((ZR ss).map V.str)))):=by
 rintro R1 s O H xs us Q I r ⟨p,R3,ss,rfl,hq,hk,hz,q⟩
 let⟨u,rfl,rfl⟩:=rF r;let⟨z,Va,vs,rel,dd⟩:=vO I.Zl hq;let⟨ep,SY⟩:=dd.dictAt;have R5:vs.length=ss.length:=by
  have e1:=rel.length;have e2:=congrArg cC hk
  grind
 apply Calls.call_function_entry kind_sorted plain_sorted entry_sorted (args_sorted1 _);refine ae (aE ?_);refine ae (PySem.W.kdu_collect (PySem.W.kdl_dict Va) (I.ok.hd hc) SY (aC `l (show 64<=aF by decide)) λh' tk Sl hkp WM=>?_);have hl:Sl.toList.length=vs.length:=by rw[lH];exact WM.1
 have hS:StrsAre Sl.toList ss:=by
  refine zT (HK _ _ `g λj x u e1 e2=>?_);let⟨k,y,e3,e4⟩:=WM.2 j u (by rw[<-Array.getElem?_toList];exact e2);have e5:(vs.map (·.1))[j]?=Za k:=by rw[aG,e3];rfl
  rw[<-rel.keys,hk,aG] at e5;rw[aG] at e1;cases e6:ss[j]? with
  |none=>rw[e6] at e1;cases e1
  |some z =>
   rw[e6] at e1 e5;have e1:=bL e1;have e5:=bL e5;subst e1 e5;rcases nU (k:=aq z) e4 with⟨i,t,q1,_⟩|⟨y',t,q1,q2⟩
   .cases q1
   .cases q1;exact⟨t,q2⟩
 refine ae (wpAny_newList ?_ (by rw[hl];exact aC `l (show 64<=aF by decide)));have VL:(h'.push (seqObj "list" Sl.toList.toArray 0)).get? h'.objs.size=Za (seqObj "list" Sl.toList.toArray 0):=aO _ rfl;refine ae (cD (wpAny_call_entry slot_list_sort ⟨_,VL,rfl⟩ entry_list_sort (list_sort_treeK strKind_oneLt VL hS.keysOf (λVY VX rest e=>keyKind_strs (by rw[<-e];exact hS)) `l λTF a1 a2=>⟨_,rfl,?_⟩) (args_list_sort _)));refine aE ⟨_,rfl,?_⟩;let⟨ss',h1,h2,h3⟩:=sorted_out_str hS a1 a2;have e:=MB h2 h3;subst e;have I1:Inv X R1 O H { s with heap:=h',toks:=tk }:=I.kept hkp;let⟨e',YG⟩:=sortedHeap_at VL;have hf:=I1.Zl.fresh (ak _);refine⟨.ref _,_,I1.laid (λb o e=>?_) (ak _) ?_,rfl,q _ hf⟩
 .have Sd:=au e;refine(sortedHeap_old (az Sd) (by rw[size_push'];exact bK Sd)).trans ?_;exact aj _ e
 .refine⟨?_,((arrOf TF).map (·.2)).toList,e',Ee h1,?_⟩
  .rw[ac,wz];exact aC (fI hz) `d
  .exact YG
def Its(x:Str):It:=⟨λi _=>i<x.cps.size,λi H v H'=>H'=H/\∃c,x.cps[i]?=Za c/\v=.str ⟨#[c]⟩,λi _=>x.cps.size<=i⟩
def CF(hh:A.handled=Zb)(it)(x)(t):Walks P w A it [it] [it] x.cps.size (SignAt x) (λi h=>h.IsStrIter it (ja x) x t i):=by
 unfold ja;split
 .exact Walks.strAscii hh it x t
 .exact Walks.strWide hh it x t
def Ki{P}{w}{K}{tg}(it)(x)(t):Turn P w K tg (Its x) [it] it (λi h=>i<=x.cps.size/\h.IsStrIter it (ja x) x t i) where
 mem:=by simp
 obj:=λi h st b hb=>by
  have e:b=it:=by simpa using hb
  subst e;let⟨_,o,e,c,d⟩:=st
  grind
 keep:=λi h h' st k=>by let⟨z,o,e,c,d⟩:=st;exact⟨z,o,k it (by simp) o e,c,d⟩
 item:=by intro X hP hw hK hc i R1 s O H E I hf st hg;subst hP hw hK;let⟨f0,f1,f2,f3,f4,f5⟩:=hf it (by simp);refine(CF (I.ok.hd hc) it x t).item i s _ _ hg st.2 λv h' tk hv TF kk=>?_;let⟨c,u,e1,rfl⟩:=hv;have I1:Inv X R1 O H { s with heap:=h',toks:=tk }:=I.turned (λb o hb e=>kk b o (by simpa using hb) e) f0 f1 f3 f4 f5;let⟨o,e,cl,d⟩:=id TF;refine⟨_,rfl,GY e cl d ?_ ⟨.str ⟨#[c]⟩,H,I1,⟨u,rfl⟩,⟨rfl,c,e1,rfl⟩,⟨hg,TF⟩,λb hb=>(hf b hb).1⟩⟩;unfold ja;split<;>decide
 done:=by intro X hP hw hK hc i R1 s O H E I hf st hg;subst hP hw hK;let⟨f0,f1,f2,f3,f4,f5⟩:=hf it (by simp);have e:=jT st.1 hg;subst e;exact(CF (I.ok.hd hc) it x t).done s _ _ st.2 λh' tk kk=>⟨rfl,I.turned (λb o hb e=>kk b o (by simpa using hb) e) f0 f1 f3 f4 f5⟩
 self:=λA i s Q E st h=>by
  let⟨_,st⟩:=st;unfold ja at st;split at st
  .exact wpAny_pyIter_striter_ascii st h
  .exact wpAny_pyIter_striter_wide st h
def Ãl(tl:TE):TI:=λO H R=>tl O H λv H1=>∃x,v=.str x/\R (Its x) H1
def QI{l}{tl}(hl:PE X l tl):PI X tg l (Ãl tl):=by
 refine λR1 s O H R I h=>Zx (hl R1 s O H _ I h) λv s1=>e4 λy H1 I1 r1 q1=>?_;let⟨x,rfl,q⟩:=q1;let⟨t,rfl⟩:=r1;apply wpAny_pyIter_strU;refine⟨s1.heap.objs.size,[s1.heap.objs.size],_,_,H1,rfl,I1.kept λb o e=>aj _ e,Ki _ x t,⟨aV _,_,aO _ rfl,rfl,rfl⟩,λb hb=>?_,q⟩;have e:b=s1.heap.objs.size:=by simpa using hb
 subst e;exact I1.Ź (ak _) (I1.Zl.fresh (ak _))
def Inv.ϩ(I:Inv X R1 O H s)(hd:H d=Za u)(n1:∀y,u≠.own y)(n2:∀xs,u≠.tup xs)(n3:∀o v,X.Ha0 d≠Za (.Z5 o v))(n4:∀ps,u≠.ϕ ps)(ok:ZO X.prog X.w (upd H d u') s.heap d u'):Inv X R1 O (upd H d u') s:=by
 have ne:∀b v,H b=Za v->v≠u->b≠d:=λb v e hv z=>by
  grind
 have nn:∀b,H b=Zb->b≠d:=λb e z=>by
  grind
 refine⟨I.ok,I.os,I.bare,⟨I.base.keep,I.base.slot,λb o e z hx=>?_,I.base.there,λb xs e=>?_,λb o v e=>?_,λb ps e=>?_⟩,I.loc,I.cell,?_,λy c e=>?_,λp hp=>?_,λb v e=>?_,I.len⟩
 .have:=I.base.free b o e z hx;rw[mF (nn b this)];exact this
 .have:=I.base.Ā b xs e;rw[mF (ne b _ this λz=>n2 xs z.symm)];exact this
 .have:=I.base.ä b o v e;have hb:b≠d:=λz=>by subst z;exact n3 o v e
  rw[mF hb];exact this
 .let⟨m,e1⟩:=I.base.Ď b ps e;exact⟨m,by rw[mF (ne b _ e1 λz=>n4 _ z.symm)];exact e1⟩
 .rw[mF (nn _ I.free)];exact I.free
 .rw[mF (nn _ (I.Ð y c e))];exact I.Ð y c e
 .let⟨e1,z1,r1⟩:=I.pin p hp;exact⟨e1,by rw[mF (nn _ z1)];exact z1,r1⟩
 .by_cases hb:b=d
  .subst hb;rw[mH] at e
   grind
  .rw[mF hb] at e;exact(I.Zl b v e).ď (λc v _ q=>q) (λc q=>by rw[mF (ne c _ q λz=>n1 _ z.symm)];exact q) λc xs q=>by rw[mF (ne c _ q λz=>n2 _ z.symm)];exact q
def P8(x:ZO P w H h d (.dK R3)):ZO P w H' h d (.dK R3):=x
def Inv.freeze(I:Inv X R1 O H s)(hd:H d=Za (.dK R3))(ho:s.heap.get? d=Za ob):Inv X R1 O (upd H d (.Z5 ob (.dK R3))) s :=
 I.ϩ hd `g `g (λo v z=>by rw[I.base.ä d o v z] at hd;grind) `g ⟨ho,P8 (I.Zl d _ hd)⟩
def Inv.Ń(I:Inv X R1 O H s)(hd:H d=Za (.Z5 ob (.dK R3)))(n3:∀o v,X.Ha0 d≠Za (.Z5 o v)):Inv X R1 O (upd H d (.dK R3)) s :=
 I.ϩ hd `g `g n3 `g (P8 (I.Zl d _ hd).2)
def Itd(d:ag)(ob:Obj)(R3:List (Key×V)):It :=
 ⟨λi H=>i<R3.length/\H d=Za (.Z5 ob (.dK R3)),λi H v H'=>H'=H/\∃kv,R3[i]?=Za kv/\v=kV kv.1,λi H=>R3.length<=i/\H d=Za (.Z5 ob (.dK R3))⟩
def MI(I:Inv X R1 O H s)(hd:H d=Za (.Z5 ob (.dK R3)))(he:ob.data=.dict Xr ep) :
  ∃vs,KV R3 vs/\s.heap.DictAt (nY X.prog X.w) d vs ep:=by
 let⟨e,z,_,vs,rel,dd⟩:=(I.Zl d _ hd);let⟨Xs,o,es,e1,e2,e3,e4⟩:=dd.dictAt;rw[e] at e1;cases e1;rw[he] at e3;cases e3;exact⟨vs,rel,ob,_,e,e2,he,e4⟩
def CJ{P}{w}{K}{tg}(d it)(ob)(R3)(Xr:Array DictEntry)(ep)(he:ob.data=.dict Xr ep) :
  Turn P w K tg (Itd d ob R3) [it] it (λi h=>i<=R3.length/\h.IsKeyIter it d i R3.length ep) where
 mem:=by simp
 obj:=λi h st b hb=>by
  have e:b=it:=by simpa using hb
  subst e;let⟨_,o,e,c,d⟩:=st
  grind
 keep:=λi h h' st k=>by let⟨z,o,e,c,d⟩:=st;exact⟨z,o,k it (by simp) o e,c,d⟩
 item:=by
  intro X hP hw hK hc i R1 s O H E I hf st hg;subst hP hw hK;let⟨f0,f1,f2,f3,f4,f5⟩:=hf it (by simp);let⟨hi,hd⟩:=hg;let⟨vs,rel,at_⟩:=MI I hd he;have hl:=rel.length;have hiv:i<vs.length:=by omega
  have Vk:s.heap.IsKeyIter it d i vs.length ep:=by rw[<-hl];exact st.2
  refine wpAny_pyNext_dict_item (k:=vs[i].1) (v:=vs[i].2) Vk at_ (by simp[hiv]) λkey h' hk it' sb=>?_;have I1:=I.turned (t':=s.toks) (λb o hb e=>(sb.2 b hb).trans e) f0 f1 f3 f4 f5;have Vj:R3[i].1=vs[i].1:=by
   have e1:(R3.map (·.1))[i]?=(vs.map (·.1))[i]?:=by rw[rel.keys]
   rw[aG,aG,ay hi,ay hiv] at e1;exact bL e1
  let⟨o,e,cl,dt⟩:=id it';refine⟨key,rfl,GY e cl dt (Zf rfl) ⟨kV R3[i].1,H,I1,?_,⟨rfl,R3[i],by simp[hi],rfl⟩,⟨hi,by rw[hl];exact it'⟩,λb hb=>(hf b hb).1⟩⟩;rw[Vj];have hk:=hk;rcases nU hk with⟨z,t,q1,q2⟩|⟨z,t,q1,q2⟩
  .rw[q1,q2];exact⟨t,rfl⟩
  .rw[q1,q2];exact⟨t,rfl⟩
 done:=by
  intro X hP hw hK hc i R1 s O H E I hf st hg;subst hP hw hK;let⟨f0,f1,f2,f3,f4,f5⟩:=hf it (by simp);let⟨hi,hd⟩:=hg;let⟨vs,rel,at_⟩:=MI I hd he;have hl:=rel.length;have Vk:s.heap.IsKeyIter it d i vs.length ep:=by rw[<-hl];exact st.2
  exact wpAny_pyNext_dict_end (I.ok.hd hc) Vk at_ `g λh' eb=>⟨rfl,I.turned (λb o hb e=>eb b o hb e) f0 f1 f3 f4 f5⟩
 self:=λA i s Q E st h=>by exact wpAny_pyIter_keyiter st.2 h
def Nm(x:Str):Prop:=x.length<=100/\∀c∈x.cps.toList,c<16^8
def CU:Û X (bN .LtE) (λx y H Q=>∃i j,x=.str i/\y=.str j/\Q (.bl (!decide (j.cps.toList<i.cps.toList))) H):=by
 rintro R1 s O H x y v u Q I rx ry ⟨i,j,rfl,rfl,q⟩
 let⟨t,rfl⟩:=rx;let⟨t',rfl⟩:=ry;exact PySem.P.le_str ⟨.bl _,H,I,rfl,q⟩
def Of:MtR X "str.join" (λx vs H Q=>∃(z:Str)(p:ag)(ys:List Str),x=.str z/\vs=[.ref p]/\ZU X.K H p (ys.map V.str)/\(ys.map (·.length)).sum+ys.length*z.length<=16777216/\Q (.str (Txt.join z ys)) H):=by
 rintro R1 s O H x vs v us Q I rx rv ⟨z,p,ys,rfl,rfl,hq,hz,q⟩
 let⟨t,rfl⟩:=rx;let⟨u,rfl,rfl⟩:=rv.one;let⟨its,r,pl,VI⟩:=I.list hq;exact join_list pl.isList (by simpa using zT r) hz λt' k=>⟨.str _,H,I.tok k,⟨t',rfl⟩,q⟩
def FY:ZY X (.builtin "all") (λxs H Q=>∃(p:ag)(bs:List Bool),xs=[.ref p]/\ZU X.K H p (bs.map V.bl)/\X.calm=true/\Q (.bl (bs.all id)) H):=by
 rintro R1 s O H xs us Q I r ⟨p,bs,rfl,hq,hc,q⟩
 let⟨u,rfl,rfl⟩:=rF r;let⟨its,rv,pl,VI⟩:=I.list hq;have hl:its.length=bs.length:=by have:=rv.length;rw[ac] at this;exact this.symm
 have Su:p≠s.heap.objs.size:=by let⟨o,ho,_⟩:=pl.isList;exact az (au ho)
 refine call_all_walk (hJ pl.isList ?_);refine⟨s.heap.objs.size,_,_,its.toArray.size,_,_,λi=>(bs[i]?).getD true,rfl,Walks.list (show X.A.in1.handled=Zb from I.ok.hd hc) _ p Su its.toArray,⟨⟨_,aO _ rfl,rfl,rfl⟩,pl.isList.push _⟩,?_,λh' tk hk=>?_⟩
 .intro i v s' Q' E' hP hQ;have hP:=hP;have hv:its[i]?=Za v:=by simpa using hP
  have hi:=(aR.mp hv).1;let⟨u',hu',rfl⟩:=rv.get (i:=i) (x:=.bl bs[i]) (by simp[<-hl,hi]);rw[hv] at hu';cases hu';apply dG;have e:(bs[i]?).getD true=bs[i]:=by simp[<-hl,hi]
  rw[<-e];exact hQ
 .have I1:Inv X R1 O H { s with heap:=h',toks:=tk }:=I.kept λb o e=>hk b o (λz=>by
   have e1:b=s.heap.objs.size:=by simpa using z
   exact absurd (au e) (by rw[e1];exact eZ _)) (aj _ e)
  refine⟨.bl _,H,I1,rfl,?_⟩;have e:(bo its.toArray.size).all (λi=>(bs[i]?).getD true)=bs.all id:=by
   rw[bi,hl,cj,dM,dM];constructor
   .intro z b hb;let⟨i,hi,rfl⟩:=List.mem_iff_getElem.mp hb;have:=z i (dg.mpr hi);simpa[hi] using this
   .intro z i hi;have hi:=dg.mp hi;simpa[hi] using z bs[i] (cZ hi)
  rw[e];exact q
def OK:List V->List V->Bool
 |[],[]=>true
 |x::xs,y::ys=>ϭ x y&&OK xs ys
 |_,_=>false
theorem FS:∀{xs ys:List V},xs.length=ys.length->OK xs ys=(bo xs.length).all λi=>ϭ ((xs[i]?).getD .Zn) ((ys[i]?).getD .Zn)
 |[],[],_=>rfl
 |[],_::_,h=>by cases h
 |_::_,[],h=>by cases h
 |x::xs,y::ys,h=>by show(ϭ x y&&OK xs ys)=_;rw[FS (jY h),bu,kU,i6,List.all_map];rfl
def GV(rx:Vals xs us)(ry:Vals ys ws)(hl:xs.length=ys.length)(fx:xs.all uu=true)(fy:ys.all uu=true) :
  ∀j (h1:j<us.toArray.size) (h2:j<ws.toArray.size),lN A s us.toArray[j] ws.toArray[j] (ϭ ((xs[j]?).getD .Zn) ((ys[j]?).getD .Zn)):=by
 intro j h1 h2;have e1:=rx.length;have e2:=ry.length;have VR:j<xs.length:=by rw[e1];simpa using h1
 have YQ:j<ys.length:=by rw[e2];simpa using h2
 let⟨u,hu,ru⟩:=rx.get (i:=j) (x:=xs[j]) (by simp[VR]);let⟨w,hw,SN⟩:=ry.get (i:=j) (x:=ys[j]) (by simp[YQ]);have e3:us.toArray[j]=u:=by
  simp_all
 have e4:ws.toArray[j]=w:=by
  have:ws[j]?=Za ws.toArray[j]:=by simp[show j<ws.length by simpa using h2]
  grind
 rw[e3,e4];have e5:(xs[j]?).getD .Zn=xs[j]:=by simp[VR]
 have e6:(ys[j]?).getD .Zn=ys[j]:=by simp[YQ]
 rw[e5,e6];exact HB ru SN (dM.mp fx _ (cZ VR)) (dM.mp fy _ (cZ YQ))
def Ãq(K:aa)(n:Nat)(t:TGs):TG:=λv O H Q=>∃a xs,v=.ref a/\ZU K H a xs/\xs.length=n/\t xs O H Q
def QL(hc:X.calm=true)(h:PGs X es t)(hn:(cP es X.env).length=n:=by rfl)(S6:(cP es X.env).findIdx? (·.1)=none:=by rfl):PG X (.Tuple es k pos) (Ãq X.K n t):=by
 rintro R1 s O H v u Q I r ⟨a,xs,e1,hq,hl,hw⟩
 subst e1;cases r;let⟨its,rv,ht,hz⟩:=I.list hq;refine ae (eE ?_);unfold unpack;have hsz:(cP es X.env).length=its.toArray.size:=by simp[hn,<-hl,rv.length]
 rw[hsz,S6];refine ae (cD (PySem.W.kun_itemsOf (I.ok.hd hc) ht.isList λh' hx=>?_));have I1:=I.kept (t':=s.toks) λb o e=>hx b o (az (au e)) e;exact h R1 _ O H xs _ Q I1 (by simpa using rv) hw
def PJ(X:Cx)(es:List cA)(t:St->Hp->(Hp->Prop)->Prop):Prop:=∀(R1:List (ag×Obj))(s:aw)(O:St)(H:Hp)(Sl:Str)(n:Nat)(Q:Hp->Prop),Inv X R1 O H s->Sl.length<=2000*n->n+es.length<=100->t O H Q ->
 Joins (model X.prog X.w) X.A X.xe (evalEach es X.env) Sl (λVF s1=>VF.length<=aF/\∃H',Inv X R1 O H' s1/\Q H') s
def Ãh:St->Hp->(Hp->Prop)->Prop:=λ_ H Q=>Q H
def Ãg(te:TE)(t:St->Hp->(Hp->Prop)->Prop):St->Hp->(Hp->Prop)->Prop:=λO H Q=>te O H λv H1=>(∃x,v=.str x/\Nm x)/\t O H1 Q
def BL:PJ X [] Ãh:=λR1 s O H Sl n Q I h1 h2 h=>⟨aC h1 (aC (mq 2000 (show n<=100 by simpa using h2)) (Zf rfl)),H,I,h⟩
def Ag(a b:Str):(a++b).length=a.length+b.length:=strLen_append a b
def BJ{j pos}(hr:PJ X es t)(hl:c.length<=2000:=by decide):PJ X (.Constant (.str c) j pos::es) t:=by
 intro R1 s O H Sl n Q I h1 h2 h;have h2:n+(es.length+1)<=100:=h2;refine lP ⟨c,s.toks,rfl,?_,hr R1 _ O H (Sl++c) (n+1) Q (I.tok _) ?_ `l h⟩
 .rw[Ag];exact aC (show Sl.length+c.length<=2000*101 by lia) (Zf rfl)
 .rw[Ag];lia
def zp(he:PE X e te)(hr:PJ X es t):PJ X (.FormattedValue e 114 Zb pos::es) (Ãg te t):=by
 intro R1 s O H Sl n Q I h1 h2 h;have h2:n+(es.length+1)<=100:=h2;refine wpAny_FormattedValue_repr (Zx (he R1 s O H _ I h) λv s1 ⟨y,H1,I1,r1,⟨x,e1,nm⟩,q1⟩=>?_);subst e1;let⟨tk,rfl⟩:=r1;have R5:(iA x).length<=1002:=aC (PySem.StrLaws.reprText_len x nm.2) (by have:=nm.1;lia);have hsz:(iA x).length<=aF:=aC R5 (Zf rfl);have Sq:∀tk s2,Inv X R1 O H1 s2->∃y t',Value.str (iA x) tk=.str y t'/\(Sl++y).length<=aF/\Joins (model X.prog X.w) X.A X.xe (evalEach es X.env) (Sl++y) (λVF s1=>VF.length<=aF/\∃H',Inv X R1 O H' s1/\Q H') s2:=λtk s2 I2=>by
  refine⟨_,tk,rfl,?_,hr R1 s2 O H1 _ (n+1) Q I2 ?_ `l q1⟩
  .rw[Ag];exact aC (show Sl.length+(iA x).length<=2000*101 by lia) (Zf rfl)
  .rw[Ag];lia
 refine wpAny_pyReprObj_str ?_ hsz;exact wpAny_formatField_str (Sq _ _ (I1.tok _)) (Sq _ _ ((I1.tok _).tok _)) hsz
def tFs(t:St->Hp->(Hp->Prop)->Prop):TE:=λO H Q=>t O H λH1=>∀x,Q (.str x) H1
def GK{VY VX}{rest}{pos}{t}(h:PJ X (VY::VX::rest) t)(hl:(VY::VX::rest).length<=100:=by decide):PE X (.JoinedStr (VY::VX::rest) pos) (tFs t):=by
 refine λR1 s O H Q I hq=>wpAny_JoinedStr ?_;have:=h R1 s O H ci 0 (λH1=>∀x,Q (.str x) H1) I (aV _) `l hq;revert this;generalize evalEach (VY::VX::rest) X.env=parts;generalize ci=Sl;intro this;clear h hl hq I;induction parts generalizing Sl s with
 |nil =>
  let⟨z,H',I',q⟩:=this;exact⟨z,.str Sl,H',I'.tok _,⟨_,rfl⟩,q Sl⟩
 |cons p ps ih =>
  refine aZ this (λv s1 ⟨y,t,e,z,k⟩=>⟨y,t,e,z,ih _ _ k⟩) λ_ _ z=>z
def Fn(P:bT)(w:cy)(K:aa)(mg:Str->Option ai)(base:cg)(x:Str)(k:Nat)(ps:List Str)(sp:Sp):Prop :=
 ∃f fd,ZA P w K mg base (Z' P w) k f fd ps sp/\mg x=Za (.ref f)/\bU K (.ref f)=true/\Binds K fd ps []
def Mt(P:bT)(w:cy)(K:aa)(mg:Str->Option ai)(base:cg)(C:ag)(m:Str)(k:Nat)(ps:List Str)(sp:Sp):Prop :=
 ∃f fd,ZA P w K mg base (Z' P w) k f fd ps sp/\Meth K C m f/\ϥ K C/\Binds K fd ps []
def MkB(P:bT)(w:cy)(K:aa)(mg:Str->Option ai)(base:cg)(x:Str)(C:ag)(k:Nat)(ps:List Str)(sp:Sp):Prop :=
 ∃f fd,ZA P w K mg base (Z' P w) k f fd ps sp/\mg x=Za (.ref C)/\Mk K C f/\Binds K fd ps []
def xy(F:Fn X.prog X.w X.K X.mg X.base x k ps sp)(hr:Zw k X.A)(hg:Gl X x)(hx:oW (Z' X.prog X.w) X E)(ha:PA X (e::es) t)(SI:Ĉ x:=by decide)(he:Œ X e es:=by rfl)(Sf:(bI pos (ao es X.env)).any (·.1)=false:=by rfl):PE X (.Call (.Name x p) (e::es) [] pos) (Gq sp [] E t):=by
 let⟨f,fd,F,hm,hk,hb⟩:=F;exact NY F hr hg hm hk hb .nil hx ha SI he Sf
def QM(F:Fn X.prog X.w X.K X.mg X.base x k ps sp)(hr:Zw k X.A)(hg:Gl X x)(ha:PA X.ė (e::es) t)(SI:Ĉ x:=by decide)(he:Œ X e es:=by rfl)(Sf:(bI pos (ao es X.env)).any (·.1)=false:=by rfl):PEx X (.Call (.Name x p) (e::es) [] pos) (λE=>Gq sp [] E t):=by
 let⟨f,fd,F,hm,hk,hb⟩:=F;exact KM F hr hg hm hk hb .nil ha SI he Sf
def ur(he:PE X o ta)(M:Mt X.prog X.w X.K X.mg X.base C m k ps sp)(hr:Zw k X.A)(hx:oW (Z' X.prog X.w) X E)(ha:PA X (e::es) t)(S6:Œ X e es:=by rfl)(Sf:(bI pos (ao es X.env)).any (·.1)=false:=by rfl)(ht:eval (.Call (.Attribute o m R8) (e::es) [] pos) X.env=(do
   let ov <-eval o X.env
   fR R8.atName
   let(f,first) <-holding [ov] (fK ov m pl)
   iB pos f first (bI pos (ao (e::es) X.env)) (eA pos (cI [] X.env))):=by rfl):PE X (.Call (.Attribute o m R8) (e::es) [] pos) (JW C m sp [] E ta t):=by
 let⟨f,fd,F,hm,c,hb⟩:=M;exact NW he c hm F hr hb .nil hx ha S6 Sf ht
def QO(he:PE X o ta)(M:Mt X.prog X.w X.K X.mg X.base C m k ps sp)(hr:Zw k X.A)(hx:oW (Z' X.prog X.w) X E)(ht:eval (.Call (.Attribute o m R8) [] [] pos) X.env=(do
   let ov <-eval o X.env
   fR R8.atName
   let(f,first) <-holding [ov] (fK ov m pl)
   iB pos f first (bI pos (ao [] X.env)) (eA pos (cI [] X.env))):=by rfl):PE X (.Call (.Attribute o m R8) [] [] pos) (JW C m sp [] E ta L9):=by
 let⟨f,fd,F,hm,c,hb⟩:=M;exact KO he c hm F hr hb .nil hx ht
def QP(M:MkB X.prog X.w X.K X.mg X.base x C k ps sp)(hr:Zw (k+1) X.A)(hg:Gl X x)(hx:oW (Z' X.prog X.w) X E)(SI:Ĉ x:=by decide):PE X (.Call (.Name x p) [] [] pos) (JX C sp [] E L9):=by let⟨f,fd,F,hm,mk,hb⟩:=M;exact KP mk F hr hg hm hb .nil hx SI
def tK:Û X (dJ .FloorDiv) (rI (λ_ j=>0<j/\j.natAbs.log2<9000) λi j=>.int (i/j)):=opI λi j _ _ _ _ _ hc q=>by exact floordiv_int `l (by rw[Int.fdiv_eq_ediv_of_nonneg i `l];exact q) (.inl (PyProof.noPylong_of_log2 hc.2))
section
variable{K:aa}
def ý.okN{x qual}{st}{f}{fd}{N ps}{k}{sp:Sp}(F:ý K x qual st f fd)(S:K' N ps (mJ st))(len:∀vs H Q E,sp vs H Q E->vs.length=ps.length)(Tv:∀(Sc:ai)(A:cQ)(outer:List Env)(s:aw)(H:Hp)(vs:List V)(Q:VK)(E:XK),Zw k (A.deeper (eg qual (mJ st) s.heap.objs.size f Sc))->sp vs H Q E ->
   ∃t,ύ (Ep (Z' P w) P w K mg base N qual (mJ st) f Sc A outer s H E).ė (oK st) t/\t { nx:=λ_ H'=>Q .Zn H',rt:=Q } (start N vs) H):ZA P w K mg base (Z' P w) (k+1) f fd ps sp:=by
 let⟨oc,od,kV,Tq,pm,an,Sc,ct,Uz,rfl,lk,Tf⟩:=F.ex;refine P0 lk Tf S len λA outer s H vs Q E hr Uv=>?_;let⟨t,h,q⟩:=Tv Sc A outer s H vs Q E hr Uv;exact⟨t,h.ė,q⟩
def ý.okX{x qual}{st}{f}{fd}{N ps}{k}{sp:Sp}(F:ý K x qual st f fd)(S:K' N ps (mJ st))(len:∀vs H Q E,sp vs H Q E->vs.length=ps.length)(Tv:∀(Sc:ai)(A:cQ)(outer:List Env)(s:aw)(H:Hp)(vs:List V)(Q:VK)(E:XK),Zw k (A.deeper (eg qual (mJ st) s.heap.objs.size f Sc))->sp vs H Q E ->
   ∃t,ύ (Ep (Z' P w) P w K mg base N qual (mJ st) f Sc A outer s H E) (oK st) t/\t { nx:=λ_ H'=>Q .Zn H',rt:=Q } (start N vs) H):ZA P w K mg base (Z' P w) (k+1) f fd ps sp:=by
 let⟨oc,od,kV,Tq,pm,an,Sc,ct,Uz,rfl,lk,Tf⟩:=F.ex;exact P0 lk Tf S len λA outer s H vs Q E hr Uv=>Tv Sc A outer s H vs Q E hr Uv
end
def IA(n:Nat)(R:Nat->List V->Hp->Prop)(h0:R 0 [] (upd H1 D (.lst [])))(hn:n<=aF)(hD:∀i ys H,R i ys H->H D=Za (.lst ys))(hgo:∀i ys H,i<n->R i ys H->J.go i H)(Wk:∀i ys H x H',i<n->R i ys H->J.yld i H x H'->∀(Kt:VK)(Kf:Hp->Prop),(∀v H5,H5 D=Za (.lst ys)->R (i+1) (ys++[v]) (upd H5 D (.lst (ys++[v])))->Kt v H5)->(∀H4,R (i+1) ys H4->Kf H4) ->
   tc (Za x::cap) H' λb H4=>if b=true then te (Za x::cap) H4 Kt else Kf H4)(Yv:∀ys H,ys.length<=n->R n ys H->J.stop n H/\Q (.ref D) H) :
  ĳ J tc te cap D H1 Q:=by
 refine⟨λi m ys H=>i<=n/\m=n-i/\ys.length<=i/\R i ys H,⟨n,aV _,by simp,aV _,h0⟩,?_⟩
 rintro i m ys H2 ⟨hi,rfl,hl,r⟩
 by_cases Sd:i<n
 .refine .inr ⟨hgo i ys H2 Sd r,λx H3 y=>Wk i ys H2 x H3 Sd r y _ _ (λv H5 e r'=>⟨e,by lia,n-(i+1),by lia,Sd,rfl,by simp;lia,r'⟩) λH4 r'=>⟨n-(i+1),by lia,Sd,rfl,by lia,r'⟩⟩
 .have e:i=n:=by lia
  subst e;let⟨h1,h2⟩:=Yv ys H2 hl r;exact .inl ⟨h1,hD i ys H2 r,h2⟩
def EV:bh "len"=Za (.builtin "len"):=by decide +kernel
def qx:bh "isinstance"=Za (.builtin "isinstance"):=by decide +kernel
def vQ:bh "sorted"=Za (.builtin "sorted"):=by decide +kernel
def RK:bh "abs"=Za (.builtin "abs"):=by decide +kernel
def MV:bh "all"=Za (.builtin "all"):=by decide +kernel
def MU:bh "int"=Za (.type "int"):=by decide +kernel
def FZ:bh "tuple"=Za (.type "tuple"):=by decide +kernel
def AJ:bh "list"=Za (.type "list"):=by decide +kernel
def MT:bh "str"=Za (.type "str"):=by decide +kernel
def Pg:bh "bool"=Za (.type "bool"):=by decide +kernel
def Cn:bh "ValueError"=Za (.type "ValueError"):=by decide +kernel
end L2
set_option maxHeartbeats 4000000
namespace My
open PySem L2
abbrev ZT:=L2.ZT
def rQ(h:H p=Zb):ZT H (upd H p o):=λb u e=>by rw[mF (mQ e h)];exact e
def nbT(h:(!b)=true):b=false:=by grind
def nbF(h:¬(!b)=true):b=true:=by grind
structure Ent where
 nm:Str
 th:Int
 mr:Int
 ls:Int
 held:List (Str×Int×Int)
structure BA where
 dx:ag
 dp:ag
 dt:ag
 dm:ag
 dl:ag
 dh:ag
def bf(z:BA):List (Str×V):=[(("people":Str),V.ref z.dp),("things_of",.ref z.dt),("mark_of",.ref z.dm),("loss_of",.ref z.dl),("held_of",.ref z.dh)]
def qR{g f:Str}{v:V}{r:List (Str×V)}(h:¬f=g):gL f ((g,v)::r)=gL f r:=by grind
def xY{f:Str}{v:V}{r:List (Str×V)}:gL f ((f,v)::r)=Za v:=by grind
def vR(z:BA):(bf z).lookup ("people":Str)=Za (V.ref z.dp):=xY
def Dq(z:BA):(bf z).lookup ("things_of":Str)=Za (V.ref z.dt):=by unfold bf;rw[qR (by decide +kernel)];exact xY
def ID(z:BA):(bf z).lookup ("mark_of":Str)=Za (V.ref z.dm):=by unfold bf;rw[qR (by decide +kernel),qR (by decide +kernel)];exact xY
def IE(z:BA):(bf z).lookup ("loss_of":Str)=Za (V.ref z.dl):=by unfold bf;rw[qR (by decide +kernel),qR (by decide +kernel),qR (by decide +kernel)];exact xY
def wq(z:BA):(bf z).lookup ("held_of":Str)=Za (V.ref z.dh):=by unfold bf;rw[qR (by decide +kernel),qR (by decide +kernel),qR (by decide +kernel),qR (by decide +kernel)];exact xY
def uL(z:BA){m:Str}(h1:¬m="people":=by decide +kernel)(h2:¬m="things_of":=by decide +kernel)(h3:¬m="mark_of":=by decide +kernel)(h4:¬m="loss_of":=by decide +kernel)(h5:¬m="held_of":=by decide +kernel):(bf z).lookup m=none:=by
 unfold bf
 simp_all
def HeldAt(K:aa)(H:Hp)(p:ag)(l:List (Str×Int×Int)):Prop :=
 ∃ts:List ag,ts.length=l.length/\H p=Za (.dK ((l.zip ts).map λq=>(aq q.1.1,V.ref q.2)))/\∀q∈l.zip ts,â K H q.2 [.int q.1.2.1,.int q.1.2.2]
def ϡ(H:Hp)(d:ag)(S:List (Key×V)):Prop:=∃T:List (Key×V),H d=Za (.dK T)/\T.Perm S/\(S.map (·.1)).Nodup
theorem zQ:∀{l:List (Key×V)},(l.map (·.1)).Nodup->(pL l k=Za v↔(k,v)∈l)
 |[],_=>⟨λh=>(by cases h),λh=>(by cases h)⟩
 |x::r,h=>by
  let⟨h1,h2⟩:=aK.mp h;have ih:=zQ (k:=k) (v:=v) h2;unfold pL at ih ⊢
  grind
def Fj(p:T.Perm S)(nd:(S.map (·.1)).Nodup)(k:Key):pL T k=pL S k:=by apply Option.ext;intro v;rw[zQ ((p.map (·.1)).nodup_iff.mpr nd),zQ nd,p.mem_iff]
def ϡ.keep(h:ϡ H d S)(k:∀o,H d=Za o->H' d=Za o):ϡ H' d S:=by let⟨T,e,p,n⟩:=h;exact⟨T,k _ e,p,n⟩
def ϡ.Áa(h:ϡ H d S)(x:Str):Æ H d (kV (aq x)) (pL S (aq x)):=by let⟨T,e,p,n⟩:=h;rw[<-Fj p n];exact Æ.k e
def ϡ.keys{H:Hp}{d:ag}{α:Type}{L:List α}{key:α->Str}{v:α->V}(h:ϡ H d (L.map λe=>((aq (key e):Key),v e))):∃(T:List (Key×V))(ss:List Str),H d=Za (.dK T)/\T.map (·.1)=ss.map aq/\ss.Perm (L.map key):=by
 let⟨T,e,p,n⟩:=h;have q:=p.map (·.1);rw[aH] at q;refine⟨T,(T.map (·.1)).map λk=>match k with|.inr s=>s|.inl _=>ci,e,?_,?_⟩
 .rw[aH];refine((iM _).symm.trans (aX λk hk=>?_));have:=q.mem_iff.mp hk;let⟨x,_,rfl⟩:=ar.mp this;rfl
 .have:=q.map λk:Key=>match k with|.inr s=>s|.inl _=>ci
  have e2:(L.map ((λx=>x.1)∘λe=>((aq (key e):Key),v e))).map (λk:Key=>match k with|.inr s=>s|.inl _=>ci)=L.map key:=by rw[aH];rfl
  simp_all
structure Zu(K:aa)(C:ag)(H:Hp)(b:ag)(z:BA)(R7:List Str)(L:List (Ent×ag)):Prop where
 ob:H b=Za (.ins C z.dx (bf z))
 pp:H z.dp=Za (.dK (R7.map λn=>(aq n,.bl true)))
 tt:H z.dt=Za (.dK (L.map λe=>(aq e.1.nm,.int e.1.th)))
 mm:H z.dm=Za (.dK (L.map λe=>(aq e.1.nm,.int e.1.mr)))
 ll:H z.dl=Za (.dK (L.map λe=>(aq e.1.nm,.int e.1.ls)))
 hh:ϡ H z.dh (L.map λe=>(aq e.1.nm,.ref e.2))
 he:∀e∈L,HeldAt K H e.2 e.1.held
 nd:(b::z.dp::z.dt::z.dm::z.dl::z.dh::L.map (·.2)).Nodup
 p6:R7.length<=6
 h8:L.length<=8
def î(b:ag)(z:BA)(L:List (Ent×ag)):List ag:=b::z.dp::z.dt::z.dm::z.dl::z.dh::L.map (·.2)
def vU{K}(h:â K H t xs)(k:∀c o,H c=Za o->(∃xs,o=.tup xs\/∃ob,o=.Z5 ob (.tup xs))->H' c=Za o):â K H' t xs:=by
 rcases h with(h|⟨ob,h⟩)|h
 .exact .inl (.inl (k _ _ h ⟨xs,.inl rfl⟩))
 .exact .inl (.inr ⟨ob,k _ _ h ⟨xs,.inr ⟨ob,rfl⟩⟩⟩)
 .exact .inr h
def HeldAt.keep{K}(h:HeldAt K H p l)(hp:∀o,H p=Za o->H' p=Za o)(k:∀c o,H c=Za o->(∃xs,o=.tup xs\/∃ob,o=.Z5 ob (.tup xs))->H' c=Za o):HeldAt K H' p l:=by let⟨ts,e1,e2,e3⟩:=h;exact⟨ts,e1,hp _ e2,λq hq=>vU (e3 q hq) k⟩
theorem Zu.keep{K}(B:Zu K C H b z R7 L)(k:∀c o,H c=Za o->(c∈î b z L\/∃xs,o=.tup xs\/∃ob,o=.Z5 ob (.tup xs))->H' c=Za o):Zu K C H' b z R7 L:=by
 refine⟨k _ _ B.ob (.inl (by simp[î])),k _ _ B.pp (.inl (by simp[î])),k _ _ B.tt (.inl (by simp[î])),k _ _ B.mm (.inl (by simp[î])),k _ _ B.ll (.inl (by simp[î])),B.hh.keep (λo h=>k _ _ h (.inl (by simp[î]))),λe he=>?_,B.nd,B.p6,B.h8⟩;refine(B.he e he).keep (λo h=>k _ _ h (.inl ?_)) λc o h x=>k c o h (.inr x);unfold î
 grind
def Zu.same{K}(B:Zu K C H b z R7 L)(s:ZT H H'):Zu K C H' b z R7 L:=B.keep λc o h _=>s c o h
def qJ(L:List (Ent×ag))(n:Str):Bool:=(L.find? λe=>decide (e.1.nm=n)).isSome
def qj(R7:List Str)(n:Str):Bool:=(R7.find? λm=>decide (m=n)).isSome
def sL(l:List α)(key:α->Str)(v:α->V)(n:Str):pL (l.map λe=>((aq (key e):Key),v e)) (aq n)=(l.find? λe=>decide (key e=n)).map v:=by
 unfold pL;rw[gD,Option.map_map];have e:((λkv:Key×V=>decide (kv.1=aq n))∘λe=>((aq (key e):Key),v e))=λe=>decide (key e=n):=by
  grind
 rw[e];rfl
end My
namespace L2
open PySem PySem.Spec PyProof.Rows
abbrev fzO(o:Obj):HO:=.Z5 o (.own 0)
structure ÃC(scope:gH)(x:Str)(fr:List Str):Prop where
 kind:scope.kind=.function
 co:scope.isCoroutine=false
 gen:scope.isGenerator=false
 cell:∀y∈scope.names,y.2≠.cell
 par:scope.names.lookup x=Za .local
 Ý:∀y∈fr,scope.names.lookup y=Za .free
 nd:(x::fr).Nodup
structure ÃD(scope:gH)(fr:List Str)(cl:List (Str×ag))(cs:List (ag×Obj))(WZ:List V):Prop where
 has:∀y,scope.names.lookup y=Za .free->∃c,cl.lookup y=Za c
 inj:∀y z c,cl.lookup y=Za c->cl.lookup z=Za c->y=z
 cel:∀y c,cl.lookup y=Za c->∃o u,cs.lookup c=Za o/\o.data=.cell u
 val:∀(i:Nat)(y:Str)(v:V),fr[i]?=Za y->WZ[i]?=Za v->∃c o u,cl.lookup y=Za c/\cs.lookup c=Za o/\o.data=.cell (Za u)/\RelV v u
 len:WZ.length=fr.length
def Qd(H:Hp)(P:ag)(q:Str):Prop:=∃ps,H P=Za (.ϕ ps)/\TriplesOk ps.toList/\∀pos c,codeAmong pos ps.toList=Za c->∃c' oc,c=.ref c'/\H c'=Za (fzO oc)/\∃vs tq,oc.data=.fields vs/\vs[1]?=Za (.str q tq)
structure Ãz(K:aa)(mg:Str->Option ai)(base:cg)(cd P:ag):Prop where
 hd:∀h:cg,K.In h->PySem.W.CodeHd h cd P
 nP:P≠aT
 bm:∃bm o,mg "__builtins__"=Za (.ref bm)/\bm≠jx/\bm≠aT/\bm≠P/\base.get? bm=Za o/\o.cls=.type "module"/\o.dict=Za jx/\o.data=.plain
def Odd(u:HO):Prop:=(∃ps,u=.ϕ ps)\/∃ob x,u=.Z5 ob (.own x)
def TbS(H H':Hp):Prop:=(∀a ps,H a=Za (.ϕ ps)->∃U8,H' a=Za (.ϕ U8))/\∀P q,Qd H P q->Qd H' P q
def TbS.of(k:∀a o,H a=Za o->Odd o->H' a=Za o):TbS H H':=⟨λa ps h=>⟨ps,k a _ h (.inl ⟨ps,rfl⟩)⟩,λP q ⟨ps,h,t,g⟩=>⟨ps,k P _ h (.inl ⟨ps,rfl⟩),t,λp c e=>by let⟨c',oc,a1,a2,a3⟩:=g p c e;exact⟨c',oc,a1,k c' _ a2 (.inr ⟨oc,0,rfl⟩),a3⟩⟩⟩
def TbS.same(k:ZT H H'):TbS H H':=.of λa o h _=>k a o h
theorem TbS.upd(h:H d=Za u)(n:¬Odd u):TbS H (upd H d o):=.of λa o' h' od=>by rw[mF (λz=>by grind)];exact h'
def GQ:¬Odd (.dK R3):=λz=>by rcases z with⟨_,z⟩|⟨_,_,z⟩<;>cases z
def B7:¬Odd (.lst xs):=λz=>by rcases z with⟨_,z⟩|⟨_,_,z⟩<;>cases z
def ÁY:¬Odd (.dT R3):=λz=>by rcases z with⟨_,z⟩|⟨_,_,z⟩<;>cases z
def Mv:¬Odd (.ins C dx fs):=λz=>by rcases z with⟨_,z⟩|⟨_,_,z⟩<;>cases z
def Q8:¬Odd (.Z5 ob (.dK R3)):=λz=>by rcases z with⟨_,z⟩|⟨_,_,z⟩<;>cases z
def F4:List Str:=["rules"]
def Tab(K:aa)(P:ag)(q:Str):Prop:=∃x∈F4,∃c,PySem.W.tabIn K x=Za (c,P)/\q=x++".<locals>.<lambda>"
abbrev Xc:=ag×Option Nat
instance:Coe ag Xc:=⟨λc=>(c,Zb)⟩
inductive PV where
 |Zn|bl (b:Bool)|int (i:Int)|str (x:Str)|tup (l:List PV)|lst (l:List PV)|Zv (l:List (Key×PV))|ref (n:Nat)|exc (c:Xc)|seq (l:List PV)|clo (a:ag) (vs:List V) (l:List PV)
inductive Cell where
 |lst (l:List PV)|Zv (l:List (Key×PV))|book (pp:List Str) (L:List My.Ent)|obj (C:ag) (fs:List (Str×PV))|Ì (l:List (Key×PV))|û (l:List (List Key×PV))
structure N' where
 nx:Nat
 cs:List (Nat×Cell)
structure Mp where
 ad:Nat->ag
 fp:Nat->List ag
 Z0:List ag
def qK:List (Nat×Cell)->Nat->Option Cell
 |[],_=>Zb
 |(k,c)::r,n=>if k=n then Za c else qK r n
def pT(n:Nat)(c:Cell):List (Nat×Cell)->List (Nat×Cell)
 |[]=>[]
 |(k,d)::r=>if k=n then(n,c)::r else(k,d)::pT n c r
def Eo(n:Nat):List (Nat×Cell)->List (Nat×Cell)
 |[]=>[]
 |(k,d)::r=>if k=n then r else(k,d)::Eo n r
def N'.get(s:N')(n:Nat):Option Cell:=qK s.cs n
def N'.set(s:N')(n:Nat)(c:Cell):N':=⟨s.nx,pT n c s.cs⟩
def N'.del(s:N')(n:Nat):N':=⟨s.nx,Eo n s.cs⟩
def N'.add(s:N')(c:Cell):N':=⟨s.nx+1,(s.nx,c)::s.cs⟩
theorem oz:∀{l:List (Nat×Cell)},qK l n=Za c->(n,c)∈l
 |(k,d)::r,h=>by
  unfold qK at h;split at h
  .rename_i e;cases h;subst e;exact al
  .exact af _ (oz h)
theorem Fw:∀{l:List (Nat×Cell)},(l.map (·.1)).Nodup->q∈pT n c l->q=(n,c)\/(q∈l/\q.1≠n)
 |(k,d)::r,nd,h=>by
  unfold pT at h;let⟨n1,n2⟩:=aK.mp (nd);split at h
  .grind
  .rename_i e;obtain h|h:=ap.mp h
   .grind
   .obtain h|⟨h,h'⟩:=Fw n2 h
    .exact .inl h
    .grind
theorem qC:∀{l:List (Nat×Cell)},(pT n c l).map (·.1)=l.map (·.1)
 |[]=>rfl
 |(k,d)::r=>by
  unfold pT;split
  .rename_i e;simp[e]
  .simp[qC]
theorem vI:∀{l:List (Nat×Cell)},q∈Eo n l->q∈l
 |(k,d)::r,h=>by
  unfold Eo at h;split at h
  .exact af _ h
  .obtain h|h:=ap.mp h
   .subst h;exact al
   .exact af _ (vI h)
theorem Iy:∀{l:List (Nat×Cell)},(l.map (·.1)).Nodup->((Eo n l).map (·.1)).Nodup
 |[],_=>iL
 |(k,d)::r,nd=>by
  let⟨n1,n2⟩:=aK.mp (nd);unfold Eo;split
  .exact n2
  .refine aK.mpr ⟨λz=>n1 ?_,Iy n2⟩;let⟨q,hq,e⟩:=ar.mp z;exact ar.mpr ⟨q,vI hq,e⟩
theorem Ix:∀{l:List (Nat×Cell)},(l.map (·.1)).Nodup->q∈Eo n l->q.1≠n
 |(k,d)::r,nd,h=>by
  let⟨n1,n2⟩:=aK.mp (nd);unfold Eo at h;split at h
  .grind
  .rename_i e;obtain h|h:=ap.mp h
   .grind
   .exact Ix n2 h
theorem rW(h:k≠n):∀{l:List (Nat×Cell)},qK (pT n c l) k=qK l k
 |[]=>rfl
 |(j,d)::r=>by
  unfold pT;split
  .rename_i e;unfold qK;rw[Zd (λz=>h z.symm),Zd (λz=>h (z.symm.trans e))]
  .unfold qK;split
   .rfl
   .exact rW h
theorem vh(h:k≠n):∀{l:List (Nat×Cell)},qK (Eo n l) k=qK l k
 |[]=>rfl
 |(j,d)::r=>by
  unfold Eo;split
  .rename_i e
   conv=>rhs;unfold qK
   rw[Zd (λz=>h (z.symm.trans e))]
  .unfold qK;split
   .rfl
   .exact vh h
def Ŀ(m:Mp)(s:N')(a:ag):Prop:=a∉m.Z0/\∀n∈s.cs.map (·.1),a∉m.fp n
def Pay(H:Hp)(m:Mp)(s:N')(g:Option Nat)(d:Option ag):Prop:=∀n,g=Za n->∃dx,d=Za dx/\H dx=Za (.xd [("group",.ref (m.ad n))])/\n<s.nx/\Ŀ m s dx
def Pay.no:Pay H m s Zb d:=λ_ z=>nomatch z
def KL(K:aa)(a:ag)(xs:List V):Prop:=∃(o:Obj)(its:Array ai)(n:Nat),K.lookup a=Za o/\o.cls=.type "list"/\o.dict=Zb/\o.data=.seq its n/\its.size<=aF/\Vals xs its.toList
def KT'(K:aa)(a:ag)(xs:List V):Prop:=∃(o:Obj)(its:Array ai)(n:Nat),K.lookup a=Za o/\o.cls=.type "tuple"/\o.data=.seq its n/\its.size<=aF/\Vals xs its.toList
mutual
inductive Rep (K:aa) (H:Hp) (m:Mp) (s:N'):V->PV->Prop
 |Zn:Rep K H m s .Zn .Zn
 |bl {b:Bool}:Rep K H m s (.bl b) (.bl b)
 |int {i:Int}:Rep K H m s (.int i) (.int i)
 |str {x:Str}:Rep K H m s (.str x) (.str x)
 |tup {a:ag}{vs:List V}{l:List PV}:(Rd H a (.tup vs)/\Ŀ m s a\/KT' K a vs)->Y5 K H m s vs l->Rep K H m s (.ref a) (.tup l)
 |lst {a:ag}{vs:List V}{l:List PV}:H a=Za (.lst vs)->Ŀ m s a->Y5 K H m s vs l->Rep K H m s (.ref a) (.lst l)
 |seq {a:ag}{vs:List V}{l:List PV}:((∃o,H a=Za (.Z5 o (.lst vs)))/\Ŀ m s a\/KL K a vs)->Y5 K H m s vs l->Rep K H m s (.ref a) (.seq l)
 |Zv {a:ag}{vs:List (Key×V)}{l:List (Key×PV)}:Rd H a (.dK vs)->Ŀ m s a->Y6 K H m s vs l->Rep K H m s (.ref a) (.Zv l)
 |ref {n:Nat}:n<s.nx->Rep K H m s (.ref (m.ad n)) (.ref n)
 |exc {a:ag}{c:Xc}{d:Option ag}:H a=Za (FQ c.1 a d)->Ŀ m s a->Pay H m s c.2 d->Rep K H m s (.ref a) (.exc c)
 |clo {a:ag}{vs:List V}{l:List PV}:Y5 K H m s vs l->Rep K H m s (.ref a) (.clo a vs l)
inductive Y5 (K:aa) (H:Hp) (m:Mp) (s:N'):List V->List PV->Prop
 |nil:Y5 K H m s [] []
 |cons {v:V}{p:PV}{vs:List V}{l:List PV}:Rep K H m s v p->Y5 K H m s vs l->Y5 K H m s (v::vs) (p::l)
inductive Y6 (K:aa) (H:Hp) (m:Mp) (s:N'):List (Key×V)->List (Key×PV)->Prop
 |nil:Y6 K H m s [] []
 |cons {k:Key}{v:V}{p:PV}{vs:List (Key×V)}{l:List (Key×PV)}:Rep K H m s v p->Y6 K H m s vs l->Y6 K H m s ((k,v)::vs) ((k,p)::l)
end
structure ExtR(H:Hp)(m:Mp)(s:N')(H':Hp)(m':Mp)(s':N'):Prop where
 nx:s.nx<=s'.nx
 ad:∀n,n<s.nx->m'.ad n=m.ad n
 pu:∀a u,Rd H a u->Ŀ m s a->Rd H' a u/\Ŀ m' s' a
 el:∀a u,H a=Za u->(∀R3,u≠.dK R3)->Ŀ m s a->H' a=Za u
structure Ext0(H:Hp)(m:Mp)(s:N')(H':Hp)(m':Mp)(s':N'):Prop extends ExtR H m s H' m' s' where
 df:∀n l,n<s.nx->qK s.cs n=Za (.Ì l)->qK s'.cs n=Za (.Ì l)/\∀o,H (m.ad n)=Za o->H' (m.ad n)=Za o
structure Ext(H:Hp)(m:Mp)(s:N')(H':Hp)(m':Mp)(s':N'):Prop extends Ext0 H m s H' m' s' where
 hd:m'.Z0=m.Z0
 hk:∀a∈m.Z0,∀o,H a=Za o->(∀ps,o≠.ϕ ps)->H' a=Za o
def Ext.refl:Ext H m s H m s:=⟨⟨⟨ak _,λ_ _=>rfl,λ_ _ h p=>⟨h,p⟩,λ_ _ h _ _=>h⟩,λ_ _ _ h=>⟨h,λ_ h=>h⟩⟩,rfl,λ_ _ _ h _=>h⟩
theorem Ext0.trans(a:Ext0 H m s H1 m1 s1)(b:Ext0 H1 m1 s1 H2 m2 s2):Ext0 H m s H2 m2 s2 :=
 ⟨⟨aC a.nx b.nx,λn h=>(b.ad n (aA h a.nx)).trans (a.ad n h),λc u h p=>let⟨h1,p1⟩:=a.pu c u h p;b.pu c u h1 p1,λc x h n p=>b.el c x (a.el c x h n p) n (a.pu c _ (.inl h) p).2⟩,λn l hn h=>by let⟨h1,k1⟩:=a.df n l hn h;let⟨h2,k2⟩:=b.df n l (aA hn a.nx) h1;rw[a.ad n hn] at k2;exact⟨h2,λo h=>k2 o (k1 o h)⟩⟩
theorem Ext.trans(a:Ext H m s H1 m1 s1)(b:Ext H1 m1 s1 H2 m2 s2):Ext H m s H2 m2 s2 :=
 ⟨a.toExt0.trans b.toExt0,b.hd.trans a.hd,λc hc o h n=>b.hk c (by rw[a.hd];exact hc) o (a.hk c hc o h n) n⟩
def Rd.same(k:ZT H H')(h:Rd H a u):Rd H' a u:=h.elim (λh=>.inl (k _ _ h)) λ⟨o,h⟩=>.inr ⟨o,k _ _ h⟩
def Rd.ne(h:Rd H a u)(hb:H b=Zb):a≠b:=h.elim (λh=>mQ h hb) λ⟨_,h⟩=>mQ h hb
theorem Ext.same(k:ZT H H'):Ext H m s H' m s:=⟨⟨⟨ak _,λ_ _=>rfl,λ_ _ h p=>⟨h.same k,p⟩,λ_ _ h _ _=>k _ _ h⟩,λ_ _ _ h=>⟨h,λo h=>k _ _ h⟩⟩,rfl,λ_ _ _ h _=>k _ _ h⟩
def Pay.Zq(e:ExtR H m s H' m' s')(y:Pay H m s g d):Pay H' m' s' g d:=λn z=>by let⟨dx,h1,h2,h3,h4⟩:=y n z;exact⟨dx,h1,by rw[e.ad n h3];exact e.el _ _ h2 `g h4,aA h3 e.nx,(e.pu _ _ (.inl h2) h4).2⟩
mutual
theorem Rep.Zq{K}{H H'}{m m'}{s s'}(e:ExtR H m s H' m' s'):∀{v:V}{p:PV},Rep K H m s v p->Rep K H' m' s' v p
 |_,_,.Zn=>.Zn
 |_,_,.bl=>.bl
 |_,_,.int=>.int
 |_,_,.str=>.str
 |_,_,.tup h r=>.tup (h.imp (λz=>e.pu _ _ z.1 z.2) λz=>z) (Y5.Zq e r)
 |_,_,.lst h p r=>.lst (e.el _ _ h (by intro _ z;cases z) p) (e.pu _ _ (.inl h) p).2 (Y5.Zq e r)
 |_,_,.seq h r=>.seq (h.imp (λ⟨⟨o,z⟩,p⟩=>⟨⟨o,e.el _ _ z (by intro _ z;cases z) p⟩,(e.pu _ _ (.inl z) p).2⟩) λz=>z) (Y5.Zq e r)
 |_,_,.Zv h p r=>.Zv (e.pu _ _ h p).1 (e.pu _ _ h p).2 (Y6.Zq e r)
 |_,_,.ref (n:=n) h=>by rw[<-e.ad _ h];exact .ref (aA h e.nx)
 |_,_,.exc h p y=>.exc (e.el _ _ h (by intro _ z;cases z) p) (e.pu _ _ (.inl h) p).2 (y.Zq e)
 |_,_,.clo r=>.clo (Y5.Zq e r)
theorem Y5.Zq{K}{H H'}{m m'}{s s'}(e:ExtR H m s H' m' s'):∀{v:List V}{p:List PV},Y5 K H m s v p->Y5 K H' m' s' v p
 |_,_,.nil=>.nil
 |_,_,.cons a b=>.cons (Rep.Zq e a) (Y5.Zq e b)
theorem Y6.Zq{K}{H H'}{m m'}{s s'}(e:ExtR H m s H' m' s'):∀{v:List (Key×V)}{p:List (Key×PV)},Y6 K H m s v p->Y6 K H' m' s' v p
 |_,_,.nil=>.nil
 |_,_,.cons a b=>.cons (Rep.Zq e a) (Y6.Zq e b)
end
def Rep.ext{K}{H H'}{m m'}{s s'}(e:Ext H m s H' m' s'){v}{p}(r:Rep K H m s v p):Rep K H' m' s' v p:=r.Zq e.toExtR
def Y5.ext{K}{H H'}{m m'}{s s'}(e:Ext H m s H' m' s'){v}{p}(r:Y5 K H m s v p):Y5 K H' m' s' v p:=r.Zq e.toExtR
def Y6.ext{K}{H H'}{m m'}{s s'}(e:Ext H m s H' m' s'){v}{p}(r:Y6 K H m s v p):Y6 K H' m' s' v p:=r.Zq e.toExtR
mutual
inductive Old (k:Nat):PV->Prop
 |Zn:Old k .Zn
 |bl {b:Bool}:Old k (.bl b)
 |int {i:Int}:Old k (.int i)
 |str {x:Str}:Old k (.str x)
 |tup {l:List PV}:Olds k l->Old k (.tup l)
 |lst {l:List PV}:Olds k l->Old k (.lst l)
 |seq {l:List PV}:Olds k l->Old k (.seq l)
 |Zv {l:List (Key×PV)}:ŭ k l->Old k (.Zv l)
 |ref {n:Nat}:n<k->Old k (.ref n)
 |exc {c:Xc}:(∀n,c.2=Za n->n<k)->Old k (.exc c)
 |clo {a:ag}{vs:List V}{l:List PV}:Olds k l->Old k (.clo a vs l)
inductive Olds (k:Nat):List PV->Prop
 |nil:Olds k []
 |cons {p:PV}{l:List PV}:Old k p->Olds k l->Olds k (p::l)
inductive ŭ (k:Nat):List (Key×PV)->Prop
 |nil:ŭ k []
 |cons {q:Key}{p:PV}{l:List (Key×PV)}:Old k p->ŭ k l->ŭ k ((q,p)::l)
end
structure Sub(m:Mp)(s:N')(m':Mp)(s':N'):Prop where
 pu:∀a,Ŀ m s a->Ŀ m' s' a
 ad:∀n,n<s'.nx->m'.ad n=m.ad n
mutual
theorem Rep.sub{K}{H}{m m'}{s s'}(e:Sub m s m' s'):∀{v:V}{p:PV},Old s'.nx p->Rep K H m s v p->Rep K H m' s' v p
 |_,_,_,.Zn=>.Zn
 |_,_,_,.bl=>.bl
 |_,_,_,.int=>.int
 |_,_,_,.str=>.str
 |_,_,o,.tup h r=>.tup (h.imp (λz=>⟨z.1,e.pu _ z.2⟩) λz=>z) (Y5.sub e (by cases o;assumption) r)
 |_,_,o,.lst h p r=>.lst h (e.pu _ p) (Y5.sub e (by cases o;assumption) r)
 |_,_,o,.seq h r=>.seq (h.imp (λz=>⟨z.1,e.pu _ z.2⟩) λz=>z) (Y5.sub e (by cases o;assumption) r)
 |_,_,o,.Zv h p r=>.Zv h (e.pu _ p) (Y6.sub e (by cases o;assumption) r)
 |_,_,o,.ref _=>by
  cases o with
  |ref o=>rw[<-e.ad _ o];exact .ref o
 |_,_,o,.exc h p y=>.exc h (e.pu _ p) λn z=>by
  cases o with
  |exc o =>
   let⟨dx,h1,h2,h3,h4⟩:=y n z;exact⟨dx,h1,by rw[e.ad n (o n z)];exact h2,o n z,e.pu _ h4⟩
 |_,_,o,.clo r=>.clo (Y5.sub e (by cases o;assumption) r)
theorem Y5.sub{K}{H}{m m'}{s s'}(e:Sub m s m' s'):∀{v:List V}{p:List PV},Olds s'.nx p->Y5 K H m s v p->Y5 K H m' s' v p
 |_,_,_,.nil=>.nil
 |_,_,o,.cons a b=>.cons (Rep.sub e (by cases o;assumption) a) (Y5.sub e (by cases o;assumption) b)
theorem Y6.sub{K}{H}{m m'}{s s'}(e:Sub m s m' s'):∀{v:List (Key×V)}{p:List (Key×PV)},ŭ s'.nx p->Y6 K H m s v p->Y6 K H m' s' v p
 |_,_,_,.nil=>.nil
 |_,_,o,.cons a b=>.cons (Rep.sub e (by cases o;assumption) a) (Y6.sub e (by cases o;assumption) b)
end
mutual
theorem Rep.old{K}{H}{m}{s}:∀{v:V}{p:PV},Rep K H m s v p->Old s.nx p
 |_,_,.Zn=>.Zn
 |_,_,.bl=>.bl
 |_,_,.int=>.int
 |_,_,.str=>.str
 |_,_,.tup _ r=>.tup (Y5.old r)
 |_,_,.lst _ _ r=>.lst (Y5.old r)
 |_,_,.seq _ r=>.seq (Y5.old r)
 |_,_,.Zv _ _ r=>.Zv (Y6.old r)
 |_,_,.ref h=>.ref h
 |_,_,.exc _ _ y=>.exc λn z=>let⟨_,_,_,h,_⟩:=y n z;h
 |_,_,.clo r=>.clo r.old
theorem Y5.old{K}{H}{m}{s}:∀{v:List V}{p:List PV},Y5 K H m s v p->Olds s.nx p
 |_,_,.nil=>.nil
 |_,_,.cons a b=>.cons (Rep.old a) (Y5.old b)
theorem Y6.old{K}{H}{m}{s}:∀{v:List (Key×V)}{p:List (Key×PV)},Y6 K H m s v p->ŭ s.nx p
 |_,_,.nil=>.nil
 |_,_,.cons a b=>.cons (Rep.old a) (Y6.old b)
end
def Ϡ(K:aa)(H:Hp)(m:Mp)(s:N')(Tw:List (Str×V))(fs:List (Str×PV)):Prop:=Tw.map (·.1)=fs.map (·.1)/\Y5 K H m s (Tw.map (·.2)) (fs.map (·.2))
def ÂC(K:aa)(H:Hp)(m:Mp)(s:N')(Tw:List (List Key×V))(fs:List (List Key×PV)):Prop:=Tw.map (·.1)=fs.map (·.1)/\Y5 K H m s (Tw.map (·.2)) (fs.map (·.2))
def ç(K:aa)(CB:ag)(H:Hp)(m:Mp)(s:N')(n:Nat):Cell->Prop
 |.lst l=>m.fp n=[m.ad n]/\∃vs,H (m.ad n)=Za (.lst vs)/\Y5 K H m s vs l
 |.Zv l=>m.fp n=[m.ad n]/\∃vs,H (m.ad n)=Za (.dK vs)/\Y6 K H m s vs l
 |.Ì l=>m.fp n=[m.ad n]/\∃ob vs,H (m.ad n)=Za (.Z5 ob (.dK vs))/\Y6 K H m s vs l
 |.book pp L=>∃z L',My.Zu K CB H (m.ad n) z pp L'/\L'.map (·.1)=L/\m.fp n=My.î (m.ad n) z L'
 |.obj C fs=>m.fp n=[m.ad n]/\∃dx Tw,H (m.ad n)=Za (.ins C dx Tw)/\Ϡ K H m s Tw fs
 |.û l=>m.fp n=[m.ad n]/\∃vs,H (m.ad n)=Za (.dT vs)/\ÂC K H m s vs l
structure SR(K:aa)(CB:ag)(H:Hp)(m:Mp)(s:N'):Prop where
 nd:(s.cs.map (·.1)).Nodup
 lt:∀n∈s.cs.map (·.1),n<s.nx
 ok:∀q∈s.cs,ç K CB H m s q.1 q.2
 dj:∀n∈s.cs.map (·.1),∀k∈s.cs.map (·.1),n≠k->∀a∈m.fp n,a∉m.fp k
 hx:∀n∈s.cs.map (·.1),∀a∈m.fp n,a∉m.Z0
 hs:∀a∈m.Z0,H a≠Zb/\∀xs o,H a≠Za (.tup xs)/\H a≠Za (.Z5 o (.tup xs))/\H a≠Za (.Z5 o (.lst xs))/\∀x,H a≠Za (.Z5 o (.own x))
 tb:∀P q,Tab K P q->P∈m.Z0/\Qd H P q
def SR.tbk{K}{CB}{H H'}{m}{s}(S:SR K CB H m s)(e:TbS H H'):∀P q,Tab K P q->P∈m.Z0/\Qd H' P q:=λP q t=>⟨(S.tb P q t).1,e.2 P q (S.tb P q t).2⟩
def ç.kind{K}{CB}{H}{m}{s}{n}{c}(h:ç K CB H m s n c){a}(ha:a∈m.fp n):∃o,H a=Za o/\(∀xs,o≠.tup xs)/\(∀ob xs,o≠.Z5 ob (.tup xs)/\o≠.Z5 ob (.lst xs))/\¬Odd o:=by
 cases c with
 |lst l=>let⟨e,vs,h,_⟩:=h;rw[e,ax] at ha;subst ha;exact⟨_,h,`g,(λ_ _=>⟨`g,`g⟩),B7⟩
 |Zv l=>let⟨e,vs,h,_⟩:=h;rw[e,ax] at ha;subst ha;exact⟨_,h,`g,(λ_ _=>⟨`g,`g⟩),GQ⟩
 |Ì l=>let⟨e,ob,vs,h,_⟩:=h;rw[e,ax] at ha;subst ha;exact⟨_,h,`g,(λ_ _=>⟨`g,`g⟩),Q8⟩
 |obj C fs=>let⟨e,dx,vs,h,_⟩:=h;rw[e,ax] at ha;subst ha;exact⟨_,h,`g,(λ_ _=>⟨`g,`g⟩),Mv⟩
 |û l=>let⟨e,vs,h,_⟩:=h;rw[e,ax] at ha;subst ha;exact⟨_,h,`g,(λ_ _=>⟨`g,`g⟩),ÁY⟩
 |book pp L =>
  let⟨z,L',B,_,e⟩:=h;rw[e] at ha;unfold My.î at ha;have d:∀{c:ag}{R3:List (Key×V)},H c=Za (.dK R3)->∃o,H c=Za o/\(∀xs,o≠.tup xs)/\(∀ob xs,o≠.Z5 ob (.tup xs)/\o≠.Z5 ob (.lst xs))/\¬Odd o:=λh=>⟨_,h,`g,(λ_ _=>⟨`g,`g⟩),GQ⟩;simp only[ap] at ha;obtain rfl|rfl|rfl|rfl|rfl|rfl|ha:=ha
  .exact⟨_,B.ob,`g,(λ_ _=>⟨`g,`g⟩),Mv⟩
  .exact d B.pp
  .exact d B.tt
  .exact d B.mm
  .exact d B.ll
  .let⟨T,e,_⟩:=B.hh;exact d e
  .let⟨q,hq,rfl⟩:=ar.mp ha;let⟨ts,_,h2,_⟩:=B.he q hq;exact d h2
def SR.ZK{K}{CB}{H}{m}{s}(S:SR K CB H m s){a}(h:H a=Zb):Ŀ m s a:=⟨λz=>(S.hs a z).1 h,λn hn ha=>by let⟨q,hq,rfl⟩:=ar.mp hn;let⟨o,e,_⟩:=(S.ok q hq).kind ha;rw[h] at e;grind⟩
def SR.Â{K}{CB}{H}{m}{s}(S:SR K CB H m s){a}{xs}(h:H a=Za (.tup xs)):Ŀ m s a:=⟨λz=>((S.hs a z).2 xs default).1 h,λn hn ha=>by let⟨q,hq,rfl⟩:=ar.mp hn;let⟨o,e,k,_⟩:=(S.ok q hq).kind ha;rw[h] at e;grind⟩
def SR.ň{K}{CB}{H}{m}{s}(S:SR K CB H m s){a}{ob}{xs}(h:H a=Za (.Z5 ob (.tup xs))\/H a=Za (.Z5 ob (.lst xs))):Ŀ m s a:=⟨λz=>h.elim (λh=>((S.hs a z).2 xs ob).2.1 h) λh=>((S.hs a z).2 xs ob).2.2.1 h,λn hn ha=>by
 let⟨q,hq,rfl⟩:=ar.mp hn;let⟨o,e,_,k,_⟩:=(S.ok q hq).kind ha;obtain h|h:=h<;>(rw[h] at e;cases e)
 .exact(k _ _).1 rfl
 .exact(k _ _).2 rfl⟩
def â.Á2{K}{CB}{H H'}{m m'}{s s'}(S:SR K CB H m s)(e:ExtR H m s H' m' s'){t}{xs}(h:â K H t xs):â K H' t xs:=by
 obtain h|h:=h
 .exact .inl (e.pu _ _ h (h.elim (λh=>S.Â h) λ⟨_,h⟩=>S.ň (.inl h))).1
 .exact .inr h
def Ϡ.ext{K}{H H'}{m m'}{s s'}(e:ExtR H m s H' m' s'){a}{b}(h:Ϡ K H m s a b):Ϡ K H' m' s' a b:=⟨h.1,h.2.Zq e⟩
theorem ç.keep{K}{CB}{H H'}{m m'}{s s'}{n}{c}(S:SR K CB H m s)(e:ExtR H m s H' m' s')(k:∀a∈m.fp n,∀o,H a=Za o->H' a=Za o)(ha:m'.ad n=m.ad n)(hf:m'.fp n=m.fp n)(h:ç K CB H m s n c):ç K CB H' m' s' n c:=by
 cases c with
 |lst l=>let⟨e1,vs,h,r⟩:=h;exact⟨by rw[ha,hf];exact e1,vs,by rw[ha];exact k _ (by rw[e1];simp) _ h,r.Zq e⟩
 |Zv l=>let⟨e1,vs,h,r⟩:=h;exact⟨by rw[ha,hf];exact e1,vs,by rw[ha];exact k _ (by rw[e1];simp) _ h,r.Zq e⟩
 |Ì l=>let⟨e1,ob,vs,h,r⟩:=h;exact⟨by rw[ha,hf];exact e1,ob,vs,by rw[ha];exact k _ (by rw[e1];simp) _ h,r.Zq e⟩
 |obj C fs=>let⟨e1,dx,vs,h,r⟩:=h;exact⟨by rw[ha,hf];exact e1,dx,vs,by rw[ha];exact k _ (by rw[e1];simp) _ h,Ϡ.ext e r⟩
 |û l=>let⟨e1,vs,h,r⟩:=h;exact⟨by rw[ha,hf];exact e1,vs,by rw[ha];exact k _ (by rw[e1];simp) _ h,⟨r.1,r.2.Zq e⟩⟩
 |book pp L =>
  let⟨z,L',B,e1,e2⟩:=h;rw[e2] at k;have kb:=k;refine⟨z,L',?_,e1,by rw[ha,hf];exact e2⟩;rw[ha];refine⟨kb _ (by simp[My.î]) _ B.ob,kb _ (by simp[My.î]) _ B.pp,kb _ (by simp[My.î]) _ B.tt,kb _ (by simp[My.î]) _ B.mm,kb _ (by simp[My.î]) _ B.ll,B.hh.keep (λo h=>kb _ (by simp[My.î]) _ h),λq hq=>?_,B.nd,B.p6,B.h8⟩;let⟨ts,h1,h2,h3⟩:=B.he q hq;refine⟨ts,h1,kb _ ?_ _ h2,λy hy=>(h3 y hy).Á2 S e⟩;unfold My.î
  grind
theorem SR.same{K}{CB}{H H'}{m}{s}(S:SR K CB H m s)(k:ZT H H'):SR K CB H' m s :=
 ⟨S.nd,S.lt,λq hq=>(S.ok q hq).keep S (Ext.same k).toExtR (λa _ o h=>k a o h) rfl rfl,S.dj,S.hx,λa ha=>by
  let⟨h1,h2⟩:=S.hs a ha;cases e:H a with
  |none=>exact absurd e h1
  |some o =>
   rw[k a o e];rw[e] at h2;exact⟨by simp,h2⟩,S.tbk (.same k)⟩
theorem SR.get{K}{CB}{H}{m}{s}(S:SR K CB H m s){n}{c}(h:s.get n=Za c):ç K CB H m s n c:=S.ok _ (oz h)
def SR.Âi{K}{CB}{H}{m}{s}(S:SR K CB H m s){n}{c}(h:s.get n=Za c):n<s.nx:=S.lt _ (ar.mpr ⟨_,oz h,rfl⟩)
def Mp.Þ(m:Mp)(n:Nat)(f':List ag):Mp:=⟨m.ad,λj=>if j=n then f' else m.fp j,m.Z0⟩
def SR.hsk{K}{CB}{H H'}{m}{s}(S:SR K CB H m s)(k:∀a∈m.Z0,∀o,H a=Za o->(∀ps,o≠.ϕ ps)->H' a=Za o)(kt:TbS H H'):∀a∈m.Z0,H' a≠Zb/\∀xs o,H' a≠Za (.tup xs)/\H' a≠Za (.Z5 o (.tup xs))/\H' a≠Za (.Z5 o (.lst xs))/\∀x,H' a≠Za (.Z5 o (.own x)):=λa ha=>by
 let⟨h1,h2⟩:=S.hs a ha;cases e:H a with
 |none=>exact absurd e h1
 |some o =>
  by_cases t:∃ps,o=.ϕ ps
  .let⟨ps,t⟩:=t;rw[t] at e;let⟨U8,e'⟩:=kt.1 a ps e
   simp_all
  rw[k a ha o e λps z=>t ⟨ps,z⟩];rw[e] at h2;exact⟨by simp,h2⟩
def SR.ÁD{K}{CB}{H}{m}{s}(S:SR K CB H m s){n}{c c'}(hn:s.get n=Za c)(H')(f')(k:∀a o,H a=Za o->a∉m.fp n->H' a=Za o)(Tj:∀a∈f',a∈m.fp n\/H a=Zb)(Zl:ExtR H m s H' (m.Þ n f') (s.set n c')->ç K CB H' (m.Þ n f') (s.set n c') n c') :
  SR K CB H' (m.Þ n f') (s.set n c')/\ExtR H m s H' (m.Þ n f') (s.set n c')/\((∀l,c≠.Ì l)->Ext H m s H' (m.Þ n f') (s.set n c')):=by
 have SA:n∈s.cs.map (·.1):=ar.mpr ⟨_,oz hn,rfl⟩;have hkd:∀a∈m.Z0,∀o,H a=Za o->(∀ps,o≠.ϕ ps)->H' a=Za o:=λa ha o h _=>k a o h λz=>S.hx n SA a z ha;have htb:TbS H H':=.of λa o h od=>k a o h λz=>by
  let⟨o',e',_,_,no⟩:=(S.get hn).kind z
  grind
 have hx:ExtR H m s H' (m.Þ n f') (s.set n c'):=by
  refine⟨ak _,λ_ _=>rfl,λa u h p=>?_,λa u h _ p=>k _ _ h (p.2 n SA)⟩;have Su:∃o,H a=Za o:=h.elim (λh=>⟨_,h⟩) λ⟨o,h⟩=>⟨_,h⟩;refine⟨h.elim (λh=>.inl (k _ _ h (p.2 n SA))) λ⟨o,h⟩=>.inr ⟨o,k _ _ h (p.2 n SA)⟩,p.1,λj hj hm=>?_⟩;have hm:a∈(if j=n then f' else m.fp j):=hm;have UI:j∈s.cs.map (·.1):=by rw[<-qC (n:=n) (c:=c')];exact hj
  by_cases e:j=n
  .simp[e,Zc] at hm;obtain z|z:=Tj a hm
   .exact p.2 n SA z
   .grind
  .simp[Zd e] at hm;exact p.2 j UI hm
 refine⟨⟨?_,?_,λq hq=>?_,λj hj i hi Su a ha hb=>?_,λj hj a ha hb=>?_,S.hsk hkd htb,S.tbk htb⟩,hx,λõ=>⟨⟨hx,λj l hj h=>?_⟩,rfl,hkd⟩⟩
 .show((pT n c' s.cs).map (·.1)).Nodup;rw[qC];exact S.nd
 .intro j hj;have UI:j∈s.cs.map (·.1):=by rw[<-qC (n:=n) (c:=c')];exact hj
  exact S.lt j UI
 .obtain rfl|⟨hq,Su⟩:=Fw S.nd hq
  .exact Zl hx
  .refine(S.ok q hq).keep S hx (λa ha o h=>k a o h (S.dj _ (ar.mpr ⟨q,hq,rfl⟩) _ SA Su a ha)) rfl ?_;show(if q.1=n then f' else m.fp q.1)=_;rw[Zd Su]
 .have ha:a∈(if j=n then f' else m.fp j):=ha;have hb:a∈(if i=n then f' else m.fp i):=hb;have UI:j∈s.cs.map (·.1):=by rw[<-qC (n:=n) (c:=c')];exact hj
  have Wx:i∈s.cs.map (·.1):=by rw[<-qC (n:=n) (c:=c')];exact hi
  have Sw:∀j∈s.cs.map (·.1),∀a∈m.fp j,H a≠none:=λj hj a ha z=>by let⟨q,hq,rfl⟩:=ar.mp hj;let⟨o,e,_⟩:=(S.ok q hq).kind ha;rw[z] at e;cases e
  by_cases e1:j=n
  .have e2:i≠n:=λz=>Su (e1.trans z.symm);simp[e1,Zc] at ha;simp[Zd e2] at hb;obtain z|z:=Tj a ha
   .exact S.dj _ SA _ Wx (λz=>e2 z.symm) a z hb
   .exact Sw i Wx a hb z
  .simp[Zd e1] at ha;by_cases e2:i=n
   .simp[e2,Zc] at hb;obtain z|z:=Tj a hb
    .exact S.dj _ UI _ SA e1 a ha z
    .exact Sw j UI a ha z
   .simp[Zd e2] at hb;exact S.dj _ UI _ Wx Su a ha hb
 .have ha:a∈(if j=n then f' else m.fp j):=ha;have UI:j∈s.cs.map (·.1):=by rw[<-qC (n:=n) (c:=c')];exact hj
  by_cases e1:j=n
  .rw[Zc e1] at ha;obtain z|z:=Tj a ha
   .exact S.hx n SA a z hb
   .exact(S.hs a hb).1 z
  .rw[Zd e1] at ha;exact S.hx j UI a ha hb
 .have Wv:j≠n:=λz=>by
   subst z;have h:s.get j=Za (.Ì l):=h
   grind
  refine⟨(rW Wv).trans h,λo ho=>?_⟩;let⟨e1,_⟩:=S.ok _ (oz h);exact k _ _ ho (S.dj j (ar.mpr ⟨_,oz h,rfl⟩) n SA Wv _ (by rw[e1];simp))
def SR.put{K}{CB}{H}{m}{s}(S:SR K CB H m s){n}{c c'}(hn:s.get n=Za c)(õ:∀l,c≠.Ì l)(H')(f')(k:∀a o,H a=Za o->a∉m.fp n->H' a=Za o)(Tj:∀a∈f',a∈m.fp n\/H a=Zb)(Zl:ExtR H m s H' (m.Þ n f') (s.set n c')->ç K CB H' (m.Þ n f') (s.set n c') n c'):SR K CB H' (m.Þ n f') (s.set n c')/\Ext H m s H' (m.Þ n f') (s.set n c') :=
 let⟨a,_,b⟩:=S.ÁD hn H' f' k Tj Zl;⟨a,b õ⟩
def Mp.add(m:Mp)(n:Nat)(p:ag)(f:List ag):Mp:=⟨λj=>if j=n then p else m.ad j,λj=>if j=n then f else m.fp j,m.Z0⟩
theorem SR.add{K}{CB}{H}{m}{s}(S:SR K CB H m s){c}(H')(p)(f)(k:ZT H H')(hf:∀a∈f,H a=Zb)(Zl:Ext H m s H' (m.add s.nx p f) (s.add c)->ç K CB H' (m.add s.nx p f) (s.add c) s.nx c) :
  SR K CB H' (m.add s.nx p f) (s.add c)/\Ext H m s H' (m.add s.nx p f) (s.add c):=by
 have Sd:=λj hj=>az (S.lt j hj);have Sw:∀j∈s.cs.map (·.1),∀a∈m.fp j,H a≠none:=λj hj a ha z=>by
  let⟨q,hq,rfl⟩:=ar.mp hj;let⟨o,e,_⟩:=(S.ok q hq).kind ha
  grind
 have hx:Ext H m s H' (m.add s.nx p f) (s.add c):=by
  refine⟨⟨⟨dD _,λj hj=>?_,λa u h q=>⟨h.same k,q.1,λj hj hm=>?_⟩,λa u h _ _=>k _ _ h⟩,λj l hj h=>⟨?_,λo ho=>k _ _ ho⟩⟩,rfl,λa _ o h _=>k a o h⟩
  rotate_left 2
  .show qK ((s.nx,c)::s.cs) j=_;unfold qK;rw[Zd (λz=>az hj z.symm)];exact h
  .show(if j=s.nx then p else m.ad j)=_;rw[Zd (az hj)]
  .have hm:a∈(if j=s.nx then f else m.fp j):=hm;obtain e|hj:=ap.mp (hj)
   .rw[Zc e] at hm;have:=hf a hm;obtain h|⟨o,h⟩:=h<;>(rw[this] at h;cases h)
   .rw[Zd (Sd j hj)] at hm;exact q.2 j hj hm
 have TV:∀j∈s.cs.map (·.1),(m.add s.nx p f).fp j=m.fp j:=λj hj=>by show(if j=s.nx then f else m.fp j)=_;rw[Zd (Sd j hj)]
 have Uq:(m.add s.nx p f).fp s.nx=f:=by show(if s.nx=s.nx then f else _)=_;rw[Zc rfl]
 refine⟨⟨?_,?_,λq hq=>?_,λj hj i hi Su a ha hb=>?_,λj hj a ha hb=>?_,S.hsk hx.hk (.same k),S.tbk (.same k)⟩,hx⟩
 .exact aK.mpr ⟨λz=>Sd _ z rfl,S.nd⟩
 .intro j hj;obtain e|hj:=ap.mp (hj)
  .rw[e];exact bv _
  .exact bK (S.lt j hj)
 .obtain rfl|hq:=ap.mp (hq)
  .exact Zl hx
  .have Wm:q.1∈s.cs.map (·.1):=ar.mpr ⟨q,hq,rfl⟩;exact(S.ok q hq).keep S hx.toExtR (λa ha o h=>k a o h) (hx.ad _ (S.lt _ Wm)) (TV _ Wm)
 .obtain e|hj:=ap.mp (hj)<;>obtain e'|hi:=ap.mp (hi)
  .grind
  .rw[e,Uq] at ha;rw[TV i hi] at hb;exact Sw i hi a hb (hf a ha)
  .rw[TV j hj] at ha;rw[e',Uq] at hb;exact Sw j hj a ha (hf a hb)
  .rw[TV j hj] at ha;rw[TV i hi] at hb;exact S.dj j hj i hi Su a ha hb
 .obtain e|hj:=ap.mp (hj)
  .rw[e,Uq] at ha;exact(S.hs a hb).1 (hf a ha)
  .rw[TV j hj] at ha;exact S.hx j hj a ha hb
theorem SR.del{K}{CB}{H}{m}{s}(S:SR K CB H m s)(n)(õ:∀l,s.get n≠Za (.Ì l)):SR K CB H m (s.del n)/\Ext H m s H m (s.del n):=by
 have SA:∀j∈(s.del n).cs.map (·.1),j∈s.cs.map (·.1):=λj hj=>by let⟨q,hq,rfl⟩:=ar.mp hj;exact ar.mpr ⟨q,vI hq,rfl⟩
 have hx:Ext H m s H m (s.del n):=⟨⟨⟨ak _,λ_ _=>rfl,λa u h p=>⟨h,p.1,λj hj=>p.2 j (SA j hj)⟩,λ_ _ h _ _=>h⟩,λj l hj h=>⟨(vh (λz=>õ l (by rw[<-z];exact h))).trans h,λo h=>h⟩⟩,rfl,λ_ _ _ h _=>h⟩;exact⟨⟨Iy S.nd,λj hj=>S.lt j (SA j hj),λq hq=>(S.ok q (vI hq)).keep S hx.toExtR (λ_ _ _ h=>h) rfl rfl,λj hj i hi=>S.dj j (SA j hj) i (SA i hi),λj hj=>S.hx j (SA j hj),S.hs,S.tb⟩,hx⟩
inductive Out (α:Type) where
 |ok (a:α) (s:N')|ex (c:Xc) (s:N')|bad
noncomputable def Out.bind{α β:Type}(o:Out α)(k:α->N'->Out β):Out β:=match o with
 |.ok a s=>k a s
 |.ex c s=>.ex c s
 |.bad=>.bad
abbrev En:=List (Option PV)
abbrev XE:=En->N'->Out PV
abbrev XT:=En->N'->Out Bool
abbrev XA:=En->N'->Out (List PV)
inductive SO where
 |nx (Z:En) (s:N')|rt (v:PV) (s:N')|bk (Z:En) (s:N')|ct (Z:En) (s:N')|ex (c:Xc) (s:N')|bad
abbrev XS:=En->N'->SO
def Zs{α β:Type}(K:aa)(CB:ag)(R:Hp->Mp->N'->β->α->Prop)(E:XK)(o:Out α)(H:Hp)(m:Mp)(s:N')(Q:β->Hp->Prop):Prop:=match o with
 |.ok v s'=>∀u H' m',Ext H m s H' m' s'->SR K CB H' m' s'->R H' m' s' u v->Q u H'
 |.ex c s'=>∀H' m',Ext H m s H' m' s'->SR K CB H' m' s'->∀d,Pay H' m' s' c.2 d->E (.ref c.1) d H'
 |.bad=>False
def Zs.shift{α β:Type}{K}{CB}{R}{E}{o:Out α}{H H1}{m m1}{s s1}{Q:β->Hp->Prop}(e:Ext H m s H1 m1 s1)(h:Zs K CB R E o H m s Q):Zs K CB R E o H1 m1 s1 Q:=by
 cases o with
 |ok v s'=>exact λu H' m' x S r=>h u H' m' (e.trans x) S r
 |ex c s'=>exact λH' m' x S=>h H' m' (e.trans x) S
 |bad=>exact h
theorem Zs.bind{α β α' β':Type}{K}{CB}{R}{R'}{E}{o:Out α}{k:α->N'->Out α'}{H}{m}{s}{Q:β'->Hp->Prop}{Q1:β->Hp->Prop}(h:Zs K CB R' E (o.bind k) H m s Q)(f:∀v s1 u H1 m1,Ext H m s H1 m1 s1->SR K CB H1 m1 s1->R H1 m1 s1 u v->Zs K CB R' E (k v s1) H1 m1 s1 Q->Q1 u H1):Zs K CB R E o H m s Q1:=by
 cases o with
 |ok v s1=>exact λu H1 m1 x S r=>f v s1 u H1 m1 x S r (Zs.shift x h)
 |ex c s'=>exact h
 |bad=>exact h
def Zs.here{α β:Type}{K}{CB}{R}{E}{v:α}{H}{m}{s}{Q:β->Hp->Prop}{u:β}(h:Zs K CB R E (.ok v s) H m s Q)(S:SR K CB H m s)(r:R H m s u v):Q u H:=h u H m .refl S r
def Zs.new{α β:Type}{K}{CB}{R}{E}{v:α}{H}{m}{s}{Q:β->Hp->Prop}{u:β}{p}{o}(h:Zs K CB R E (.ok v s) H m s Q)(S:SR K CB H m s)(hp:H p=Zb)(r:Ext H m s (upd H p o) m s->SR K CB (upd H p o) m s->R (upd H p o) m s u v):Q u (upd H p o):=by
 have k:ZT H (upd H p o):=My.rQ hp;exact h u _ m (.same k) (S.same k) (r (.same k) (S.same k))
structure ER(K:aa)(H:Hp)(m:Mp)(s:N')(O:St)(Z:En):Prop where
 len:Z.length=O.length
 at_:∀(i:Nat)(p:PV),Z[i]?=Za (Za p)->∃u,O[i]?=Za (Za u)/\Rep K H m s u p
theorem ER.ext{K}{H H'}{m m'}{s s'}{O}{Z}(h:ER K H m s O Z)(e:Ext H m s H' m' s'):ER K H' m' s' O Z :=
 ⟨h.len,λi p q=>let⟨u,a,b⟩:=h.at_ i p q;⟨u,a,b.ext e⟩⟩
theorem ER.set{K}{H}{m}{s}{O}{Z}{u}{p}(h:ER K H m s O Z)(i)(r:Rep K H m s u p):ER K H m s (O.set i (Za u)) (Z.set i (Za p)):=by
 refine⟨by simp[h.len],λj q e=>?_⟩;rw[gM] at e ⊢;by_cases c:i=j
 .rw[Zc c] at e ⊢;by_cases d:i<Z.length
  .rw[Zc d] at e;rw[Zc (by rw[<-h.len];exact d)];grind
  .simp_all
 .rw[Zd c] at e ⊢;exact h.at_ j q e
def ER.cons{K}{H}{m}{s}{O}{Z}{u}{p}(h:ER K H m s O Z)(r:Rep K H m s u p):ER K H m s (Za u::O) (Za p::Z):=by
 refine⟨by simp[h.len],λj q e=>?_⟩;cases j with
 |zero=>simp at e;subst e;exact⟨u,rfl,r⟩
 |succ j=>exact h.at_ j q (by simpa using e)
theorem ER.start{K}{H}{m}{s}:∀{vs:List V}{ps:List PV},Y5 K H m s vs ps->∀n,ER K H m s (vs.map Za++aQ n Zb) (ps.map Za++aQ n Zb)
 |_,_,.nil,n=>⟨by simp,λi p e=>by
   have e:(aQ n (Zb:Option PV))[i]?=Za (Za p):=by simpa using e
   rw[gU] at e;split at e<;>cases e⟩
 |_,_,.cons a b,n=>(ER.start b n).cons a
def nM(ix:List Nat)(Z:En):En:=ix.map λi=>(Z[i]?).getD Zb
theorem ER.É{K}{H}{m}{s}{O}{Z}(h:ER K H m s O Z)(ix):ER K H m s (É ix O) (nM ix Z):=by
 refine⟨by simp[L2.É,nM],λj q e=>?_⟩;unfold nM at e;unfold L2.É;rw[aG] at e ⊢;cases c:ix[j]? with
 |none=>rw[c] at e;cases e
 |some i =>
  rw[c] at e;have e:(Z[i]?).getD Zb=Za q:=bL e;cases d:Z[i]? with
  |none=>rw[d] at e;cases e
  |some o =>
   rw[d] at e;subst e;let⟨u,h1,h2⟩:=h.at_ i q d
   simp_all
def Ŭ(K:aa)(CB:ag)(E:XK)(f:XE):TE:=λO H Q=>∃Z s m,ER K H m s O Z/\SR K CB H m s/\Zs K CB (Rep K) E (f Z s) H m s Q
def TDT(K:aa)(CB:ag)(E:XK)(f:XT):TT:=λO H Q=>∃Z s m,ER K H m s O Z/\SR K CB H m s/\Zs K CB (λ_ _ _ u v=>u=v) E (f Z s) H m s Q
def TDA(K:aa)(CB:ag)(E:XK)(f:XA):TA:=λO H Q=>∃Z s m,ER K H m s O Z/\SR K CB H m s/\Zs K CB (Y5 K) E (f Z s) H m s Q
def ZP(K:aa)(CB:ag)(E:XK)(o:SO)(H:Hp)(m:Mp)(s:N')(D:Ends):Prop:=match o with
 |.nx Y' s'=>∀ZG H' m',Ext H m s H' m' s'->SR K CB H' m' s'->ER K H' m' s' ZG Y'->D.nx ZG H'
 |.rt v s'=>∀u H' m',Ext H m s H' m' s'->SR K CB H' m' s'->Rep K H' m' s' u v->D.rt u H'
 |.bk Y' s'=>∀ZG H' m',Ext H m s H' m' s'->SR K CB H' m' s'->ER K H' m' s' ZG Y'->D.bk ZG H'
 |.ct Y' s'=>∀ZG H' m',Ext H m s H' m' s'->SR K CB H' m' s'->ER K H' m' s' ZG Y'->D.ct ZG H'
 |.ex c s'=>∀H' m',Ext H m s H' m' s'->SR K CB H' m' s'->∀d,Pay H' m' s' c.2 d->E (.ref c.1) d H'
 |.bad=>False
def TDS(K:aa)(CB:ag)(E:XK)(g:XS):TS:=λD O H=>∃Z s m,ER K H m s O Z/\SR K CB H m s/\ZP K CB E (g Z s) H m s D
def oE{K:aa}{CB:ag}{H:Hp}{O:St}{Zj:En->N'->Mp->Prop}{R:Prop}(k:∀Z s m,ER K H m s O Z->SR K CB H m s->Zj Z s m->R)(h:∃Z s m,ER K H m s O Z/\SR K CB H m s/\Zj Z s m):R:=h.elim λZ h=>h.elim λs h=>h.elim λm h=>k Z s m h.1 h.2.1 h.2.2
structure DE(X:Cx)(CB:ag)(E:XK)(e:cA)(f:XE):Prop where
 pe:PE X e (Ŭ X.K CB E f)
structure DT(X:Cx)(CB:ag)(E:XK)(e:cA)(f:XT):Prop where
 pt:PT X e (TDT X.K CB E f)
structure DW(X:Cx)(CB:ag)(E:XK)(e:cA)(f:XT):Prop where
 pw:PW X e (TDT X.K CB E f)
structure DA(X:Cx)(CB:ag)(E:XK)(es:List cA)(f:XA):Prop where
 pa:PA X es (TDA X.K CB E f)
structure DS(X:Cx)(CB:ag)(E:XK)(st:bX)(g:XS):Prop where
 ps:PS X st (TDS X.K CB E g)
structure DSs(X:Cx)(CB:ag)(E:XK)(st:List bX)(g:XS):Prop where
 pss:ύ X st (TDS X.K CB E g)
def PE.mono(h:PE X e t)(k:∀O H Q,t' O H Q->t O H Q):PE X e t':=λR1 s O H Q I q=>h R1 s O H Q I (k O H Q q)
def PT.mono(h:PT X e t)(k:∀O H Q,t' O H Q->t O H Q):PT X e t':=λR1 s O H Q I q=>h R1 s O H Q I (k O H Q q)
def PW.mono(h:PW X e t)(k:∀O H Q,t' O H Q->t O H Q):PW X e t':=λw R1 s O H Q I q=>h w R1 s O H Q I (k O H Q q)
def PA.mono(h:PA X e t)(k:∀O H Q,t' O H Q->t O H Q):PA X e t':=λpos R1 s O H Q I q=>h pos R1 s O H Q I (k O H Q q)
def PS.mono(h:PS X e t)(k:∀D O H,t' D O H->t D O H):PS X e t':=λR1 s O H D I q=>h R1 s O H D I (k D O H q)
def ύ.mono(h:ύ X e t)(k:∀D O H,t' D O H->t D O H):ύ X e t':=λR1 s O H D I q=>h R1 s O H D I (k D O H q)
def j'(i:Nat)(Z:En)(s:N'):Out PV:=match Z[i]? with
 |some (Za p)=>.ok p s
 |_=>.bad
def xC(p:PV)(_:En)(s:N'):Out PV:=.ok p s
def x1(f:XE)(F:PV->N'->Out PV)(Z:En)(s:N'):Out PV:=(f Z s).bind F
def x2(f g:XE)(F:PV->PV->N'->Out PV)(Z:En)(s:N'):Out PV:=(f Z s).bind λv s1=>(g Z s1).bind λw s2=>F v w s2
def J'(_:En)(s:N'):Out (List PV):=.ok [] s
def F'(f:XE)(g:XA)(Z:En)(s:N'):Out (List PV):=(f Z s).bind λv s1=>(g Z s1).bind λvs s2=>.ok (v::vs) s2
section
variable{X:Cx}
def ϒ(K:aa)(CB:ag)(E:XK)(r:R2)(F:PV->PV->N'->Out PV):Prop:=∀H m s v w x y Q,SR K CB H m s->Rep K H m s x v->Rep K H m s y w->Zs K CB (Rep K) E (F v w s) H m s Q->r x y H Q
def Op1(K:aa)(CB:ag)(E:XK)(r:V->Hp->VK->Prop)(F:PV->N'->Out PV):Prop:=∀H m s v x Q,SR K CB H m s->Rep K H m s x v->Zs K CB (Rep K) E (F v s) H m s Q->r x H Q
def OpN(K:aa)(CB:ag)(E:XK)(r:List V->Hp->VK->Prop)(F:List PV->N'->Out PV):Prop:=∀H m s v x Q,SR K CB H m s->Y5 K H m s x v->Zs K CB (Rep K) E (F v s) H m s Q->r x H Q
def two{r}{F}(o:ϒ X.K CB E r F){O}{H}{Q}(q:Ŭ X.K CB E (x2 f g F) O H Q):tOp r (Ŭ X.K CB E f) (Ŭ X.K CB E g) O H Q:=by let⟨Z,s,m,er,S,P⟩:=q;exact⟨Z,s,m,er,S,P.bind λv s1 u H1 m1 e1 S1 r1 P1=>⟨Z,s1,m1,er.ext e1,S1,P1.bind λw s2 u2 H2 m2 e2 S2 r2 P2=>o H2 m2 s2 v w u u2 Q S2 (r1.ext e2) r2 P2⟩⟩
def mC(i)(hN:X.N[i]?=Za x:=by rfl)(hv:Vis X.env.scope x:=by first|exact eL rfl|exact gR (eL rfl)|exact gR (gR rfl))(hd:Ĉ x:=by decide)(Tf:(x==("__classdict__":Str))=false:=by decide):DE X CB E (.Name x pos) (j' i):=⟨(EC hN hv hd Tf).mono λO H Q=>oE λZ s m er S P=>by
 unfold j' at P;split at P
 .rename_i q hq;let⟨u,h1,h2⟩:=er.at_ i q hq;exact⟨u,h1,P.here S h2⟩
 .exact P.elim⟩
def mK{i}{j}:DE X CB E (.Constant (.int i) j pos) (xC (.int i)):=⟨ZV.mono λO H Q=>oE λZ s m er S P=>P.here S .int⟩
def wM{i}{j}:DE X CB E (.Constant (.bool i) j pos) (xC (.bl i)):=⟨ÀT.mono λO H Q=>oE λZ s m er S P=>P.here S .bl⟩
def EO{i}{j}:DE X CB E (.Constant (.str i) j pos) (xC (.str i)):=⟨ĩ.mono λO H Q=>oE λZ s m er S P=>P.here S .str⟩
def EQ{j}:DE X CB E (.Constant .none j pos) (xC .Zn):=⟨À3.mono λO H Q=>oE λZ s m er S P=>P.here S .Zn⟩
def Aw(ho:Û X (dJ op) r)(o:ϒ X.K CB E r F)(ha:DE X CB E a f)(hb:DE X CB E b g):DE X CB E (.BinOp a op b pos) (x2 f g F):=⟨(uD ho ha.pe hb.pe).mono λO H Q q=>two o q⟩
def Âq(ho:UnR X (unaryOp op) r)(o:Op1 X.K CB E r F)(ha:DE X CB E a f):DE X CB E (.UnaryOp op a pos) (x1 f F):=⟨(PD ho ha.pe).mono λO H Q=>oE λZ s m er S P =>
 ⟨Z,s,m,er,S,P.bind λv s1 u H1 m1 e1 S1 r1 P1=>o H1 m1 s1 v u Q S1 r1 P1⟩⟩
def Áb(ho:Û X (bN op) r)(o:ϒ X.K CB E r F)(ha:DE X CB E a f)(hb:DE X CB E b g)(hm:cS op b=false):DE X CB E (.Compare a [op] [b] pos) (x2 f g F):=⟨(Ia ho ha.pe hb.pe hm).mono λO H Q q=>two o q⟩
def ZI(f:XE)(Z:En)(s:N'):Out Bool:=(f Z s).bind λv s1=>match v with
 |.bl b=>.ok b s1
 |_=>.bad
def TDT.tst{O}{H}{Q}(q:TDT X.K CB E (ZI f) O H Q):Ŭ X.K CB E f O H λx H1=>∃k,x=.bl k/\Q k H1:=by let⟨Z,s,m,er,S,P⟩:=q;refine⟨Z,s,m,er,S,P.bind λv s1 u H1 m1 e1 S1 r1 P1=>?_⟩;cases r1<;>first|exact P1.elim|exact⟨_,rfl,P1.here S1 rfl⟩
def À9(ho:Û X (bN op) r)(o:ϒ X.K CB E r F)(ha:DE X CB E a f)(hb:DE X CB E b g)(hm:cS op b=false):DT X CB E (.Compare a [op] [b] pos) (ZI (x2 f g F)):=⟨(vX ho ha.pe hb.pe hm).mono λO H Q q=>two o (TDT.tst q)⟩
def qU(h:DE X CB E e f)(he:∀whole,isTrue e X.env whole=(do let v <-whole;fR e.pos;holding [v] (truthy v)):=by intro _;rfl):DT X CB E e (ZI f):=⟨(w5 h.pe he).mono λO H Q q=>TDT.tst q⟩
def ÀZ(f g h:XE)(F G:PV->PV->N'->Out PV)(Z:En)(s:N'):Out PV:=(f Z s).bind λv s1=>(g Z s1).bind λw s2=>(F v w s2).bind λz s3=>match z with
 |.bl true=>(h Z s3).bind λy s4=>G w y s4
 |.bl false=>.ok (.bl false) s3
 |_=>.bad
def Ĩ(f:XT)(Z:En)(s:N'):Out Bool:=(f Z s).bind λb s1=>.ok (!b) s1
def ÂH(f g:XT)(Z:En)(s:N'):Out Bool:=(f Z s).bind λb s1=>if b=true then g Z s1 else .ok false s1
def xOr(f g:XT)(Z:En)(s:N'):Out Bool:=(f Z s).bind λb s1=>if b=true then .ok true s1 else g Z s1
variable{rest:List cA}
def wm(h:DT X CB E a t):DT X CB E (.UnaryOp .Not a pos) (Ĩ t):=⟨(BI h.pt).mono λO H Q=>oE λZ s m er S P =>
 ⟨Z,s,m,er,S,P.bind λv s1 b H1 m1 e1 S1 r1 P1=>by cases r1;exact P1.here S1 rfl⟩⟩
def EJ(h:DT X CB E a t):DW X CB E (.BoolOp .Or [a] pos) t:=⟨Mj h.pt⟩
def Cv(h:DT X CB E a t)(k:DW X CB E (.BoolOp .Or (b::rest) pos) u):DW X CB E (.BoolOp .Or (a::b::rest) pos) (xOr t u):=⟨(PB h.pt k.pw).mono λO H Q=>oE λZ s m er S P =>
 ⟨Z,s,m,er,S,P.bind λv s1 b H1 m1 e1 S1 r1 P1=>by
  cases r1;refine wH (λc=>?_) λc=>?_
  .rw[Zc c] at P1;exact P1.here S1 rfl
  .rw[Zd c] at P1;exact⟨Z,s1,m1,er.ext e1,S1,P1⟩⟩⟩
def DW.dt(h:DW X CB E a t):DT X CB E a t:=⟨h.pw.pt⟩
def ı(f g:XE)(Z:En)(s:N'):Out PV:=(f Z s).bind λv s1=>match v with
 |.bl true=>g Z s1
 |.bl false=>.ok (.bl false) s1
 |_=>.bad
def ÂG(f g:XE)(Z:En)(s:N'):Out PV:=(f Z s).bind λv s1=>match v with
 |.bl true=>.ok (.bl true) s1
 |.bl false=>g Z s1
 |_=>.bad
def Àk(f:XE)(Z:En)(s:N'):Out PV:=(f Z s).bind λv s1=>match v with
 |.bl b=>.ok (.bl (!b)) s1
 |_=>.bad
def HD(h:DE X CB E a f):DE X CB E (.BoolOp op [a] pos) f:=⟨Ht h.pe⟩
def RC(h:DE X CB E a f):DE X CB E (.UnaryOp .Not a pos) (Àk f):=⟨(QN h.pe).mono λO H Q=>oE λZ s m er S P =>
 ⟨Z,s,m,er,S,P.bind λv s1 b H1 m1 e1 S1 r1 P1=>by cases r1<;>first|exact P1.elim|exact⟨_,rfl,P1.here S1 .bl⟩⟩⟩
def EU(h:DE X CB E a f)(k:DE X CB E (.BoolOp .And (b::rest) pos) g):DE X CB E (.BoolOp .And (a::b::rest) pos) (ı f g):=⟨(Mo h.pe k.pe).mono λO H Q=>oE λZ s m er S P =>
 ⟨Z,s,m,er,S,P.bind λv s1 b H1 m1 e1 S1 r1 P1=>by
  cases r1 with
  |bl =>
   rename_i b;cases b
   .exact⟨_,rfl,Ou (P1.here S1 .bl)⟩
   .exact⟨_,rfl,Ot ⟨Z,s1,m1,er.ext e1,S1,P1⟩⟩
  |_=>exact P1.elim⟩⟩
def zy:DA X CB E [] J':=⟨Y7.mono λO H Q=>oE λZ s m er S P=>P.here S .nil⟩
def mL(ha:DE X CB E e f)(hr:DA X CB E es fa)(hs:Œ X e es:=by rfl):DA X CB E (e::es) (F' f fa):=⟨(mR ha.pe hr.pa hs).mono λO H Q=>oE λZ s m er S P =>
 ⟨Z,s,m,er,S,P.bind λv s1 u H1 m1 e1 S1 r1 P1=>⟨Z,s1,m1,er.ext e1,S1,P1.bind λw s2 u2 H2 m2 e2 S2 r2 P2=>P2.here S2 (.cons (r1.ext e2) r2)⟩⟩⟩
def mI(ha:DE X CB E e f)(hs:ao [e] X.env=(false,eval e X.env)::ao [] X.env:=by rfl):DA X CB E [e] (F' f J'):=mL ha zy hs
theorem Y5.length{K}{H}{m}{s}:∀{vs:List V}{l:List PV},Y5 K H m s vs l->vs.length=l.length
 |_,_,.nil=>rfl
 |_,_,.cons _ b=>congrArg Nat.succ b.length
def sz5(h:n<=100000):n<=aF:=aC h (Zf rfl)
def sz6(h:n<100000):n<aF:=aA h (Zf rfl)
def Ö(fa:XA)(Z:En)(s:N'):Out PV:=(fa Z s).bind λvs s1=>if vs.length<=100000 then .ok (.tup vs) s1 else .bad
def ę(fa:XA)(Z:En)(s:N'):Out PV:=(fa Z s).bind λvs s1=>if vs.length<=100000 then .ok (.lst vs) s1 else .bad
def Ţ(fa:XA)(Z:En)(s:N'):Out PV:=(fa Z s).bind λvs s1=>if vs.length<=100000 then .ok (.ref s1.nx) (s1.add (.lst vs)) else .bad
def qu{x1}(h:DA X CB E es fa):DE X CB E (.Tuple es x1 pos) (Ö fa):=⟨(vZ h.pa).mono λO H Q=>oE λZ s m er S P =>
 ⟨Z,s,m,er,S,P.bind λv s1 u H1 m1 e1 S1 r1 P1=>by
  split at P1
  .rename_i hl;exact⟨by rw[r1.length];exact sz5 hl,λp hp=>P1.new S1 hp λex S'=>.tup (.inl ⟨.inl mH,S'.Â mH⟩) (r1.ext ex)⟩
  .exact P1.elim⟩⟩
def wn(h:DA X CB E es fa):DE X CB E (.List es pos) (ę fa):=⟨(Mm h.pa).mono λO H Q=>oE λZ s m er S P =>
 ⟨Z,s,m,er,S,P.bind λv s1 u H1 m1 e1 S1 r1 P1=>by
  split at P1
  .rename_i hl;exact⟨by rw[r1.length];exact sz5 hl,λp hp=>P1.new S1 hp λex S'=>.lst mH (S1.ZK hp) (r1.ext ex)⟩
  .exact P1.elim⟩⟩
def SR.Ãb{K}{H}{m}{s}{vs}{l}{p}(S:SR K CB H m s)(hp:H p=Zb)(r:Y5 K H m s vs l):SR K CB (upd H p (.lst vs)) (m.add s.nx p [p]) (s.add (.lst l))/\Ext H m s (upd H p (.lst vs)) (m.add s.nx p [p]) (s.add (.lst l)) :=
 S.add _ p [p] (My.rQ hp) (λa ha=>by rw[ax.mp ha];exact hp) λex=>by
  have e1:(m.add s.nx p [p]).ad s.nx=p:=by show(if s.nx=s.nx then p else _)=_;rw[Zc rfl]
  have e2:(m.add s.nx p [p]).fp s.nx=[p]:=by show(if s.nx=s.nx then [p] else _)=_;rw[Zc rfl]
  exact⟨by rw[e1,e2],vs,by rw[e1];exact mH,r.ext ex⟩
def SR.newD{K}{H H'}{m}{s}{vs}{l}{p}(S:SR K CB H m s)(hp:H p=Zb)(k:ZT H H')(hd:H' p=Za (.dK vs))(r:Y6 K H m s vs l):SR K CB H' (m.add s.nx p [p]) (s.add (.Zv l))/\Ext H m s H' (m.add s.nx p [p]) (s.add (.Zv l)) :=
 S.add _ p [p] k (λa ha=>by rw[ax.mp ha];exact hp) λex=>by
  have e1:(m.add s.nx p [p]).ad s.nx=p:=by show(if s.nx=s.nx then p else _)=_;rw[Zc rfl]
  have e2:(m.add s.nx p [p]).fp s.nx=[p]:=by show(if s.nx=s.nx then [p] else _)=_;rw[Zc rfl]
  exact⟨by rw[e1,e2],vs,by rw[e1];exact hd,r.ext ex⟩
def Mp.ĕ{m:Mp}{n:Nat}{p:ag}{f:List ag}:(m.add n p f).ad n=p:=by show(if n=n then p else _)=_;grind
def Rep.new{K:aa}{H:Hp}{m:Mp}{s:N'}{p:ag}{f:List ag}{c:Cell}:Rep K H (m.add s.nx p f) (s.add c) (.ref p) (.ref s.nx):=by have h:Rep K H (m.add s.nx p f) (s.add c) (.ref ((m.add s.nx p f).ad s.nx)) (.ref s.nx):=.ref (bv _);rw[Mp.ĕ] at h;exact h
def Ax(h:DA X CB E es fa):DE X CB E (.List es pos) (Ţ fa):=⟨(Mm h.pa).mono λO H Q=>oE λZ s m er S P =>
 ⟨Z,s,m,er,S,P.bind λv s1 u H1 m1 e1 S1 r1 P1=>by
  split at P1
  .rename_i hl;refine⟨by rw[r1.length];exact sz5 hl,λp hp=>?_⟩;let⟨S2,e2⟩:=S1.Ãb hp r1;exact P1 _ _ _ e2 S2 .new
  .exact P1.elim⟩⟩
end
end L2
namespace Fra
def ř(a b:Int):Prop:=aI a b=1
def ħ(q:Int×Int):Prop:=0<q.2/\ř q.1 q.2
def red(q:Int×Int):Int×Int:=(q.1/(aI q.1 q.2:Int),q.2/(aI q.1 q.2:Int))
def ř.symm(h:ř a b):ř b a:=by unfold ř at *;rw[Int.gcd_comm];exact h
def rL(d:a∣a')(h:ř a' b):ř a b:=Nat.Coprime.coprime_dvd_left (fQ.mpr d) h
def Az(h1:ř a c)(h2:ř b c):ř (a*b) c:=by unfold ř aI at *;rw[iU];exact Nat.Coprime.mul_left h1 h2
def Es(h:ř a b)(d:a∣b*c):a∣c:=by have d':=fQ.mpr d;rw[iU] at d';exact fQ.mp (Nat.Coprime.dvd_of_dvd_mul_left h d')
def Iz(h:ř a b):ř (a+k*b) b:=by
 have g1:(aI (a+k*b) b:Int)∣a+k*b:=fZ ..;have g2:(aI (a+k*b) b:Int)∣b:=b8 ..;have g3:(aI (a+k*b) b:Int)∣a:=by
  have:=Int.dvd_sub g1 (Int.dvd_trans g2 (Int.dvd_mul_left k b))
  grind
 have g4:=Int.dvd_gcd g3 g2;rw[h] at g4;exact Nat.dvd_one.mp g4
def Ae(hp:ħ p)(hq:ħ q)(h:p.1*q.2=q.1*p.2):p=q:=by let⟨a,b⟩:=p;let⟨c,d⟩:=q;let⟨h1,h2⟩:=hp;let⟨h3,h4⟩:=hq;simp only at h h1 h2 h3 h4;have d1:=Es h2.symm ⟨c,by rw[h];grind⟩;have d2:=Es h4.symm ⟨a,by rw[<-h];exact bR _ _⟩;have e:=Int.dvd_antisymm `l `l d1 d2;subst e;have:=eJ `l h;rw[this]
def uA(h:0<q.2):ħ (red q)/\(red q).1*q.2=q.1*(red q).2:=by
 let⟨a,b⟩:=q;simp only at h;have hg:0<aI a b:=bw _ `l;obtain⟨u,hu⟩:(aI a b:Int)∣a:=fZ ..;obtain⟨v,hv⟩:(aI a b:Int)∣b:=b8 ..;have eu:=ke `l hu;have ev:=ke `l hv;have hc:ř u v:=by
  have e:aI ((aI a b:Int)*u) ((aI a b:Int)*v)=aI a b*aI u v:=by rw[jB];rfl
  have:aI a b*aI u v=aI a b*1:=by lia
  exact gK hg this
 have hv0:0<v:=by
  by_cases z:0<v
  .exact z
  .have:(aI a b:Int)*v<=0:=fu `l `l;lia
 unfold red;rw[eu,ev];refine⟨⟨hv0,hc⟩,?_⟩
 grind
def QA(hp:ħ p)(hq:0<q.2)(h:p.1*q.2=q.1*p.2):p=red q:=by
 let⟨r1,r2⟩:=uA hq;apply Ae hp r1;have e:p.1*(red q).2*q.2=(red q).1*p.2*q.2:=by rw[ft,h,ft q.1,<-r2,ft]
 exact eJ `l e
def Âz(p q:Int×Int):Int×Int :=
 let d:Int:=aI p.2 q.2;let t:=p.1*(q.2/d)+q.1*(p.2/d);let e:Int:=aI t d
 (t/e,p.2/d*(q.2/e))
def oS(p q:Int×Int):Int×Int:=red (p.1*q.2+q.1*p.2,p.2*q.2)
def Pl(hp:ħ p)(hq:ħ q):Âz p q=oS p q:=by
 let⟨n1,b1⟩:=p;let⟨n2,b2⟩:=q;let⟨h1,h2⟩:=hp;let⟨h3,h4⟩:=hq;simp only at h1 h2 h3 h4;unfold Âz oS;simp only;have hd:0<aI b1 b2:=bw _ `l;obtain⟨u,hu⟩:(aI b1 b2:Int)∣b1:=fZ ..;obtain⟨v,hv⟩:(aI b1 b2:Int)∣b2:=b8 ..;have huv:ř u v:=by
  have e:aI ((aI b1 b2:Int)*u) ((aI b1 b2:Int)*v)=aI b1 b2*aI u v:=by rw[jB];rfl
  rw[<-hu,<-hv] at e;have:aI b1 b2*aI u v=aI b1 b2*1:=by lia
  exact gK hd this
 generalize hD:(aI b1 b2:Int)=d at *;have d0:0<d:=by lia
 subst hu;subst hv;rw[cL _ (by lia:d≠0),cL _ (by lia:d≠0)];have pos:∀{x:Int},0<d*x->0<x:=λ{x} hx=>by
  by_cases z:0<x
  .exact z
  .have:d*x<=0:=fu `l `l;lia
 have u0:=pos h1;have v0:=pos h3;have YZ:ř (n1*v+n2*u) u:=Iz (Az (rL (Int.dvd_refl _) (rL ⟨d,bR _ _⟩ h2.symm).symm) huv.symm);have YY:ř (n1*v+n2*u) v:=by rw[Int.add_comm];exact Iz (Az (rL ⟨d,bR _ _⟩ h4.symm).symm huv)
 generalize hT:n1*v+n2*u=t at *;have he:0<aI t d:=bw _ `l;obtain⟨t',ht⟩:(aI t d:Int)∣t:=fZ ..;obtain⟨e',hE⟩:(aI t d:Int)∣d:=b8 ..;have cte:ř t' e':=by
  have e:aI ((aI t d:Int)*t') ((aI t d:Int)*e')=aI t d*aI t' e':=by rw[jB];rfl
  rw[<-ht,<-hE] at e;have:aI t d*aI t' e'=aI t d*1:=by lia
  exact gK he this
 generalize hG:(aI t d:Int)=g at *;have g0:0<g:=by lia
 have e0:0<e':=by
  by_cases z:0<e'
  .exact z
  .have:g*e'<=0:=fu `l `l;lia
 have q1:t/g=t':=by rw[ht];exact cL _ `l
 have q2:d*v/g=e'*v:=by rw[hE,bc];exact cL _ `l
 rw[q1,q2];refine QA ⟨br u0 (br e0 v0),?_⟩ (br h1 h3) ?_
 .have d1:t'∣t:=⟨g,by rw[ht];exact bR _ _⟩;exact(Az (rL d1 YZ).symm (Az cte.symm (rL d1 YY).symm)).symm
 .show t'*(d*u*(d*v))=(n1*(d*v)+n2*(d*u))*(u*(e'*v));have e1:n1*(d*v)+n2*(d*u)=d*t:=by rw[<-hT,Int.mul_add,fJ,fJ n2]
  rw[e1];have e2:d*t*(u*(e'*v))=d*(g*t')*(u*(e'*v)):=by rw[<-ht]
  have e3:t'*(d*u*(d*v))=t'*(d*u*(g*e'*v)):=by rw[<-hE]
  rw[e2,e3];simp[bc,fJ,bR]
def F3(hp:ħ p)(hq:ħ q):ħ (oS p q):=(uA (br hp.1 hq.1)).1
end Fra
namespace L2
open PySem PySem.Spec PyProof.Rows
def ZH(s:N'):PV->Option (List PV)
 |.lst l=>Za l
 |.seq l=>Za l
 |.ref n=>match s.get n with
  |some (.lst l)=>Za l
  |_=>Zb
 |_=>Zb
def Ú(s:N'):PV->Option (List (Key×PV))
 |.Zv l=>Za l
 |.ref n=>match s.get n with
  |some (.Zv l)=>Za l
  |some (.Ì l)=>Za l
  |_=>Zb
 |_=>Zb
def ó:PV->Option Key
 |.int i=>Za (.inl i)
 |.str x=>Za (.inr x)
 |_=>Zb
def toV:PV->Option V
 |.Zn=>Za .Zn
 |.bl b=>Za (.bl b)
 |.int i=>Za (.int i)
 |.str x=>Za (.str x)
 |_=>Zb
def toVs:List PV->Option (List V)
 |[]=>Za []
 |p::l=>match toV p,toVs l with
  |some v,Za vs=>Za (v::vs)
  |_,_=>Zb
def qV(l:List (Key×PV))(k:Key):Option PV:=(l.find? λkv=>decide (kv.1=k)).map (·.2)
def z5(l:List (Key×PV))(k:Key)(p:PV):List (Key×PV) :=
 if(l.any λkv=>decide (kv.1=k))=true then l.map (λkv=>if kv.1=k then(kv.1,p) else kv) else l++[(k,p)]
def xW(f:PV->Option lc):List PV->Option (List lc)
 |[]=>Za []
 |p::l=>match f p,xW f l with
  |some d,Za ds=>Za (d::ds)
  |_,_=>Zb
def PV.data(s:N'):Nat->PV->Option lc
 |0,_=>Zb
 |_+1,.Zn=>Za .none
 |_+1,.bl b=>Za (.bool b)
 |_+1,.int i=>Za (.int i)
 |_+1,.str x=>if ba x=true then Za (.str x) else Zb
 |k+1,.tup l=>(xW (PV.data s k) l).map .tuple
 |k+1,.lst l=>(xW (PV.data s k) l).map .list
 |k+1,.seq l=>(xW (PV.data s k) l).map .list
 |k+1,.ref n=>match s.get n with
  |some (.lst l)=>(xW (PV.data s k) l).map .list
  |_=>Zb
 |_+1,_=>Zb
section
variable{K:aa}
def Rep.ls(S:SR K CB H m s)(r:Rep K H m s x v)(e:ZH s v=Za l):∃a vs,x=.ref a/\ZU K H a vs/\Y5 K H m s vs l:=by
 cases r with
 |lst h _ q=>cases e;exact⟨_,_,rfl,ZU.of h,q⟩
 |seq h q=>cases e;exact⟨_,_,rfl,h.elim (λz=>.inl (.inr z.1)) .inr,q⟩
 |ref h =>
  rename_i n;have e:(match s.get n with|some (.lst l)=>Za l|_=>Zb)=Za l:=e;split at e<;>cases e
  rename_i hg;let⟨_,vs,h1,h2⟩:=S.get hg;exact⟨_,vs,rfl,ZU.of h1,h2⟩
 |_=>cases e
def Rep.tp(r:Rep K H m s x (.tup l)):∃a vs,x=.ref a/\â K H a vs/\Y5 K H m s vs l:=by
 cases r with
 |tup h q=>exact⟨_,_,rfl,h.elim (λz=>.inl z.1) .inr,q⟩
def Rep.dc(S:SR K CB H m s)(r:Rep K H m s x v)(e:Ú s v=Za l):∃a vs,x=.ref a/\Rd H a (.dK vs)/\Y6 K H m s vs l:=by
 cases r with
 |Zv h _ q=>cases e;exact⟨_,_,rfl,h,q⟩
 |ref h =>
  rename_i n;have e:(match s.get n with|some (.Zv l)=>Za l|some (.Ì l)=>Za l|_=>Zb)=Za l:=e;split at e<;>cases e
  .rename_i hg;let⟨_,vs,h1,h2⟩:=S.get hg;exact⟨_,vs,rfl,.inl h1,h2⟩
  .rename_i hg;let⟨_,ob,vs,h1,h2⟩:=S.get hg;exact⟨_,vs,rfl,.inr ⟨ob,h1⟩,h2⟩
 |_=>cases e
theorem Rep.toV(r:Rep K H m s x v)(e:L2.toV v=Za z):x=z:=by cases r<;>first|cases e;rfl|cases e
theorem Y5.toVs:∀{vs:List V}{l:List PV}{zs:List V},Y5 K H m s vs l->L2.toVs l=Za zs->vs=zs
 |_,_,_,.nil,e=>by cases e;rfl
 |_,_,_,.cons a b,e=>by
  unfold L2.toVs at e;split at e<;>cases e
  rename_i h1 h2;rw[a.toV h1,b.toVs h2]
def AS(e:L2.toV v=Za z):uu z=true:=by cases v<;>first|cases e;rfl|cases e
theorem yk:∀{l:List PV}{zs:List V},L2.toVs l=Za zs->zs.all uu=true
 |[],_,e=>by cases e;rfl
 |p::l,_,e=>by
  unfold L2.toVs at e;split at e<;>cases e
  rename_i h1 h2;rw[i6,AS h1,yk h2];rfl
theorem Y5.get:∀{vs:List V}{l:List PV}{i:Nat}{p:PV},Y5 K H m s vs l->l[i]?=Za p->∃u,vs[i]?=Za u/\Rep K H m s u p
 |_,_,_,_,.nil,e=>by simp at e
 |_,_,0,_,.cons a _,e=>by simp at e;subst e;exact⟨_,rfl,a⟩
 |_,_,i+1,p,.cons _ b,e=>by
  let⟨u,h1,h2⟩:=b.get (by simpa using e)
  simp_all
theorem Y5.ü(r:Y5 K H m s vs l)(e:L2.ü l i=Za p):∃u,L2.ü vs i=Za u/\Rep K H m s u p:=by
 unfold L2.ü at e ⊢;rw[r.length];cases c:Ϥ l.length i with
 |none=>rw[c] at e;cases e
 |some j=>rw[c] at e;exact r.get e
theorem Y5.append:∀{vs ws:List V}{l k:List PV},Y5 K H m s vs l->Y5 K H m s ws k->Y5 K H m s (vs++ws) (l++k)
 |_,_,_,_,.nil,q=>q
 |_,_,_,_,.cons a b,q=>.cons a (b.append q)
theorem Y5.drop:∀{vs:List V}{l:List PV}(n:Nat),Y5 K H m s vs l->Y5 K H m s (vs.drop n) (l.drop n)
 |_,_,0,r=>r
 |_,_,_+1,.nil=>.nil
 |_,_,n+1,.cons _ b=>b.drop n
theorem Y5.take:∀{vs:List V}{l:List PV}(n:Nat),Y5 K H m s vs l->Y5 K H m s (vs.take n) (l.take n)
 |_,_,0,_=>.nil
 |_,_,_+1,.nil=>.nil
 |_,_,n+1,.cons a b=>.cons a (b.take n)
theorem Y5.set:∀{vs:List V}{l:List PV}{u:V}{p:PV}(i:Nat),Y5 K H m s vs l->Rep K H m s u p->Y5 K H m s (vs.set i u) (l.set i p)
 |_,_,_,_,_,.nil,_=>.nil
 |_,_,_,_,0,.cons _ b,r=>.cons r b
 |_,_,_,_,i+1,.cons a b,r=>.cons a (b.set i r)
theorem Y5.strs:∀{vs:List V}{ss:List Str},Y5 K H m s vs (ss.map PV.str)->vs=ss.map V.str
 |_,[],.nil=>rfl
 |_,x::ss,.cons a b=>by cases a;rw[Y5.strs (ss:=ss) b];rfl
theorem Y5.ofStrs:∀(ss:List Str),Y5 K H m s (ss.map V.str) (ss.map PV.str)
 |[]=>.nil
 |_::r=>.cons .str (Y5.ofStrs r)
theorem Y6.keys:∀{vs:List (Key×V)}{l:List (Key×PV)},Y6 K H m s vs l->vs.map (·.1)=l.map (·.1)
 |_,_,.nil=>rfl
 |_,_,.cons _ b=>by simp[b.keys]
theorem Y6.length(r:Y6 K H m s vs l):vs.length=l.length:=by have:=congrArg cC r.keys;simpa using this
theorem Y6.val:∀{vs:List (Key×V)}{l:List (Key×PV)}(k:Key),Y6 K H m s vs l->(∀p,qV l k=Za p->∃u,pL vs k=Za u/\Rep K H m s u p)/\(qV l k=Zb->pL vs k=Zb)
 |_,_,k,.nil=>⟨λp e=>(by cases e),λ_=>rfl⟩
 |_,_,k,.cons (k:=q) (p:=p0) (v:=v0) a b=>by
  by_cases e:q=k
  .refine⟨λp h=>⟨v0,xp e,?_⟩,λh=>?_⟩
   .unfold qV at h;simp[e] at h;subst h;exact a
   .unfold qV at h;simp[e] at h
  .rw[xq e];have h2:∀{l:List (Key×PV)},qV ((q,p0)::l) k=qV l k:=λ{l}=>by unfold qV;simp[e]
   rw[h2];exact b.val k
theorem Y6.any(r:Y6 K H m s vs l)(k):(vs.any λkv=>decide (kv.1=k))=l.any λkv=>decide (kv.1=k):=by
 have h:∀{β:Type}(l:List (Key×β)),(l.any λkv=>decide (kv.1=k))=(l.map (·.1)).any λj=>decide (j=k):=λl=>by rw[ig];rfl
 rw[h,h,r.keys]
theorem Y6.ϫ:∀{vs:List (Key×V)}{l:List (Key×PV)}{u:V}{p:PV}(k:Key),Y6 K H m s vs l->Rep K H m s u p->Y6 K H m s (vs.map λkv=>if kv.1=k then(kv.1,u) else kv) (l.map λkv=>if kv.1=k then(kv.1,p) else kv)
 |_,_,_,_,_,.nil,_=>.nil
 |_,_,u,p,k,.cons (k:=q) a b,r=>by
  rw[am,am];by_cases e:q=k
  .rw[Zc e,Zc e];exact .cons r (b.ϫ k r)
  .rw[Zd e,Zd e];exact .cons a (b.ϫ k r)
theorem Y6.append:∀{vs ws:List (Key×V)}{l k:List (Key×PV)},Y6 K H m s vs l->Y6 K H m s ws k->Y6 K H m s (vs++ws) (l++k)
 |_,_,_,_,.nil,q=>q
 |_,_,_,_,.cons a b,q=>.cons a (b.append q)
def Y6.put(k)(q:Y6 K H m s vs l)(r:Rep K H m s u p):Y6 K H m s (rH vs k u) (z5 l k p):=by
 unfold rH z5;rw[q.any];split
 .exact q.ϫ k r
 .exact q.append (.cons r .nil)
def qS(r:Rep K H m s x v)(e:ó v=Za k):x=kV k:=by cases r<;>first|cases e;rfl|cases e
end
section
variable{X:Cx}
theorem Y5.Ņ{sh:aw}{H:Hp}{m:Mp}{s:N'}{k:Nat}(ih:∀{v:V}{p:PV}{u:ai}{d:lc},Rep X.K H m s v p->RelV v u->PV.data s k p=Za d->(∃as,Reads sh.heap u d as)/\d.canLay0=true/\d.depth<=k) :
  ∀{v:List V}{p:List PV}{u:List ai}{d:List lc},Y5 X.K H m s v p->Vals v u->xW (PV.data s k) p=Za d->(∃as,ReadsAll sh.heap u.toArray.toList d as)/\lO d=true/\PyData.depthAll d<=k
 |_,_,_,_,.nil,.nil,e=>by unfold xW at e;cases e;exact⟨⟨_,.nil⟩,rfl,aV _⟩
 |_,_,_,_,.cons a b,.cons r rs,e=>by
  unfold xW at e;split at e<;>cases e
  rename_i h1 h2;let⟨⟨as,r1⟩,r2,r3⟩:=ih a r h1;let⟨⟨bs,q1⟩,q2,q3⟩:=Y5.Ņ ih b rs h2;refine⟨⟨_,.cons r1 (by simpa using q1)⟩,by unfold lO;rw[r2,q2];rfl,?_⟩;unfold PyData.depthAll;lia
theorem Rep.reads(I:Inv X R1 O H sh)(S:SR X.K CB H m s):∀(k:Nat){v:V}{p:PV}{u:ai}{d:lc},Rep X.K H m s v p->RelV v u->PV.data s k p=Za d ->
  (∃as,Reads sh.heap u d as)/\d.canLay0=true/\d.depth<=k
 |0,_,p,_,_,_,_,e=>by cases p<;>(unfold PV.data at e;cases e)
 |k+1,_,_,_,_,.Zn,ru,e=>by cases ru;unfold PV.data at e;cases e;exact⟨⟨_,.none⟩,rfl,aV _⟩
 |k+1,_,_,_,_,.bl,ru,e=>by cases ru;unfold PV.data at e;cases e;exact⟨⟨_,.bool _⟩,rfl,aV _⟩
 |k+1,_,_,_,_,.int,ru,e=>by let⟨t,rfl⟩:=ru;cases e;exact⟨⟨_,.int _ _⟩,rfl,aV _⟩
 |k+1,_,_,_,_,.str,ru,e=>by
  let⟨t,rfl⟩:=ru;unfold PV.data at e;split at e<;>cases e
  rename_i h;exact⟨⟨_,.str _ _⟩,h,aV _⟩
 |k+1,_,_,_,_,.tup (l:=l) h q,ru,e=>by
  cases ru;unfold PV.data at e;cases c:xW (PV.data s k) l with
  |none=>rw[c] at e;cases e
  |some ds =>
   rw[c] at e;cases e;let⟨its,rv,⟨o,g1,g2,n,g3⟩,_⟩:=I.tuple (h.elim (λz=>(.inl z.1:â X.K H _ _)) .inr);let⟨⟨as,r1⟩,r2,r3⟩:=Y5.Ņ (Rep.reads I S k) q rv c;exact⟨⟨_,.tuple g1 g2 g3 r1⟩,r2,by unfold i8;lia⟩
 |k+1,_,_,_,_,.lst (l:=l) h _ q,ru,e=>by
  cases ru;unfold PV.data at e;cases c:xW (PV.data s k) l with
  |none=>rw[c] at e;cases e
  |some ds =>
   rw[c] at e;cases e;let⟨its,rv,⟨o,n,g1,g2,_,g3⟩,_⟩:=I.list (ZU.of h);let⟨⟨as,r1⟩,r2,r3⟩:=Y5.Ņ (Rep.reads I S k) q rv c;exact⟨⟨_,.list g1 g2 g3 r1⟩,r2,by unfold i8;lia⟩
 |k+1,_,_,_,_,.seq (l:=l) h q,ru,e=>by
  cases ru;unfold PV.data at e;cases c:xW (PV.data s k) l with
  |none=>rw[c] at e;cases e
  |some ds =>
   rw[c] at e;cases e;let⟨its,rv,⟨o,n,g1,g2,_,g3⟩,_⟩:=I.list (h.elim (λz=>(.inl (.inr z.1):ZU X.K H _ _)) .inr);let⟨⟨as,r1⟩,r2,r3⟩:=Y5.Ņ (Rep.reads I S k) q rv c;exact⟨⟨_,.list g1 g2 g3 r1⟩,r2,by unfold i8;lia⟩
 |k+1,_,_,_,_,.Zv _ _ _,_,e=>by cases e
 |k+1,_,_,_,_,.exc _ _ _,_,e=>by cases e
 |k+1,_,_,_,_,.clo _,_,e=>by cases e
 |k+1,_,_,_,_,.ref _,ru,e=>by
  cases ru;unfold PV.data at e;split at e<;>first|cases e|skip
  rename_i l hg;cases c:xW (PV.data s k) l with
  |none=>rw[c] at e;cases e
  |some ds =>
   rw[c] at e;cases e;let⟨_,vs,h1,q⟩:=S.get hg;let⟨its,rv,⟨o,n,g1,g2,_,g3⟩,_⟩:=I.list (ZU.of h1);let⟨⟨as,r1⟩,r2,r3⟩:=Y5.Ņ (Rep.reads I S k) q rv c;exact⟨⟨_,.list g1 g2 g3 r1⟩,r2,by unfold i8;lia⟩
end
def Bt(k:Nat)(n:Int):Prop:=n.natAbs<2^k
def Bt.mono(h:Bt k n)(hl:k<=l):Bt l n:=aA h (b6 (Zf rfl) hl)
def Bt.mul(h:Bt k n)(g:Bt l m):Bt (k+l) (n*m):=by
 unfold Bt at *;rw[iU,lS];by_cases z:m.natAbs=0
 .rw[z,Nat.mul_zero];exact lT (b7 k) (b7 l)
 .exact aA (Nat.mul_lt_mul_of_pos_right h (Nat.pos_of_ne_zero z)) (mq _ (fI g))
def Bt.add(h:Bt k n)(g:Bt k m):Bt (k+1) (n+m):=by unfold Bt at *;have:=Int.natAbs_add_le n m;lia
def Bt.neg(h:Bt k n):Bt k (-n):=by unfold Bt at *;rw[iT];exact h
def Bt.div(h:Bt k n):Bt k (n/d):=aW (Int.natAbs_ediv_le_natAbs n d) h
def Bt.dvd(h:Bt k n)(hn:n≠0)(hd:d∣n):Bt k d:=aW (Nat.le_of_dvd `l (fQ.mpr hd)) h
def Bt.log(h:Bt 9000 n)(h0:0<n):n.natAbs.log2<9000:=(Nat.log2_lt `l).mpr h
def F0(h:Bt 20000 i):cq i<=2^20:=by
 unfold cq;split
 .exact aV _
 .rename_i z;have:=(Nat.log2_lt `g).mpr h;lia
def ć:Û X (dJ .Mult) (rI (λi j=>Bt 20000 i/\Bt 20000 j) λi j=>.int (i*j)):=opI λ_ _ _ _ _ _ _ hc q=>mul_int q (.of_bits (F0 hc.1) (F0 hc.2))
def M4(K:aa):R2:=λx y H Q=>∃l b xs zs,x=.ref l/\y=.ref b/\ZU K H l xs/\ZU K H b zs/\xs.length+zs.length<=aF/\∀p,H p=Zb->Q (.ref p) (upd H p (.lst (xs++zs)))
def N5:Û X (dJ .Add) (M4 X.K):=by
 rintro R1 s O H x y v u Q I rx ry ⟨l,b,xs,zs,rfl,rfl,hH,hB,hz,q⟩
 cases rx;cases ry;let⟨its,r,ht,_⟩:=I.list hH;let⟨Tp,r2,Wj,_⟩:=I.list hB;have l1:=r.length;have l2:=r2.length;let⟨⟨cls,dd,data,sl⟩,n,ho,hc,_,hd⟩:=ht;let⟨⟨cls2,dd2,data2,V1⟩,n2,UH,UK,_,WE⟩:=Wj;subst hc hd UK WE;refine concat_meets ⟨_,ho,rfl⟩ ⟨_,UH,rfl⟩ noFill_list_add seq_list_add PySem.F.slot_list_add PySem.F.entry_list_add (PySem.F.args_list_add_2 _ _) (list_addW l b its.toArray Tp.toArray n n2 dd dd2 sl V1 `g) ⟨ho,UH,?_⟩;have ea:its.toArray++Tp.toArray=(its++Tp).toArray:=by simp
 rw[ea];exact⟨.ref _,_,I.À8 (r.append r2) `g,rfl,q _ I.fresh⟩
def QB:V->List V->Hp->VK->Prop:=λx vs H Q=>∃(l:ag)(ss:List Str)(y:Str)(j:Nat),x=.ref l/\vs=[.str y]/\H l=Za (.lst (ss.map V.str))/\ss[j]?=Za y/\(∀m,m<j->ss[m]?≠Za y)/\ss.length<1000/\Q (.int (j:Nat)) H
def K3:MtM X "list.index" QB:=by
 rintro R1 s O H x vs v us Q I rx rv ⟨l,ss,y,j,rfl,rfl,hH,hj,T0,R5,q⟩
 cases rx;let⟨u,rfl,ru⟩:=rv.one;let⟨t,rfl⟩:=ru;let⟨z,its,n,r,hl,e⟩:=I.À7 hH;rw[ac] at hl;have X7:∀m (hm:m<its.toArray.size),∃z tz,its.toArray[m]=.str z tz/\ss[m]?=Za z:=λm hm=>by
  have UT:m<ss.length:=by rw[hl];simpa using hm
  let⟨u,hu,ru⟩:=r.get (i:=m) (x:=.str ss[m]) (by simp[UT]);let⟨tz,rfl⟩:=ru;refine⟨ss[m],tz,?_,by simp[UT]⟩;have:its[m]?=Za its.toArray[m]:=by simp[show m<its.length by simpa using hm]
  grind
 have jl:j<its.toArray.size:=by
  have:=(aR.mp hj).1
  grind
 refine jv jV ⟨_,e,rfl⟩ PySem.F.entry_list_index (PySem.F.args_list_index_2 _ _)
  (SeqAt.list_indexAt l its.toArray n _ _ (.str y t) (λv=>match v with|.str z _=>decide (z=y)|_=>false) j jl `g ?_ ?_) ⟨e,λw hw=>?_,⟨.int j,H,I.tok _,⟨_,rfl⟩,q⟩⟩
 .let⟨z',tz,e1,e2⟩:=X7 j jl;rw[e1]
  grind
 .intro m hm Sd;let⟨z',tz,e1,e2⟩:=X7 m hm;rw[e1];exact Zh λw=>T0 m Sd (by rw[e2,w])
 .let⟨m,hm,rfl⟩:=Array.getElem_of_mem hw;let⟨z',tz,e1,e2⟩:=X7 m hm;rw[e1];exact HB (show RelV (.str z') (.str z' tz) from⟨tz,rfl⟩) (show RelV (.str y) (.str y t) from⟨t,rfl⟩) rfl rfl
def RR:R2:=λx y H Q=>∃a v,x=.ref a/\Æ H a y (Za v)/\Q v H
def Os(hu:X.A.units+1<fB):IxR X RR:=by
 intro Sa So R1 s O H x y v u Q I rx ry h hs;let⟨a,z,rfl,g,q⟩:=h;obtain rfl:v=aP a:=rx;have hT:=yU I g;apply ae;refine ae (wpAny_specialOf hT jD.lookup ?_);have Sq:aM (model X.prog X.w) X.A (subscripted So false (.ref a) u) (λr R4=>aM (model X.prog X.w) X.A (letTemporaryGo Sa (.ref a) r >>= λ_=>pure r) (EP X R1 O Q) X.xe R4) X.xe s:=by rw[hs];exact wpAny_operating (aZ (Dc hu I g ry λw' s3 I3 SN=>(⟨z,H,I3,SN,q⟩:EP X R1 O Q w' s3)) (λr R4 VQ=>ae (wpAny_letTemporaryGo (aE VQ))) λ_ _ x=>x)
 first
  |exact aE (ae Sq)
  |exact ae (aE (ae Sq))
  |exact ae Sq
def Â4:R2:=λy x H Q=>∃a o,x=.ref a/\Æ H a y o/\Q (.bl o.isSome) H
def NL:R2:=λy x H Q=>∃a o,x=.ref a/\Æ H a y o/\Q (.bl (!o.isSome)) H
def GL(hu:X.A.units+1<fB):Û X (bN .In) Â4:=by
 rintro R1 s O H y x v u Q I ry rx ⟨a,o,rfl,g,q⟩
 obtain rfl:u=aP a:=rx;exact Ât hu I g ry λs3 I3=>⟨.bl o.isSome,H,I3,rfl,q⟩
def BO(hu:X.A.units+1<fB):Û X (bN .NotIn) NL:=by
 rintro R1 s O H y x v u Q I ry rx ⟨a,o,rfl,g,q⟩
 obtain rfl:u=aP a:=rx;exact Pc hu I g ry λs3 I3=>⟨.bl (!o.isSome),H,I3,rfl,q⟩
def JN:ZY X (.builtin "len") (λxs H Q=>∃a R3,xs=[V.ref a]/\Rd H a (.dK R3)/\Q (.int R3.length) H):=by
 rintro R1 s O H xs us Q I r ⟨a,R3,rfl,ha,q⟩
 let⟨u,rfl,rfl⟩:=rF r;exact P7 I ha λt s' I'=>⟨.int R3.length,H,I',⟨t,rfl⟩,q⟩
def RS(K:aa)(CB:ag)(neg:Bool):R2:=λx y H Q=>∃m s v w d e,SR K CB H m s/\Rep K H m s x v/\Rep K H m s y w/\PV.data s 12 v=Za d/\PV.data s 12 w=Za e/\Q (.bl (if neg then !cR d e else cR d e)) H
def QY(hu:X.A.units+12<fB):Û X (bN .Eq) (RS X.K CB false):=by
 rintro R1 s O H x y v u Q I rx ry ⟨m,t,p,q,d,e,S,r1,r2,e1,e2,k⟩
 let⟨⟨as,a1⟩,a2,a3⟩:=r1.reads I S 12 rx e1;let⟨⟨bs,b1⟩,b2,b3⟩:=r2.reads I S 12 ry e2;exact SeqAt.rcAt_reads a1 b1 a2 b2 `l _ _ _ _ ⟨.bl _,H,I,rfl,k⟩
def QU(hu:X.A.units+12<fB):Û X (bN .NotEq) (RS X.K CB true):=by
 rintro R1 s O H x y v u Q I rx ry ⟨m,t,p,q,d,e,S,r1,r2,e1,e2,k⟩
 let⟨⟨as,a1⟩,a2,a3⟩:=r1.reads I S 12 rx e1;let⟨⟨bs,b1⟩,b2,b3⟩:=r2.reads I S 12 ry e2;exact SeqAt.rcNeAt_reads a1 b1 a2 b2 `l _ _ _ _ ⟨.bl _,H,I,rfl,k⟩
def qN(i j:Int):Prop:=(Bt 20000 i/\Bt 20000 j)\/Àh i j
def Au(j:Int):Prop:=0<j/\Bt 9000 j
noncomputable instance (i j:Int):Decidable (qN i j):=dE _
noncomputable instance (j:Int):Decidable (Au j):=dE _
def ZS(v w:PV)(s:N'):Out PV:=match v,w with
 |.int i,.int j=>.ok (.int (i+j)) s
 |.str x,.str y=>if x.length+y.length<=100000 then .ok (.str (x++y)) s else .bad
 |v,w=>match ZH s v,ZH s w with
  |some l,Za k=>if l.length+k.length<=100000 then .ok (.lst (l++k)) s else .bad
  |_,_=>.bad
def ē(v w:PV)(s:N'):Out PV:=match v,w with
 |.int i,.int j=>.ok (.int (i-j)) s
 |_,_=>.bad
def Zy(v w:PV)(s:N'):Out PV:=match v,w with
 |.int i,.int j=>if qN i j then .ok (.int (i*j)) s else .bad
 |.lst l,.int k=>if -(2^63)<=k/\k<2^63/\l.length*k.toNat<=100000 then .ok (.lst (aQ k.toNat l).flatten) s else .bad
 |_,_=>.bad
def Ą(v w:PV)(s:N'):Out PV:=match v,w with
 |.int i,.int j=>if Au j then .ok (.int (i/j)) s else .bad
 |_,_=>.bad
def ö(v w:PV)(s:N'):Out PV:=match v,w with
 |.int i,.int j=>if 0<j then .ok (.int (i%j)) s else .bad
 |_,_=>.bad
def Ģ(v w:PV)(s:N'):Out PV:=match v,w with
 |.int i,.int j=>if 0<=j/\j<=1000000/\i.natAbs<2^64 then .ok (.int (i^j.toNat)) s else .bad
 |_,_=>.bad
def Ϭ(p:Int->Int->Bool)(v w:PV)(s:N'):Out PV:=match v,w with
 |.int i,.int j=>.ok (.bl (p i j)) s
 |_,_=>.bad
abbrev fLt:=Ϭ λi j=>decide (i<j)
abbrev fGt:=Ϭ λi j=>decide (j<i)
abbrev fGe:=Ϭ λi j=>decide (j<=i)
def Î(neg:Bool)(v w:PV)(s:N'):Out PV:=match PV.data s 12 v,PV.data s 12 w with
 |some d,Za e=>.ok (.bl (if neg then !cR d e else cR d e)) s
 |_,_=>.bad
abbrev Ĕ:=Î false
abbrev Ş:=Î true
def PV.Às:PV->Bool
 |.Zn=>true
 |_=>false
def fIs(v w:PV)(s:N'):Out PV:=match w with
 |.Zn=>.ok (.bl v.Às) s
 |_=>.bad
def Ũ(v w:PV)(s:N'):Out PV:=match w with
 |.Zn=>.ok (.bl (!v.Às)) s
 |_=>.bad
def F5(neg b:Bool):Bool:=if neg then !b else b
def rc(neg:Bool)(v w:PV)(s:N'):Out PV:=match Ú s w with
 |some l=>match ó v with
  |some k=>.ok (.bl (F5 neg (qV l k).isSome)) s
  |none=>.bad
 |none=>match toV v with
  |none=>.bad
  |some x=>match w with
   |.tup l=>match toVs l with
    |some zs=>.ok (.bl (F5 neg (inV x zs))) s
    |none=>.bad
   |w=>match ZH s w with
    |some l=>match toVs l with
     |some zs=>.ok (.bl (F5 neg (inV x zs))) s
     |none=>.bad
    |none=>.bad
abbrev fIn:=rc false
abbrev zw:=rc true
def Zk(v w:PV)(s:N'):Out PV:=match v with
 |.tup l=>match w with
  |.int i=>match ü l i with
   |some p=>.ok p s
   |none=>.bad
  |_=>.bad
 |.str x=>match w with
  |.int i=>match ü x.cps.toList i with
   |some c=>if x.length<=100000 then .ok (.str ⟨#[c]⟩) s else .bad
   |none=>.bad
  |_=>.bad
 |v=>match ZH s v with
  |some l=>match w with
   |.int i=>match ü l i with
    |some p=>.ok p s
    |none=>.bad
   |_=>.bad
  |none=>match Ú s v with
   |some l=>match ó w with
    |some k=>match qV l k with
     |some p=>.ok p s
     |none=>.bad
    |none=>.bad
   |none=>.bad
def Ϙ(v:PV)(s:N'):Out PV:=match v with
 |.int i=>.ok (.int (-i)) s
 |_=>.bad
section
variable{X:Cx}
def ÁU:ϒ X.K CB E (λx y H Q=>rI0 (λi j=>V.int (i+j)) x y H Q\/(∃i j,x=V.str i/\y=V.str j/\i.length+j.length<=aF/\Q (V.str (i++j)) H)\/M4 X.K x y H Q) ZS:=by
 intro H m s v w x y Q S rx ry P;unfold ZS at P;split at P
 .cases rx;cases ry;exact .inl ⟨_,_,rfl,rfl,P.here S .int⟩
 .cases rx;cases ry;split at P
  .rename_i h;exact .inr (.inl ⟨_,_,rfl,rfl,sz5 h,P.here S .str⟩)
  .exact P.elim
 .split at P
  .rename_i l k h1 h2;split at P
   .rename_i h;let⟨a,vs,rfl,q1,r1⟩:=rx.ls S h1;let⟨b,ws,rfl,q2,r2⟩:=ry.ls S h2;exact .inr (.inr ⟨a,b,vs,ws,rfl,rfl,q1,q2,by rw[r1.length,r2.length];exact sz5 h,λp hp=>P.new S hp λex S'=>.lst mH (S.ZK hp) ((r1.append r2).ext ex)⟩)
   .exact P.elim
  .exact P.elim
def N6:Û X (dJ .Add) (λx y H Q=>rI0 (λi j=>V.int (i+j)) x y H Q\/(∃i j,x=V.str i/\y=V.str j/\i.length+j.length<=aF/\Q (V.str (i++j)) H)\/M4 X.K x y H Q):=Àr.or (Ϫ.or N5)
def ÁN:ϒ X.K CB E (rI0 λi j=>V.int (i-j)) ē:=by
 intro H m s v w x y Q S rx ry P;unfold ē at P;split at P
 .cases rx;cases ry;exact⟨_,_,rfl,rfl,P.here S .int⟩
 .exact P.elim
theorem Y5.rep{K}{H}{m}{s}{vs}{l}(r:Y5 K H m s vs l):∀n,Y5 K H m s (aQ n vs).flatten (aQ n l).flatten
 |0=>.nil
 |n+1=>by rw[eR,eR,gN,gN];exact r.append (r.rep n)
def ÁQ:ϒ X.K CB E (λx y H Q=>(rI (λi j=>Bt 20000 i/\Bt 20000 j) (λi j=>V.int (i*j)) x y H Q\/rI Àh (λi j=>V.int (i*j)) x y H Q)\/RM x y H Q) Zy:=by
 intro H m s v w x y Q S rx ry P;unfold Zy at P;split at P
 .cases rx;cases ry;split at P
  .rename_i h;obtain h|h:=h
   .exact .inl (.inl ⟨_,_,rfl,rfl,h,P.here S .int⟩)
   .exact .inl (.inr ⟨_,_,rfl,rfl,h,P.here S .int⟩)
  .exact P.elim
 .split at P
  .rename_i h;cases rx with
   |lst h1 _ r1 =>
    cases ry;exact .inr ⟨_,_,_,rfl,rfl,h1,h.1,h.2.1,by rw[r1.length];exact sz5 h.2.2,λp hp=>P.new S hp λex S'=>.lst mH (S.ZK hp) ((r1.rep _).ext ex)⟩
  .exact P.elim
 .exact P.elim
def N4:Û X (dJ .Mult) (λx y H Q=>(rI (λi j=>Bt 20000 i/\Bt 20000 j) (λi j=>V.int (i*j)) x y H Q\/rI Àh (λi j=>V.int (i*j)) x y H Q)\/RM x y H Q):=(ć.or QV).or QS
def ÁT:ϒ X.K CB E (rI (λ_ j=>0<j/\j.natAbs.log2<9000) λi j=>V.int (i/j)) Ą:=by
 intro H m s v w x y Q S rx ry P;unfold Ą at P;split at P
 .cases rx;cases ry;split at P
  .rename_i h;exact⟨_,_,rfl,rfl,⟨h.1,h.2.log h.1⟩,P.here S .int⟩
  .exact P.elim
 .exact P.elim
def ÁR:ϒ X.K CB E (rI (λ_ j=>0<j) λi j=>V.int (i%j)) ö:=by
 intro H m s v w x y Q S rx ry P;unfold ö at P;split at P
 .cases rx;cases ry;split at P
  .rename_i h;exact⟨_,_,rfl,rfl,h,P.here S .int⟩
  .exact P.elim
 .exact P.elim
def ÁO:ϒ X.K CB E (rI ÂF λi j=>V.int (i^j.toNat)) Ģ:=by
 intro H m s v w x y Q S rx ry P;unfold Ģ at P;split at P
 .cases rx;cases ry;split at P
  .rename_i h;exact⟨_,_,rfl,rfl,h,P.here S .int⟩
  .exact P.elim
 .exact P.elim
def M8:ϒ X.K CB E (rI0 λi j=>V.bl (p i j)) (Ϭ p):=by
 intro H m s v w x y Q S rx ry P;unfold Ϭ at P;split at P
 .cases rx;cases ry;exact⟨_,_,rfl,rfl,P.here S .bl⟩
 .exact P.elim
def PP:ϒ X.K CB E (RS X.K CB neg) (Î neg):=by
 intro H m s v w x y Q S rx ry P;unfold Î at P;split at P
 .rename_i d e h1 h2;exact⟨m,s,v,w,d,e,S,rx,ry,h1,h2,P.here S .bl⟩
 .exact P.elim
def Jx{K}{H}{m}{s}{x}{v}(r:Rep K H m s x v):decide (x=V.Zn)=v.Às:=by cases r<;>first|rfl|exact Zh `g
def Q6:ϒ X.K CB E (λx y H Q=>y=V.Zn/\Q (V.bl (!decide (x=V.Zn))) H) Ũ:=by
 intro H m s v w x y Q S rx ry P;unfold Ũ at P;split at P
 .cases ry;refine⟨rfl,?_⟩;rw[Jx rx];exact P.here S .bl
 .exact P.elim
def RT(neg:Bool):R2:=λy x H Q=>∃a o,x=.ref a/\Æ H a y o/\Q (.bl (F5 neg o.isSome)) H
def ÁS:ϒ X.K CB E (λx y H Q=>RT neg x y H Q\/rIn X.K neg x y H Q) (rc neg):=by
 intro H m s v w x y Q S rx ry P;unfold rc at P;split at P
 .rename_i l hl;split at P
  .rename_i k hk;let⟨a,vs,rfl,q,r⟩:=ry.dc S hl;refine .inl ⟨a,pL vs k,rfl,.inl ⟨vs,k,q,qS rx hk,rfl⟩,?_⟩;let⟨r1,r2⟩:=r.val k;cases c:qV l k with
   |none=>rw[r2 c];rw[c] at P;exact P.here S .bl
   |some p=>let⟨u,e,_⟩:=r1 p c;rw[e];rw[c] at P;exact P.here S .bl
  .exact P.elim
 .split at P
  .exact P.elim
  .rename_i z hz;have ez:=rx.toV hz;subst ez;split at P
   .split at P
    .rename_i l zs Wd;let⟨a,vs,rfl,q,r⟩:=ry.tp;have e:=r.toVs Wd;subst e;exact .inr ⟨a,vs,rfl,.inr q,AS hz,yk Wd,P.here S .bl⟩
    .exact P.elim
   .split at P
    .rename_i l hl;split at P
     .rename_i zs Wd;let⟨a,vs,rfl,q,r⟩:=ry.ls S hl;have e:=r.toVs Wd;subst e;exact .inr ⟨a,vs,rfl,.inl q,AS hz,yk Wd,P.here S .bl⟩
     .exact P.elim
    .exact P.elim
def QW(hu:X.A.units+1<fB):Û X (bN .In) (λx y H Q=>RT false x y H Q\/rIn X.K false x y H Q):=(GL hu).or Je
def Jd(hu:X.A.units+1<fB):Û X (bN .NotIn) (λx y H Q=>RT true x y H Q\/rIn X.K true x y H Q):=(BO hu).or DD
def Â8:ϒ X.K CB E (λx y H Q=>(RO X.K x y H Q\/RP x y H Q)\/(RQ X.K x y H Q\/RR x y H Q)) Zk:=by
 intro H m s v w x y Q S rx ry P;unfold Zk at P;split at P
 .split at P
  .split at P
   .rename_i p hp;cases ry;let⟨a,vs,rfl,q,r⟩:=rx.tp;let⟨u,e,ru⟩:=r.ü hp;exact .inl (.inl ⟨a,vs,_,u,rfl,rfl,q,e,P.here S ru⟩)
   .exact P.elim
  .exact P.elim
 .split at P
  .split at P
   .rename_i c hc;split at P
    .rename_i hl;cases rx;cases ry;exact .inl (.inr ⟨_,_,c,rfl,rfl,sz5 hl,hc,P.here S .str⟩)
    .exact P.elim
   .exact P.elim
  .exact P.elim
 .split at P
  .rename_i l hl;split at P
   .split at P
    .rename_i p hp;cases ry;let⟨a,vs,rfl,q,r⟩:=rx.ls S hl;let⟨u,e,ru⟩:=r.ü hp;exact .inr (.inl ⟨a,vs,_,u,rfl,rfl,q,e,P.here S ru⟩)
    .exact P.elim
   .exact P.elim
  .split at P
   .rename_i l hl;split at P
    .rename_i k hk;split at P
     .rename_i p hp;let⟨a,vs,rfl,q,r⟩:=rx.dc S hl;let⟨u,e,ru⟩:=(r.val k).1 p hp;exact .inr (.inr ⟨a,u,rfl,.inl ⟨vs,k,q,qS ry hk,e.symm⟩,P.here S ru⟩)
     .exact P.elim
    .exact P.elim
   .exact P.elim
def Ãj(hu:X.A.units+1<fB):IxR X (λx y H Q=>(RO X.K x y H Q\/RP x y H Q)\/(RQ X.K x y H Q\/RR x y H Q)):=(Z8.or Ca).or (ÀN.or (Os hu))
def ÁP:Op1 X.K CB E (rU λi=>V.int (-i)) Ϙ:=by
 intro H m s v x Q S rx P;unfold Ϙ at P;split at P
 .cases rx;exact⟨_,rfl,P.here S .int⟩
 .exact P.elim
def oQ(ha:DE X CB E a f)(hb:DE X CB E b g):DE X CB E (.BinOp a .Add b pos) (x2 f g ZS):=Aw N6 ÁU ha hb
def zx(ha:DE X CB E a f)(hb:DE X CB E b g):DE X CB E (.BinOp a .Sub b pos) (x2 f g ē):=Aw QR ÁN ha hb
def nV(ha:DE X CB E a f)(hb:DE X CB E b g):DE X CB E (.BinOp a .Mult b pos) (x2 f g Zy):=Aw N4 ÁQ ha hb
def uI(ha:DE X CB E a f)(hb:DE X CB E b g):DE X CB E (.BinOp a .FloorDiv b pos) (x2 f g Ą):=Aw tK ÁT ha hb
def xj(ha:DE X CB E a f)(hb:DE X CB E b g):DE X CB E (.BinOp a .Mod b pos) (x2 f g ö):=Aw Mu ÁR ha hb
def Cj(ha:DE X CB E a f)(hb:DE X CB E b g):DE X CB E (.BinOp a .Pow b pos) (x2 f g Ģ):=Aw QT ÁO ha hb
def RD(ha:DE X CB E a f):DE X CB E (.UnaryOp .USub a pos) (x1 f Ϙ):=Âq L7 ÁP ha
def Âe(hr:Zw k A):A.units+12<fB:=aW (ms `g _) hr.units
def mZ(ha:DE X CB E a f)(hb:DE X CB E b g)(hr:Zw jr X.A:=by assumption)(hs:II b:=by exact λ_ _=>rfl):DE X CB E (.Subscript a b pos) (x2 f g Zk):=⟨(sW (Ãj (o7 hr)) ha.pe hb.pe hs).mono λO H Q q=>two Â8 q⟩
structure Š(X:Cx)(CB:ag)(E:XK)(op:CmpOp)(F:PV->PV->N'->Out PV):Prop where
 ex:∃r,Û X (bN op) r/\ϒ X.K CB E r F
def Ãt:Š X CB E .Lt fLt:=⟨_,PF,M8⟩
def Qa:Š X CB E .Gt fGt:=⟨_,PK,M8⟩
def Âx:Š X CB E .GtE fGe:=⟨_,M7,M8⟩
def Dj(hr:Zw jr X.A:=by assumption):Š X CB E .Eq Ĕ:=⟨_,QY (Âe hr),PP⟩
def Hg(hr:Zw jr X.A:=by assumption):Š X CB E .NotEq Ş:=⟨_,QU (Âe hr),PP⟩
def RI:Š X CB E .IsNot Ũ:=⟨_,N2,Q6⟩
def Âw(hr:Zw jr X.A:=by assumption):Š X CB E .In fIn:=⟨_,QW (o7 hr),ÁS⟩
def Pf(hr:Zw jr X.A:=by assumption):Š X CB E .NotIn zw:=⟨_,Jd (o7 hr),ÁS⟩
def Hd(r:Š X CB E op F)(ha:DE X CB E a f)(hb:DE X CB E b g)(hm:cS op b=false:=by first|exact wc _|with_unfolding_all rfl):DE X CB E (.Compare a [op] [b] pos) (x2 f g F):=let⟨_,r1,r2⟩:=r.ex;L2.Áb r1 r2 ha hb hm
def o4(r:Š X CB E op F)(ha:DE X CB E a f)(hb:DE X CB E b g)(hm:cS op b=false:=by first|exact wc _|with_unfolding_all rfl):DT X CB E (.Compare a [op] [b] pos) (ZI (x2 f g F)):=let⟨_,r1,r2⟩:=r.ex;L2.À9 r1 r2 ha hb hm
abbrev XO':=En->N'->Out (Option Int)
def TDO(K:aa)(CB:ag)(E:XK)(f:XO'):TO:=λO H Q=>∃Z s m,ER K H m s O Z/\SR K CB H m s/\Zs K CB (λ_ _ _ u v=>u=v) E (f Z s) H m s Q
structure DO(X:Cx)(CB:ag)(E:XK)(e:Option cA)(f:XO'):Prop where
 po:PO X e (TDO X.K CB E f)
def Ś(_:En)(s:N'):Out (Option Int):=.ok Zb s
def Č(f:XE)(Z:En)(s:N'):Out (Option Int):=(f Z s).bind λv s1=>match v with
 |.int i=>.ok (Za i) s1
 |_=>.bad
def PO.mono{e}{t t':TO}(h:PO X e t)(k:∀O H Q,t' O H Q->t O H Q):PO X e t':=λR1 s O H Q I q=>h R1 s O H Q I (k O H Q q)
def As:DO X CB E Zb Ś:=⟨ÀJ.mono λO H Q=>oE λZ s m er S P=>P.here S rfl⟩
def Ar(h:DE X CB E e f):DO X CB E (Za e) (Č f):=⟨(NR h.pe).mono λO H Q=>oE λZ s m er S P=>⟨Z,s,m,er,S,P.bind λv s1 u H1 m1 e1 S1 r1 P1=>by cases r1<;>first|exact P1.elim|exact⟨_,rfl,P1.here S1 rfl⟩⟩⟩
def Er(l:List PV)(lo hi:Option Int):List PV:=(l.drop (HT.À l.length 0 lo)).take (HT.À l.length l.length hi-HT.À l.length 0 lo)
def fSl(v:PV)(lo hi:Option Int)(s:N'):Out PV:=match v with
 |.tup l=>if HT.À l.length 0 lo=0/\HT.À l.length l.length hi=l.length then .bad else .ok (.tup (Er l lo hi)) s
 |v=>match ZH s v with
  |some l=>.ok (.lst (Er l lo hi)) s
  |none=>.bad
def xSl(f:XE)(lo hi:XO')(Z:En)(s:N'):Out PV:=(f Z s).bind λv s1=>(lo Z s1).bind λl s2=>(hi Z s2).bind λu s3=>fSl v l u s3
def Y5.cut{K}{H}{m}{s}{vs}{l}(r:Y5 K H m s vs l)(lo hi):Y5 K H m s (MR vs lo hi) (Er l lo hi):=by unfold MR Er;rw[r.length];exact(r.drop _).take _
def J5{lo hi}{fl fh:XO'}{p2}(ha:DE X CB E a f)(hl:DO X CB E lo fl)(hh:DO X CB E hi fh):DE X CB E (.Subscript a (.Slice lo hi Zb p2) pos) (xSl f fl fh) :=
 ⟨(KN (ÀH.or Qu) ha.pe hl.po hh.po).mono λO H Q=>oE λZ s m er S P=>⟨Z,s,m,er,S,P.bind λv s1 u H1 m1 e1 S1 r1 P1=>⟨Z,s1,m1,er.ext e1,S1,P1.bind λl s2 l' H2 m2 e2 S2 r2 P2=>by
  cases r2;refine⟨Z,s2,m2,(er.ext e1).ext e2,S2,P2.bind λk s3 k' H3 m3 e3 S3 r3 P3=>?_⟩;cases r3;have r1:=(r1.ext e2).ext e3;unfold fSl at P3;split at P3
  .split at P3
   .exact P3.elim
   .rename_i hn;let⟨a,vs,rfl,q,r⟩:=r1.tp;exact .inr ⟨a,vs,rfl,q,by rw[r.length];exact hn,λp hp=>P3.new S3 hp λex S'=>.tup (.inl ⟨.inl mH,S'.Â mH⟩) ((r.cut _ _).ext ex)⟩
  .split at P3
   .rename_i l hl;let⟨a,vs,rfl,q,r⟩:=r1.ls S3 hl;exact .inl ⟨a,vs,rfl,q,λp hp=>P3.new S3 hp λex S'=>.lst mH (S3.ZK hp) ((r.cut _ _).ext ex)⟩
   .exact P3.elim⟩⟩⟩
def xB(fa:XA)(F:List PV->N'->Out PV)(Z:En)(s:N'):Out PV:=(fa Z s).bind F
def nOf(o:OpN X.K CB E r F)(q:Ŭ X.K CB E (xB fa F) O H Q):tCB r (TDA X.K CB E fa) O H Q:=by let⟨Z,s,m,er,S,P⟩:=q;exact⟨Z,s,m,er,S,P.bind λv s1 u H1 m1 e1 S1 r1 P1=>o H1 m1 s1 v u Q S1 r1 P1⟩
structure ŕ(X:Cx)(CB:ag)(E:XK)(fv:ai)(F:List PV->N'->Out PV):Prop where
 ex:∃r,ZY X fv r/\OpN X.K CB E r F
def nN{id:String}{F}(r:ŕ X CB E (.builtin id) F)(ha:DA X CB E (e::es) fa)(hg:Gl X x:=by rfl)(hm:X.mg x=none:=by first|exact T.á|exact T.Àd|exact T.ZZ|exact T.ľ|exact T.ϛ|exact T.ő|exact T.Ĳ|exact T.Ϝ|exact T.ÀW|exact T.ÀV|exact T.ϯ|exact T.Ác)(hv:bh x=Za (.builtin id):=by first|exact EV|exact vQ|exact RK|exact MV|exact bt_any|exact bt_max)(hn:x≠"__name__":=by decide)(SI:Ĉ x:=by decide)(hs:Œ X e es:=by rfl)(Sf:(bI pos (ao es X.env)).any (·.1)=false:=by rfl):DE X CB E (.Call (.Name x p) (e::es) [] pos) (xB fa F) :=
 let⟨_,r1,r2⟩:=r.ex;⟨(oP r1 hg hm hv ha.pa hn SI hs Sf).mono λO H Q q=>nOf r2 q⟩
def tu(r:ŕ X CB E (.type T) F)(ha:DA X CB E (e::es) fa)(hg:Gl X x:=by rfl)(hm:X.mg x=none:=by first|exact T.á|exact T.Àd|exact T.ZZ|exact T.ľ|exact T.ϛ|exact T.ő|exact T.Ĳ|exact T.Ϝ|exact T.ÀW|exact T.ÀV|exact T.ϯ|exact T.Ác)(hv:bh x=Za (.type T):=by first|exact MT|exact FZ|exact MU|exact AJ|exact Ĥ)(hn:x≠"__name__":=by decide)(SI:Ĉ x:=by decide)(hs:Œ X e es:=by rfl)(Sf:(bI pos (ao es X.env)).any (·.1)=false:=by rfl):DE X CB E (.Call (.Name x p) (e::es) [] pos) (xB fa F) :=
 let⟨_,r1,r2⟩:=r.ex;⟨(yu r1 hg hm hv ha.pa hn SI hs Sf).mono λO H Q q=>nOf r2 q⟩
def å(vs:List PV)(s:N'):Out PV:=match vs with
 |[.tup l]=>.ok (.int l.length) s
 |[.str x]=>if x.length<=100000 then .ok (.int x.length) s else .bad
 |[v]=>match ZH s v with
  |some l=>.ok (.int l.length) s
  |none=>match Ú s v with
   |some l=>.ok (.int l.length) s
   |none=>.bad
 |_=>.bad
def á:ŕ X CB E (.builtin "len") å:=⟨_,ž.or (ģ.or JN),by
 intro H m s v x Q S rx P;unfold å at P;split at P
 .cases rx with
  |cons r n =>
   cases n;let⟨a,vs,rfl,q,r⟩:=r.tp;rw[<-r.length] at P;exact .inl ⟨a,vs,rfl,.inr q,P.here S .int⟩
 .cases rx with
  |cons r n =>
   cases n;cases r;split at P
   .rename_i h;exact .inr (.inl ⟨_,rfl,sz5 h,P.here S .int⟩)
   .exact P.elim
 .cases rx with
  |cons r n =>
   cases n;split at P
   .rename_i l hl;let⟨a,vs,rfl,q,r⟩:=r.ls S hl;rw[<-r.length] at P;exact .inl ⟨a,vs,rfl,.inl q,P.here S .int⟩
   .split at P
    .rename_i l hl;let⟨a,vs,rfl,q,r⟩:=r.dc S hl;rw[<-r.length] at P;exact .inr (.inr ⟨a,vs,rfl,q,P.here S .int⟩)
    .exact P.elim
 .exact P.elim⟩
def ş(vs:List PV)(s:N'):Out PV:=match vs with
 |[.int i]=>.ok (.int (if i<0 then -i else i)) s
 |_=>.bad
def Ĳ:ŕ X CB E (.builtin "abs") ş:=⟨_,LQ,by
 intro H m s v x Q S rx P;unfold ş at P;split at P
 .cases rx with
  |cons r n=>cases n;cases r;exact⟨_,rfl,P.here S .int⟩
 .exact P.elim⟩
def Ż(vs:List PV)(s:N'):Out PV:=match vs with
 |[.int i]=>.ok (.int i) s
 |[.bl b]=>.ok (.int (if b=true then 1 else 0)) s
 |_=>.bad
def ϛ:ŕ X CB E (.type "int") Ż:=⟨_,JP,by
 intro H m s v x Q S rx P;unfold Ż at P;split at P
 .cases rx with
  |cons r n=>cases n;cases r;exact .inl ⟨_,rfl,P.here S .int⟩
 .cases rx with
  |cons r n=>cases n;cases r;exact .inr ⟨_,rfl,P.here S .int⟩
 .exact P.elim⟩
def ź(vs:List PV)(s:N'):Out PV:=match vs with
 |[v]=>match ZH s v with
  |some l=>.ok (.tup l) s
  |none=>.bad
 |_=>.bad
def ľ:ŕ X CB E (.type "tuple") ź:=⟨_,Ck,by
 intro H m s v x Q S rx P;unfold ź at P;split at P
 .cases rx with
  |cons r n =>
   cases n;split at P
   .rename_i l hl;let⟨a,vs,rfl,q,r⟩:=r.ls S hl;exact⟨a,vs,rfl,.inl ⟨q,λp hp=>P.new S hp λex S'=>.tup (.inl ⟨.inl mH,S'.Â mH⟩) (r.ext ex)⟩⟩
   .exact P.elim
 .exact P.elim⟩
def Àt(vs:List PV)(s:N'):Out PV:=match vs with
 |[.tup l]=>.ok (.lst l) s
 |[v]=>match ZH s v with
  |some l=>.ok (.lst l) s
  |none=>.bad
 |_=>.bad
def uC:List PV->Option (List Str)
 |[]=>Za []
 |.str x::l=>(uC l).map (x::·)
 |_=>Zb
theorem vL:∀{l:List PV}{ss:List Str},uC l=Za ss->l=ss.map PV.str
 |[],_,e=>by cases e;rfl
 |p::l,ss,e=>by
  unfold uC at e;split at e
  .rename_i h;cases h
  .rename_i x l' h;cases h;cases c:uC l with
   |none=>rw[c] at e;cases e
   |some t=>rw[c] at e;cases e;rw[vL c];rfl
  .cases e
def wy(ss):uC (ss.map PV.str)=Za ss:=by
 induction ss with
 |nil=>rfl
 |cons x r ih=>rw[am];unfold uC;rw[ih];rfl
def keysOf:List (Key×PV)->Option (List Str)
 |[]=>Za []
 |(.inr x,_)::l=>(keysOf l).map (x::·)
 |_=>Zb
theorem C2:∀{l:List (Key×PV)}{ss:List Str},keysOf l=Za ss->l.map (·.1)=ss.map aq
 |[],_,e=>by cases e;rfl
 |p::l,ss,e=>by
  unfold keysOf at e;split at e
  .rename_i h;cases h
  .rename_i x _ l' h;cases h;cases c:keysOf l with
   |none=>rw[c] at e;cases e
   |some t=>rw[c] at e;cases e;rw[am,C2 c];rfl
  .cases e
def ny(vs:List PV)(s:N'):Out PV:=match vs with
 |[v]=>match ZH s v with
  |some l=>match uC l with
   |some ss=>if ss.length<64 then .ok (.lst ((ZR ss).map PV.str)) s else .bad
   |none=>.bad
  |none=>match Ú s v with
   |some l=>match keysOf l with
    |some ss=>if ss.length<64 then .ok (.lst ((ZR ss).map PV.str)) s else .bad
    |none=>.bad
   |none=>.bad
 |_=>.bad
def ZZ(hc:X.calm=true):ŕ X CB E (.builtin "sorted") ny:=⟨_,Ž.or (qX hc),by
 intro H m s v x Q S rx P;unfold ny at P;split at P
 .cases rx with
  |cons r n =>
   cases n;split at P
   .rename_i l hl;split at P
    .rename_i ss hs;split at P
     .rename_i UY;let⟨a,vs,rfl,q,r⟩:=r.ls S hl;have e:=vL hs;subst e;rw[r.strs] at q;exact .inl ⟨a,ss,rfl,q,UY,λp hp=>P.new S hp λex S'=>.lst mH (S.ZK hp) (.ofStrs _)⟩
     .exact P.elim
    .exact P.elim
   .split at P
    .rename_i l hl;split at P
     .rename_i ss hs;split at P
      .rename_i UY;let⟨a,vs,rfl,q,r⟩:=r.dc S hl;exact .inr ⟨a,vs,ss,rfl,q,r.keys.trans (C2 hs),UY,λp hp=>P.new S hp λex S'=>.lst mH (S.ZK hp) (.ofStrs _)⟩
      .exact P.elim
     .exact P.elim
    .exact P.elim
 .exact P.elim⟩
def AL:List PV->Option (List Bool)
 |[]=>Za []
 |.bl x::l=>(AL l).map (x::·)
 |_=>Zb
theorem AK{K}{H}{m}{s}:∀{vs:List V}{l:List PV}{bs:List Bool},Y5 K H m s vs l->AL l=Za bs->vs=bs.map V.bl
 |_,_,_,.nil,e=>by cases e;rfl
 |_,_,_,.cons (l:=l) a b,e=>by
  unfold AL at e;split at e
  .rename_i h;cases h
  .rename_i h;cases h;cases a;cases c:AL l with
   |none=>rw[c] at e;cases e
   |some t=>rw[c] at e;cases e;rw[AK b c];rfl
  .cases e
def Àu(vs:List PV)(s:N'):Out PV:=match vs with
 |[v]=>match ZH s v with
  |some l=>match AL l with
   |some bs=>.ok (.bl (bs.all id)) s
   |none=>.bad
  |none=>.bad
 |_=>.bad
def Ϝ(hc:X.calm=true):ŕ X CB E (.builtin "all") Àu:=⟨_,FY,by
 intro H m s v x Q S rx P;unfold Àu at P;split at P
 .cases rx with
  |cons r n =>
   cases n;split at P
   .rename_i l hl;split at P
    .rename_i bs hb;let⟨a,vs,rfl,q,r⟩:=r.ls S hl;have e:=AK r hb;subst e;exact⟨a,bs,rfl,q,hc,P.here S .bl⟩
    .exact P.elim
   .exact P.elim
 .exact P.elim⟩
def ţ(f:XE)(fa:XA)(Z:En)(s:N'):Out PV:=(f Z s).bind λv s1=>match v with
 |.str z=>(fa Z s1).bind λvs s2=>match vs with
  |[w]=>match ZH s2 w with
   |some l=>match uC l with
    |some ys=>if(ys.map (·.length)).sum+ys.length*z.length<=16777216 then .ok (.str (Txt.join z ys)) s2 else .bad
    |none=>.bad
   |none=>.bad
  |_=>.bad
 |_=>.bad
def O4(ho:DE X CB E a f)(ha:DA X CB E (e::es) fa)(SB:cm a "join" X.env (eval a X.env)=eval a X.env:=by rfl)(TL:((bI R6 (ao (e::es) X.env)).all (λx=>!x.1)&&(eA R6 (cI [] X.env)).all (λx=>x.1.isSome)
   && decide ((e::es).length+([]:List fV).length+(if([]:List fV).isEmpty then 0 else 1)<30))=true:=by rfl)(Sy:(R8.endLine==R6.line)=true:=by rfl)(hs:Œ X e es:=by rfl)(SH:(bI R6 (ao es X.env)).any (·.1)=false:=by rfl) :
  DE X CB E (.Call (.Attribute a "join" R8) (e::es) [] R6) (ţ f fa) :=
 ⟨(M6 PySem.F.plainAttrs_str PySem.F.slot_str_join PySem.F.type_str_join Of ho.pe ha.pa SB TL Sy hs SH).mono λO H Q=>oE λZ s m er S P=>⟨Z,s,m,er,S,P.bind λv s1 u H1 m1 e1 S1 r1 P1=>by
  split at P1
  .cases r1;refine⟨rfl,Z,s1,m1,er.ext e1,S1,P1.bind λvs s2 us H2 m2 e2 S2 r2 P2=>?_⟩;split at P2
   .cases r2 with
    |cons r n =>
     cases n;split at P2
     .rename_i l hl;split at P2
      .rename_i ys hy;split at P2
       .rename_i hz;let⟨b,vs,rfl,q,r⟩:=r.ls S2 hl;have e:=vL hy;subst e;rw[r.strs] at q;exact⟨_,b,ys,rfl,rfl,q,hz,P2.here S2 .str⟩
       .exact P2.elim
      .exact P2.elim
     .exact P2.elim
   .exact P2.elim
  .exact P1.elim⟩⟩
def Á(f:XE)(fa:XA)(Z:En)(s:N'):Out PV:=(f Z s).bind λv s1=>match v with
 |.ref n=>match s1.get n with
  |some (.lst _)=>(fa Z s1).bind λvs s2=>match vs with
   |[w]=>match s2.get n with
    |some (.lst l)=>if l.length<100000 then .ok .Zn (s2.set n (.lst (l++[w]))) else .bad
    |_=>.bad
   |_=>.bad
  |_=>.bad
 |_=>.bad
def SR.putL{K}{H}{m}{s}{n}{l l'}{SE}(S:SR K CB H m s)(hn:s.get n=Za (.lst l))(r:Y5 K H m s SE l') :
  SR K CB (upd H (m.ad n) (.lst SE)) (m.Þ n [m.ad n]) (s.set n (.lst l'))/\Ext H m s (upd H (m.ad n) (.lst SE)) (m.Þ n [m.ad n]) (s.set n (.lst l')):=by
 let⟨e1,vs,h1,_⟩:=S.get hn;refine S.put hn `g _ _ (λa o h ha=>?_) (λa ha=>.inl (by rw[e1];exact ha)) λex=>⟨by show(if n=n then [m.ad n] else m.fp n)=_;rw[Zc rfl];rfl,SE,mH,r.Zq ex⟩;rw[e1,ax] at ha;rw[mF ha];exact h
def SR.putD{K}{H}{m}{s}{n}{l l'}{SE}(S:SR K CB H m s)(hn:s.get n=Za (.Zv l))(r:Y6 K H m s SE l') :
  SR K CB (upd H (m.ad n) (.dK SE)) (m.Þ n [m.ad n]) (s.set n (.Zv l'))/\Ext H m s (upd H (m.ad n) (.dK SE)) (m.Þ n [m.ad n]) (s.set n (.Zv l')):=by
 let⟨e1,vs,h1,_⟩:=S.get hn;refine S.put hn `g _ _ (λa o h ha=>?_) (λa ha=>.inl (by rw[e1];exact ha)) λex=>⟨by show(if n=n then [m.ad n] else m.fp n)=_;rw[Zc rfl];rfl,SE,mH,r.Zq ex⟩;rw[e1,ax] at ha;rw[mF ha];exact h
def vP(ho:DE X CB E a f)(ha:DA X CB E (e::es) fa)(SB:cm a "append" X.env (eval a X.env)=eval a X.env:=by rfl)(TL:((bI R6 (ao (e::es) X.env)).all (λx=>!x.1)&&(eA R6 (cI [] X.env)).all (λx=>x.1.isSome)
   && decide ((e::es).length+([]:List fV).length+(if([]:List fV).isEmpty then 0 else 1)<30))=true:=by rfl)(Sy:(R8.endLine==R6.line)=true:=by rfl)(hs:Œ X e es:=by rfl)(SH:(bI R6 (ao es X.env)).any (·.1)=false:=by rfl) :
  DE X CB E (.Call (.Attribute a "append" R8) (e::es) [] R6) (Á f fa) :=
 ⟨(M6 jW lg PySem.F.type_list_append CW ho.pe ha.pa SB TL Sy hs SH).mono λO H Q=>oE λZ s m er S P=>⟨Z,s,m,er,S,P.bind λv s1 u H1 m1 e1 S1 r1 P1=>by
  split at P1
  .split at P1
   .rename_i n _ _ hg;let⟨_,Ts,h0,_⟩:=S1.get hg;cases r1 with
    |ref hn =>
    refine⟨.inl ⟨rfl,Ts,ZU.of h0⟩,Z,s1,m1,er.ext e1,S1,P1.bind λvs s2 us H2 m2 e2 S2 r2 P2=>?_⟩;split at P2
    .cases r2 with
     |cons r n' =>
      cases n';split at P2
      .rename_i l Uc;split at P2
       .rename_i hl;let⟨f1,vs1,h1,q1⟩:=S2.get Uc;let⟨S3,e3⟩:=S2.putL Uc (q1.append (.cons r .nil));rw[<-e2.ad _ hn];exact⟨_,vs1,_,rfl,rfl,h1,by rw[q1.length];exact sz6 hl,P2 _ _ _ e3 S3 .Zn⟩
       .exact P2.elim
      .exact P2.elim
    .exact P2.elim
   .exact P1.elim
  .exact P1.elim⟩⟩
def Ě(f g h:XE)(Z:En)(s:N'):Out PV:=(f Z s).bind λv s1=>match Ú s1 v with
 |some _=>(g Z s1).bind λw s2=>(h Z s2).bind λz s3=>match Ú s3 v with
  |some l=>match ó w with
   |some k=>.ok ((qV l k).getD z) s3
   |none=>.bad
  |none=>.bad
 |none=>.bad
def HF(ho:DE X CB E a f)(he:DE X CB E b g)(hf:DE X CB E c h)(hr:Zw jr X.A:=by assumption)(mm:M2 X a "get" R8 b c R6:=by exact⟨rfl,rfl,rfl,rfl⟩):DE X CB E (.Call (.Attribute a "get" R8) [b,c] [] R6) (Ě f g h) :=
 ⟨(A9 (o7 hr) ho.pe he.pe hf.pe mm).mono λO H Q=>oE λZ s m er S P=>⟨Z,s,m,er,S,P.bind λv s1 u H1 m1 e1 S1 r1 P1=>by
  split at P1
  .rename_i l0 Vh;let⟨a,Ts,rfl,q0,_⟩:=r1.dc S1 Vh;refine⟨a,rfl,.inl ⟨Ts,q0⟩,Z,s1,m1,er.ext e1,S1,P1.bind λw s2 u2 H2 m2 e2 S2 r2 P2=>⟨Z,s2,m2,(er.ext e1).ext e2,S2,P2.bind λz s3 u3 H3 m3 e3 S3 r3 P3=>?_⟩⟩;split at P3
   .rename_i l hl;split at P3
    .rename_i k hk;let⟨a',vs,⟨⟩,q,r⟩:=((r1.ext e2).ext e3).dc S3 hl;refine⟨pL vs k,.inl ⟨vs,k,q,qS (r2.ext e3) hk,rfl⟩,?_⟩;let⟨v1,v2⟩:=r.val k;cases cc:qV l k with
     |none=>rw[v2 cc];rw[cc] at P3;exact P3.here S3 r3
     |some p=>let⟨u,e,ru⟩:=v1 p cc;rw[e];rw[cc] at P3;exact P3.here S3 ru
    .exact P3.elim
   .exact P3.elim
  .exact P1.elim⟩⟩
def Àl(_:En)(s:N'):Out PV:=.ok (.ref s.nx) (s.add (.Zv []))
def O2:DE X CB E (.Dict [] [] pos) Àl:=⟨é.mono λO H Q=>oE λZ s m er S P p hp=>by let⟨S2,e2⟩:=S.newD hp (My.rQ hp) mH .nil;exact P _ _ _ e2 S2 .new⟩
end
noncomputable def Out.so{α:Type}(o:Out α)(k:α->N'->SO):SO:=match o with
 |.ok a s=>k a s
 |.ex c s=>.ex c s
 |.bad=>.bad
def SO.ê:SO->SO
 |.ex _ _=>.bad
 |o=>o
def ZP.shift{K}{CB}{E}{o}{H H1}{m m1}{s s1}{D}(e:Ext H m s H1 m1 s1)(h:ZP K CB E o H m s D):ZP K CB E o H1 m1 s1 D:=by
 cases o with
 |nx=>exact λZG H' m' x=>h ZG H' m' (e.trans x)
 |rt=>exact λZG H' m' x=>h ZG H' m' (e.trans x)
 |bk=>exact λZG H' m' x=>h ZG H' m' (e.trans x)
 |ct=>exact λZG H' m' x=>h ZG H' m' (e.trans x)
 |ex=>exact λH' m' x=>h H' m' (e.trans x)
 |bad=>exact h
theorem Zs.so{α β:Type}{K}{CB}{R}{E}{o:Out α}{k:α->N'->SO}{H}{m}{s}{D}{Q1:β->Hp->Prop}(h:ZP K CB E (o.so k) H m s D)(f:∀v s1 u H1 m1,Ext H m s H1 m1 s1->SR K CB H1 m1 s1->R H1 m1 s1 u v->ZP K CB E (k v s1) H1 m1 s1 D->Q1 u H1):Zs K CB R E o H m s Q1:=by
 cases o with
 |ok v s1=>exact λu H1 m1 x S r=>f v s1 u H1 m1 x S r (ZP.shift x h)
 |ex c s'=>exact h
 |bad=>exact h
def ZP.next{K}{CB}{E}{Z}{H}{m}{s}{D}{O}(h:ZP K CB E (.nx Z s) H m s D)(S:SR K CB H m s)(er:ER K H m s O Z):D.nx O H:=h O H m .refl S er
theorem ZP.ê{K}{CB}{E}{o}{H}{m}{s}{D}(h:ZP K CB E o.ê H m s D):ZP K CB E0 o H m s D:=by cases o<;>first|exact h|exact bj h
def Y8(i:Nat)(f:XE)(Z:En)(s:N'):SO:=(f Z s).so λv s1=>.nx (Z.set i (Za v)) s1
def ZE(f:XE)(Z:En)(s:N'):SO:=(f Z s).so λv s1=>.rt v s1
def ϸ(_:En)(s:N'):SO:=.rt .Zn s
def Ť(f:XE)(Z:En)(s:N'):SO:=(f Z s).so λ_ s1=>.nx Z s1
def ÿ(t:XT)(g h:XS)(Z:En)(s:N'):SO:=(t Z s).so λb s1=>if b=true then g Z s1 else h Z s1
def Z6(Z:En)(s:N'):SO:=.nx Z s
def Y3(g h:XS)(Z:En)(s:N'):SO:=match g Z s with
 |.nx Y' s'=>h Y' s'
 |o=>o
section
variable{st:bX}{rest Ua VZ:List bX}
theorem PS.ė{t}(h:PS X.ė st t):PS X st t:=λR1 s O H D I hw=>aZ (h R1 s O H D (I.ĵ _) hw) (λ_ _ q=>q.Ù) λ_ _ z=>bj z
def mX(i)(he:DE X CB E e f)(hN:X.N.Nodup:=by exact ‹K' _ _ _›.nd)(hi:X.N[i]?=Za x:=by rfl)(hx:Loc X.env.scope x:=by first|exact eL rfl|exact gR rfl)(hs:cO e (Za (.Name x Sv)) pos.line X.env=pure false:=by rfl)(hf:X.fn x=true\/X.env.scope.names.lookup x=Za .local:=by first|exact .inl rfl|exact .inr rfl|assumption):DS X CB E (.Assign [.Name x Sv] e pos) (Y8 i f) :=
 ⟨(tJ hN hi hx he.pe hs hf).mono λD O H=>oE λZ s m er S P=>⟨Z,s,m,er,S,Zs.so P λv s1 u H1 m1 e1 S1 r1 P1=>P1.next S1 ((er.ext e1).set i r1)⟩⟩
def m9(he:DE X CB E e f):DS X CB E (.Return (Za e) pos) (ZE f) :=
 ⟨(rE he.pe).mono λD O H=>oE λZ s m er S P=>⟨Z,s,m,er,S,Zs.so P λv s1 u H1 m1 e1 S1 r1 P1=>P1 u H1 m1 .refl S1 r1⟩⟩
def ON:DS X CB E (.Return Zb pos) ϸ:=⟨ÀI.mono λD O H=>oE λZ s m er S P=>P .Zn H m .refl S .Zn⟩
def zi(he:DE X CB E e f)(hs:cO e Zb pos.line X.env=pure false:=by rfl):DS X CB E (.Expr e pos) (Ť f) :=
 ⟨(pU he.pe hs).mono λD O H=>oE λZ s m er S P=>⟨Z,s,m,er,S,Zs.so P λv s1 u H1 m1 e1 S1 r1 P1=>P1.next S1 (er.ext e1)⟩⟩
def pX(hc:DT X CB E c t)(ha:DSs X CB E Ua u)(hb:DSs X CB E VZ v):DS X CB E (.If c Ua VZ pos) (ÿ t u v) :=
 ⟨(xw hc.pt ha.pss hb.pss).mono λD O H=>oE λZ s m er S P=>⟨Z,s,m,er,S,Zs.so P λv s1 u H1 m1 e1 S1 r1 P1=>by
  cases r1;refine wH (λc=>?_) λc=>?_
  .rw[Zc c] at P1;exact⟨Z,s1,m1,er.ext e1,S1,P1⟩
  .rw[Zd c] at P1;exact⟨Z,s1,m1,er.ext e1,S1,P1⟩⟩⟩
def nS:DSs X CB E [] Z6:=⟨Ò.mono λD O H=>oE λZ s m er S P=>P.next S er⟩
def mO(h:DS X CB E st u):DSs X CB E [st] u:=⟨nq h.ps⟩
def mG(h:DS X CB E st u)(k:DSs X CB E rest v):DSs X CB E (st::rest) (Y3 u v) :=
 ⟨(m6 h.ps k.pss).mono λD O H=>oE λZ s m er S P=>⟨Z,s,m,er,S,by
  unfold Y3 at P;cases c:u Z s with
  |nx Y' s'=>rw[c] at P;exact λZG H' m' x S' er'=>⟨Y',s',m',er',S',ZP.shift x P⟩
  |rt=>rw[c] at P;exact P
  |bk=>rw[c] at P;exact P
  |ct=>rw[c] at P;exact P
  |ex=>rw[c] at P;exact P
  |bad=>rw[c] at P;exact P⟩⟩
abbrev XG:=PV->En->N'->Option En
abbrev XGs:=List PV->En->N'->Option En
def TDG(K:aa)(CB:ag)(h:XG):TG:=λv O H Q=>∃Z s m q Y',ER K H m s O Z/\SR K CB H m s/\Rep K H m s v q/\h q Z s=Za Y'/\∀ZG,ER K H m s ZG Y'->Q ZG H
def Ãy(K:aa)(CB:ag)(h:XGs):TGs:=λv O H Q=>∃Z s m q Y',ER K H m s O Z/\SR K CB H m s/\Y5 K H m s v q/\h q Z s=Za Y'/\∀ZG,ER K H m s ZG Y'->Q ZG H
structure DG(X:Cx)(CB:ag)(tg:cA)(h:XG):Prop where
 pg:PG X tg (TDG X.K CB h)
structure DGs(X:Cx)(CB:ag)(tg:List cA)(h:XGs):Prop where
 pgs:PGs X tg (Ãy X.K CB h)
def PG.mono{tg}{t t':TG}(h:PG X tg t)(k:∀v O H Q,t' v O H Q->t v O H Q):PG X tg t':=λR1 s O H v u Q I r q=>h R1 s O H v u Q I r (k v O H Q q)
def PGs.mono{tg}{t t':TGs}(h:PGs X tg t)(k:∀v O H Q,t' v O H Q->t v O H Q):PGs X tg t':=λR1 s O H v u Q I r q=>h R1 s O H v u Q I r (k v O H Q q)
def PG.or{tg}{t t':TG}(h:PG X tg t)(h':PG X tg t'):PG X tg (λv O H Q=>t v O H Q\/t' v O H Q):=λR1 s O H v u Q I r q=>q.elim (h R1 s O H v u Q I r) (h' R1 s O H v u Q I r)
def Y4(i:Nat)(q:PV)(Z:En)(_:N'):Option En:=Za (Z.set i (Za q))
def Õ(q:List PV)(Z:En)(_:N'):Option En:=match q with
 |[]=>Za Z
 |_=>Zb
def Zp(h:XG)(k:XGs)(q:List PV)(Z:En)(s:N'):Option En:=match q with
 |p::r=>(h p Z s).bind λY'=>k r Y' s
 |[]=>Zb
def Ô(n:Nat)(k:XGs)(q:PV)(Z:En)(s:N'):Option En:=match q with
 |.tup l=>if l.length=n then k l Z s else Zb
 |q=>match ZH s q with
  |some l=>if l.length=n then k l Z s else Zb
  |none=>Zb
def nC(i)(hN:X.N.Nodup:=by exact ‹K' _ _ _›.nd)(hi:X.N[i]?=Za x:=by rfl)(hx:Loc X.env.scope x:=by first|exact eL rfl|exact gR rfl)(hf:X.fn x=true\/X.env.scope.names.lookup x=Za .local:=by first|exact .inl rfl|exact .inr rfl|assumption):DG X CB (.Name x pos) (Y4 i) :=
 ⟨(HY hN hi hx hf).mono λv O H Q ⟨Z,s,m,q,Y',er,S,r,e,k⟩=>by cases e;exact k _ (er.set i r)⟩
def rK:DGs X CB [] Õ:=⟨ÀK.mono λv O H Q ⟨Z,s,m,q,Y',er,S,r,e,k⟩=>by
 unfold Õ at e;split at e<;>cases e
 cases r;exact⟨rfl,k _ er⟩⟩
def nQ{h:XG}{k:XGs}(h1:DG X CB e h)(h2:DGs X CB es k)(hs:(cP (e::es) X.env).map (·.2)=assign e X.env::(cP es X.env).map (·.2):=by rfl):DGs X CB (e::es) (Zp h k) :=
 ⟨(KJ h1.pg h2.pgs hs).mono λv O H Q h=>by
  let⟨Z,s,m,q,Y',er,S,r,e,kk⟩:=h;unfold Zp at e;split at e
  .rename_i p r';cases r with
   |cons a b =>
    cases c:h p Z s with
    |none=>rw[c] at e;cases e
    |some Ĺ =>
     rw[c] at e;exact⟨_,_,rfl,Z,s,m,p,Ĺ,er,S,a,c,λϦ er1=>⟨Ĺ,s,m,r',Y',er1,S,b,e,kk⟩⟩
  .cases e⟩
def uH{k:XGs}{n k0}(h:DGs X CB es k)(hc:X.calm=true:=by rfl)(hn:(cP es X.env).length=n:=by rfl)(S6:(cP es X.env).findIdx? (·.1)=none:=by rfl):DG X CB (.Tuple es k0 pos) (Ô n k) :=
 ⟨((QJ hc h.pgs hn S6).or (QL hc h.pgs hn S6)).mono λv O H Q h=>by
  let⟨Z,s,m,q,Y',er,S,r,e,kk⟩:=h;unfold Ô at e;split at e
  .split at e
   .rename_i hl;let⟨a,vs,rfl,q1,r1⟩:=r.tp;exact .inl ⟨a,vs,rfl,q1,r1.length.trans hl,Z,s,m,_,Y',er,S,r1,e,kk⟩
   .cases e
  .split at e
   .rename_i l Vh;split at e
    .rename_i hl;let⟨a,vs,rfl,q1,r1⟩:=r.ls S Vh;exact .inr ⟨a,vs,rfl,q1,r1.length.trans hl,Z,s,m,_,Y',er,S,r1,e,kk⟩
    .cases e
   .cases e⟩
def ě(f:XE)(h:XG)(Z:En)(s:N'):SO:=(f Z s).so λv s1=>match h v Z s1 with
 |some Y'=>.nx Y' s1
 |none=>.bad
def Ch{h:XG}{tg}(he:DE X CB E e f)(hg:DG X CB tg h)(hs:ij [tg] e pos.line X.env=pure false:=by rfl)(hw:im [tg] e X.env=pure none:=by rfl)(h1:(cP [tg] X.env).map (·.2)=[assign tg X.env]:=by rfl):DS X CB E (.Assign [tg] e pos) (ě f h) :=
 ⟨(Ml he.pe hg.pg hs hw h1).mono λD O H=>oE λZ s m er S P=>⟨Z,s,m,er,S,Zs.so P λv s1 u H1 m1 e1 S1 r1 P1=>by
  split at P1
  .rename_i Y' ŧ;exact⟨Z,s1,m1,v,Y',er.ext e1,S1,r1,ŧ,λZG er'=>P1.next S1 er'⟩
  .exact P1.elim⟩⟩
def ÀX(i j:Nat)(fa:XA)(Z:En)(s:N'):SO:=(fa Z s).so λvs s1=>match vs with
 |[v,w]=>.nx ((Z.set i (Za v)).set j (Za w)) s1
 |_=>.bad
def Rx{kt k2 pt2}(hc:X.calm=true)(hN:X.N.Nodup)(hi:X.N[i]?=Za x)(hj:X.N[j]?=Za y)(Ww:i≠j)(hx:X.env.scope.names.lookup x=Za .local)(hy:X.env.scope.names.lookup y=Za .local)(ha:DA X CB E [a,b] fa)(hw:im [.Tuple [.Name x px,.Name y py] kt pt] (.Tuple [a,b] k2 pt2) X.env=pure (Za [x,y]))(hs:ij [.Tuple [.Name x px,.Name y py] kt pt] (.Tuple [a,b] k2 pt2) pos.line X.env=pure false:=by rfl):DS X CB E (.Assign [.Tuple [.Name x px,.Name y py] kt pt] (.Tuple [a,b] k2 pt2) pos) (ÀX i j fa) :=
 ⟨(QF hc hN hi hj Ww hx hy ha.pa hw hs).mono λD O H=>oE λZ s m er S P=>⟨Z,s,m,er,S,Zs.so P λv s1 u H1 m1 e1 S1 r1 P1=>by
  split at P1
  .cases r1 with
   |cons a b =>
    cases b with
    |cons b c=>cases c;exact⟨_,_,rfl,P1.next S1 (((er.ext e1).set i a).set j b)⟩
  .exact P1.elim⟩⟩
def uw(o i v:PV)(s:N'):Option N':=match o with
 |.ref n=>match s.get n with
  |some (.lst l)=>match i with
   |.int k=>match Ϥ l.length k with
    |some j=>Za (s.set n (.lst (l.set j v)))
    |none=>Zb
   |_=>Zb
  |some (.Zv l)=>match ó i with
   |some k=>if l.length<100000 then Za (s.set n (.Zv (z5 l k v))) else Zb
   |none=>Zb
  |_=>Zb
 |_=>Zb
def Ł(fo fi fv:XE)(Z:En)(s:N'):SO:=(fv Z s).so λv s1=>(fo Z s1).so λo s2=>(fi Z s2).so λi s3=>match uw o i v s3 with
 |some s4=>.nx Z s4
 |none=>.bad
def Pz:V->V->V->Hp->(Hp->Prop)->Prop:=λo i v H Q=>∃a H',o=.ref a/\Ė H a i v H'/\Q H'
def Kn(hu:X.A.units+1<fB):Ϣ X Pz:=by
 rintro R1 s O H o i v ov iv u Q I ro ri rv ⟨a,H',rfl,g,q⟩
 obtain rfl:ov=aP a:=ro;exact Db hu I g ri rv λs4 I4=>⟨H',I4,q⟩
def Ϣ.or{t t':Pm}(h:Ϣ X t)(h':Ϣ X t'):Ϣ X (λo i v H Q=>t o i v H Q\/t' o i v H Q):=λR1 s O H o i v ov iv u Q I r1 r2 r3 q=>q.elim (h R1 s O H o i v ov iv u Q I r1 r2 r3) (h' R1 s O H o i v ov iv u Q I r1 r2 r3)
def QC{K}{H}{m}{s s'}{o i v}{xo xi xv}(S:SR K CB H m s)(ro:Rep K H m s xo o)(ri:Rep K H m s xi i)(rv:Rep K H m s xv v)(e:uw o i v s=Za s'){Q}(hq:∀H' m',Ext H m s H' m' s'->SR K CB H' m' s'->Q H'):Py xo xi xv H Q\/Pz xo xi xv H Q:=by
 unfold uw at e;split at e
 .split at e
  .rename_i l hg;split at e
   .split at e
    .rename_i j hj;cases e;cases ro;cases ri;let⟨_,vs,h1,q1⟩:=S.get hg;let⟨S2,e2⟩:=S.putL hg (q1.set j rv);exact .inl ⟨_,vs,_,j,rfl,rfl,h1,by rw[q1.length];exact hj,hq _ _ e2 S2⟩
    .cases e
   .cases e
  .rename_i l hg;split at e
   .rename_i k hk;split at e
    .rename_i hl;cases e;cases ro;let⟨_,vs,h1,q1⟩:=S.get hg;let⟨S2,e2⟩:=S.putD hg (q1.put k rv);exact .inr ⟨_,_,rfl,.inl ⟨vs,k,h1,qS ri hk,by rw[q1.length];exact sz6 hl,rfl⟩,hq _ _ e2 S2⟩
    .cases e
   .cases e
  .cases e
 .cases e
def Cg{SG}(ho:DE X CB E a f)(hi:DE X CB E b g)(hv:DE X CB E e h){jr}(hr:Zw jr X.A:=by assumption)(hs:ij [iJ a b SG] e pos.line X.env=pure false:=by rfl)(hw:im [iJ a b SG] e X.env=pure none:=by rfl)(h1:(cP [iJ a b SG] X.env).map (·.2)=[assign (iJ a b SG) X.env]:=by rfl)(ha:∀v,assign (.Subscript a b SG) X.env v=(do
   let ov <-holding [v] (eval a X.env);let iv <-holding [v,ov] (eval b X.env)
   fR SG
   holding [v,ov,iv] (kK ov iv v)
   release [v,ov,iv] []):=by intro _;rfl):DS X CB E (.Assign [.Subscript a b SG] e pos) (Ł f g h) :=
 ⟨(Ml hv.pe (QK ho.pe hi.pe (set_list.or (Kn (o7 hr))) ha) hs hw h1).mono λD O H=>oE λZ s m er S P=>⟨Z,s,m,er,S,Zs.so P λv s1 u H1 m1 e1 S1 r1 P1 =>
  ⟨Z,s1,m1,er.ext e1,S1,Zs.so P1 λo s2 uo H2 m2 e2 S2 r2 P2=>⟨Z,s2,m2,(er.ext e1).ext e2,S2,Zs.so P2 λi s3 ui H3 m3 e3 S3 r3 P3=>by
   split at P3
   .rename_i s4 h4;exact QC S3 (r2.ext e3) r3 ((r1.ext e2).ext e3) h4 λH' m' x S'=>P3 O H' m' x S' ((((er.ext e1).ext e2).ext e3).ext x)
   .exact P3.elim⟩⟩⟩⟩
def qz(K:aa)(CB:ag)(J:It)(l:List PV)(H0:Hp)(m0:Mp)(s0:N'):Prop:=∀i H m s,Ext0 H0 m0 s0 H m s->SR K CB H m s ->
 (∀q,l[i]?=Za q->J.go i H/\∀x H',J.yld i H x H'->Ext H m s H' m s/\SR K CB H' m s/\Rep K H' m s x q)/\(l.length<=i->J.stop i H)
def TDI(K:aa)(CB:ag)(E:XK)(f:XA):TI:=λO H R=>∃Z s m,ER K H m s O Z/\SR K CB H m s/\match f Z s with
 |.ok l s'=>∀J H' m',Ext H m s H' m' s'->SR K CB H' m' s'->qz K CB J l H' m' s'->R J H'
 |.ex c s'=>∀H' m',Ext H m s H' m' s'->SR K CB H' m' s'->∀d,Pay H' m' s' c.2 d->E (.ref c.1) d H'
 |.bad=>False
structure DI(X:Cx)(CB:ag)(E:XK)(tg e:cA)(f:XA):Prop where
 pi:PI X tg e (TDI X.K CB E f)
def PI.mono{tg}{t t':TI}(h:PI X tg e t)(k:∀O H R,t' O H R->t O H R):PI X tg e t':=λR1 s O H R I q=>h R1 s O H R I (k O H R q)
end
section
variable{X:Cx}
def ZL(f:XE)(Z:En)(s:N'):Out (List PV):=(f Z s).bind λv s1=>match v with
 |.lst l=>.ok l s1
 |.seq l=>.ok l s1
 |.tup l=>.ok l s1
 |_=>.bad
def PY{K}{H0}{m0}{s0}{b}{q}{l}(r:Rep K H0 m0 s0 (.ref b) q)(hl:∀s,ZH s q=Za l):qz K CB (Itl K b) l H0 m0 s0:=by intro i H m s ex S;let⟨b',vs,⟨⟩,hq,rs⟩:=(r.Zq ex.toExtR).ls S (hl s);refine⟨λq' Ti=>?_,λhi=>⟨vs,hq,by rw[rs.length];exact hi⟩⟩;let⟨u,hu,ru⟩:=rs.get Ti;refine⟨⟨vs,u,hq,hu⟩,λx H' ⟨e1,e2⟩=>?_⟩;subst e1;have e3:=e2 vs hq;rw[hu] at e3;cases e3;exact⟨.refl,S,ru⟩
def Á6{K}{H0}{m0}{s0}{b}{l}(r:Rep K H0 m0 s0 (.ref b) (.tup l)):qz K CB (Itt K b) l H0 m0 s0:=by intro i H m s ex S;let⟨b',vs,⟨⟩,hq,rs⟩:=(r.Zq ex.toExtR).tp;refine⟨λq' Ti=>?_,λhi=>⟨vs,hq,by rw[rs.length];exact hi⟩⟩;let⟨u,hu,ru⟩:=rs.get Ti;refine⟨⟨vs,u,hq,hu⟩,λx H' ⟨e1,e2⟩=>?_⟩;subst e1;have e3:=e2 vs hq;rw[hu] at e3;cases e3;exact⟨.refl,S,ru⟩
def iLT(K:aa)(tl:TE):TI:=λO H R=>tl O H λx H1=>(∃a,x=.ref a/\(∃xs,ZU K H1 a xs)/\R (Itl K a) H1)\/(∃a,x=.ref a/\(∃xs,â K H1 a xs)/\R (Itt K a) H1)
def J0(hl:PE X e tl):PI X tg e (iLT X.K tl):=by
 refine λR1 s O H R I h=>Zx (hl R1 s O H _ I h) λv s1=>e4 λx H1 I1 r1 q1=>?_;rcases q1 with⟨a,e,⟨xs,hq⟩,q⟩|⟨a,e,⟨xs,hq⟩,q⟩
 .subst e;cases r1;let⟨its,rv,p,hz⟩:=I1.list hq;apply hJ p.isList;refine⟨s1.heap.objs.size,[s1.heap.objs.size],_,_,H1,rfl,I1.kept λb o e=>aj _ e,CI a _,⟨_,aO _ rfl,rfl,rfl⟩,λb hb=>?_,q⟩;have e:b=s1.heap.objs.size:=by simpa using hb
  subst e;exact I1.Ź (ak _) (I1.Zl.fresh (ak _))
 .subst e;cases r1;let⟨its,rv,p,hz⟩:=I1.tuple hq;apply wpAny_pyIter_tuple (p);refine⟨s1.heap.objs.size,[s1.heap.objs.size],_,_,H1,rfl,I1.kept λb o e=>aj _ e,Go a _,⟨_,aO _ rfl,rfl,rfl⟩,λb hb=>?_,q⟩;have e:b=s1.heap.objs.size:=by simpa using hb
  subst e;exact I1.Ź (ak _) (I1.Zl.fresh (ak _))
theorem TDI.bind(q:TDI X.K CB E (λZ s=>(f Z s).bind F) O H R)(k:∀v s1 u H1 m1,SR X.K CB H1 m1 s1->Rep X.K H1 m1 s1 u v->(match F v s1 with
  |.ok l s'=>∀J H' m',Ext H1 m1 s1 H' m' s'->SR X.K CB H' m' s'->qz X.K CB J l H' m' s'->R J H'
  |.ex c s'=>∀H' m',Ext H1 m1 s1 H' m' s'->SR X.K CB H' m' s'->∀d,Pay H' m' s' c.2 d->E (.ref c.1) d H'
  |.bad=>False)->Q u H1):Ŭ X.K CB E f O H Q:=by
 let⟨Z,s,m,er,S,P⟩:=q;refine⟨Z,s,m,er,S,?_⟩;cases c:f Z s with
 |ok v s1 =>
  simp[c,Out.bind] at P;refine λu H1 m1 e1 S1 r1=>k v s1 u H1 m1 S1 r1 ?_;cases d:F v s1 with
  |ok l s'=>rw[d] at P;exact λJ H' m' x=>P J H' m' (e1.trans x)
  |ex c' s'=>rw[d] at P;exact λH' m' x=>P H' m' (e1.trans x)
  |bad=>rw[d] at P;exact P
 |ex c' s'=>simp[c] at P;exact P
 |bad=>simp[c,Out.bind] at P
def rX(hl:DE X CB E e f):DI X CB E tg e (ZL f):=⟨(J0 hl.pe).mono λO H R q=>TDI.bind q λv s1 u H1 m1 S1 r1 P=>by
 cases r1 with
 |lst h1 h2 h3=>exact .inl ⟨_,rfl,⟨_,ZU.of h1⟩,P _ _ _ .refl S1 (PY (.lst h1 h2 h3) λ_=>rfl)⟩
 |seq h1 h3=>exact .inl ⟨_,rfl,⟨_,h1.elim (λz=>.inl (.inr z.1)) .inr⟩,P _ _ _ .refl S1 (PY (.seq h1 h3) λ_=>rfl)⟩
 |tup h1 h3=>exact .inr ⟨_,rfl,⟨_,h1.elim (λz=>.inl z.1) .inr⟩,P _ _ _ .refl S1 (Á6 (.tup h1 h3))⟩
 |_=>exact P.elim⟩
def ÂZ(x:Str):List PV:=x.cps.toList.map λc=>PV.str ⟨#[c]⟩
def ÀY(f:XE)(Z:En)(s:N'):Out (List PV):=(f Z s).bind λv s1=>match v with
 |.str x=>.ok (ÂZ x) s1
 |_=>.bad
def vV(lo:Int)(n:Nat):List PV:=(bo n).map λ(k:Nat)=>PV.int (lo+k)
def Ø(fa:XA)(Z:En)(s:N'):Out (List PV):=(fa Z s).bind λvs s1=>match vs with
 |[.int j]=>if -(2^62)<=j/\j<2^62 then .ok (vV 0 j.toNat) s1 else .bad
 |_=>.bad
def Á7{K}{lo}{n}{H0}{m0}{s0}:qz K CB (Itr lo n) (vV lo n) H0 m0 s0:=by
 refine λi H m s ex S=>⟨λq hq=>?_,λhi=>?_⟩
 .unfold vV at hq;rw[aG] at hq;by_cases hi:i<n
  .rw[lU hi] at hq;cases hq;exact⟨hi,λx H' ⟨e1,e2⟩=>by subst e1 e2;exact⟨.refl,S,.int⟩⟩
  .simp_all
 .unfold vV at hi;rw[ac,List.length_range] at hi;exact hi
def TDI.Ày(q:TDI X.K CB E (λZ s=>(fa Z s).bind F) O H R)(k:∀v s1 u H1 m1,SR X.K CB H1 m1 s1->Y5 X.K H1 m1 s1 u v->(match F v s1 with
  |.ok l s'=>∀J H' m',Ext H1 m1 s1 H' m' s'->SR X.K CB H' m' s'->qz X.K CB J l H' m' s'->R J H'
  |.ex c s'=>∀H' m',Ext H1 m1 s1 H' m' s'->SR X.K CB H' m' s'->∀d,Pay H' m' s' c.2 d->E (.ref c.1) d H'
  |.bad=>False)->Q u H1):TDA X.K CB E fa O H Q:=by
 let⟨Z,s,m,er,S,P⟩:=q;refine⟨Z,s,m,er,S,?_⟩;cases c:fa Z s with
 |ok v s1 =>
  simp[c,Out.bind] at P;refine λu H1 m1 e1 S1 r1=>k v s1 u H1 m1 S1 r1 ?_;cases d:F v s1 with
  |ok l s'=>rw[d] at P;exact λJ H' m' x=>P J H' m' (e1.trans x)
  |ex c' s'=>rw[d] at P;exact λH' m' x=>P H' m' (e1.trans x)
  |bad=>rw[d] at P;exact P
 |ex c' s'=>simp[c] at P;exact P
 |bad=>simp[c,Out.bind] at P
def qF(ha:DA X CB E [a] fa)(hg:Gl X "range":=by rfl)(hm:X.mg "range"=none:=by exact T.ÀR)(hs:ao [a] X.env=[(false,eval a X.env)]:=by rfl):DI X CB E tg (.Call (.Name "range" p) [a] [] pos) (Ø fa) :=
 ⟨(IZ hg hm ha.pa hs).mono λO H R q=>TDI.Ày q λv s1 u H1 m1 S1 r1 P=>by
  split at P
  .rename_i l s' hF;split at hF
   .split at hF<;>cases hF
    rename_i hj;cases r1 with
    |cons r n=>cases n;cases r;exact⟨_,rfl,hj.1,hj.2,P _ _ _ .refl S1 Á7⟩
   .cases hF
  .rename_i hF;split at hF
   .split at hF<;>cases hF
   .cases hF
  .exact P.elim⟩
def wG:Key->PV
 |.inl i=>.int i
 |.inr x=>.str x
def ů(f:XE)(Z:En)(s:N'):Out (List PV):=(f Z s).bind λv s1=>match v with
 |.Zv l=>.ok (l.map λkv=>wG kv.1) s1
 |_=>.bad
def Âd(tl:TE):TI:=λO H R=>tl O H λx H1=>∃d R3,x=.ref d/\((H1 d=Za (.dK R3)/\∀ob,R (Itd d ob R3) (upd H1 d (.Z5 ob (.dK R3))))\/∃ob,H1 d=Za (.Z5 ob (.dK R3))/\R (Itd d ob R3) H1)
def z6(hl:PE X e tl):PI X tg e (Âd tl):=by
 refine λR1 s O H R I h=>Zx (hl R1 s O H _ I h) λv s1=>e4 λx H1 I1 r1 q1=>?_;let⟨d,R3,rfl,q1⟩:=q1;cases r1;have hd:Rd H1 d (.dK R3):=q1.elim (λz=>.inl z.1) λ⟨ob,z,_⟩=>.inr ⟨ob,z⟩;let⟨z,Va,vs,rel,dd⟩:=vO I1.Zl hd;let⟨ep,at_⟩:=dd.dictAt;let⟨ob,es,ho,Vp,Ur,UQ⟩:=id at_;apply wpAny_pyIter_dict Va at_;have hl:=rel.length;have I2:Inv X R1 O H1 { s1 with heap:=s1.heap.push { cls:=.type "dict_keyiterator",data:=.fields #[.ref d,.int 0 0,.int vs.length 0,.int ep 0] } }:=I1.kept λb o e=>aj _ e;have Su:s1.heap.objs.size≠d:=λz=>by
  have:=au ho;rw[z] at this
  grind
 have Td:(0<=R3.length/\(s1.heap.push { cls:=.type "dict_keyiterator",data:=.fields #[.ref d,.int 0 0,.int vs.length 0,.int ep 0] }).IsKeyIter s1.heap.objs.size d 0 R3.length ep):=by refine⟨aV _,{ cls:=.type "dict_keyiterator",data:=.fields #[.ref d,.int 0 0,.int vs.length 0,.int ep 0] },aO _ rfl,rfl,?_⟩;rw[hl];rfl
 rcases q1 with⟨WF,q⟩|⟨UA,WF,q⟩
 .refine⟨s1.heap.objs.size,[s1.heap.objs.size],_,Itd d ob R3,_,rfl,I2.freeze WF (aj _ ho),CJ d _ ob R3 es ep Ur,Td,λb hb=>?_,q ob⟩;have e:b=s1.heap.objs.size:=by simpa using hb
  subst e;apply I1.Ź (ak _);rw[mF Su];exact I1.Zl.fresh (ak _)
 .have e0:UA=ob:=by
   let⟨e1,_⟩:=(I1.Zl d _ WF)
   grind
  subst e0;refine⟨s1.heap.objs.size,[s1.heap.objs.size],_,Itd d UA R3,_,rfl,I2,CJ d _ UA R3 es ep Ur,Td,λb hb=>?_,q⟩;have e:b=s1.heap.objs.size:=by simpa using hb
  subst e;exact I1.Ź (ak _) (I1.Zl.fresh (ak _))
def Rk{K}{H}{m}{s}(k):Rep K H m s (kV k) (wG k):=by
 obtain i|x:=k
 .exact .int
 .exact .str
theorem Y6.get:∀{K:aa}{H:Hp}{m:Mp}{s:N'}{vs:List (Key×V)}{l:List (Key×PV)}{i:Nat}{q:Key×PV},Y6 K H m s vs l->l[i]?=Za q->∃w,vs[i]?=Za w/\w.1=q.1
 |_,_,_,_,_,_,_,_,.nil,e=>by simp at e
 |_,_,_,_,_,_,0,_,.cons _ _,e=>by simp at e;subst e;exact⟨_,rfl,rfl⟩
 |_,_,_,_,_,_,i+1,q,.cons _ b,e=>by
  let⟨w,h1,h2⟩:=b.get (by simpa using e)
  simp_all
def Nc{K}{H0}{m0}{s0}{d}{ob}{R3}{l}(hd:∀H m s,Ext0 H0 m0 s0 H m s->SR K CB H m s->H d=Za (.Z5 ob (.dK R3)))(r:Y6 K H0 m0 s0 R3 l):qz K CB (Itd d ob R3) (l.map λkv=>wG kv.1) H0 m0 s0:=by
 intro i H m s ex S;have h:=hd H m s ex S;refine⟨λq hq=>?_,λhi=>⟨by rw[r.length];simpa using hi,h⟩⟩;rw[aG] at hq;cases c:l[i]? with
 |none=>rw[c] at hq;cases hq
 |some kv =>
  rw[c] at hq;cases hq;let⟨w,h1,h2⟩:=r.get c;refine⟨⟨(aR.mp h1).1,h⟩,λx H' ⟨e1,kv',e2,e3⟩=>?_⟩;subst e1 e3;rw[h1] at e2;cases e2;rw[h2];exact⟨.refl,S,Rk _⟩
def Ext.freeze{K}{H}{m}{s}{d}{ob}{R3}(S:SR K CB H m s)(hd:H d=Za (.dK R3))(hp:Ŀ m s d):Ext H m s (upd H d (.Z5 ob (.dK R3))) m s:=by
 refine⟨⟨⟨ak _,λ_ _=>rfl,λa u h p=>⟨?_,p⟩,λa u h n p=>?_⟩,λj l hj h=>⟨h,λo ho=>?_⟩⟩,rfl,λa ha o h _=>?_⟩
 .by_cases e:a=d
  .subst e;obtain h|⟨o,h⟩:=h
   .rw[hd] at h;cases h;exact .inr ⟨ob,mH⟩
   .grind
  .exact h.elim (λh=>.inl (by rw[mF e];exact h)) λ⟨o,h⟩=>.inr ⟨o,by rw[mF e];exact h⟩
 .rw[mF (EE h hd (n _))];exact h
 .let⟨e1,_⟩:=S.ok _ (oz h);rw[mF (λz=>hp.2 j (ar.mpr ⟨_,oz h,rfl⟩) (by rw[e1,z];simp))];exact ho
 .rw[mF (λz=>hp.1 `g)];exact h
def SR.ÀO{K}{H}{m}{s}{d}{ob}{R3}(S:SR K CB H m s)(hd:H d=Za (.dK R3))(hp:Ŀ m s d):SR K CB (upd H d (.Z5 ob (.dK R3))) m s:=by refine⟨S.nd,S.lt,λq hq=>(S.ok q hq).keep S (Ext.freeze S hd hp).toExtR (λa ha o h=>?_) rfl rfl,S.dj,S.hx,S.hsk (Ext.freeze S hd hp).hk (.upd hd GQ),S.tbk (.upd hd GQ)⟩;have:a≠d:=λz=>hp.2 q.1 (ar.mpr ⟨q,hq,rfl⟩) (z▸ha);rw[mF this];exact h
def OU(hl:DE X CB E e f):DI X CB E tg e (ů f):=⟨(z6 hl.pe).mono λO H R q=>TDI.bind q λv s1 u H1 m1 S1 r1 P=>by
 cases r1 with
 |Zv h1 h2 h3 =>
  rename_i d vs l;obtain h1|⟨ob,h1⟩:=h1
  .refine⟨d,vs,rfl,.inl ⟨h1,λob=>P _ _ m1 (.freeze S1 h1 h2) (S1.ÀO h1 h2) (Nc (λH m s ex S=>ex.el _ _ mH (by intro _ z;cases z) h2) (h3.ext (.freeze S1 h1 h2)))⟩⟩
  .exact⟨d,vs,rfl,.inr ⟨ob,h1,P _ _ m1 .refl S1 (Nc (λH m s ex S=>ex.el _ _ h1 (by intro _ z;cases z) h2) h3)⟩⟩
 |_=>exact P.elim⟩
def nR(body:PV->XS):List PV->XS
 |[],Z,s=>.nx Z s
 |q::l,Z,s=>match body q Z s with
  |.nx Y' s'=>nR body l Y' s'
  |.ct Y' s'=>nR body l Y' s'
  |.bk Y' s'=>.nx Y' s'
  |o=>o
def nj(y:XG)(u:XS)(q:PV)(Z:En)(s:N'):SO:=match y q Z s with
 |some Y'=>u Y' s
 |none=>.bad
def Ċ(fi:XA)(y:XG)(body:XS)(Z:En)(s:N'):SO:=((fi Z s).so λl s1=>nR (nj y body) l Z s1).ê
def Be(S1:SR X.K CB H1 m1 s1)(er:ER X.K H1 m1 s1 O Z)(it:qz X.K CB J l H1 m1 s1)(P:ZP X.K CB E0 (nR (nj y u) l Z s1) H1 m1 s1 D) :
  ∃W:Nat->Nat->St->Hp->Prop,(∃m,W 0 m O H1)/\∀i m O H,W i m O H ->
   (J.stop i H/\D.nx O H)\/(J.go i H/\∃N:St->Hp->Prop,(∀ZG H',N ZG H'->∃m',m'<m/\W (i+1) m' ZG H')/\∀x H',J.yld i H x H'->(TDG X.K CB y) x O H' λĴ H2=>(TDS X.K CB E0 u) { D with nx:=N,ct:=N,bk:=D.nx } Ĵ H2):=by
 refine⟨λi k ZG H'=>∃Y' s' m',ER X.K H' m' s' ZG Y'/\SR X.K CB H' m' s'/\Ext H1 m1 s1 H' m' s'/\i<=l.length/\k=l.length-i/\ZP X.K CB E0 (nR (nj y u) (l.drop i) Y' s') H' m' s' D,⟨l.length,Z,s1,m1,er,S1,.refl,aV _,rfl,P⟩,?_⟩
 rintro i k ZG H' ⟨Y',s',m',er',S',ex',Wx,rfl,P'⟩
 let⟨U9,UB⟩:=it i H' m' s' ex'.toExt0 S';by_cases Sd:i<l.length
 .right;have hq:=ay Sd;let⟨go,yl⟩:=U9 _ hq;rw[cF Sd] at P';refine⟨go,λĴ H2=>∃ĸ s2 m2,ER X.K H2 m2 s2 Ĵ ĸ/\SR X.K CB H2 m2 s2/\Ext H1 m1 s1 H2 m2 s2/\ZP X.K CB E0 (nR (nj y u) (l.drop (i+1)) ĸ s2) H2 m2 s2 D,λĴ H2 ⟨ĸ,s2,m2,a1,a2,a3,a4⟩=>⟨l.length-(i+1),by omega,ĸ,s2,m2,a1,a2,a3,Sd,rfl,a4⟩,λx H2 hy=>?_⟩;let⟨e2,S2,r2⟩:=yl x H2 hy;unfold nR at P';have hbo:nj y u l[i] Y' s'=match y l[i] Y' s' with|some Y'=>u Y' s'|none=>.bad:=rfl
  rw[hbo] at P';cases hyq:y l[i] Y' s' with
  |none=>rw[hyq] at P';exact P'.elim
  |some ĸ =>
   rw[hyq] at P';have P':=ZP.shift e2 P';dsimp only at P';refine⟨Y',s',m',l[i],ĸ,er'.ext e2,S2,r2,hyq,λĴ Vw=>⟨ĸ,s',m',Vw,S2,?_⟩⟩;cases cb:u ĸ s' with
   |nx ρ3 s3=>rw[cb] at P';exact λŖ H3 m3 e3 S3 Ue=>⟨ρ3,s3,m3,Ue,S3,(ex'.trans e2).trans e3,ZP.shift e3 P'⟩
   |ct ρ3 s3=>rw[cb] at P';exact λŖ H3 m3 e3 S3 Ue=>⟨ρ3,s3,m3,Ue,S3,(ex'.trans e2).trans e3,ZP.shift e3 P'⟩
   |bk ρ3 s3=>rw[cb] at P';exact P'
   |rt v3 s3=>rw[cb] at P';exact P'
   |ex c3 s3=>rw[cb] at P';exact P'
   |bad=>rw[cb] at P';exact P'
 .left;have Te:=eP Sd;rw[cY Te] at P';exact⟨UB Te,P'.next S' er'⟩
def sD(hi:DI X.ė CB E0 tg e fi)(hg:DG X.ė CB tg y)(hb:DSs X.ė CB E0 Ua u)(hc:X.calm=true:=by rfl)(hs:∀x,a6 e X.env x=pure x:=by intro _;rfl):DS X CB E (.For tg e Ua [] pos) (Ċ fi y u) :=
 ⟨PS.ė ((EB (X:=X.ė) eK hc hi.pi hg.pg hb.pss hs).mono λD O H=>oE λZ s m er S P=>by
  have P:=ZP.ê P;refine⟨Z,s,m,er,S,?_⟩;cases c:fi Z s with
  |bad=>rw[c] at P;exact P
  |ex c' s'=>rw[c] at P;exact P
  |ok l s1 =>
   rw[c] at P;exact λJ H1 m1 e1 S1 it=>Be S1 (er.ext e1) it (ZP.shift e1 P))⟩
def m7(c:XT)(b:XS):Nat->XS
 |0,_,_=>.bad
 |n+1,Z,s=>(c Z s).so λt s1=>if t=true then(match b Z s1 with
  |.nx Y' s'=>m7 c b n Y' s'
  |.ct Y' s'=>m7 c b n Y' s'
  |.bk Y' s'=>.nx Y' s'
  |o=>o) else .nx Z s1
open Classical in
def tG(c:XT)(b:XS)(Z:En)(s:N'):SO:=if h:∃n,m7 c b n Z s≠.bad then(m7 c b h.choose Z s).ê else .bad
def xG(hc:DT X.ė CB E0 c t)(hb:DSs X.ė CB E0 Ua u):DS X CB E (.While c Ua [] pos) (tG t u) :=
 ⟨PS.ė ((FB eK hc.pt hb.pss).mono λD O H=>oE λZ s m er S P=>by
  unfold tG at P;split at P
  .rename_i h;have P:=ZP.ê P;refine⟨λn ZG H'=>∃Y' s' m',ER X.K H' m' s' ZG Y'/\SR X.K CB H' m' s'/\ZP X.K CB E0 (m7 t u n Y' s') H' m' s' D,⟨_,Z,s,m,er,S,P⟩,?_⟩
   rintro n ZG H' ⟨Y',s',m',er',S',P'⟩
   cases n with
   |zero=>exact P'.elim
   |succ n =>
    refine⟨Y',s',m',er',S',Zs.so P' λb s1 b' H1 m1 e1 S1 r1 P1=>?_⟩;cases r1;refine wH (λcb=>?_) λcb=>?_
    .rw[Zc cb] at P1;refine⟨λĴ H2=>∃ĸ s2 m2,ER X.K H2 m2 s2 Ĵ ĸ/\SR X.K CB H2 m2 s2/\ZP X.K CB E0 (m7 t u n ĸ s2) H2 m2 s2 D,λĴ H2 q=>⟨n,bv _,q⟩,Y',s1,m1,er'.ext e1,S1,?_⟩;cases cu:u Y' s1 with
     |nx ρ3 s3=>rw[cu] at P1;exact λŖ H3 m3 e3 S3 Ue=>⟨ρ3,s3,m3,Ue,S3,ZP.shift e3 P1⟩
     |ct ρ3 s3=>rw[cu] at P1;exact λŖ H3 m3 e3 S3 Ue=>⟨ρ3,s3,m3,Ue,S3,ZP.shift e3 P1⟩
     |bk ρ3 s3=>rw[cu] at P1;exact P1
     |rt v3 s3=>rw[cu] at P1;exact P1
     |ex c3 s3=>rw[cu] at P1;exact P1
     |bad=>rw[cu] at P1;exact P1
    .rw[Zd cb] at P1;exact P1.next S1 (er'.ext e1)
  .exact P.elim)⟩
theorem uQ{c}{b}:∀{n:Nat}{Z:En}{s:N'},m7 c b n Z s≠.bad->m7 c b (n+1) Z s=m7 c b n Z s
 |0,_,_,h=>absurd rfl h
 |n+1,Z,s,h=>by
  unfold m7 at h ⊢;cases hc:c Z s with
  |ok t s1 =>
   rw[hc] at h;simp only[Out.so] at h ⊢;by_cases ht:t=true
   .rw[Zc ht] at h ⊢;rw[Zc ht];cases hb:b Z s1 with
    |nx Y' s'=>rw[hb] at h;exact uQ h
    |ct Y' s'=>rw[hb] at h;exact uQ h
    |_=>rfl
   .rw[Zd ht,Zd ht]
  |ex=>rfl
  |bad=>rfl
def CD{c}{b}{n k}{Z}{s}(h:m7 c b n Z s≠.bad):m7 c b (n+k) Z s=m7 c b n Z s:=by
 induction k with
 |zero=>rfl
 |succ k ih=>rw[<-kI,uQ (by rw[ih];exact h),ih]
def yi{c}{b}{n}{Z}{s}{o}(h:m7 c b n Z s=o)(ho:o≠.bad):tG c b Z s=o.ê:=by
 have hx:∃n,m7 c b n Z s≠.bad:=⟨n,by rw[h];exact ho⟩;unfold tG;have h1:=CD (k:=n) hx.choose_spec;have h2:=CD (k:=hx.choose) (show m7 c b n Z s≠.bad by rw[h];exact ho);rw[Nat.add_comm] at h2
 simp_all
end
def oH(c:XT)(e:XE)(cap:En):List PV->N'->Out (List PV)
 |[],s=>.ok [] s
 |q::l,s=>match c (Za q::cap) s with
  |.ok true s1=>match e (Za q::cap) s1 with
   |.ok v s2=>match oH c e cap l s2 with
    |.ok vs s3=>.ok (v::vs) s3
    |_=>.bad
   |_=>.bad
  |.ok false s1=>oH c e cap l s1
  |_=>.bad
def pO:oH c e cap (q::l) s=match c (Za q::cap) s with
  |.ok true s1=>match e (Za q::cap) s1 with
   |.ok v s2=>match oH c e cap l s2 with
    |.ok vs s3=>.ok (v::vs) s3
    |_=>.bad
   |_=>.bad
  |.ok false s1=>oH c e cap l s1
  |_=>.bad:=rfl
theorem xI:∀{l:List PV}{s s':N'}{k:Xc},oH c e cap l s≠.ex k s'
 |[],_,_,_,h=>by cases h
 |q::l,s,s',k,h=>by
  unfold oH at h;split at h
  .split at h
   .split at h<;>cases h
   .cases h
  .exact xI h
  .cases h
def og(_:En)(s:N'):Out Bool:=.ok true s
def pW(fi:XA)(ix:List Nat)(c:XT)(e:XE)(Z:En)(s:N'):Out PV:=(fi Z s).bind λl s1=>if l.length<=100000 then(oH c e (nM ix Z) l s1).bind λvs s2=>.ok (.lst vs) s2 else .bad
structure Ŕ(X:Cx)(CB:ag)(Sr:List cA)(t:XT):Prop where
 Ŵ:Hj X Sr (TDT X.K CB E0 t)
section
variable{X:Cx}
def qe:Ŕ X CB [] og:=⟨λR1 s O H Q I ⟨Z,s',m,er,S,P⟩=>A8 R1 s O H Q I (P.here S rfl)⟩
def xH(h:DT X CB E0 c t):Ŕ X CB [c] t:=⟨KH h.pt⟩
def Mp.hide(m:Mp)(d:ag):Mp:=⟨m.ad,m.fp,d::m.Z0⟩
def Mp.bare(m:Mp)(l:List ag):Mp:=⟨m.ad,m.fp,l⟩
theorem Ext0.hide(hd:H d=Zb):Ext0 H m s (upd H d o) (m.hide d) s :=
 ⟨⟨ak _,λ_ _=>rfl,λa u h p=>⟨h.same (My.rQ hd),λz=>(ap.mp z).elim (h.ne hd) p.1,p.2⟩,λa u h _ _=>My.rQ hd _ _ h⟩,λj l _ h=>⟨h,λo ho=>My.rQ hd _ _ ho⟩⟩
theorem SR.hide{K}{H}{m}{s}{d}{xs}(S:SR K CB H m s)(hd:H d=Zb):SR K CB (upd H d (.lst xs)) (m.hide d) s:=by
 have k:=My.rQ (o:=.lst xs) hd;have S1:=S.same k;have e0:Ext0 H m s (upd H d (.lst xs)) (m.hide d) s:=Ext0.hide hd;have Su:∀n∈s.cs.map (·.1),∀a∈m.fp n,a≠d:=λn hn a ha z=>by
  let⟨q,hq,rfl⟩:=ar.mp hn;let⟨o,e,_⟩:=(S.ok q hq).kind ha
  grind
 refine⟨S.nd,S.lt,λq hq=>?_,S.dj,λn hn a ha hb=>(ap.mp hb).elim (Su n hn a ha) (S.hx n hn a ha),λa ha=>?_,λP q t=>⟨af _ (S1.tb P q t).1,(S1.tb P q t).2⟩⟩
 .have:=S.ok q hq;cases c:q.2 with
  |lst l=>rw[c] at this;let⟨a1,vs,a2,a3⟩:=this;exact⟨a1,vs,k _ _ a2,a3.Zq e0.toExtR⟩
  |Zv l=>rw[c] at this;let⟨a1,vs,a2,a3⟩:=this;exact⟨a1,vs,k _ _ a2,a3.Zq e0.toExtR⟩
  |Ì l=>rw[c] at this;let⟨a1,ob,vs,a2,a3⟩:=this;exact⟨a1,ob,vs,k _ _ a2,a3.Zq e0.toExtR⟩
  |obj C fs=>rw[c] at this;let⟨a1,dx,vs,a2,a3,a4⟩:=this;exact⟨a1,dx,vs,k _ _ a2,a3,a4.Zq e0.toExtR⟩
  |û l=>rw[c] at this;let⟨a1,vs,a2,a3,a4⟩:=this;exact⟨a1,vs,k _ _ a2,a3,a4.Zq e0.toExtR⟩
  |book pp L =>
   have:=S1.ok q hq;rw[c] at this;exact this
 .obtain rfl|ha:=ap.mp ha
  .rw[mH];exact⟨by simp,λ_ _=>⟨by simp,by simp,by simp,by simp⟩⟩
  .exact S1.hs a ha
def Ext0.ϩ{K}{H}{m}{s}{d}{o u0}(S:SR K CB H m s)(hd:d∈m.Z0)(hu:H d=Za u0)(T0:¬Odd u0):Ext0 H m s (upd H d o) m s:=by
 have ne:∀a,Ŀ m s a->a≠d:=λa p z=>p.1 (z▸hd);refine⟨⟨ak _,λ_ _=>rfl,λa u h p=>⟨?_,p⟩,λa u h _ p=>by rw[mF (ne a p)];exact h⟩,λj l _ h=>⟨h,λo ho=>?_⟩⟩
 rotate_left
 .let⟨e1,_⟩:=S.ok _ (oz h);rw[mF (λz=>S.hx j (ar.mpr ⟨_,oz h,rfl⟩) (m.ad j) (by rw[e1];simp) (by rw[z];exact hd))];exact ho
 exact h.elim (λh=>.inl (by rw[mF (ne a p)];exact h)) λ⟨o,h⟩=>.inr ⟨o,by rw[mF (ne a p)];exact h⟩
theorem SR.ϩ{K}{H}{m}{s}{d}{xs ys}(S:SR K CB H m s)(hd:d∈m.Z0)(hl:H d=Za (.lst xs)):SR K CB (upd H d (.lst ys)) m s:=by
 have e0:Ext0 H m s (upd H d (.lst ys)) m s:=Ext0.ϩ S hd hl B7;have nt:∀t us,â K H t us->â K (upd H d (.lst ys)) t us:=λt us h=>by
  obtain h|h:=h
  .refine .inl (e0.pu _ _ h ?_).1;exact h.elim (λh=>S.Â h) λ⟨_,h⟩=>S.ň (.inl h)
  .exact .inr h
 refine⟨S.nd,S.lt,λq hq=>?_,S.dj,S.hx,λa ha=>?_,S.tbk (.upd hl B7)⟩
 .have hn:q.1∈s.cs.map (·.1):=ar.mpr ⟨q,hq,rfl⟩;have kp:∀a∈m.fp q.1,∀o,H a=Za o->upd H d (.lst ys) a=Za o:=λa ha o h=>by rw[mF (λz=>S.hx _ hn a ha (by rw[z];exact hd))];exact h
  have:=S.ok q hq;cases c:q.2 with
  |lst l=>rw[c] at this;let⟨a1,vs,a2,a3⟩:=this;exact⟨a1,vs,kp _ (by rw[a1];simp) _ a2,a3.Zq e0.toExtR⟩
  |Zv l=>rw[c] at this;let⟨a1,vs,a2,a3⟩:=this;exact⟨a1,vs,kp _ (by rw[a1];simp) _ a2,a3.Zq e0.toExtR⟩
  |Ì l=>rw[c] at this;let⟨a1,ob,vs,a2,a3⟩:=this;exact⟨a1,ob,vs,kp _ (by rw[a1];simp) _ a2,a3.Zq e0.toExtR⟩
  |obj C fs=>rw[c] at this;let⟨a1,dx,vs,a2,a3,a4⟩:=this;exact⟨a1,dx,vs,kp _ (by rw[a1];simp) _ a2,a3,a4.Zq e0.toExtR⟩
  |û l=>rw[c] at this;let⟨a1,vs,a2,a3,a4⟩:=this;exact⟨a1,vs,kp _ (by rw[a1];simp) _ a2,a3,a4.Zq e0.toExtR⟩
  |book pp L =>
   rw[c] at this;let⟨z,L',B,e1,e2⟩:=this;rw[e2] at kp;have kb:=kp;refine⟨z,L',⟨kb _ (by simp[My.î]) _ B.ob,kb _ (by simp[My.î]) _ B.pp,kb _ (by simp[My.î]) _ B.tt,kb _ (by simp[My.î]) _ B.mm,kb _ (by simp[My.î]) _ B.ll,B.hh.keep (λo h=>kb _ (by simp[My.î]) _ h),λq' Ti=>?_,B.nd,B.p6,B.h8⟩,e1,e2⟩;let⟨ts,h1,h2,h3⟩:=B.he q' Ti;refine⟨ts,h1,kb _ ?_ _ h2,λy hy=>nt _ _ (h3 y hy)⟩;unfold My.î
   grind
 .by_cases e:a=d
  .subst e;rw[mH];exact⟨by simp,λ_ _=>⟨by simp,by simp,by simp,by simp⟩⟩
  .rw[mF e];exact S.hs a ha
def Ext0.show(hm:m.Z0=d::l):Ext0 H m s H (m.bare l) s :=
 ⟨⟨ak _,λ_ _=>rfl,λa u h p=>⟨h,λz=>p.1 (by rw[hm];exact af _ z),p.2⟩,λa u h _ _=>h⟩,λj l _ h=>⟨h,λo h=>h⟩⟩
theorem SR.show{K}{H}{m}{s}{d}{l}{u0}(S:SR K CB H m s)(hm:m.Z0=d::l)(hu:H d=Za u0)(T0:¬Odd u0):SR K CB H (m.bare l) s:=by
 have e0:Ext0 H m s H (m.bare l) s:=Ext0.show hm;refine⟨S.nd,S.lt,λq hq=>?_,S.dj,λn hn a ha hb=>S.hx n hn a ha (by rw[hm];exact af _ hb),λa ha=>S.hs a (by rw[hm];exact af _ ha),λP q t=>⟨?_,(S.tb P q t).2⟩⟩
 rotate_left
 .let⟨h1,ps,h2,_⟩:=S.tb P q t;rw[hm] at h1;obtain z|z:=ap.mp h1
  .rw[z,hu] at h2;cases h2;exact absurd (.inl ⟨_,rfl⟩) T0
  .exact z
 have:=S.ok q hq;cases c:q.2 with
 |lst l=>rw[c] at this;let⟨a1,vs,a2,a3⟩:=this;exact⟨a1,vs,a2,a3.Zq e0.toExtR⟩
 |Zv l=>rw[c] at this;let⟨a1,vs,a2,a3⟩:=this;exact⟨a1,vs,a2,a3.Zq e0.toExtR⟩
 |Ì l=>rw[c] at this;let⟨a1,ob,vs,a2,a3⟩:=this;exact⟨a1,ob,vs,a2,a3.Zq e0.toExtR⟩
 |obj C fs=>rw[c] at this;let⟨a1,dx,vs,a2,a3,a4⟩:=this;exact⟨a1,dx,vs,a2,a3,a4.Zq e0.toExtR⟩
 |û l=>rw[c] at this;let⟨a1,vs,a2,a3,a4⟩:=this;exact⟨a1,vs,a2,a3,a4.Zq e0.toExtR⟩
 |book pp L=>rw[c] at this;exact this
theorem ER.Zq{K}{H H'}{m m'}{s s'}{O}{Z}(h:ER K H m s O Z)(e:ExtR H m s H' m' s'):ER K H' m' s' O Z :=
 ⟨h.len,λi p q=>let⟨u,a,b⟩:=h.at_ i p q;⟨u,a,b.Zq e⟩⟩
structure ŀ(K:aa)(CB:ag)(D:ag)(H1:Hp)(m1:Mp)(s1:N')(cap:St)(Z:En)(ys:List V)(done:List PV)(H2:Hp)(m2:Mp)(s2:N'):Prop where
 Z0:m2.Z0=D::m1.Z0
 at_:H2 D=Za (.lst ys)
 sr:SR K CB H2 m2 s2
 er:ER K H2 m2 s2 cap Z
 rs:Y5 K H2 m2 s2 ys done
 ex:Ext H1 m1 s1 H2 (m2.bare m1.Z0) s2
 e0:Ext0 H1 m1 s1 H2 m2 s2
def ŀ.start{K}{D}{H1}{m1}{s1}{cap}{Z}(S:SR K CB H1 m1 s1)(er:ER K H1 m1 s1 cap Z)(hD:H1 D=Zb):ŀ K CB D H1 m1 s1 cap Z [] [] (upd H1 D (.lst [])) (m1.hide D) s1 :=
 ⟨rfl,mH,S.hide hD,er.Zq (Ext0.hide hD).toExtR,.nil,Ext.same (My.rQ hD),Ext0.hide hD⟩
def Ext.into{K}{D}{H1 H2 H5}{m1 m2 m5}{s1 s2 s5}(Z0:m2.Z0=D::m1.Z0)(S2:SR K CB H2 m2 s2)(hD:H1 D=Zb)(a:Ext H1 m1 s1 H2 (m2.bare m1.Z0) s2)(b:Ext H2 m2 s2 H5 m5 s5):Ext H1 m1 s1 H5 (m5.bare m1.Z0) s5:=by
 have pr:∀c u,Rd H1 c u->Ŀ m1 s1 c->Rd H2 c u/\Ŀ m2 s2 c:=λc u h p=>by let⟨h1,p1⟩:=a.pu c u h p;refine⟨h1,λz=>?_,p1.2⟩;rw[Z0] at z;exact(ap.mp z).elim (h.ne hD) p.1
 refine⟨⟨⟨aC a.nx b.nx,λn h=>(b.ad n (aA h a.nx)).trans (a.ad n h),λc u h p=>?_,λc u h n p=>?_⟩,λj l hj h=>?_⟩,rfl,λc hc o h n=>?_⟩
 .let⟨h1,p1⟩:=pr c u h p;let⟨h2,p2⟩:=b.pu c u h1 p1;exact⟨h2,p.1,p2.2⟩
 .let⟨_,p1⟩:=pr c _ (.inl h) p;exact b.el c u (a.el c u h n p) n p1
 .let⟨h1,k1⟩:=a.df j l hj h;let⟨h2,k2⟩:=b.df j l (aA hj a.nx) h1;have e:m2.ad j=m1.ad j:=a.ad j hj
  simp_all
 .exact b.hk c `g o (a.hk c hc o h n) n
def ŀ.step{K}{D}{H1 H2 H5}{m1 m2 m5}{s1 s2 s5}{cap}{Z}{ys}{done}(C:ŀ K CB D H1 m1 s1 cap Z ys done H2 m2 s2)(hD:H1 D=Zb)(b:Ext H2 m2 s2 H5 m5 s5)(S5:SR K CB H5 m5 s5):ŀ K CB D H1 m1 s1 cap Z ys done H5 m5 s5 :=
 ⟨b.hd.trans C.Z0,b.hk D (by rw[C.Z0];exact al) _ C.at_ `g,S5,C.er.ext b,C.rs.ext b,Ext.into C.Z0 C.sr hD C.ex b,C.e0.trans b.toExt0⟩
def ŀ.push{K}{D}{H1 H2}{m1 m2}{s1 s2}{cap}{Z}{ys}{done}{v}{q}(C:ŀ K CB D H1 m1 s1 cap Z ys done H2 m2 s2)(hD:H1 D=Zb)(r:Rep K H2 m2 s2 v q):ŀ K CB D H1 m1 s1 cap Z (ys++[v]) (done++[q]) (upd H2 D (.lst (ys++[v]))) m2 s2:=by
 have hm:D∈m2.Z0:=by rw[C.Z0];exact al
 have e0:Ext0 H2 m2 s2 (upd H2 D (.lst (ys++[v]))) m2 s2:=Ext0.ϩ C.sr hm C.at_ B7;refine⟨C.Z0,mH,C.sr.ϩ hm C.at_,C.er.Zq e0.toExtR,(C.rs.append (.cons r .nil)).Zq e0.toExtR,⟨⟨⟨C.ex.nx,C.ex.ad,λc u h p=>?_,λc u h n p=>?_⟩,λj l hj h=>⟨(C.ex.df j l hj h).1,λo ho=>?_⟩⟩,rfl,λc hc o h n=>?_⟩,C.e0.trans e0⟩
 .let⟨h1,p1⟩:=C.ex.pu c u h p;have ne:=h.ne hD;exact⟨h1.elim (λh=>.inl (by rw[mF ne];exact h)) λ⟨o,h⟩=>.inr ⟨o,by rw[mF ne];exact h⟩,p1⟩
 .rw[mF (mQ h hD)];exact C.ex.el c u h n p
 .rw[mF (mQ ho hD)];exact(C.ex.df j l hj h).2 o ho
 .rw[mF (mQ h hD)];exact C.ex.hk c hc o h n
theorem ŀ.done{K}{D}{H1 H2}{m1 m2}{s1 s2}{cap}{Z}{ys}{done}(C:ŀ K CB D H1 m1 s1 cap Z ys done H2 m2 s2):SR K CB H2 (m2.bare m1.Z0) s2/\(D∉m1.Z0->Rep K H2 (m2.bare m1.Z0) s2 (.ref D) (.lst done)):=by refine⟨C.sr.show C.Z0 C.at_ B7,λhn=>.lst C.at_ ⟨hn,λn hh z=>C.sr.hx n hh D z (by rw[C.Z0];exact al)⟩ (C.rs.Zq (Ext0.show C.Z0).toExtR)⟩
def FU{O}{H1}{m1}{s1}{Z}{J:It}{l}{D}{Q}{t}(S1:SR X.K CB H1 m1 s1)(er:ER X.K H1 m1 s1 O Z)(it:qz X.K CB J l H1 m1 s1)(hD:H1 D=Zb)(R5:l.length<=100000)(P:Zs X.K CB (Rep X.K) E ((oH t f (nM ix Z) l s1).bind λvs s2=>.ok (.lst vs) s2) H1 m1 s1 Q):ĳ J (TDT X.K CB E0 t) (Ŭ X.K CB E0 f) (É ix O) D H1 Q:=by
 refine⟨λi k ys H2=>∃done m2 s2,ŀ X.K CB D H1 m1 s1 (É ix O) (nM ix Z) ys done H2 m2 s2/\i<=l.length/\ys.length<=i/\k=l.length-i/\(oH t f (nM ix Z) l s1).bind (λvs s2=>.ok (PV.lst vs) s2)=(oH t f (nM ix Z) (l.drop i) s2).bind λvs s2=>.ok (.lst (done++vs)) s2,⟨l.length,[],m1.hide D,s1,ŀ.start S1 (er.É ix) hD,aV _,aV _,rfl,?_⟩,?_⟩
 .simp
 rintro i k ys H2 ⟨done,m2,s2,C,hi,hy,rfl,eq⟩
 let⟨U9,UB⟩:=it i H2 m2 s2 C.e0 C.sr;by_cases Sd:i<l.length
 .right;have hq:=ay Sd;let⟨go,yl⟩:=U9 _ hq;refine⟨go,λx H3 We=>?_⟩;let⟨e3,S3,r3⟩:=yl x H3 We;have C3:=C.step hD e3 S3;rw[cF Sd] at eq;rw[eq] at P;rw[pO] at P eq;refine⟨Za l[i]::nM ix Z,s2,m2,C3.er.cons r3,S3,?_⟩;cases ct:t (Za l[i]::nM ix Z) s2 with
  |bad=>rw[ct] at P;exact P.elim
  |ex c3 s3=>rw[ct] at P;exact P.elim
  |ok bt s3 =>
   rw[ct] at P eq
   rintro b4 H4 m4 e4 S4 rfl
   have C4:=C3.step hD e4 S4;cases b4 with
   |false =>
    exact Ou ⟨l.length-(i+1),by omega,done,m4,s3,C4,Sd,by omega,rfl,eq⟩
   |true =>
    refine Ot ⟨Za l[i]::nM ix Z,s3,m4,C4.er.cons (r3.ext e4),S4,?_⟩;dsimp only at P eq;cases cf:f (Za l[i]::nM ix Z) s3 with
    |bad=>rw[cf] at P;exact P.elim
    |ex c5 s5=>rw[cf] at P;exact P.elim
    |ok v s5 =>
     rw[cf] at eq;intro w H5 m5 e5 S5 r5;have C5:=C4.step hD e5 S5;refine⟨C5.at_,aW (aC hy (aC hi R5)) (Zf rfl),l.length-(i+1),by omega,done++[v],m5,s5,C5.push hD r5,Sd,by simp;omega,rfl,?_⟩;rw[eq];dsimp only;cases hh:oH t f (nM ix Z) (l.drop (i+1)) s5 with
     |ok vs s6=>simp[Out.bind]
     |ex c6 s6=>exact absurd hh xI
     |bad=>rfl
 .left;have Te:=eP Sd;rw[cY Te] at eq;rw[eq] at P;let⟨Vz,rd⟩:=C.done;refine⟨UB Te,C.at_,P (.ref D) H2 (m2.bare m1.Z0) C.ex Vz ?_⟩;rw[bQ];exact rd λz=>(S1.hs D z).1 hD
def AA(q:Ŭ X.K CB E (pW fi ix t f) O H Q):JY (TDI X.K CB E fi) ix (TDT X.K CB E0 t) (Ŭ X.K CB E0 f) O H Q:=by
 let⟨Z,s,m,er,S,P⟩:=q;refine⟨Z,s,m,er,S,?_⟩;unfold pW at P;cases c:fi Z s with
 |bad=>rw[c] at P;exact P
 |ex c' s'=>rw[c] at P;exact P
 |ok l s1 =>
  rw[c] at P;dsimp only[Out.bind] at P;split at P
  .rename_i R5;exact λJ H1 m1 e1 S1 it D hD=>FU S1 (er.ext e1) it hD R5 (Zs.shift e1 P)
  .exact P.elim
def sT(hi:DI X CB E (.Name x px) iter fi)(he:∀cl C R4 R9 fp,DE (ą X scope cl C (x::fr) R4 R9 fp) CB E0 elt f)(ht:∀cl C R4 R9 fp,Ŕ (ą X scope cl C (x::fr) R4 R9 fp) CB Sr t:=by exact λ_ _ _ _ _=>qe)(hc:X.calm=true:=by rfl)(S:Ã X.N X.env.scope scope x fr ix:=by exact Kb ‹K' _ _ _›)(hs:∀v,a6 iter X.env v=pure v:=by intro _;rfl):DE X CB E (.ListComp elt [⟨.Name x px,iter,Sr,0⟩] scope pos) (pW fi ix t f) :=
 ⟨(v6 hc S hi.pi (λcl C R4 R9 fp=>(ht cl C R4 R9 fp).Ŵ) (λcl C R4 R9 fp=>(he cl C R4 R9 fp).pe) hs).mono λO H Q q=>AA q⟩
def wK(hi:DI X CB E (.Name x px) iter fi)(he:∀cl C R4 R9 fp,DE (ą X scope cl C (x::fr) R4 R9 fp) CB E0 elt f)(ht:∀cl C R4 R9 fp,Ŕ (ą X scope cl C (x::fr) R4 R9 fp) CB Sr t:=by exact λ_ _ _ _ _=>qe)(hN:X.N.Nodup:=by exact ‹K' _ _ _›.nd)(UJ:X.N[i]?=Za y:=by rfl)(Um:X.env.scope.names.lookup y=Za .local:=by rfl)(hc:X.calm=true:=by rfl)(S:Ã X.N X.env.scope scope x fr ix:=by exact Kb ‹K' _ _ _›)(Uk:cO (.ListComp elt [⟨.Name x px,iter,Sr,0⟩] scope pos) (Za (.Name y py)) ń.line X.env=pure true:=by rfl)(hs:∀v,a6 iter X.env v=pure v:=by intro _;rfl):DS X CB E (.Assign [.Name y py] (.ListComp elt [⟨.Name x px,iter,Sr,0⟩] scope pos) ń) (Y8 i (pW fi ix t f)) :=
 ⟨(wD hN UJ Um hc S hi.pi (λcl C R4 R9 fp=>(ht cl C R4 R9 fp).Ŵ) (λcl C R4 R9 fp=>(he cl C R4 R9 fp).pe) Uk hs).mono λD O H=>oE λZ s m er S P =>
  AA ⟨Z,s,m,er,S,Zs.so P λv s1 u H1 m1 e1 S1 r1 P1=>P1.next S1 ((er.ext e1).set i r1)⟩⟩
end
abbrev XF:=List PV->N'->Out PV
def Ķ(K:aa)(CB:ag)(n:Nat)(D:XF):Sp:=λvs H Q E=>vs.length=n/\∃ps s m,Y5 K H m s vs ps/\SR K CB H m s/\Zs K CB (Rep K) E (D ps s) H m s Q
def V'(n:Nat)(D:XF)(fa:XA)(Z:En)(s:N'):Out PV:=(fa Z s).bind λvs s1=>if vs.length=n then D vs s1 else .bad
def à(N:Nat)(g:XS)(vs:List PV)(s:N'):Out PV:=match g (vs.map Za++aQ (N-vs.length) Zb) s with
 |.nx _ s'=>.ok .Zn s'
 |.rt v s'=>.ok v s'
 |.ex c s'=>.ex c s'
 |_=>.bad
section
variable{st:bX}
def nc(F:Fn X.prog X.w X.K X.mg X.base x k ps (Ķ X.K CB n D))(ha:DA X CB E (e::es) fa)(hr:Zw jr X.A:=by assumption)(hk:k<=jr:=by first|decide|lia)(hg:Gl X x:=by rfl)(hx:oW (Z' X.prog X.w) X E:=by first|exact pN|exact sA)(SI:Ĉ x:=by decide)(he:Œ X e es:=by rfl)(Sf:(bI pos (ao es X.env)).any (·.1)=false:=by rfl):DE X CB E (.Call (.Name x p) (e::es) [] pos) (V' n D fa) :=
 ⟨(xy F (hr.mono hk) hg hx ha.pa SI he Sf).mono λO H Q=>oE λZ s m er S P=>⟨Z,s,m,er,S,P.bind λv s1 u H1 m1 e1 S1 r1 P1=>by
  split at P1
  .rename_i hl;rw[bQ];exact⟨by rw[r1.length];exact hl,v,s1,m1,r1,S1,P1⟩
  .exact P1.elim⟩⟩
def ł(n:Nat)(D:XF)(f:XE)(fa:XA)(Z:En)(s:N'):Out PV:=(f Z s).bind λo s1=>match o with
 |.ref k=>match s1.get k with
  |some (.book _ _)=>(fa Z s1).bind λvs s2=>if vs.length+1=n then D (.ref k::vs) s2 else .bad
  |_=>.bad
 |_=>.bad
def ET(ho:DE X CB E a f)(M:Mt X.prog X.w X.K X.mg X.base CB m k ps (Ķ X.K CB n D))(ha:DA X CB E (e::es) fa)(T0:∀z,(My.bf z).lookup m=none:=by exact λz=>My.uL z)(hr:Zw jr X.A:=by assumption)(hk:k<=jr:=by first|decide|lia)(hx:oW (Z' X.prog X.w) X E:=by first|exact pN|exact sA)(S6:Œ X e es:=by rfl)(Sf:(bI pos (ao es X.env)).any (·.1)=false:=by rfl)(ht:eval (.Call (.Attribute a m R8) (e::es) [] pos) X.env=(do
   let ov <-eval a X.env
   fR R8.atName
   let(f,first) <-holding [ov] (fK ov m pl)
   iB pos f first (bI pos (ao (e::es) X.env)) (eA pos (cI [] X.env))):=by rfl):DE X CB E (.Call (.Attribute a m R8) (e::es) [] pos) (ł n D f fa) :=
 ⟨(ur ho.pe M (hr.mono hk) hx ha.pa S6 Sf ht).mono λO H Q=>oE λZ s m er S P=>⟨Z,s,m,er,S,P.bind λv s1 u H1 m1 e1 S1 r1 P1=>by
  split at P1
  .split at P1
   .rename_i hg;let⟨z,L',B,_,_⟩:=S1.get hg;cases r1 with
    |ref hn =>
    refine⟨_,_,_,rfl,B.ob,T0 z,Z,s1,m1,er.ext e1,S1,P1.bind λvs s2 us H2 m2 e2 S2 r2 P2=>?_⟩;split at P2
    .rename_i hl;rw[bQ];refine⟨by rw[bu,r2.length];exact hl,_,s2,m2,.cons ?_ r2,S2,P2⟩;exact(Rep.ref hn).ext e2
    .exact P2.elim
   .exact P1.elim
  .exact P1.elim⟩⟩
def xk(ho:DE X CB E a f)(M:Mt X.prog X.w X.K X.mg X.base CB m k ps (Ķ X.K CB n D))(T0:∀z,(My.bf z).lookup m=none:=by exact λz=>My.uL z)(hr:Zw jr X.A:=by assumption)(hk:k<=jr:=by first|decide|lia)(hx:oW (Z' X.prog X.w) X E:=by first|exact pN|exact sA)(ht:eval (.Call (.Attribute a m R8) [] [] pos) X.env=(do
   let ov <-eval a X.env
   fR R8.atName
   let(f,first) <-holding [ov] (fK ov m pl)
   iB pos f first (bI pos (ao [] X.env)) (eA pos (cI [] X.env))):=by rfl):DE X CB E (.Call (.Attribute a m R8) [] [] pos) (ł n D f J') :=
 ⟨(QO ho.pe M (hr.mono hk) hx ht).mono λO H Q=>oE λZ s m er S P=>⟨Z,s,m,er,S,P.bind λv s1 u H1 m1 e1 S1 r1 P1=>by
  split at P1
  .split at P1
   .rename_i hg;let⟨z,L',B,_,_⟩:=S1.get hg;cases r1 with
    |ref hn =>
    refine⟨_,_,_,rfl,B.ob,T0 z,?_⟩;simp only[J',Out.bind] at P1;split at P1
    .rename_i hl;exact⟨hl,_,s1,m1,.cons (.ref hn) .nil,S1,P1⟩
    .exact P1.elim
   .exact P1.elim
  .exact P1.elim⟩⟩
def Àm(_:En)(s:N'):Out PV:=.ok (.ref s.nx) (s.add (.book [] []))
def Me(K:aa)(C:ag):Sp:=λvs H Q _=>∃(p dx:ag),vs=[.ref p]/\H p=Za (.ins C dx [])/\∀z H',(∀c∈[z.dp,z.dt,z.dm,z.dl,z.dh],H c=Zb)->My.Zu K C H' p z [] []->(∀c o,H c=Za o->c≠p->H' c=Za o)->Q .Zn H'
def Pa(M:MkB X.prog X.w X.K X.mg X.base x CB k ps (Me X.K CB))(hr:Zw jr X.A:=by assumption)(hk:k+1<=jr:=by first|decide|lia)(hg:Gl X x:=by rfl)(hx:oW (Z' X.prog X.w) X E:=by first|exact pN|exact sA)(SI:Ĉ x:=by decide):DE X CB E (.Call (.Name x p) [] [] pos) Àm :=
 ⟨(QP M (hr.mono hk) hg hx SI).mono λO H Q=>oE λZ s m er S P b dx hb Yx Su=>by
  refine⟨b,dx,rfl,mH,λz H' hz B kp=>⟨rfl,?_⟩⟩;have hk:ZT H H':=λc o h=>by have h1:=mQ h hb;have h2:=mQ h Yx;exact kp c o (by rw[mF h1,mF h2];exact h) h1
  have hzn:=λc hc=>by
   have h:=hz c hc;have n1:c≠b:=λe=>by rw[e,mH] at h;grind
   have n2:c≠dx:=λe=>by rw[mF n1,e,mH] at h;grind
   rw[mF n1,mF n2] at h;exact h
  let⟨S2,e2⟩:=S.add (c:=.book [] []) H' b (My.î b z []) hk (λa ha=>by
   obtain rfl|ha:=ap.mp ha
   .exact hb
   .exact hzn a (by simpa using ha)) λex=>by
    refine⟨z,[],?_,rfl,?_⟩
    .rw[Mp.ĕ];exact B
    .rw[Mp.ĕ];show(if s.nx=s.nx then _ else _)=_;rw[Zc rfl]
  exact P _ _ _ e2 S2 .new⟩
def ou{P}{w}{K}{mg}{base}{qual}{fa}{fd}{N}(F:ý K x qual st fa fd)(S:K' N ps (mJ st))(hps:ps.length=n)(hb:∀(Sc:ai)(A:cQ)(outer:List Env)(s:aw)(H:Hp)(E:XK),Zw k (A.deeper (eg qual (mJ st) s.heap.objs.size fa Sc))->K' N ps (mJ st)->DSs (Ep (Z' P w) P w K mg base N qual (mJ st) fa Sc A outer s H E) CB E (oK st) u) :
  ZA P w K mg base (Z' P w) (k+1) fa fd ps (Ķ K CB n (à N.length u)):=by
 refine F.okX S (λvs H Q E h=>by rw[hps];exact h.1) (λSc A outer s H vs Q E hr h=>?_);let⟨hl,U8,s',m,r,S',P'⟩:=h;refine⟨_,(hb Sc A outer s H E hr S).pss,U8.map Za++aQ (N.length-U8.length) Zb,s',m,?_,S',?_⟩
 .unfold start;rw[r.length];exact ER.start r _
 .unfold à at P';cases cc:u (U8.map Za++aQ (N.length-U8.length) Zb) s' with
  |nx Ĺ s1=>rw[cc] at P';exact λZG H' m' x S1 er=>P' .Zn H' m' x S1 .Zn
  |rt v1 s1=>rw[cc] at P';exact λu' H' m' x S1 r1=>P' u' H' m' x S1 r1
  |ex c1 s1=>rw[cc] at P';exact P'
  |bk=>rw[cc] at P';exact P'.elim
  |ct=>rw[cc] at P';exact P'.elim
  |bad=>rw[cc] at P';exact P'.elim
open Classical in
def N'.only(s:N')(n:Nat):N':=⟨s.nx,s.cs.filter λq=>decide (q.1<n)⟩
def Áf(f:XE)(Z:En)(s:N'):Out PV:=(f Z s).bind λv s1=>.ok v (s1.only s.nx)
def ġ(v:PV)(s:N'):Out PV:=match v with
 |.ref n=>match s.get n with
  |some (.lst l)=>.ok (.lst l) (s.del n)
  |some (.Zv l)=>.ok (.Zv l) (s.del n)
  |_=>.bad
 |_=>.bad
def ϓ(f:XE)(Z:En)(s:N'):Out PV:=(f Z s).bind ġ
def SR.Z5{K}{H}{m}{s s'}{x}{v w}(S:SR K CB H m s)(r:Rep K H m s x v)(e:ġ v s=.ok w s'):SR K CB H m s'/\Ext H m s H m s'/\Rep K H m s' x w:=by
 unfold ġ at e;split at e
 .rename_i n;have pu:∀c,s.get n=Za c->m.fp n=[m.ad n]->Ŀ m (s.del n) (m.ad n):=λc hg e1=>by have SA:n∈s.cs.map (·.1):=ar.mpr ⟨_,oz hg,rfl⟩;refine⟨S.hx n SA _ (by rw[e1];simp),λj hj z=>?_⟩;let⟨q,hq,rfl⟩:=ar.mp hj;have Su:=Ix S.nd hq;exact S.dj n SA q.1 (ar.mpr ⟨q,vI hq,rfl⟩) (λz=>Su z.symm) _ (by rw[e1];simp) z
  split at e
  .rename_i l hg;cases e;cases r;let⟨e1,vs,h1,h2⟩:=S.get hg;have õ:∀l,s.get n≠Za (.Ì l):=λl z=>by grind
   exact⟨(S.del n õ).1,(S.del n õ).2,.lst h1 (pu _ hg e1) (h2.ext (S.del n õ).2)⟩
  .rename_i l hg;cases e;cases r;let⟨e1,vs,h1,h2⟩:=S.get hg;have õ:∀l,s.get n≠Za (.Ì l):=λl z=>by grind
   exact⟨(S.del n õ).1,(S.del n õ).2,.Zv (.inl h1) (pu _ hg e1) (h2.ext (S.del n õ).2)⟩
  .cases e
 .cases e
def MP(h:DE X CB E e f):DE X CB E e (ϓ f):=⟨h.pe.mono λO H Q=>oE λZ s m er S P=>⟨Z,s,m,er,S,P.bind λv s1 u H1 m1 e1 S1 r1 P1=>by
 cases cc:ġ v s1 with
 |ok w s2 =>
  rw[cc] at P1;let⟨S2,e2,r2⟩:=S1.Z5 r1 cc;exact P1 u H1 m1 e2 S2 r2
 |ex c' s' =>
  unfold ġ at cc;split at cc
  .split at cc<;>cases cc
  .cases cc
 |bad=>rw[cc] at P1;exact P1.elim⟩⟩
def NV(h:PE X e tt):PE X e (λO H Q=>∃d Ui,H d=Za (.dK Ui)/\tt O H (λv H'=>∃ob R3,H' d=Za (.Z5 ob (.dK R3))/\Q v (upd H' d (.dK R3)))):=by
 intro R1 s O H Q I ⟨d,Ui,hd,q⟩;have n3:∀o v,X.Ha0 d≠Za (.Z5 o v):=λo v z=>by rw[I.base.ä d o v z] at hd;grind
 refine Zx (h R1 s O H _ I q) λu s1=>e4 λv H1 I1 r1 ⟨ob,R3,e1,q1⟩=>?_;exact⟨v,_,I1.Ń e1 n3,r1,q1⟩
def Ák(d:ag)(D:Ends):Ends:={ nx:=λO H'=>∃ob R3,H' d=Za (.Z5 ob (.dK R3))/\D.nx O (upd H' d (.dK R3)),rt:=λv H'=>∃ob R3,H' d=Za (.Z5 ob (.dK R3))/\D.rt v (upd H' d (.dK R3)),bk:=λO H'=>∃ob R3,H' d=Za (.Z5 ob (.dK R3))/\D.bk O (upd H' d (.dK R3)),ct:=λO H'=>∃ob R3,H' d=Za (.Z5 ob (.dK R3))/\D.ct O (upd H' d (.dK R3)) }
def NP(h:PS X st tt):PS X st (λD O H=>∃d Ui,H d=Za (.dK Ui)/\tt (Ák d D) O H):=by
 intro R1 s O H D I ⟨d,Ui,hd,q⟩;have n3:∀o v,X.Ha0 d≠Za (.Z5 o v):=λo v z=>by rw[I.base.ä d o v z] at hd;grind
 refine Zx (h R1 s O H _ I q) λfl s1 h1=>?_;cases fl with
 |next=>let⟨Ϧ,H1,I1,ob,R3,e1,q1⟩:=h1;exact⟨Ϧ,_,I1.Ń e1 n3,q1⟩
 |brk=>let⟨Ϧ,H1,I1,ob,R3,e1,q1⟩:=h1;exact⟨Ϧ,_,I1.Ń e1 n3,q1⟩
 |cont=>let⟨Ϧ,H1,I1,ob,R3,e1,q1⟩:=h1;exact⟨Ϧ,_,I1.Ń e1 n3,q1⟩
 |ret u=>let⟨v,Ϧ,H1,I1,r1,ob,R3,e1,q1⟩:=h1;exact⟨v,Ϧ,_,I1.Ń e1 n3,r1,q1⟩
def SR.Ÿ{K}{H}{m}{s}{n}{l}(S:SR K CB H m s)(hg:s.get n=Za (.Zv l)):∃vs,H (m.ad n)=Za (.dK vs)/\∀ob,∃m',m'.ad=m.ad/\SR K CB (upd H (m.ad n) (.Z5 ob (.dK vs))) m' (s.set n (.Ì l))/\Ext H m s (upd H (m.ad n) (.Z5 ob (.dK vs))) m' (s.set n (.Ì l))/\Y6 K (upd H (m.ad n) (.Z5 ob (.dK vs))) m' (s.set n (.Ì l)) vs l:=by
 let⟨e1,vs,h1,r1⟩:=S.get hg;refine⟨vs,h1,λob=>⟨m.Þ n [m.ad n],rfl,?_⟩⟩;have:=S.put (c':=.Ì l) hg `g (upd H (m.ad n) (.Z5 ob (.dK vs))) [m.ad n] (λa o h ha=>by rw[e1,ax] at ha;rw[mF ha];exact h) (λa ha=>.inl (by rw[e1];exact ha)) λex=>⟨by show(if n=n then [m.ad n] else m.fp n)=_;rw[Zc rfl];rfl,ob,vs,mH,r1.Zq ex⟩
 exact⟨this.1,this.2,r1.ext this.2⟩
theorem ExtR.trans(a:ExtR H m s H1 m1 s1)(b:ExtR H1 m1 s1 H2 m2 s2):ExtR H m s H2 m2 s2 :=
 ⟨aC a.nx b.nx,λn h=>(b.ad n (aA h a.nx)).trans (a.ad n h),λc u h p=>let⟨h1,p1⟩:=a.pu c u h p;b.pu c u h1 p1,λc x h n p=>b.el c x (a.el c x h n p) n (a.pu c _ (.inl h) p).2⟩
def SR.Ào{K}{H H1}{m m1}{s s1}{n}{l}(h0:∀l,s.get n≠Za (.Ì l))(hn:n<s.nx)(e:Ext H m s H1 m1 s1)(S:SR K CB H1 m1 s1)(hg:s1.get n=Za (.Ì l)) :
  ∃ob vs,H1 (m.ad n)=Za (.Z5 ob (.dK vs))/\∃m2,SR K CB (upd H1 (m.ad n) (.dK vs)) m2 (s1.set n (.Zv l))/\Ext H m s (upd H1 (m.ad n) (.dK vs)) m2 (s1.set n (.Zv l))/\ExtR H1 m1 s1 (upd H1 (m.ad n) (.dK vs)) m2 (s1.set n (.Zv l)):=by
 have ea:=e.ad n hn;have SA:n∈s1.cs.map (·.1):=ar.mpr ⟨_,oz hg,rfl⟩;let⟨e1,ob,vs,h1,r1⟩:=S.get hg;rw[ea] at e1 h1;refine⟨ob,vs,h1,m1.Þ n [m.ad n],?_⟩;let⟨S2,x2,_⟩:=S.ÁD (c':=.Zv l) hg (upd H1 (m.ad n) (.dK vs)) [m.ad n] (λa o h ha=>by rw[e1,ax] at ha;rw[mF ha];exact h) (λa ha=>.inl (by rw[e1];exact ha)) λex=>⟨by show(if n=n then [m.ad n] else m1.fp n)=[m1.ad n];rw[Zc rfl,ea],vs,by show upd H1 (m.ad n) (.dK vs) (m1.ad n)=_;rw[ea];exact mH,r1.Zq ex⟩
 refine⟨S2,⟨⟨e.toExtR.trans x2,λj l' hj h=>?_⟩,e.hd,λa ha o h n0=>?_⟩,x2⟩
 .have Wv:j≠n:=λz=>h0 l' (by rw[<-z];exact h);let⟨g1,g2⟩:=e.df j l' hj h;refine⟨(rW Wv).trans g1,λo ho=>?_⟩;let⟨e3,_⟩:=S.ok _ (oz g1);have Su:m.ad j≠m.ad n:=λz=>S.dj j (ar.mpr ⟨_,oz g1,rfl⟩) n SA Wv (m1.ad j) (by rw[e3];simp) (by rw[e1,e.ad j hj,z];simp);rw[mF Su];exact g2 o ho
 .have ha':a∈m1.Z0:=by rw[e.hd];exact ha
  have Su:a≠m.ad n:=λz=>S.hx n SA a (by rw[e1,z];simp) ha';rw[mF Su];exact e.hk a ha o h n0
def thw(n:Nat)(s:N'):Option N':=match s.get n with
 |some (.Ì l)=>Za (s.set n (.Zv l))
 |_=>Zb
def D9{s:N'}{n:Nat}{c c':Cell}(h:s.get n=Za c):(s.set n c').get n=Za c':=by
 have:∀{l:List (Nat×Cell)},qK l n=Za c->qK (pT n c' l) n=Za c':=by
  intro l;induction l with
  |nil=>rintro⟨⟩
  |cons q r ih =>
   intro h;unfold pT;split
   .unfold qK;rw[Zc rfl]
   .rename_i hk;unfold qK at h ⊢
    simp_all
 exact this h
def Nd{K}{H1}{m1}{s1}{n}{ob}{vs}{l}(S1:SR K CB H1 m1 s1)(hg:s1.get n=Za (.Ì l)){d}(ea:m1.ad n=d)(h1:H1 d=Za (.Z5 ob (.dK vs)))(r:Y6 K H1 m1 s1 vs l):qz K CB (Itd d ob vs) (l.map λkv=>wG kv.1) H1 m1 s1 :=
 Nc (λH m s ex S=>by have:=(ex.df n l (S1.Âi hg) hg).2;rw[ea] at this;exact this _ h1) r
def SO.Ń(n:Nat):SO->SO
 |.nx Z s=>match thw n s with
  |some s'=>.nx Z s'
  |none=>.bad
 |.rt v s=>match thw n s with
  |some s'=>.rt v s'
  |none=>.bad
 |_=>.bad
def Gg(j:Nat)(y:XG)(body:XS)(Z:En)(s:N'):SO:=match Z[j]? with
 |some (Za (.ref n))=>match s.get n with
  |some (.Zv l)=>(nR (nj y body) (l.map λkv=>wG kv.1) Z (s.set n (.Ì l))).Ń n
  |_=>.bad
 |_=>.bad
def OR(j:Nat)(hg:DG X.ė CB tg yy)(hb:DSs X.ė CB E0 Ua u)(hc:X.calm=true:=by rfl)(hN:X.N[j]?=Za y:=by rfl)(hv:Vis X.env.scope y:=by first|exact eL rfl|exact gR (eL rfl))(hs:∀x,a6 (.Name y py) X.env x=pure x:=by intro _;rfl)(hd:Ĉ y:=by decide)(Tf:(y==("__classdict__":Str))=false:=by decide):DS X CB E (.For tg (.Name y py) Ua [] pos) (Gg j yy u) :=
 ⟨PS.ė ((NP (EB (X:=X.ė) eK hc (z6 (EC hN hv hd Tf)) hg.pg hb.pss hs)).mono λD O H=>oE λZ s m er S P=>by
  unfold Gg at P;split at P
  .rename_i n ŧ;split at P
   .rename_i l hg;let⟨u0,hu,ru⟩:=er.at_ j _ ŧ;cases ru with
    |ref hn =>
    let⟨vs,h1,hf⟩:=S.Ÿ hg;refine⟨m.ad n,vs,h1,_,hu,m.ad n,vs,rfl,.inl ⟨h1,λob=>?_⟩⟩;let⟨m1,ea,S1,e1,r1⟩:=hf ob;have Yr:(s.set n (.Ì l)).get n=Za (.Ì l):=D9 hg;have YV:m1.ad n=m.ad n:=by rw[ea]
    have h0:∀l',s.get n≠Za (.Ì l'):=λl' z=>by rw[hg] at z;cases z
    apply Be S1 (er.ext e1) (Nd S1 Yr YV mH r1);cases cc:nR (nj yy u) (l.map λkv=>wG kv.1) Z (s.set n (.Ì l)) with
    |nx ĸ s2 =>
     rw[cc] at P;intro Ĵ H2 m2 e2 S2 Vw;unfold SO.Ń thw at P;dsimp only at P;split at P
     .rename_i s3 h3;split at h3<;>cases h3
      rename_i l2 Uc;let⟨UA,SE,q1,m3,S3,e3,x3⟩:=SR.Ào h0 hn (e1.trans e2) S2 Uc;exact⟨UA,SE,q1,P Ĵ _ m3 e3 S3 (Vw.Zq x3)⟩
     .exact P.elim
    |rt v2 s2 =>
     rw[cc] at P;intro u2 H2 m2 e2 S2 r2;unfold SO.Ń thw at P;dsimp only at P;split at P
     .rename_i s3 h3;split at h3<;>cases h3
      rename_i l2 Uc;let⟨UA,SE,q1,m3,S3,e3,x3⟩:=SR.Ào h0 hn (e1.trans e2) S2 Uc;exact⟨UA,SE,q1,P u2 _ m3 e3 S3 (r2.Zq x3)⟩
     .exact P.elim
    |bk=>rw[cc] at P;exact P.elim
    |ct=>rw[cc] at P;exact P.elim
    |ex=>rw[cc] at P;exact P.elim
    |bad=>rw[cc] at P;exact P.elim
   .exact P.elim
  .exact P.elim)⟩
end
def erH(H:Hp)(d:ag):Hp:=λb=>if b=d then Zb else H b
def uG(h:a≠d):erH H d a=H a:=by unfold erH;rw[Zd h]
def FR:erH H d d=none:=by unfold erH;grind
section
variable{X:Cx}{x:Str}
def SR.Âg{K}{H}{m}{s}{d}{xs}(S:SR K CB H m s)(hd:H d=Zb):SR K CB (upd H d (.dK xs)) (m.hide d) s:=by
 have k:=My.rQ (o:=.dK xs) hd;have S1:=S.same k;have e0:Ext0 H m s (upd H d (.dK xs)) (m.hide d) s:=Ext0.hide hd;have Su:∀n∈s.cs.map (·.1),∀a∈m.fp n,a≠d:=λn hn a ha z=>by
  let⟨q,hq,rfl⟩:=ar.mp hn;let⟨o,e,_⟩:=(S.ok q hq).kind ha
  grind
 refine⟨S.nd,S.lt,λq hq=>(S.ok q hq).keep S e0.toExtR (λa _ o h=>k a o h) rfl rfl,S.dj,λn hn a ha hb=>(ap.mp hb).elim (Su n hn a ha) (S.hx n hn a ha),λa ha=>?_,λP q t=>⟨af _ (S1.tb P q t).1,(S1.tb P q t).2⟩⟩;obtain rfl|ha:=ap.mp ha
 .rw[mH];exact⟨by simp,λ_ _=>⟨by simp,by simp,by simp,by simp⟩⟩
 .exact S1.hs a ha
def Ow{K}{H H2}{m m2}{s s2}{d}{xs}(S:SR K CB H m s)(hd:H d=Zb)(e:Ext (upd H d (.dK xs)) (m.hide d) s H2 m2 s2)(S2:SR K CB H2 m2 s2) :
  SR K CB (erH H2 d) (m2.bare m.Z0) s2/\Ext H m s (erH H2 d) (m2.bare m.Z0) s2/\ExtR H2 m2 s2 (erH H2 d) (m2.bare m.Z0) s2/\H2 d=Za (.dK xs):=by
 have hh:=e.hd;have SA:d∈m2.Z0:=by rw[hh];exact al
 have hD:=e.hk d al _ mH `g;have tbE:TbS H2 (erH H2 d):=.of λa o h od=>by rw[uG (λz=>by rw[z,hD] at h;cases h;exact GQ od)];exact h
 have x2:ExtR H2 m2 s2 (erH H2 d) (m2.bare m.Z0) s2:=by have ne:∀a,Ŀ m2 s2 a->a≠d:=λa p z=>p.1 (by rw[z];exact SA);refine⟨ak _,λ_ _=>rfl,λa u h p=>⟨?_,λz=>p.1 (by rw[hh];exact af _ z),p.2⟩,λa u h _ p=>by rw[uG (ne a p)];exact h⟩;exact h.elim (λh=>.inl (by rw[uG (ne a p)];exact h)) λ⟨o,h⟩=>.inr ⟨o,by rw[uG (ne a p)];exact h⟩
 have fne:∀n∈s2.cs.map (·.1),∀a∈m2.fp n,a≠d:=λn hn a ha z=>S2.hx n hn a ha (by rw[z];exact SA);have dn:=λz=>(S.hs d z).1 hd;have h2:∀a∈m.Z0,a≠d:=λa ha z=>dn (by rw[<-z];exact ha);refine⟨⟨S2.nd,S2.lt,λq hq=>(S2.ok q hq).keep S2 x2 (λa ha o h=>by rw[uG (fne q.1 (ar.mpr ⟨q,hq,rfl⟩) a ha)];exact h) rfl rfl,S2.dj,λn hn a ha hb=>S2.hx n hn a ha (by rw[hh];exact af _ hb),λa ha=>?_,λP q t=>⟨?_,tbE.2 P q (S2.tb P q t).2⟩⟩,?_,x2,hD⟩
 .rw[uG (h2 a ha)];exact S2.hs a (by rw[hh];exact af _ ha)
 .let⟨h1,ps,h3,_⟩:=S2.tb P q t;rw[hh] at h1;obtain z|z:=ap.mp h1
  .grind
  .exact z
 .have e1:=(Ext0.hide hd).trans e.toExt0;refine⟨⟨e1.toExtR.trans x2,λj l hj h=>⟨(e1.df j l hj h).1,λo ho=>?_⟩⟩,rfl,λa ha o h n0=>?_⟩
  .rw[uG (mQ ho hd)];exact(e1.df j l hj h).2 o ho
  .rw[uG (h2 a ha)];exact e.hk a (af _ ha) o (My.rQ hd _ _ h) n0
def Ϲ(f g:XE)(Z:En)(s:N'):Out PV:=match f Z s with
 |.ok v s1=>match g Z s1 with
  |.ok w s2=>match ó v with
   |some k=>.ok (.ref s2.nx) (s2.add (.Zv [(k,w)]))
   |none=>.bad
  |_=>.bad
 |_=>.bad
def O9(hk:DE X CB E a f)(hv:DE X CB E b g):DE X CB E (.Dict [Za a] [b] pos) (Ϲ f g) :=
 ⟨(HZ (FC hk.pe hv.pe HX) rfl rfl (by simp) (by simp)).mono λO H Q=>oE λZ s m er S P p0 hp=>by
  have e0:Ext0 H m s (upd H p0 (.dK [])) (m.hide p0) s:=Ext0.hide hp;have hm:SR X.K CB (upd H p0 (.dK [])) (m.hide p0) s:=S.Âg hp;refine⟨Z,s,m.hide p0,er.Zq e0.toExtR,hm,?_⟩;unfold Ϲ at P;cases c1:f Z s with
  |bad=>rw[c1] at P;exact P.elim
  |ex c' s'=>rw[c1] at P;exact P.elim
  |ok v s1 =>
   rw[c1] at P;refine λu1 H1 m1 e1 S1 r1=>⟨Z,s1,m1,(er.Zq e0.toExtR).ext e1,S1,?_⟩;dsimp only at P;cases c2:g Z s1 with
   |bad=>rw[c2] at P;exact P.elim
   |ex c' s'=>rw[c2] at P;exact P.elim
   |ok w s2 =>
    rw[c2] at P;intro u2 H2 m2 e2 S2 r2;dsimp only at P;split at P
    .rename_i k hk;let⟨S3,e3,x3,hD⟩:=Ow S hp (e1.trans e2) S2;have ek:=qS r1 hk;refine⟨hD,[(k,u2)],by rw[ek];rfl,by simp,?_⟩;have Xl:ZT (erH H2 p0) (upd H2 p0 (.dK [(k,u2)])):=λc o h=>by
      have Su:c≠p0:=λz=>by rw[z,FR] at h;cases h
      rw[mF Su];rw[uG Su] at h;exact h
     let⟨S4,e4⟩:=S3.newD FR Xl mH (.cons (r2.Zq x3) .nil);exact P _ _ _ (e3.trans e4) S4 .new
    .exact P.elim⟩
def ś(t:XT)(f g:XE)(Z:En)(s:N'):Out PV:=(t Z s).bind λb s1=>if b=true then f Z s1 else g Z s1
def HE(hc:DT X CB E c t)(ha:DE X CB E a f)(hb:DE X CB E b g):DE X CB E (.IfExp c a b pos) (ś t f g) :=
 ⟨(KQ hc.pt ha.pe hb.pe).mono λO H Q=>oE λZ s m er S P=>⟨Z,s,m,er,S,P.bind λv s1 b H1 m1 e1 S1 r1 P1=>by
  cases r1;refine wH (λc=>?_) λc=>?_
  .rw[Zc c] at P1;exact⟨Z,s1,m1,er.ext e1,S1,P1⟩
  .rw[Zd c] at P1;exact⟨Z,s1,m1,er.ext e1,S1,P1⟩⟩⟩
inductive Ty5 where
 |int|bool|str|tuple|list
def Ty5.nm:Ty5->String
 |.int=>"int"|.bool=>"bool"|.str=>"str"|.tuple=>"tuple"|.list=>"list"
inductive Ty7 where
 |int|bool|str|tuple|list|Zn|dict
def Ty7.nm:Ty7->String
 |.int=>"int"|.bool=>"bool"|.str=>"str"|.tuple=>"tuple"|.list=>"list"|.Zn=>"NoneType"|.dict=>"dict"
def PX:Ty7->Ty5->Bool
 |.int,.int=>true|.bool,.bool=>true|.bool,.int=>true|.str,.str=>true|.tuple,.tuple=>true|.list,.list=>true
 |_,_=>false
def Op(K):∀(t:Ty7)(u:Ty5),bA K (.type t.nm) (.type u.nm)=Za (PX t u)
 |.int,.int=>by kernel_rfl
 |.int,.bool=>by kernel_rfl
 |.int,.str=>by kernel_rfl
 |.int,.tuple=>by kernel_rfl
 |.int,.list=>by kernel_rfl
 |.bool,.int=>by kernel_rfl
 |.bool,.bool=>by kernel_rfl
 |.bool,.str=>by kernel_rfl
 |.bool,.tuple=>by kernel_rfl
 |.bool,.list=>by kernel_rfl
 |.str,.int=>by kernel_rfl
 |.str,.bool=>by kernel_rfl
 |.str,.str=>by kernel_rfl
 |.str,.tuple=>by kernel_rfl
 |.str,.list=>by kernel_rfl
 |.tuple,.int=>by kernel_rfl
 |.tuple,.bool=>by kernel_rfl
 |.tuple,.str=>by kernel_rfl
 |.tuple,.tuple=>by kernel_rfl
 |.tuple,.list=>by kernel_rfl
 |.list,.int=>by kernel_rfl
 |.list,.bool=>by kernel_rfl
 |.list,.str=>by kernel_rfl
 |.list,.tuple=>by kernel_rfl
 |.list,.list=>by kernel_rfl
 |.Zn,.int=>by kernel_rfl
 |.Zn,.bool=>by kernel_rfl
 |.Zn,.str=>by kernel_rfl
 |.Zn,.tuple=>by kernel_rfl
 |.Zn,.list=>by kernel_rfl
 |.dict,.int=>by kernel_rfl
 |.dict,.bool=>by kernel_rfl
 |.dict,.str=>by kernel_rfl
 |.dict,.tuple=>by kernel_rfl
 |.dict,.list=>by kernel_rfl
def ÂJ(s:N'):PV->Option Ty7
 |.int _=>Za .int
 |.bl _=>Za .bool
 |.str _=>Za .str
 |.Zn=>Za .Zn
 |.tup _=>Za .tuple
 |v=>match ZH s v with
  |some _=>Za .list
  |none=>Zb
def þ(T:Ty5)(f:XE)(Z:En)(s:N'):Out PV:=(f Z s).bind λv s1=>match ÂJ s1 v with
 |some k=>.ok (.bl (PX k T)) s1
 |none=>.bad
def wo(T5:Ty5)(ha:DE X CB E a f)(hx:x=(T5.nm:String):=by rfl)(Vm:Gl X "isinstance":=by rfl)(Vf:X.mg "isinstance"=none:=by exact T.Ó)(hg:Gl X x:=by rfl)(hm:X.mg x=none:=by first|exact T.Àd|exact T.ľ|exact T.ϛ|exact T.ő|exact T.ϯ)(hv:bh x=Za (.type T5.nm):=by first|exact MT|exact FZ|exact MU|exact AJ|exact Pg)(hn:x≠"__name__":=by decide)(hd:Ĉ x:=by decide)(hs:ao [a,.Name x px] X.env=(false,eval a X.env)::ao [.Name x px] X.env:=by rfl)(Sf:(bI pos (ao [.Name x px] X.env)).any (·.1)=false:=by rfl):DE X CB E (.Call (.Name "isinstance" p) [a,.Name x px] [] pos) (þ T5 f) :=
 ⟨(oP Bi Vm Vf qx (mR ha.pe (mR (Ib (v:=.ty T5.nm) hg hm hv rfl hn hd) Y7) hs) (Zf rfl) (Zf rfl) hs Sf).mono λO H Q=>oE λZ s m er S P=>⟨Z,s,m,er,S,P.bind λv s1 u H1 m1 e1 S1 r1 P1=>by
  split at P1
  .rename_i k hk;refine⟨u,.ty T5.nm,.type k.nm,PX k T5,rfl,.inr ⟨_,rfl⟩,?_,Op _ k T5,P1.here S1 .bl⟩;cases r1 with
   |Zn=>cases hk;exact .inl .Zn
   |bl=>cases hk;exact .inl (.bl _)
   |int=>cases hk;exact .inl (.int _)
   |str=>cases hk;exact .inl (.str _)
   |tup h1 h2=>cases hk;exact .inr (.inr (.inr ⟨_,_,rfl,rfl,h1.elim (λz=>.inl z.1) .inr⟩))
   |lst h1 h2 h3=>cases hk;exact .inr (.inr (.inl ⟨_,_,rfl,rfl,ZU.of h1⟩))
   |seq h1 h3=>cases hk;exact .inr (.inr (.inl ⟨_,_,rfl,rfl,h1.elim (λz=>.inl (.inr z.1)) .inr⟩))
   |Zv h1 h2 h3=>cases hk
   |exc h1 h2=>cases hk
   |clo h1=>cases hk
   |ref h1 =>
    rename_i n;have hk:(match ZH s1 (.ref n) with|some _=>Za Ty7.list|none=>Zb)=Za k:=hk;split at hk<;>cases hk
    rename_i l hl;let⟨b,vs,⟨⟩,q,_⟩:=(Rep.ref h1).ls S1 hl;exact .inr (.inr (.inl ⟨_,vs,rfl,rfl,q⟩))
  .exact P1.elim⟩⟩
end
end L2
namespace My
open PySem L2
nonrec def top(i:Nat):bX:=PySem.Challenge.pw_wholeowners_k11_worths.main.body.getD i (.Pass ⟨0,0,0,0⟩)
structure Y9 where
 ĥ:ag
 œ:ag
 ϟ:ag
 ø:ag
 ZQ:ag
 Í:ag
 į:ag
 Ħ:ag
 ÀB:ag
 Ñ:ag
 Zo:ag
 ϝ:ag
 ONE:ag
 ZJ:ag
 t8:Tok
 t6:Tok
 u8:Tok
 kx:ag->ag->Bool
def ÂB(K:aa)(a:ag)(i j:Int):Prop:=∃(o:Obj)(its:Array ai)(n:Nat),K.lookup a=Za o/\o.cls=.type "tuple"/\o.data=.seq its n/\its.size<=aF/\Vals [.int i,.int j] its.toList
structure Txt(K:aa)(mg:Str->Option ai)(a:Y9):Prop where
 á:mg "len"=Zb
 ÀR:mg "range"=Zb
 Ϝ:mg "all"=Zb
 ϛ:mg "int"=Zb
 Ĳ:mg "abs"=Zb
 ZZ:mg "sorted"=Zb
 ľ:mg "tuple"=Zb
 ő:mg "list"=Zb
 Àd:mg "str"=Zb
 ϯ:mg "bool"=Zb
 Ó:mg "isinstance"=Zb
 ſ:mg "ValueError"=Zb
 ÀW:mg "any"=Zb
 ÃB:mg "set"=Zb
 ÀV:mg "max"=Zb
 ŏ:mg "OwnError"=Za (.ref a.ĥ)
 ϙ:mg "NoName"=Za (.ref a.œ)
 Àc:mg "Twice"=Za (.ref a.ϟ)
 ĭ:mg "TooMany"=Za (.ref a.ø)
 Ő:mg "NoHolder"=Za (.ref a.ZQ)
 ū:mg "NoHouse"=Za (.ref a.Í)
 Ϛ:mg "NoLoss"=Za (.ref a.į)
 Ū:mg "NoShare"=Za (.ref a.Ħ)
 Àx:mg "NoText"=Za (.ref a.ÀB)
 ÀQ:mg "Whole"=Za (.ref a.Ñ)
 ϧ:Exc K a.ĥ
 Ài:Exc K a.œ
 ÀD:Exc K a.ϟ
 š:Exc K a.ø
 Ϩ:Exc K a.ZQ
 Àf:Exc K a.Í
 Àj:Exc K a.į
 Àe:Exc K a.Ħ
 Ŏ:mg "LONGEST_NAME"=Za (.int 8 a.t8)
 ō:mg "MOST_PERSONS"=Za (.int 6 a.t6)
 ŝ:mg "MOST_HOUSES"=Za (.int 8 a.u8)
 ŷ:mg "ZERO"=Za (.ref a.ϝ)
 Âj:mg "ONE"=Za (.ref a.ONE)
 zero:ÂB K a.ϝ 0 1
 one:ÂB K a.ONE 1 1
 cl:ϥ K a.Zo
 ë:Z9 K a.Zo "people"
 ò:Z9 K a.Zo "things_of"
 Đ:Z9 K a.Zo "mark_of"
 đ:Z9 K a.Zo "loss_of"
 Z7:Z9 K a.Zo "held_of"
def Txt.Ň{K}(T:Txt K mg a):RelV (.int 8) (.int 8 a.t8):=⟨_,rfl⟩
def Txt.ņ{K}(T:Txt K mg a):RelV (.int 6) (.int 6 a.t6):=⟨_,rfl⟩
def Txt.Ŝ{K}(T:Txt K mg a):RelV (.int 8) (.int 8 a.u8):=⟨_,rfl⟩
def Txt.ų{K}(T:Txt K mg a):RelV (.ref a.ϝ) (.ref a.ϝ):=rfl
def Txt.Áy{K}(T:Txt K mg a):RelV (.ref a.ONE) (.ref a.ONE):=rfl
def Ád{te:TE}{cap:St}{H:Hp}{Kt:VK}{Kf:Hp->Prop}(h:te cap H Kt):Ám cap H λb H4=>if b=true then te cap H4 Kt else Kf H4:=by
 show if true=true then te cap H Kt else Kf H
 grind
def CP(c):(!decide ((⟨#[c]⟩:Str).cps.toList<(b5 "a").cps.toList))=decide (97<=c):=by show(!decide ([c]<[97]))=decide (97<=c);rw[cj];simp[lv]
def IP(c):(!decide ((b5 "z").cps.toList<(⟨#[c]⟩:Str).cps.toList))=decide (c<=122):=by show(!decide ([122]<[c]))=decide (c<=122);rw[cj];simp[lv]
def Bs{x:Str}{i c:Nat}{g:Nat->V}(hc:x.cps[i]?=Za c):(x.cps.toList.take i).map g++[g c]=(x.cps.toList.take (i+1)).map g:=by
 have hc:x.cps.toList[i]?=Za c:=by simpa using hc
 rw[ei,hc,aD];rfl
abbrev vM:bX:=top 38
def GC:K' ["text"] ["text"] (mJ vM):=Ê
def low(c:Nat):Bool:=decide (97<=c)&&decide (c<=122)
def yN(x:Str):Bool:=decide (1<=x.length)&&decide (x.length<=8)&&x.cps.toList.all low
def zW:Sp:=λvs H Q _=>∃x,vs=[.str x]/\Nm x/\∀H',ZT H H'->Q (.bl (yN x)) H'
def GN(F:ý K "is_name" "is_name" vM f fd)(T:Txt K mg a):ZA P w K mg base (Z' P w) 1 f fd ["text"] zW:=by
 refine F.okN GC (λvs H Q E h=>?_) (λSc A outer s H vs Q E hr h=>?_)
 .let⟨x,rfl,_⟩:=h;rfl
 .let⟨x,rfl,nm,k⟩:=h;have hu:=o7 hr;refine⟨_,(@nq _ _ _ (@rE _ _ _ _ (@Mo _ _ _ _ _ _ _ (FE PH PH ZV (@oP _ _ _ _ _ _ _ _ _ ģ rfl T.á EV (@mR _ _ _ _ _ (pv 0) Y7 (by rfl)) `d `d (by rfl) (by rfl)) (qP rfl T.Ŏ T.Ň)) (@Ht _ _ _ _ _ (@oP _ _ _ _ _ _ _ _ _ FY rfl T.Ϝ MV (@mR _ _ _ _ _ (v6 (fr:=[]) (ix:=[]) rfl (by exact(show Ã ["text"] (mJ vM) _ _ _ _ from cok)) (QI (pv 0)) (λ_ _ _ _ _=>A8) (λ_ _ _ _ _=>(FE CU CU ĩ (pv 0) ĩ))) Y7 (by rfl)) `d `d (by rfl) (by rfl)))))),?_⟩;have R5:x.length<=aF:=aC nm.1 `d;refine⟨_,rfl,_,rfl,R5,_,_,rfl,rfl,_,rfl,wH (λh=>?_) (λh=>?_)⟩
  .have h1:(1:Int)<=(x.length:Int):=Zf h;refine⟨_,_,rfl,rfl,_,rfl,wH (λh=>?_) (λh=>?_)⟩
   .have h2:(x.length:Int)<=8:=Zf h;refine⟨_,rfl,x,rfl,λD hD=>?_⟩;refine IA (J:=Its x) x.cps.size (λi ys H'=>H'=upd H D (.lst ys)/\ys=(x.cps.toList.take i).map λc=>V.bl (low c)) ⟨rfl,rfl⟩ R5 (λi ys H' r=>by rw[r.1];exact mH) (λi ys H' hi _=>hi) ?_ ?_
    .rintro i ys H' v H'' hi ⟨rfl,rfl⟩ ⟨rfl,c,hc,rfl⟩ Kt Kf k1 k2
     have Sq:∀b,b=low c->Kt (V.bl b) (upd H D (.lst ((x.cps.toList.take i).map λc=>V.bl (low c)))):=λb hb=>by refine k1 _ _ mH ⟨by rw[xO],?_⟩;rw[hb,Bs hc]
     refine Ád ⟨_,rfl,_,_,rfl,rfl,_,rfl,wH (λh=>?_) (λh=>?_)⟩
     .refine⟨_,_,rfl,rfl,Sq _ ?_⟩;rw[CP] at h;rw[IP];unfold low;rw[h,i7]
     .apply Sq _;rw[CP] at h;unfold low;rw[gO.mpr h,iN]
    .rintro ys H' hl ⟨rfl,rfl⟩
     have e:List.take x.cps.size x.cps.toList=x.cps.toList:=ib (by simp);rw[e];refine⟨ak _,D,x.cps.toList.map low,rfl,ZU.of (by rw[mH,aH];rfl),rfl,?_⟩;have e2:(x.cps.toList.map low).all id=yN x:=by
      have h1:1<=x.length:=by lia
      have h2:x.length<=8:=by lia
      unfold yN;rw[Zg h1,Zg h2,List.all_map,i7,i7];rfl
     rw[e2];exact k _ (rQ hD)
   .have h2:¬x.length<=8:=λz=>h (Zg `l);have e2:false=yN x:=by unfold yN;rw[Zh h2,Bool.and_false,iN]
    show Q (.bl false) H;rw[e2];exact k _ λ_ _ z=>z
  .have h2:¬ 1<=x.length:=λz=>h (Zg `l);have e2:false=yN x:=by unfold yN;rw[Zh h2,iN,iN]
   refine⟨_,rfl,Ou ?_⟩;show Q (.bl false) H;rw[e2];exact k _ λ_ _ z=>z
abbrev uT:bX:=top 39
def Dt:K' ["number"] ["number"] (mJ uT):=Ê
def wT(a:Y9):Sp:=λvs H Q E=>∃n,vs=[.int n]/\(n<0->E (.ref a.į) Zb H)/\(0<=n->Q .Zn H)
def DF(F:ý K "need_loss" "need_loss" uT f fd)(T:Txt K mg a):ZA P w K mg base (Z' P w) 1 f fd ["number"] (wT a):=by
 refine F.okX Dt (λvs H Q E h=>?_) (λSc A outer s H vs Q E hr h=>?_)
 .let⟨x,rfl,_⟩:=h;rfl
 .let⟨n,rfl,k1,k2⟩:=h;have hu:=o7 hr;refine⟨_,(@nq _ _ _ (@xw _ _ _ _ _ _ _ _ (@vX _ _ _ _ _ _ _ _ PF (pv 0) ZV (wc _)) (@nq _ _ _ (qO T.Àj rfl T.Ϛ rfl ĩ Ad)) Ò)),?_⟩;refine⟨_,rfl,_,_,rfl,rfl,_,rfl,wH (λh=>?_) (λh=>?_)⟩
  .exact k1 (Zf h)
  .exact k2 (Int.not_lt.mp λz=>h (Zg z))
abbrev ve:bX:=oJ (top 40) 0
def DC:K' ["self"] ["self"] (mJ ve):=Ê
def Kz(dp dt dm dl dh dx):Å "held_of" (.ref dh) (Å "loss_of" (.ref dl) (Å "mark_of" (.ref dm) (Å "things_of" (.ref dt) (Å "people" (.ref dp) []))))=bf ⟨dx,dp,dt,dm,dl,dh⟩:=by simp[Å];rfl
structure Ů(C:ag)(H0 H:Hp)(p dx:ag)(fs:List (Str×V))(ds:List ag):Prop where
 ob:H p=Za (.ins C dx fs)
 dd:∀c∈ds,H c=Za (.dK [])
 fr:∀c∈ds,H0 c=Zb
 nd:(p::ds).Nodup
 kp:∀c o,H0 c=Za o->c≠p->H c=Za o
 len:fs.length<=ds.length
def Ů.at_(I:Ů C H0 H p dx fs ds)(h:H d=Zb):(upd H d (.dK [])) p=Za (.ins C dx fs):=by rw[mF (mQ I.ob h)];exact I.ob
def Ů.step{C}{H0 H}{p dx d}{fs}{ds}{f}(I:Ů C H0 H p dx fs ds)(h:H d=Zb) :
  Ů C H0 (upd (upd H d (.dK [])) p (.ins C dx (Å f (.ref d) fs))) p dx (Å f (.ref d) fs) (ds++[d]):=by
 have n1:=mQ I.ob h;let⟨m1,m2⟩:=aK.mp I.nd;have m3:d∉ds:=λz=>by rw[I.dd d z] at h;grind
 refine⟨mH,λc hc=>?_,λc hc=>?_,?_,λc o e hc=>?_,?_⟩
 .obtain hc|hc:=a7.mp hc
  .have c1:c≠p:=λz=>m1 `g;have c2:c≠d:=λz=>m3 `g;rw[mF c1,mF c2];exact I.dd c hc
  .rw[ax.mp hc,mF n1.symm,mH]
 .obtain hc|hc:=a7.mp hc
  .exact I.fr c hc
  .rw[ax.mp hc];cases q:H0 d with
   |none=>rfl
   |some o=>rw[I.kp d o q n1.symm] at h;grind
 .refine aK.mpr ⟨λz=>?_,Ab m2 m3⟩
  grind
 .rw[mF hc,mF (λz=>by rw[z] at e;rw[I.kp d o e (z▸hc)] at h;grind)];exact I.kp c o e hc
 .rw[aY];exact aC (vg _ _ _) (Nat.add_le_add_right I.len 1)
def Nz(K:aa)(C:ag):Sp:=λvs H Q _=>∃(p dx:ag),vs=[.ref p]/\H p=Za (.ins C dx [])/\∀z H',(∀c∈[z.dp,z.dt,z.dm,z.dl,z.dh],H c=Zb)->Zu K C H' p z [] []->(∀c o,H c=Za o->c≠p->H' c=Za o)->Q .Zn H'
def Ob(F:ý K "__init__" "Book.__init__" ve f fd)(T:Txt K mg a):ZA P w K mg base (Z' P w) 1 f fd ["self"] (Nz K a.Zo):=by
 refine F.okN DC (λvs H Q E h=>?_) (λSc A outer s H vs Q E hr h=>?_)
 .let⟨p,dx,rfl,_⟩:=h;rfl
 .let⟨p,dx,rfl,hp,k⟩:=h;have hu:=o7 hr;refine⟨_,(@m6 _ _ _ _ _ (zo (pv 0) é rfl) (@m6 _ _ _ _ _ (zo (pv 0) é rfl) (@m6 _ _ _ _ _ (zo (pv 0) é rfl) (@m6 _ _ _ _ _ (zo (pv 0) é rfl) (@nq _ _ _ (zo (pv 0) é rfl)))))),?_⟩;have I0:Ů a.Zo H H p dx [] []:=⟨hp,by simp,by simp,by simp,λc o e _=>e,ak _⟩;refine λdp h1=>⟨_,rfl,p,_,dx,_,rfl,I0.at_ h1,T.cl,T.ë,aW I0.len (show 0<1000 by decide),?_⟩;have I1:=I0.step (f:="people") h1;refine λdt h2=>⟨_,rfl,p,_,dx,_,rfl,I1.at_ h2,T.cl,T.ò,aW I1.len (show 1<1000 by decide),?_⟩;have I2:=I1.step (f:="things_of") h2;refine λdm h3=>⟨_,rfl,p,_,dx,_,rfl,I2.at_ h3,T.cl,T.Đ,aW I2.len (show 2<1000 by decide),?_⟩;have I3:=I2.step (f:="mark_of") h3;refine λdl h4=>⟨_,rfl,p,_,dx,_,rfl,I3.at_ h4,T.cl,T.đ,aW I3.len (show 3<1000 by decide),?_⟩;have I4:=I3.step (f:="loss_of") h4;refine λdh h5=>⟨_,rfl,p,_,dx,_,rfl,I4.at_ h5,T.cl,T.Z7,aW I4.len (show 4<1000 by decide),?_⟩;have I5:=I4.step (f:="held_of") h5;refine k ⟨dx,dp,dt,dm,dl,dh⟩ _ (λc hc=>I5.fr c (by simpa using hc)) ⟨?_,I5.dd dp (by simp),I5.dd dt (by simp),I5.dd dm (by simp),I5.dd dl (by simp),⟨[],I5.dd dh (by simp),.nil,iL⟩,λe he=>(by cases he),I5.nd,aV _,aV _⟩ I5.kp;rw[<-Kz];exact I5.ob
abbrev qM:bX:=oJ (top 40) 1
def xS:K' ["self","name"] ["self","name"] (mJ qM):=Ê
def uS(K:aa)(C:ag):Sp:=λvs H Q _=>∃b z R7 L x,vs=[.ref b,.str x]/\Zu K C H b z R7 L/\Q (.bl (qJ L x)) H
def E7(F:ý K "is_house" "Book.is_house" qM f fd)(T:Txt K mg a):ZA P w K mg base (Z' P w) 1 f fd ["self","name"] (uS K a.Zo):=by
 refine F.okN xS (λvs H Q E h=>?_) (λSc A outer s H vs Q E hr h=>?_)
 .let⟨b,z,R7,L,x,rfl,_⟩:=h;rfl
 .let⟨b,z,R7,L,x,rfl,B,k⟩:=h;have hu:=o7 hr;refine⟨_,(@nq _ _ _ (@rE _ _ _ _ (Mn (Mr hu (pv 1) (pC (pv 0) rfl))))),?_⟩;refine⟨_,rfl,_,rfl,b,_,_,_,_,rfl,B.ob,T.cl,T.Z7,wq z,_,_,rfl,B.hh.Áa x,?_⟩;rw[sL,dY];exact k
abbrev qi:bX:=oJ (top 40) 2
def wR:K' ["self","name"] ["self","name"] (mJ qi):=Ê
def tM(K:aa)(C:ag):Sp:=λvs H Q _=>∃b z R7 L x,vs=[.ref b,.str x]/\Zu K C H b z R7 L/\Q (.bl (qj R7 x||qJ L x)) H
def DH(F:ý K "is_holder" "Book.is_holder" qi f fd)(T:Txt K mg a)(SK:Mt P w K mg base a.Zo "is_house" 1 ["self","name"] (uS K a.Zo)):ZA P w K mg base (Z' P w) 2 f fd ["self","name"] (tM K a.Zo):=by
 refine F.okN wR (λvs H Q E h=>?_) (λSc A outer s H vs Q E hr h=>?_)
 .let⟨b,z,R7,L,x,rfl,_⟩:=h;rfl
 .let⟨b,z,R7,L,x,rfl,B,k⟩:=h;have hu:=o7 hr;refine⟨_,(@nq _ _ _ (@rE _ _ _ _ (@ÁE _ _ _ _ _ _ _ (Mn (Mr hu (pv 1) (pC (pv 0) rfl))) (@Ht _ _ _ _ _ (ur (pv 0) SK (hr.mono (by first|decide|lia)) sA (@mR _ _ _ _ _ (pv 1) Y7 (by rfl))))))),?_⟩;refine⟨_,rfl,_,rfl,b,_,_,_,_,rfl,B.ob,T.cl,T.ë,vR z,_,_,rfl,Æ.k (k:=aq x) B.pp,_,rfl,wH (λh=>?_) (λh=>?_)⟩
  .rw[sL,dY] at h;unfold qj at k
   simp_all
  .rw[sL,dY] at h;unfold qj at k;rw[gO.mpr h] at k;exact⟨_,rfl,b,_,_,rfl,B.ob,uL z,_,rfl,b,z,R7,L,x,rfl,B,k⟩
abbrev pV:bX:=oJ (top 40) 3
def ww:K' ["self","name"] ["self","name"] (mJ pV):=Ê
def qo(K:aa)(a:Y9):Sp:=λvs H Q E=>∃b z R7 L x,vs=[.ref b,.str x]/\Zu K a.Zo H b z R7 L/\Nm x/\(qJ L x=true->Q .Zn H)/\(qJ L x=false->E (.ref a.Í) Zb H)
def BR(F:ý K "need_house" "Book.need_house" pV f fd)(T:Txt K mg a)(SK:Mt P w K mg base a.Zo "is_house" 1 ["self","name"] (uS K a.Zo)):ZA P w K mg base (Z' P w) 2 f fd ["self","name"] (qo K a):=by
 refine F.okX ww (λvs H Q E h=>?_) (λSc A outer s H vs Q E hr h=>?_)
 .let⟨b,z,R7,L,x,rfl,_⟩:=h;rfl
 .let⟨b,z,R7,L,x,rfl,B,nm,k1,k2⟩:=h;have hu:=o7 hr;refine⟨_,(@nq _ _ _ (@xw _ _ _ _ _ _ _ _ (BI (w5 (ur (pv 0) SK (hr.mono (by first|decide|lia)) pN (@mR _ _ _ _ _ (pv 1) Y7 (by rfl))))) (@nq _ _ _ (qO T.Àf rfl T.ū rfl (GK (BJ (zp (pv 1) BL))) Ad)) Ò)),?_⟩;refine⟨_,rfl,b,_,_,rfl,B.ob,uL z,_,rfl,b,z,R7,L,x,rfl,B,_,rfl,wH (λh=>?_) (λh=>?_)⟩
  .exact⟨_,rfl,⟨x,rfl,nm⟩,λy=>k2 (nbT h)⟩
  .exact k1 (nbF h)
abbrev pI:bX:=oJ (top 40) 4
def vy:K' ["self","name"] ["self","name"] (mJ pI):=Ê
def re(K:aa)(a:Y9):Sp:=λvs H Q E=>∃b z R7 L x,vs=[.ref b,.str x]/\Zu K a.Zo H b z R7 L/\Nm x/\((qj R7 x||qJ L x)=true->Q .Zn H)/\((qj R7 x||qJ L x)=false->E (.ref a.ZQ) Zb H)
def zH(F:ý K "need_holder" "Book.need_holder" pI f fd)(T:Txt K mg a)(SC:Mt P w K mg base a.Zo "is_holder" 2 ["self","name"] (tM K a.Zo)):ZA P w K mg base (Z' P w) 3 f fd ["self","name"] (re K a):=by
 refine F.okX vy (λvs H Q E h=>?_) (λSc A outer s H vs Q E hr h=>?_)
 .let⟨b,z,R7,L,x,rfl,_⟩:=h;rfl
 .let⟨b,z,R7,L,x,rfl,B,nm,k1,k2⟩:=h;have hu:=o7 hr;refine⟨_,(@nq _ _ _ (@xw _ _ _ _ _ _ _ _ (BI (w5 (ur (pv 0) SC (hr.mono (by first|decide|lia)) pN (@mR _ _ _ _ _ (pv 1) Y7 (by rfl))))) (@nq _ _ _ (qO T.Ϩ rfl T.Ő rfl (GK (BJ (zp (pv 1) BL))) Ad)) Ò)),?_⟩;refine⟨_,rfl,b,_,_,rfl,B.ob,uL z,_,rfl,b,z,R7,L,x,rfl,B,_,rfl,wH (λh=>?_) (λh=>?_)⟩
  .exact⟨_,rfl,⟨x,rfl,nm⟩,λy=>k2 (nbT h)⟩
  .exact k1 (nbF h)
abbrev oX:bX:=oJ (top 40) 5
def uy:K' ["self","name"] ["self","name"] (mJ oX):=Ê
def sB(a:Y9)(R7:List Str)(L:List (Ent×ag))(x:Str):Option ag:=if yN x=false then Za a.œ else if(qj R7 x||qJ L x)=true then Za a.ϟ else Zb
def uR(K:aa)(a:Y9):Sp:=λvs H Q E=>∃b z R7 L x,vs=[.ref b,.str x]/\Zu K a.Zo H b z R7 L/\Nm x/\(sB a R7 L x=Zb->∀H',ZT H H'->Q .Zn H')/\(∀c,sB a R7 L x=Za c->∀H',ZT H H'->E (.ref c) Zb H')
def E6(F:ý K "need_new_name" "Book.need_new_name" oX f fd)(T:Txt K mg a)(T9:Fn P w K mg base "is_name" 1 ["text"] zW)(SC:Mt P w K mg base a.Zo "is_holder" 2 ["self","name"] (tM K a.Zo)):ZA P w K mg base (Z' P w) 3 f fd ["self","name"] (uR K a):=by
 refine F.okX uy (λvs H Q E h=>?_) (λSc A outer s H vs Q E hr h=>?_)
 .let⟨b,z,R7,L,x,rfl,_⟩:=h;rfl
 .let⟨b,z,R7,L,x,rfl,B,nm,k1,k2⟩:=h;have hu:=o7 hr;refine⟨_,(@m6 _ _ _ _ _ (@xw _ _ _ _ _ _ _ _ (BI (w5 (@xy _ _ _ _ _ _ _ _ _ _ _ T9 (hr.mono (by first|decide|lia)) rfl pN (@mR _ _ _ _ _ (pv 1) Y7 (by rfl)) `d (by rfl) (by rfl)))) (@nq _ _ _ (qO T.Ài rfl T.ϙ rfl (GK (BJ (zp (pv 1) BL))) Ad)) Ò) (@nq _ _ _ (@xw _ _ _ _ _ _ _ _ (w5 (ur (pv 0) SC (hr.mono (by first|decide|lia)) pN (@mR _ _ _ _ _ (pv 1) Y7 (by rfl)))) (@nq _ _ _ (qO T.ÀD rfl T.Àc rfl (GK (BJ (zp (pv 1) BL))) Ad)) Ò))),?_⟩;refine⟨_,rfl,x,rfl,nm,λH1 s1=>⟨_,rfl,wH (λh=>?_) (λh=>?_)⟩⟩
  .refine⟨_,rfl,⟨x,rfl,nm⟩,λy=>k2 _ ?_ H1 s1⟩;have h:=nbT h;unfold sB;rw[Zc h]
  .have h:=nbF h;have B1:=B.same s1;refine⟨_,rfl,b,_,_,rfl,B1.ob,uL z,_,rfl,b,z,R7,L,x,rfl,B1,_,rfl,wH (λh2=>?_) (λh2=>?_)⟩
   .refine⟨_,rfl,⟨x,rfl,nm⟩,λy=>k2 _ ?_ H1 s1⟩;unfold sB;rw[Zd (by rw[h];decide),Zc h2]
   .refine k1 ?_ H1 s1;unfold sB;rw[Zd (by rw[h];decide),Zd h2]
mutual
inductive D where
 |i (n:Int)
 |s (x:Str)
 |l (xs:DL)
 |t (xs:DL)
inductive DL where
 |nil
 |cons (x:D) (xs:DL)
end
mutual
def DAt(K:aa)(H:Hp):D->V->Prop
 |.i n,v=>v=.int n
 |.s x,v=>v=.str x
 |.l xs,v=>∃a vs,v=.ref a/\ZU K H a vs/\ϐ K H xs vs
 |.t xs,v=>∃a vs,v=.ref a/\â K H a vs/\ϐ K H xs vs
def ϐ(K:aa)(H:Hp):DL->List V->Prop
 |.nil,vs=>vs=[]
 |.cons x xs,vs=>∃v r,vs=v::r/\DAt K H x v/\ϐ K H xs r
end
def Ku{K}(s:ZT H H')(h:ZU K H a xs):ZU K H' a xs:=ZT.seq s h
def Fx{K}(s:ZT H H')(h:â K H a xs):â K H' a xs:=vU h λc o e _=>s c o e
mutual
theorem DAt.same{K}(s:ZT H H'):∀(d:D)(v:V),DAt K H d v->DAt K H' d v
 |.i n,v,h=>h
 |.s x,v,h=>h
 |.l xs,v,h=>by
  let⟨a,vs,e,q,r⟩:=h;exact⟨a,vs,e,Ku s q,ϐ.same s xs vs r⟩
 |.t xs,v,h=>by let⟨a,vs,e,q,r⟩:=h;exact⟨a,vs,e,Fx s q,ϐ.same s xs vs r⟩
theorem ϐ.same{K}(s:ZT H H'):∀(d:DL)(vs:List V),ϐ K H d vs->ϐ K H' d vs
 |.nil,vs,h=>h
 |.cons x xs,vs,h=>by let⟨v,r,e,h1,h2⟩:=h;exact⟨v,r,e,DAt.same s x v h1,ϐ.same s xs r h2⟩
end
def nI(l:List (Str×Int×Int))(n:Str):Str×Int×Int:=(l.find? λq=>decide (q.1=n)).getD (n,0,1)
def oZ(L:List (Ent×ag))(n:Str):Option (Ent×ag):=L.find? λe=>decide (e.1.nm=n)
def tf(h:oZ L n=Za e):e∈L:=List.mem_of_find?_eq_some h
abbrev su:bX:=oJ (top 40) 6
def zE:K' ["self","name"] ["self","name"] (mJ su):=Ê
def vY(a:Y9)(R7:List Str)(L:List (Ent×ag))(x:Str):Option ag:=match sB a R7 L x with
 |some c=>Za c
 |none=>if 6<=R7.length then Za a.ø else Zb
def CO(K:aa)(a:Y9):Sp:=λvs H Q E=>∃b z R7 L x,vs=[.ref b,.str x]/\Zu K a.Zo H b z R7 L/\Nm x /\
 (vY a R7 L x=Zb->∀H',Zu K a.Zo H' b z (R7++[x]) L->(∀c o,H c=Za o->c≠z.dp->H' c=Za o)->Q .Zn H')/\(∀c,vY a R7 L x=Za c->∀H',ZT H H'->E (.ref c) Zb H')
def yL(h:sB a R7 L x=Zb):yN x=true/\qj R7 x=false/\qJ L x=false:=by
 unfold sB at h
 grind
def Ji(F:ý K "person" "Book.person" su f fd)(T:Txt K mg a)(Sk:Mt P w K mg base a.Zo "need_new_name" 3 ["self","name"] (uR K a)):ZA P w K mg base (Z' P w) 4 f fd ["self","name"] (CO K a):=by
 refine F.okX zE (λvs H Q E h=>?_) (λSc A outer s H vs Q E hr h=>?_)
 .let⟨b,z,R7,L,x,rfl,_⟩:=h;rfl
 .let⟨b,z,R7,L,x,rfl,B,nm,k1,k2⟩:=h;have hu:=o7 hr;refine⟨_,(@m6 _ _ _ _ _ (@pU _ _ _ _ (ur (pv 0) Sk (hr.mono (by first|decide|lia)) pN (@mR _ _ _ _ _ (pv 1) Y7 (by rfl))) (by rfl)) (@m6 _ _ _ _ _ (@xw _ _ _ _ _ _ _ _ (@vX _ _ _ _ _ _ _ _ M7 (@oP _ _ _ _ _ _ _ _ _ Di rfl T.á EV (@mR _ _ _ _ _ (pC (pv 0) rfl) Y7 (by rfl)) `d `d (by rfl) (by rfl)) (qP rfl T.ō T.ņ) (wc _)) (@nq _ _ _ (qO T.š rfl T.ĭ rfl ĩ Ad)) Ò) (@nq _ _ _ (sN hu (pC (pv 0) rfl) (pv 1) ÀT rfl)))),?_⟩;refine⟨_,rfl,b,_,_,rfl,B.ob,uL z,_,rfl,b,z,R7,L,x,rfl,B,nm,λhd H1 s1=>?_,λc hc H1 s1=>?_⟩
  .have B1:=B.same s1;refine⟨_,rfl,b,_,_,_,_,rfl,B1.ob,T.cl,T.ë,vR z,_,_,rfl,B1.pp,_,_,rfl,rfl,_,rfl,wH (λh=>?_) (λh=>?_)⟩
   .refine k2 _ ?_ H1 s1;unfold vY
    grind
   .have h:¬(6:Int)<=((R7.map λn=>((aq n:Key),V.bl true)).length:Int):=λz=>h (Zg z);rw[ac] at h;have hl:R7.length<6:=by lia
    have T0:pL (R7.map λn=>((aq n:Key),V.bl true)) (aq x)=none:=by rw[sL (key:=λn=>n)];have:=(yL hd).2.1;unfold qj at this;rw[kB];exact ej.mp this |> eI.mp
    refine⟨_,rfl,b,_,_,_,_,rfl,B1.ob,T.cl,T.ë,vR z,_,rfl,_,_,rfl,Ė.k (k:=aq x) B1.pp (by rw[ac];exact aA hl (Zf rfl)),?_⟩;have Vq:vY a R7 L x=none:=by unfold vY;rw[hd];exact Zd `l
    refine k1 Vq _ ?_ λc o e hc=>by rw[mF hc];exact s1 c o e
    let⟨hb,Wl⟩:=aK.mp B1.nd;let⟨hp,hr2⟩:=aK.mp Wl;have ne:∀c,c∈z.dt::z.dm::z.dl::z.dh::L.map (·.2)->c≠z.dp:=λc hc e=>hp (e▸hc);refine⟨?_,?_,?_,?_,?_,?_,λe he=>?_,B1.nd,by rw[aY];simp;lia,B1.h8⟩
    .rw[mF (λe=>hb (by rw[e];simp))];exact B1.ob
    .rw[mH,vz _ T0,aD];rfl
    .rw[mF (ne _ (by simp))];exact B1.tt
    .rw[mF (ne _ (by simp))];exact B1.mm
    .rw[mF (ne _ (by simp))];exact B1.ll
    .exact B1.hh.keep λo h=>by rw[mF (ne _ (by simp))];exact h
    .refine(B1.he e he).keep (λo h=>?_) λc o h x=>?_
     .rw[mF (ne _ (by simp only[ap];right;right;right;right;exact ar.mpr ⟨e,he,rfl⟩))];exact h
     .rw[mF (EE h B1.pp (by rcases x with⟨xs,rfl|⟨ob,rfl⟩⟩<;>intro z<;>cases z))];exact h
  .refine k2 c ?_ H1 s1;unfold vY;rw[hc]
abbrev tX:bX:=oJ (top 40) 7
def BH:K' ["self","name","owner","things","mark","loss"] ["self","name","owner","things","mark","loss"] (mJ tX):=Ê
def tL(a:Y9)(R7:List Str)(L:List (Ent×ag))(x o:Str)(l:Int):Option ag:=match sB a R7 L x with
 |some c=>Za c
 |none=>if(qj R7 o||qJ L o)=false then Za a.ZQ else if l<0 then Za a.į else if 8<=L.length then Za a.ø else Zb
def Fu(K:aa)(a:Y9):Sp:=λvs H Q E=>∃b z R7 L x o t m l,vs=[.ref b,.str x,.str o,.int t,.int m,.int l]/\Zu K a.Zo H b z R7 L/\Nm x/\Nm o /\
 (tL a R7 L x o l=Zb->∀p H',H p=Zb->Zu K a.Zo H' b z R7 (L++[(⟨x,t,m,l,[(o,1,1)]⟩,p)])->(∀c u,H c=Za u->c∉[z.dt,z.dm,z.dl,z.dh]->H' c=Za u)->Q .Zn H')/\(∀c,tL a R7 L x o l=Za c->∀H',ZT H H'->E (.ref c) Zb H')
def qI(v:Ent×ag->V)(h:qJ L x=false):pL (L.map λe=>((aq e.1.nm:Key),v e)) (aq x)=none:=by rw[sL];rw[kB];exact ej.mp h |> eI.mp
def KW(F:ý K "house" "Book.house" tX f fd)(T:Txt K mg a)(Sk:Mt P w K mg base a.Zo "need_new_name" 3 ["self","name"] (uR K a))(Sh:Mt P w K mg base a.Zo "need_holder" 3 ["self","name"] (re K a))(Tx:Fn P w K mg base "need_loss" 1 ["number"] (wT a)):ZA P w K mg base (Z' P w) 4 f fd ["self","name","owner","things","mark","loss"] (Fu K a):=by
 refine F.okX BH (λvs H Q E h=>?_) (λSc A outer s H vs Q E hr h=>?_)
 .let⟨b,z,R7,L,x,o,t,m,l,rfl,_⟩:=h;rfl
 .let⟨b,z,R7,L,x,o,t,m,l,rfl,B,nm,no,k1,k2⟩:=h;have hu:=o7 hr;refine⟨_,(@m6 _ _ _ _ _ (@pU _ _ _ _ (ur (pv 0) Sk (hr.mono (by first|decide|lia)) pN (@mR _ _ _ _ _ (pv 1) Y7 (by rfl))) (by rfl)) (@m6 _ _ _ _ _ (@pU _ _ _ _ (ur (pv 0) Sh (hr.mono (by first|decide|lia)) pN (@mR _ _ _ _ _ (pv 2) Y7 (by rfl))) (by rfl)) (@m6 _ _ _ _ _ (@pU _ _ _ _ (@xy _ _ _ _ _ _ _ _ _ _ _ Tx (hr.mono (by first|decide|lia)) rfl pN (@mR _ _ _ _ _ (pv 5) Y7 (by rfl)) `d (by rfl) (by rfl)) (by rfl)) (@m6 _ _ _ _ _ (@xw _ _ _ _ _ _ _ _ (@vX _ _ _ _ _ _ _ _ M7 (@oP _ _ _ _ _ _ _ _ _ Di rfl T.á EV (@mR _ _ _ _ _ (pC (pv 0) rfl) Y7 (by rfl)) `d `d (by rfl) (by rfl)) (qP rfl T.ŝ T.Ŝ) (wc _)) (@nq _ _ _ (qO T.š rfl T.ĭ rfl ĩ Ad)) Ò) (@m6 _ _ _ _ _ (sN hu (pC (pv 0) rfl) (pv 1) (pv 3) rfl) (@m6 _ _ _ _ _ (sN hu (pC (pv 0) rfl) (pv 1) (pv 4) rfl) (@m6 _ _ _ _ _ (sN hu (pC (pv 0) rfl) (pv 1) (pv 5) rfl) (@nq _ _ _ (sN hu (pC (pv 0) rfl) (pv 1) (HZ (FC (pv 2) (qP rfl T.Âj T.Áy) HX) rfl rfl `d `d) rfl))))))))),?_⟩;refine⟨_,rfl,b,_,_,rfl,B.ob,uL z,_,rfl,b,z,R7,L,x,rfl,B,nm,λhd H1 s1=>?_,λc hc H1 s1=>?_⟩
  .have B1:=B.same s1;refine⟨_,rfl,b,_,_,rfl,B1.ob,uL z,_,rfl,b,z,R7,L,o,rfl,B1,no,λho=>?_,λho=>?_⟩
   .refine⟨_,rfl,l,rfl,λhl=>?_,λhl=>?_⟩
    .refine k2 _ ?_ H1 s1;unfold tL;rw[hd];show(if(qj R7 o||qJ L o)=false then Za a.ZQ else _)=_;rw[Zd (by rw[ho];decide),Zc hl]
    .let⟨Th,eh,ph,nh⟩:=B1.hh;have X5:Th.length=L.length:=by rw[ph.length_eq,ac]
     refine⟨_,rfl,b,_,_,_,_,rfl,B1.ob,T.cl,T.Z7,wq z,_,_,rfl,eh,_,_,rfl,rfl,_,rfl,wH (λh=>?_) (λh=>?_)⟩
     .refine k2 _ ?_ H1 s1;have h:(8:Int)<=(Th.length:Int):=Zf h;rw[X5] at h;unfold tL;rw[hd];show(if(qj R7 o||qJ L o)=false then Za a.ZQ else _)=_;rw[Zd (by rw[ho];decide),Zd `l,Zc `l]
     .have h:¬(8:Int)<=(Th.length:Int):=λz=>h (Zg z);rw[X5] at h;have Yo:L.length<8:=by lia
      have Vq:tL a R7 L x o l=none:=by unfold tL;rw[hd];show(if(qj R7 o||qJ L o)=false then Za a.ZQ else _)=_;rw[Zd (by rw[ho];decide),Zd `l,Zd `l]
      have hx:=(yL hd).2.2;have sz:∀{v:Ent×ag->V},(L.map λe=>((aq e.1.nm:Key),v e)).length<aF:=λ{v}=>by rw[ac];exact aA Yo `d
      let⟨hb,r1⟩:=aK.mp B1.nd;let⟨hp,r2⟩:=aK.mp r1;let⟨ht,r3⟩:=aK.mp r2;let⟨hm,r4⟩:=aK.mp r3;let⟨Xk,r5⟩:=aK.mp r4;let⟨hh,r6⟩:=aK.mp r5;refine⟨_,rfl,_,rfl,b,_,_,_,_,rfl,B1.ob,T.cl,T.ò,Dq z,_,rfl,_,_,rfl,Ė.k (k:=aq x) B1.tt sz,?_⟩;have Xu:b≠z.dt:=λe=>hb (by rw[e];simp);have Y2:b≠z.dm:=λe=>hb (by rw[e];simp);have b_l:b≠z.dl:=λe=>hb (by rw[e];simp);have b_h:b≠z.dh:=λe=>hb (by rw[e];simp);have p_t:z.dp≠z.dt:=λe=>hp (by rw[e];simp);have p_m:z.dp≠z.dm:=λe=>hp (by rw[e];simp);have p_l:z.dp≠z.dl:=λe=>hp (by rw[e];simp);have p_h:z.dp≠z.dh:=λe=>hp (by rw[e];simp);have XD:z.dt≠z.dm:=λe=>ht (by rw[e];simp);have XH:z.dt≠z.dl:=λe=>ht (by rw[e];simp);have t_h:z.dt≠z.dh:=λe=>ht (by rw[e];simp);have X1:z.dm≠z.dl:=λe=>hm (by rw[e];simp);have m_h:z.dm≠z.dh:=λe=>hm (by rw[e];simp);have l_h:z.dl≠z.dh:=λe=>Xk (by rw[e];simp);refine⟨_,rfl,_,rfl,b,_,_,_,_,rfl,(by rw[mF Xu];exact B1.ob),T.cl,T.Đ,ID z,_,rfl,_,_,rfl,Ė.k (k:=aq x) (by rw[mF XD.symm];exact B1.mm) sz,?_⟩;refine⟨_,rfl,_,rfl,b,_,_,_,_,rfl,(by rw[mF Y2,mF Xu];exact B1.ob),T.cl,T.đ,IE z,_,rfl,_,_,rfl,Ė.k (k:=aq x) (by rw[mF X1.symm,mF XH.symm];exact B1.ll) sz,?_⟩;intro p Ub;have e0:∀c,c≠z.dt->c≠z.dm->c≠z.dl->∀A B C,(upd (upd (upd H1 z.dt A) z.dm B) z.dl C) c=H1 c:=λc c1 c2 c3 A B C=>by rw[mF c3,mF c2,mF c1]
      have W6:p≠z.dt:=λe=>by rw[e,mF XH,mF XD,mH] at Ub;cases Ub
      have W7:p≠z.dm:=λe=>by rw[e,mF X1,mH] at Ub;cases Ub
      have W8:p≠z.dl:=λe=>by rw[e,mH] at Ub;cases Ub
      have TY:H1 p=none:=by rw[e0 p W6 W7 W8] at Ub;exact Ub
      have hp0:H p=none:=s1.free TY;have W9:p≠z.dh:=λe=>by rw[e,eh] at TY;cases TY
      have Xa:p≠b:=λe=>by rw[e,B1.ob] at TY;cases TY
      have q_p:p≠z.dp:=λe=>by rw[e,B1.pp] at TY;cases TY
      refine⟨_,rfl,mH,[(aq o,.ref a.ONE)],rfl,(show 1<=15 by decide),_,rfl,b,_,_,_,_,rfl,(by rw[mF Xa.symm,mF Xa.symm,e0 b Xu Y2 b_l];exact B1.ob),T.cl,T.Z7,wq z,_,rfl,_,_,rfl,Ė.k (k:=aq x) (by rw[mF W9.symm,mF W9.symm,e0 z.dh t_h.symm m_h.symm l_h.symm];exact eh) (by rw[X5];exact aA Yo `d),?_⟩;have WR:∀c,c≠p->c≠z.dh->c≠z.dt->c≠z.dm->c≠z.dl->∀A B C D E F,(upd (upd (upd (upd (upd (upd H1 z.dt A) z.dm B) z.dl C) p D) p E) z.dh F) c=H1 c:=λc c1 c2 c3 c4 c5 A B C D E F=>by rw[mF c2,mF c1,mF c1,mF c5,mF c4,mF c3]
      refine k1 Vq p _ hp0 ?_ λc u e hc=>?_
      .refine⟨?_,?_,?_,?_,?_,?_,λe he=>?_,?_,B1.p6,by rw[aY];exact Yo⟩
       .rw[WR b Xa.symm b_h Xu Y2 b_l];exact B1.ob
       .rw[WR z.dp q_p.symm p_h p_t p_m p_l];exact B1.pp
       .rw[mF t_h,mF W6.symm,mF W6.symm,mF XH,mF XD,mH,vz _ (qI _ hx),aD];rfl
       .rw[mF m_h,mF W7.symm,mF W7.symm,mF X1,mH,vz _ (qI _ hx),aD];rfl
       .rw[mF l_h,mF W8.symm,mF W8.symm,mH,vz _ (qI _ hx),aD];rfl
       .have hv:pL Th (aq x)=none:=by rw[Fj ph nh];exact qI _ hx
        refine⟨_,mH,?_,?_⟩
        .rw[vz _ hv,aD];exact ph.append_right _
        .rw[aD,aD,am,cX];refine Ab nh λhq=>?_;let⟨kv,hkv,ekv⟩:=ar.mp hq;have e1:=(zQ (k:=kv.1) (v:=kv.2) nh).mpr hkv;rw[ekv,qI _ hx] at e1;cases e1
       .obtain he|he:=a7.mp he
        .have VO:e.2∈L.map (·.2):=ar.mpr ⟨e,he,rfl⟩;have d1:e.2≠z.dh:=λq=>hh (q▸VO);have d2:e.2≠z.dt:=λq=>ht (by rw[<-q];simp only[ap];right;right;right;exact VO);have d3:e.2≠z.dm:=λq=>hm (by rw[<-q];simp only[ap];right;right;exact VO);have d4:e.2≠z.dl:=λq=>Xk (by rw[<-q];simp only[ap];right;exact VO);have d5:e.2≠p:=λq=>by let⟨ts,_,q2,_⟩:=B1.he e he;rw[q,TY] at q2;cases q2
         refine(B1.he e he).keep (λu h=>?_) λc u h y=>?_
         .rw[WR e.2 d5 d1 d2 d3 d4];exact h
         .have nt:∀{q:ag}{kv:List (Key×V)},H1 q=Za (.dK kv)->c≠q:=λhq=>EE h hq (by rcases y with⟨xs,rfl|⟨ob,rfl⟩⟩<;>intro z<;>cases z);rw[WR c (mQ h TY) (nt eh) (nt B1.tt) (nt B1.mm) (nt B1.ll)];exact h
        .rw[ax.mp he];refine⟨[a.ONE],rfl,?_,λq hq=>?_⟩
         .rw[mF W9,mH];rfl
         .rw[ax.mp hq];exact .inr T.one
       .have hpL:p∉L.map (·.2):=λhq=>by let⟨e,he,rfl⟩:=ar.mp hq;let⟨ts,_,q2,_⟩:=B1.he e he;rw[TY] at q2;cases q2
        have:=Ab (k:=p) B1.nd (by
         intro hq;simp only[ap] at hq;obtain e|e|e|e|e|e|e:=hq
         .exact Xa e
         .exact q_p e
         .exact W6 e
         .exact W7 e
         .exact W8 e
         .exact W9 e
         .exact hpL e)
        rw[aD];exact this
      .have e1:=s1 c u e;have c0:c≠p:=mQ e1 TY;simp only[ap,fP,or_false,not_or] at hc;rw[WR c c0 hc.2.2.2 hc.1 hc.2.1 hc.2.2.1];exact e1
   .refine k2 _ ?_ H1 s1;unfold tL;rw[hd];exact Zc ho
  .refine k2 c ?_ H1 s1;unfold tL;rw[hc]
def æ(K:aa)(H:Hp)(q:Str×Int×Int)(v:V):Prop:=∃t u,v=.ref t/\â K H t [.str q.1,.ref u]/\â K H u [.int q.2.1,.int q.2.2]
def æ.keep{K}(h:æ K H q v)(k:∀c o,H c=Za o->(∃xs,o=.tup xs\/∃ob,o=.Z5 ob (.tup xs))->H' c=Za o):æ K H' q v:=by let⟨t,u,e,h1,h2⟩:=h;exact⟨t,u,e,vU h1 k,vU h2 k⟩
def Nq(hp:H p=Za (.lst xs)):∀c o,H c=Za o->(∃xs,o=.tup xs\/∃ob,o=.Z5 ob (.tup xs))->(upd H p o') c=Za o:=λc o h x=>by rw[mF (EE h hp `g)];exact h
def Kc{l:List (Str×Int×Int)}{ts:List ag}(hl:ts.length=l.length){n:Str}(hn:n∈l.map (·.1)):∃q,(l.zip ts).find? (λq=>decide (q.1.1=n))=Za q/\q∈l.zip ts/\q.1=nI l n/\(nI l n).1=n:=by
 have e:(l.zip ts).map (·.1)=l:=jq `l;cases h:(l.zip ts).find? (λq=>decide (q.1.1=n)) with
 |none =>
  grind
 |some q =>
  have e2:l.find? (λq=>decide (q.1=n))=Za q.1:=by
   rw[<-e,gD];show((l.zip ts).find? (λq=>decide (q.1.1=n))).map (·.1)=Za q.1
   simp_all
  have e3:nI l n=q.1:=by unfold nI;rw[e2];rfl
  grind
def zV(K:aa)(C:ag):Sp:=λvs H Q _=>∃b z R7 L,vs=[.ref b]/\Zu K C H b z R7 L/\∀l,H l=Zb->Q (.ref l) (upd H l (.lst ((ZR R7).map V.str)))
abbrev rj:bX:=oJ (top 40) 12
def y9:K' ["self"] ["self"] (mJ rj):=Ê
def GM(F:ý K "persons" "Book.persons" rj f fd)(T:Txt K mg a):ZA P w K mg base (Z' P w) 1 f fd ["self"] (zV K a.Zo):=by
 refine F.okN y9 (λvs H Q E h=>?_) (λSc A outer s H vs Q E hr h=>?_)
 .let⟨b,z,R7,L,rfl,_⟩:=h;rfl
 .let⟨b,z,R7,L,rfl,B,k⟩:=h;have hu:=o7 hr;refine⟨_,(@nq _ _ _ (@rE _ _ _ _ (@oP _ _ _ _ _ _ _ _ _ (qX rfl) rfl T.ZZ vQ (@mR _ _ _ _ _ (pC (pv 0) rfl) Y7 (by rfl)) `d `d (by rfl) (by rfl)))),?_⟩;exact⟨_,rfl,b,_,_,_,_,rfl,B.ob,T.cl,T.ë,vR z,_,_,R7,rfl,.inl B.pp,by rw[aH];rfl,aW B.p6 `d,k⟩
def yn(K:aa)(C:ag):Sp:=λvs H Q _=>∃b z R7 L,vs=[.ref b]/\Zu K C H b z R7 L/\∀l,H l=Zb->Q (.ref l) (upd H l (.lst ((ZR (L.map (·.1.nm))).map V.str)))
abbrev sx:bX:=oJ (top 40) 13
def zF:K' ["self"] ["self"] (mJ sx):=Ê
def Jl(F:ý K "houses" "Book.houses" sx f fd)(T:Txt K mg a):ZA P w K mg base (Z' P w) 1 f fd ["self"] (yn K a.Zo):=by
 refine F.okN zF (λvs H Q E h=>?_) (λSc A outer s H vs Q E hr h=>?_)
 .let⟨b,z,R7,L,rfl,_⟩:=h;rfl
 .let⟨b,z,R7,L,rfl,B,k⟩:=h;have hu:=o7 hr;refine⟨_,(@nq _ _ _ (@rE _ _ _ _ (@oP _ _ _ _ _ _ _ _ _ (qX rfl) rfl T.ZZ vQ (@mR _ _ _ _ _ (pC (pv 0) rfl) Y7 (by rfl)) `d `d (by rfl) (by rfl)))),?_⟩;let⟨Th,ss,eh,ek,ps⟩:=B.hh.keys;rw[<-EY ps] at k;exact⟨_,rfl,b,_,_,_,_,rfl,B.ob,T.cl,T.Z7,wq z,_,_,ss,rfl,.inl eh,ek,by rw[ps.length_eq,ac];exact aW B.h8 (Zf rfl),k⟩
abbrev yr:bX:=oJ (top 40) 15
def GF:K' ["self","house"] ["self","house"] (mJ yr):=Ê
def Pt(K:aa)(a:Y9):Sp:=λvs H Q E=>∃b z R7 L x,vs=[.ref b,.str x]/\Zu K a.Zo H b z R7 L/\Nm x/\(∀e,oZ L x=Za e->∀t,H t=Zb->Q (.ref t) (upd H t (.tup [.int e.1.th,.int e.1.mr,.int e.1.ls])))/\(oZ L x=Zb->E (.ref a.Í) Zb H)
def Br(v:Ent×ag->V)(h:oZ L x=Za e):pL (L.map λe=>((aq e.1.nm:Key),v e)) (aq x)=Za (v e):=by rw[sL];unfold oZ at h;rw[h];rfl
def ÁM(F:ý K "of" "Book.of" yr f fd)(T:Txt K mg a)(Se:Mt P w K mg base a.Zo "need_house" 2 ["self","name"] (qo K a)):ZA P w K mg base (Z' P w) 3 f fd ["self","house"] (Pt K a):=by
 refine F.okX GF (λvs H Q E h=>?_) (λSc A outer s H vs Q E hr h=>?_)
 .let⟨b,z,R7,L,x,rfl,_⟩:=h;rfl
 .let⟨b,z,R7,L,x,rfl,B,nm,k1,k2⟩:=h;have hu:=o7 hr;refine⟨_,(@m6 _ _ _ _ _ (@pU _ _ _ _ (ur (pv 0) Se (hr.mono (by first|decide|lia)) pN (@mR _ _ _ _ _ (pv 1) Y7 (by rfl))) (by rfl)) (@nq _ _ _ (@rE _ _ _ _ (@vZ _ _ _ _ _ (@mR _ _ _ _ _ (@sO _ _ _ _ _ _ hu (pC (pv 0) rfl) (pv 1) (λ_ _=>rfl)) (@mR _ _ _ _ _ (@sO _ _ _ _ _ _ hu (pC (pv 0) rfl) (pv 1) (λ_ _=>rfl)) (@mR _ _ _ _ _ (@sO _ _ _ _ _ _ hu (pC (pv 0) rfl) (pv 1) (λ_ _=>rfl)) Y7 (by rfl)) (by rfl)) (by rfl)))))),?_⟩;refine⟨_,rfl,b,_,_,rfl,B.ob,uL z,_,rfl,b,z,R7,L,x,rfl,B,nm,λh=>?_,λh=>k2 ?_⟩
  .cases he:oZ L x with
   |none=>unfold qJ at h;unfold oZ at he;rw[he] at h;cases h
   |some e =>
    refine⟨_,rfl,b,_,_,_,_,rfl,B.ob,T.cl,T.ò,Dq z,_,rfl,_,_,rfl,?_,_,rfl,b,_,_,_,_,rfl,B.ob,T.cl,T.Đ,ID z,_,rfl,_,_,rfl,?_,_,rfl,b,_,_,_,_,rfl,B.ob,T.cl,T.đ,IE z,_,rfl,_,_,rfl,?_,(show 3<=aF by decide),λt ht=>k1 e he t ht⟩
    .have:=Æ.k (k:=aq x) B.tt;rw[Br _ he] at this;exact this
    .have:=Æ.k (k:=aq x) B.mm;rw[Br _ he] at this;exact this
    .have:=Æ.k (k:=aq x) B.ll;rw[Br _ he] at this;exact this
  .unfold qJ at h;unfold oZ;exact ej.mp h |> eI.mp
abbrev qr:bX:=oJ (top 40) 14
def Ă:K' ["self","house","held"] ["self","house"] (mJ qr):=Ê
def CN(K:aa)(a:Y9):Sp:=λvs H Q E=>∃b z R7 L x,vs=[.ref b,.str x]/\Zu K a.Zo H b z R7 L/\Nm x /\
 (∀e,oZ L x=Za e->e.1.held.length<64/\∀l ys H',H l=Zb->ZT H H'->H' l=Za (.lst ys)->fk (æ K H') ((ZR (e.1.held.map (·.1))).map (nI e.1.held)) ys->Q (.ref l) H')/\(oZ L x=Zb->E (.ref a.Í) Zb H)
def Jh(F:ý K "shares" "Book.shares" qr f fd)(T:Txt K mg a)(Se:Mt P w K mg base a.Zo "need_house" 2 ["self","name"] (qo K a)):ZA P w K mg base (Z' P w) 3 f fd ["self","house"] (CN K a):=by
 refine F.okX Ă (λvs H Q E h=>?_) (λSc A outer s H vs Q E hr h=>?_)
 .let⟨b,z,R7,L,x,rfl,_⟩:=h;rfl
 .let⟨b,z,R7,L,x,rfl,B,nm,k1,k2⟩:=h;have hu:=o7 hr;refine⟨_,(@m6 _ _ _ _ _ (@pU _ _ _ _ (ur (pv 0) Se (hr.mono (by first|decide|lia)) pN (@mR _ _ _ _ _ (pv 1) Y7 (by rfl))) (by rfl)) (@m6 _ _ _ _ _ (@tJ _ _ (2) _ _ _ _ Ă.nd rfl (gR rfl) (@sO _ _ _ _ _ _ hu (pC (pv 0) rfl) (pv 1) (λ_ _=>rfl)) (by rfl) (by first|exact .inl rfl|exact .inr rfl|assumption)) (@nq _ _ _ (@rE _ _ _ _ (v6 (fr:=["held"]) (ix:=[2]) rfl (by exact(show Ã ["self","house","held"] (mJ qr) _ _ _ _ from cok)) (NS (@oP _ _ _ _ _ _ _ _ _ (qX rfl) rfl T.ZZ vQ (@mR _ _ _ _ _ (pv 2) Y7 (by rfl)) `d `d (by rfl) (by rfl))) (λ_ _ _ _ _=>A8) (λ_ _ _ _ _=>(vZ (mR (pv 0) (mR (sO hu (pv 1) (pv 0) (λ_ _=>rfl)) Y7))))))))),?_⟩;refine⟨_,rfl,b,_,_,rfl,B.ob,uL z,_,rfl,b,z,R7,L,x,rfl,B,nm,λh=>?_,λh=>k2 ?_⟩
  .cases he:oZ L x with
   |none=>unfold qJ at h;unfold oZ at he;rw[he] at h;cases h
   |some e =>
    let⟨UY,k1⟩:=k1 e he;let⟨ts,hl,hd,hts⟩:=B.he e (tf he);have Ws:(((e.1.held.zip ts).map λq=>((aq q.1.1:Key),V.ref q.2)).map (·.1))=(e.1.held.map (·.1)).map aq:=by
     rw[aH,aH];have e1:(e.1.held.zip ts).map (·.1)=e.1.held:=jq `l
     conv=>rhs;rw[<-e1,aH]
     rfl
    refine⟨_,rfl,b,_,_,_,_,rfl,B.ob,T.cl,T.Z7,wq z,_,rfl,_,.ref e.2,rfl,?_,_,rfl,e.2,_,e.1.held.map (·.1),rfl,.inl hd,Ws,by rw[ac];exact UY,λl Vh=>?_⟩
    .have:=B.hh.Áa x;rw[Br _ he] at this;exact this
    .refine⟨l,rfl,⟨_,ZU.of mH⟩,λD hD=>?_⟩;have lD:l≠D:=mQ mH hD;have YM:H D=none:=by rw[mF lD.symm] at hD;exact hD
     have hDp:e.2≠D:=mQ hd YM;refine IA (J:=Itl K l) (ZR (e.1.held.map (·.1))).length (λi ys H'=>ZT H H'/\H' D=Za (.lst ys)/\H' l=Za (.lst ((ZR (e.1.held.map (·.1))).map V.str))/\fk (æ K H') (((ZR (e.1.held.map (·.1))).take i).map (nI e.1.held)) ys)
      ⟨?_,mH,?_,.nil⟩ ?_ (λi ys H' r=>r.2.1) (λi ys H' hi r=>⟨_,.str ((ZR (e.1.held.map (·.1)))[i]),ZU.of r.2.2.1,by simp[hi]⟩) ?_ ?_
     .exact(rQ Vh).trans (rQ hD)
     .rw[mF lD,mH]
     .rw[wz,ac];exact aC (fI UY) (Zf rfl)
     .rintro i ys Hx v H' hi ⟨s1,h1,h2,h3⟩ ⟨rfl,hy⟩ Kt Kf q1 q2
      have hv:=hy _ (ZU.of h2);have ev:v=.str ((ZR (e.1.held.map (·.1)))[i]):=by rw[aG,ay hi] at hv;exact(bL hv).symm
      subst ev;have Vg:(ZR (e.1.held.map (·.1)))[i]∈e.1.held.map (·.1):=(mW _).mem_iff.mp (cZ hi);let⟨q,f1,f2,f3,f4⟩:=Kc hl Vg;have UD:pL ((e.1.held.zip ts).map λq=>((aq q.1.1:Key),V.ref q.2)) (aq ((ZR (e.1.held.map (·.1)))[i]))=Za (.ref q.2):=by rw[sL (key:=λq:(Str×Int×Int)×ag=>q.1.1),f1];rfl
      refine Ád ⟨_,rfl,_,rfl,_,rfl,e.2,.ref q.2,rfl,?_,(show 2<=aF by decide),λp hp=>?_⟩
      .have:=Æ.k (k:=aq ((ZR (e.1.held.map (·.1)))[i])) (s1 _ _ hd);rw[UD] at this;exact this
      .have pD:D≠p:=mQ h1 hp;have pl:l≠p:=mQ h2 hp;refine q1 _ _ (by rw[mF pD];exact h1) ⟨?_,mH,?_,?_⟩
       .intro c o hc;rw[mF (λz=>by rw[z] at hc;rw[YM] at hc;cases hc),mF (mQ (s1 c o hc) hp)];exact s1 c o hc
       .rw[mF lD,mF pl];exact h2
       .have kp:∀c o,H' c=Za o->(∃xs,o=.tup xs\/∃ob,o=.Z5 ob (.tup xs))->(upd (upd H' p (.tup [.str ((ZR (e.1.held.map (·.1)))[i]),.ref q.2])) D (.lst (ys++[.ref p]))) c=Za o:=λc o hc x=>by rw[Nq (xs:=ys) (by rw[mF pD];exact h1) c o (by rw[mF (mQ hc hp)];exact hc) x]
        have e5:((ZR (e.1.held.map (·.1))).take (i+1)).map (nI e.1.held)=((ZR (e.1.held.map (·.1))).take i).map (nI e.1.held)++[nI e.1.held ((ZR (e.1.held.map (·.1)))[i])]:=by rw[ei,ay hi,aD];rfl
        rw[e5];refine kO (fk.ÀM h3 λq v hq=>hq.keep kp) ⟨p,q.2,rfl,?_,?_⟩
        .apply â.of;rw[mF pD.symm,mH,f4]
        .rw[<-f3];exact vU (hts q f2) λc o hc x=>kp c o (s1 c o hc) x
     .rintro ys H' hy ⟨s1,h1,h2,h3⟩
      refine⟨⟨_,ZU.of h2,by rw[ac];exact ak _⟩,k1 D ys H' YM s1 h1 ?_⟩;rw[jp] at h3;exact h3
  .unfold qJ at h;unfold oZ;exact ej.mp h |> eI.mp
end My
namespace L2
open PySem PySem.Spec PyProof.Rows
def Â5(K:aa):R2:=λx y H Q=>∃p q xs ys,x=.ref p/\y=.ref q/\â K H p xs/\â K H q ys/\xs.length=ys.length/\xs.all uu=true/\ys.all uu=true/\Q (.bl (OK xs ys)) H
def QX(hu:X.A.units<fB):Û X (bN .Eq) (Â5 X.K):=by
 rintro R1 s O H x y v u Q I rx ry ⟨p,q,xs,ys,rfl,rfl,hp,hq,hl,fx,fy,k⟩
 cases rx;cases ry;let⟨its,r,pl,_⟩:=I.tuple hp;let⟨Tp,r2,pl2,_⟩:=I.tuple hq;have e1:=r.length;have e2:=r2.length;refine SeqAt.eq_tupleAt pl pl2 hu (GV r r2 hl fx fy) ⟨.bl _,H,I,rfl,?_⟩;have e3:its.toArray.size=Tp.toArray.size:=by simp;lia
 rw[e3,Nat.min_self,beq_self_eq_true,Bool.and_true,bi,<-e2,<-hl,<-FS hl];exact k
end L2
namespace My
open PySem L2 Fra
def FN(x y)(h:0<y):aI y (x%y)=aI x y:=by
 have e:x%y=x-(x/y)*y:=by rw[Int.emod_def,bR]
 rw[e,Int.gcd_comm,Int.gcd_sub_mul_right_left]
def Ll(h:0<=x):(aI x 0:Int)=x:=by rw[Int.gcd_zero_right];lia
structure Sz(q:Int×Int):Prop where
 low:ħ q
 bt:Bt 8900 q.1
 bb:Bt 8900 q.2
def ú(K:aa)(H:Hp)(p:ag)(q:Int×Int):Prop:=â K H p [.int q.1,.int q.2]
def ú.same{K}(h:ú K H p q)(s:ZT H H'):ú K H' p q:=Fx s h
abbrev qh:bX:=top 18
def ZX:K' ["number","other","rest"] ["number","other"] (mJ qh):=Ê
def Hq:Sp:=λvs H Q _=>∃n m,vs=[.int n,.int m]/\0<m/\Q (.int (aI n m)) H
def Q2(F:ý K "common_divisor" "common_divisor" qh f fd)(T:Txt K mg a):ZA P w K mg base (Z' P w) 1 f fd ["number","other"] Hq:=by
 refine F.okN ZX (λvs H Q E h=>?_) (λSc A outer s H vs Q E hr h=>?_)
 .let⟨n,m,rfl,_⟩:=h;rfl
 .let⟨n,m,rfl,hm,k⟩:=h;have hu:=o7 hr;refine⟨_,(@m6 _ _ _ _ _ (FB eK (@vX _ _ _ _ _ _ _ _ ÁI (pv 1) ZV (wc _)) (@m6 _ _ _ _ _ (@tJ _ _ (2) _ _ _ _ ZX.nd rfl (eL rfl) (@uD _ _ _ _ _ _ _ _ Mu (pv 0) (pv 1)) (by rfl) (by first|exact .inl rfl|exact .inr rfl|assumption)) (@m6 _ _ _ _ _ (@tJ _ _ (0) _ _ _ _ ZX.nd rfl (eL rfl) (pv 1) (by rfl) (by first|exact .inl rfl|exact .inr rfl|assumption)) (@nq _ _ _ (@tJ _ _ (1) _ _ _ _ ZX.nd rfl (eL rfl) (pv 2) (by rfl) (by first|exact .inl rfl|exact .inr rfl|assumption)))))) (@nq _ _ _ (@rE _ _ _ _ (pv 0)))),?_⟩;refine⟨λc O H'=>H'=H/\∃x y v,O=[Za (.int x),Za (.int y),v]/\0<=y/\c=y.toNat/\aI x y=aI n m/\(y=0->0<=x),⟨_,rfl,n,m,_,rfl,by lia,rfl,rfl,by lia⟩,?_⟩
  rintro c O H' ⟨rfl,x,y,v,rfl,hy,rfl,hg,hx⟩
  refine⟨_,rfl,rfl,_,rfl,wH (λh=>?_) (λh=>?_)⟩
  .have Wg:0<y:=by
    grind
   refine⟨λZG H''=>H''=H'/\∃v',ZG=[Za (.int y),Za (.int (x%y)),v'],?_,?_⟩
   .rintro ZG H'' ⟨rfl,v',rfl⟩
    have m0:=fj x (show y≠0 by lia);have m1:=dU x Wg;exact⟨(x%y).toNat,by lia,rfl,_,_,_,rfl,m0,rfl,(FN x y Wg).trans hg,λ_=>hy⟩
   .exact⟨_,rfl,_,rfl,_,_,rfl,rfl,Wg,_,rfl,_,rfl,rfl,_,rfl⟩
  .have Wg:=V.int.inj (Zf (nbF h));subst Wg;refine⟨_,rfl,?_⟩;rw[Ll (hx rfl) |>.symm,hg];exact k
abbrev Hr:bX:=top 20
def Ļ:K' ["first","second","common","top","shared"] ["first","second"] (mJ Hr):=Ê
def zU(K:aa):Sp:=λvs H Q _=>∃p1 p2 q1 q2,vs=[.ref p1,.ref p2]/\ú K H p1 q1/\ú K H p2 q2/\Sz q1/\Sz q2/\∀x,H x=Zb->Q (.ref x) (upd H x (.tup [.int (oS q1 q2).1,.int (oS q1 q2).2]))
def Oa(F:ý K "plus" "plus" Hr f fd)(T:Txt K mg a)(Ss:Fn P w K mg base "common_divisor" 1 ["number","other"] Hq):ZA P w K mg base (Z' P w) 2 f fd ["first","second"] (zU K):=by
 refine F.okN Ļ (λvs H Q E h=>?_) (λSc A outer s H vs Q E hr h=>?_)
 .let⟨p1,p2,q1,q2,rfl,_⟩:=h;rfl
 .let⟨p1,p2,⟨t1,b1⟩,⟨t2,b2⟩,rfl,h1,h2,s1,s2,k⟩:=h;have hu:=o7 hr;refine⟨_,(@m6 _ _ _ _ _ (@tJ _ _ (2) _ _ _ _ Ļ.nd rfl (eL rfl) (@xy _ _ _ _ _ _ _ _ _ _ _ Ss (hr.mono (by first|decide|lia)) rfl sA (@mR _ _ _ _ _ (@sW _ _ _ _ _ _ _ Z8 (pv 0) ZV (λ_ _=>rfl)) (@mR _ _ _ _ _ (@sW _ _ _ _ _ _ _ Z8 (pv 1) ZV (λ_ _=>rfl)) Y7 (by rfl)) (by rfl)) `d (by rfl) (by rfl)) (by rfl) (by first|exact .inl rfl|exact .inr rfl|assumption)) (@m6 _ _ _ _ _ (@tJ _ _ (3) _ _ _ _ Ļ.nd rfl (eL rfl) (@uD _ _ _ _ _ _ _ _ Àr (@uD _ _ _ _ _ _ _ _ ć (@sW _ _ _ _ _ _ _ Z8 (pv 0) ZV (λ_ _=>rfl)) (@uD _ _ _ _ _ _ _ _ tK (@sW _ _ _ _ _ _ _ Z8 (pv 1) ZV (λ_ _=>rfl)) (pv 2))) (@uD _ _ _ _ _ _ _ _ ć (@sW _ _ _ _ _ _ _ Z8 (pv 1) ZV (λ_ _=>rfl)) (@uD _ _ _ _ _ _ _ _ tK (@sW _ _ _ _ _ _ _ Z8 (pv 0) ZV (λ_ _=>rfl)) (pv 2)))) (by rfl) (by first|exact .inl rfl|exact .inr rfl|assumption)) (@m6 _ _ _ _ _ (@tJ _ _ (4) _ _ _ _ Ļ.nd rfl (eL rfl) (@xy _ _ _ _ _ _ _ _ _ _ _ Ss (hr.mono (by first|decide|lia)) rfl sA (@mR _ _ _ _ _ (pv 3) (@mR _ _ _ _ _ (pv 2) Y7 (by rfl)) (by rfl)) `d (by rfl) (by rfl)) (by rfl) (by first|exact .inl rfl|exact .inr rfl|assumption)) (@nq _ _ _ (@rE _ _ _ _ (@vZ _ _ _ _ _ (@mR _ _ _ _ _ (@uD _ _ _ _ _ _ _ _ tK (pv 3) (pv 4)) (@mR _ _ _ _ _ (@uD _ _ _ _ _ _ _ _ ć (@uD _ _ _ _ _ _ _ _ tK (@sW _ _ _ _ _ _ _ Z8 (pv 0) ZV (λ_ _=>rfl)) (pv 2)) (@uD _ _ _ _ _ _ _ _ tK (@sW _ _ _ _ _ _ _ Z8 (pv 1) ZV (λ_ _=>rfl)) (pv 4))) Y7 (by rfl)) (by rfl)))))))),?_⟩;rw[<-Pl s1.low s2.low] at k;have b10:0<b1:=s1.low.1;have b20:0<b2:=s2.low.1;have hd:0<aI b1 b2:=bw _ `l;have WI:(0:Int)<(aI b1 b2:Int):=by lia
  have bd:Bt 8900 (aI b1 b2:Int):=s1.bb.dvd (show b1≠0 by lia) (fZ ..);have ld:=(bd.mono `d).log WI;refine⟨_,rfl,p1,_,1,_,rfl,rfl,h1,nT rfl,_,rfl,p2,_,1,_,rfl,rfl,h2,nT rfl,b1,b2,rfl,b20,?_⟩;refine⟨_,rfl,p1,_,0,_,rfl,rfl,h1,nT rfl,_,rfl,p2,_,1,_,rfl,rfl,h2,nT rfl,_,rfl,_,_,rfl,rfl,⟨WI,ld⟩,_,_,rfl,rfl,⟨s1.bt.mono `d,(s2.bb.div).mono `d⟩,?_⟩;refine⟨_,rfl,p2,_,0,_,rfl,rfl,h2,nT rfl,_,rfl,p1,_,1,_,rfl,rfl,h1,nT rfl,_,rfl,_,_,rfl,rfl,⟨WI,ld⟩,_,_,rfl,rfl,⟨s2.bt.mono `d,(s1.bb.div).mono `d⟩,_,_,rfl,rfl,?_⟩;have he:0<aI (t1*(b2/(aI b1 b2:Int))+t2*(b1/(aI b1 b2:Int))) (aI b1 b2:Int):=bw _ `l;have Yw:(0:Int)<(aI (t1*(b2/(aI b1 b2:Int))+t2*(b1/(aI b1 b2:Int))) (aI b1 b2:Int):Int):=by lia
  have be:Bt 8900 (aI (t1*(b2/(aI b1 b2:Int))+t2*(b1/(aI b1 b2:Int))) (aI b1 b2:Int):Int):=bd.dvd `l (b8 ..);have le:=(be.mono `d).log Yw;refine⟨_,rfl,_,rfl,_,_,rfl,WI,?_⟩;refine⟨_,rfl,_,rfl,_,_,rfl,rfl,⟨Yw,le⟩,_,rfl,p1,_,1,_,rfl,rfl,h1,nT rfl,_,rfl,_,_,rfl,rfl,⟨WI,ld⟩,_,rfl,p2,_,1,_,rfl,rfl,h2,nT rfl,_,rfl,_,_,rfl,rfl,⟨Yw,le⟩,_,_,rfl,rfl,⟨(s1.bb.div).mono `d,(s2.bb.div).mono `d⟩,(show 2<=aF by decide),λx hx=>?_⟩;exact k x hx
abbrev Ea:bX:=top 21
def Ks:K' ["first","second"] ["first","second"] (mJ Ea):=Ê
def Ft(K:aa):Sp:=λvs H Q _=>∃p1 p2 q1 q2,vs=[.ref p1,.ref p2]/\ú K H p1 q1/\ú K H p2 q2/\Sz q1/\Sz q2/\∀x H',H x=Zb->ZT H H'->H' x=Za (.tup [.int (oS q1 (-q2.1,q2.2)).1,.int (oS q1 (-q2.1,q2.2)).2])->Q (.ref x) H'
theorem Sz.neg(h:Sz q):Sz (-q.1,q.2):=⟨⟨h.low.1,by have:=h.low.2;unfold ř aI at *;simp[iT];exact this⟩,h.bt.neg,h.bb⟩
def KU(F:ý K "minus" "minus" Ea f fd)(T:Txt K mg a)(TN:Fn P w K mg base "plus" 2 ["first","second"] (zU K)):ZA P w K mg base (Z' P w) 3 f fd ["first","second"] (Ft K):=by
 refine F.okN Ks (λvs H Q E h=>?_) (λSc A outer s H vs Q E hr h=>?_)
 .let⟨p1,p2,q1,q2,rfl,_⟩:=h;rfl
 .let⟨p1,p2,⟨t1,b1⟩,⟨t2,b2⟩,rfl,h1,h2,s1,s2,k⟩:=h;have hu:=o7 hr;refine⟨_,(@nq _ _ _ (@rE _ _ _ _ (@xy _ _ _ _ _ _ _ _ _ _ _ TN (hr.mono (by first|decide|lia)) rfl sA (@mR _ _ _ _ _ (pv 0) (@mR _ _ _ _ _ (@vZ _ _ _ _ _ (@mR _ _ _ _ _ (@PD _ _ _ _ _ _ L7 (@sW _ _ _ _ _ _ _ Z8 (pv 1) ZV (λ_ _=>rfl))) (@mR _ _ _ _ _ (@sW _ _ _ _ _ _ _ Z8 (pv 1) ZV (λ_ _=>rfl)) Y7 (by rfl)) (by rfl))) Y7 (by rfl)) (by rfl)) `d (by rfl) (by rfl)))),?_⟩;refine⟨_,rfl,_,rfl,p2,_,0,_,rfl,rfl,h2,nT (j:=0) rfl,_,rfl,_,rfl,p2,_,1,_,rfl,rfl,h2,nT (j:=1) rfl,(show 2<=aF by decide),λy hy=>?_⟩;have sy:=rQ (o:=.tup [.int (-t2),.int b2]) hy;refine⟨p1,y,(t1,b1),(-t2,b2),rfl,h1.same sy,â.of mH,s1,s2.neg,λx hx=>?_⟩;refine k x _ (sy.free hx) (sy.trans (rQ hx)) mH
abbrev wB:bX:=top 22
def E2:K' ["first","second"] ["first","second"] (mJ wB):=Ê
def Fv(K:aa):Sp:=λvs H Q _=>∃p1 p2 q1 q2,vs=[.ref p1,.ref p2]/\ú K H p1 q1/\ú K H p2 q2/\Sz q1/\Sz q2/\Q (.bl (decide (q1.1*q2.2>q2.1*q1.2))) H
def KY(F:ý K "is_above" "is_above" wB f fd)(T:Txt K mg a):ZA P w K mg base (Z' P w) 1 f fd ["first","second"] (Fv K):=by
 refine F.okN E2 (λvs H Q E h=>?_) (λSc A outer s H vs Q E hr h=>?_)
 .let⟨p1,p2,q1,q2,rfl,_⟩:=h;rfl
 .let⟨p1,p2,⟨t1,b1⟩,⟨t2,b2⟩,rfl,h1,h2,s1,s2,k⟩:=h;have hu:=o7 hr;refine⟨_,(@nq _ _ _ (@rE _ _ _ _ (@Ia _ _ _ _ _ _ _ _ PK (@uD _ _ _ _ _ _ _ _ ć (@sW _ _ _ _ _ _ _ Z8 (pv 0) ZV (λ_ _=>rfl)) (@sW _ _ _ _ _ _ _ Z8 (pv 1) ZV (λ_ _=>rfl))) (@uD _ _ _ _ _ _ _ _ ć (@sW _ _ _ _ _ _ _ Z8 (pv 1) ZV (λ_ _=>rfl)) (@sW _ _ _ _ _ _ _ Z8 (pv 0) ZV (λ_ _=>rfl))) (wc _)))),?_⟩;refine⟨_,rfl,p1,_,0,_,rfl,rfl,h1,nT rfl,_,rfl,p2,_,1,_,rfl,rfl,h2,nT rfl,_,_,rfl,rfl,⟨s1.bt.mono `d,s2.bb.mono `d⟩,_,rfl,p2,_,0,_,rfl,rfl,h2,nT rfl,_,rfl,p1,_,1,_,rfl,rfl,h1,nT rfl,_,_,rfl,rfl,⟨s2.bt.mono `d,s1.bb.mono `d⟩,_,_,rfl,rfl,?_⟩;exact k
structure Two(q1 q2:Int×Int):Prop where
 p1:0<q1.2
 p2:0<q2.2
 t1:Bt 9000 q1.1
 t2:Bt 9000 q2.1
 b1:Bt 9000 q1.2
 b2:Bt 9000 q2.2
 bb:Bt 9000 (q1.2*q2.2)
abbrev Hl:=List (Str×Int×Int)
def mU(l:Hl)(n:Str):Int×Int:=(nI l n).2
def oR(l:Hl)(n:Str)(q:Int×Int):Hl:=if(l.any λx=>decide (x.1=n))=true then l.map (λx=>if x.1=n then(n,q) else x) else l++[(n,q)]
def oB(l:Hl)(n:Str):Hl:=l.filter λx=>decide (x.1≠n)
def Ï(K:aa)(H:Hp)(p:ag)(l:Hl)(z:List ((Str×Int×Int)×ag)):Prop :=
 z.map (·.1)=l/\H p=Za (.dK (z.map λq=>(aq q.1.1,V.ref q.2)))/\∀q∈z,ú K H q.2 q.1.2
def HeldAt.toZ{K}(h:HeldAt K H p l):∃z,Ï K H p l z:=by let⟨ts,hl,hd,ht⟩:=h;exact⟨l.zip ts,jq `l,hd,ht⟩
theorem yh:∀z:List (α×β),(z.map (·.1)).zip (z.map (·.2))=z
 |[]=>rfl
 |x::r=>congrArg (x::·) (yh r)
def Ï.held{K}(h:Ï K H p l z):HeldAt K H p l:=by
 let⟨rfl,hd,ht⟩:=h;refine⟨z.map (·.2),by rw[ac,ac],?_,?_⟩
 .rw[yh];exact hd
 .rw[yh];exact ht
def EH{K}(hp:H p=Za (.dK R3))(h:ú K H x q):ú K (upd H p o) x q :=
 vU h λc u e y=>by rw[mF (EE e hp `g)];exact e
def Ï.val{K}(h:Ï K H p l z)(n) :
  (n∉l.map (·.1)/\pL (z.map λq=>((aq q.1.1:Key),V.ref q.2)) (aq n)=Zb/\mU l n=(0,1))\/(n∈l.map (·.1)/\∃x,pL (z.map λq=>((aq q.1.1:Key),V.ref q.2)) (aq n)=Za (.ref x)/\ú K H x (mU l n)):=by
 let⟨rfl,hd,ht⟩:=h;rw[sL];unfold mU nI;rw[gD];have e:((λq:Str×Int×Int=>decide (q.1=n))∘λx:(Str×Int×Int)×ag=>x.1)=λx=>decide (x.1.1=n):=rfl;rw[e];cases hf:z.find? (λx=>decide (x.1.1=n)) with
 |none =>
  left
  grind
 |some q =>
  right
  grind
def Ï.put{K}(h:Ï K H p l z)(hx:ú K H x q) :
  ∃z',Ï K (upd H p (.dK (rH (z.map λq=>((aq q.1.1:Key),V.ref q.2)) (aq n) (.ref x)))) p (oR l n q) z':=by
 let⟨rfl,hd,ht⟩:=h;refine⟨if(z.any λy=>decide (y.1.1=n))=true then z.map (λy=>if y.1.1=n then((n,q),x) else y) else z++[((n,q),x)],?_,?_,?_⟩
 .unfold oR;rw[ig];by_cases hb:(z.any λy=>decide (y.1.1=n))=true
  .rw[Zc hb,Zc (by exact hb),aH,aH];refine aX λy _=>?_
   grind
  .rw[Zd hb,Zd (by exact hb),aD];rfl
 .rw[mH];unfold rH;rw[ig];have eb:((λkv:Key×V=>decide (kv.1=aq n))∘λq:(Str×Int×Int)×ag=>((aq q.1.1:Key),V.ref q.2))=λy=>decide (y.1.1=n):=by
   funext y
   show decide ((aq y.1.1:Key)=aq n)=_;rw[MA]
  rw[eb];by_cases hb:(z.any λy=>decide (y.1.1=n))=true
  .rw[Zc hb,Zc hb,aH,aH]
   congr 2
   refine aX λy _=>?_
   grind
  .rw[Zd hb,Zd hb,aD];rfl
 .refine λy hy=>EH hd ?_
  grind
def Ï.drop{K}(h:Ï K H p l z) :
  ∃z',Ï K (upd H p (.dK (zj (z.map λq=>((aq q.1.1:Key),V.ref q.2)) (aq n)))) p (oB l n) z':=by
 let⟨rfl,hd,ht⟩:=h;refine⟨z.filter (λy=>decide (y.1.1≠n)),?_,?_,λy hy=>EH hd (ht y (aU.mp hy).1)⟩
 .unfold oB;rw[dX];rfl
 .rw[mH];unfold zj;rw[dX];have eb:((λkv:Key×V=>decide (kv.1≠aq n))∘λq:(Str×Int×Int)×ag=>((aq q.1.1:Key),V.ref q.2))=λy=>decide (y.1.1≠n):=by
   grind
  rw[eb]
def JA(l)(n):nI l n=(n,mU l n):=by
 unfold mU nI;cases h:l.find? λq=>decide (q.1=n) with
 |none=>rfl
 |some q =>
  grind
def n8(l)(n m)(q):mU (oR l n q) m=if m=n then q else mU l m:=by
 unfold mU nI oR;by_cases hb:(l.any λx=>decide (x.1=n))=true
 .rw[Zc hb];induction l with
  |nil=>cases hb
  |cons x r ih =>
   rw[am,bP,bP];by_cases e:x.1=n
   .rw[Zc e];by_cases em:m=n
    .subst em;rw[Zc rfl,Zg (show m=m from rfl)];rfl
    .rw[Zd em];have e1:decide ((n,q).1=m)=false:=Zh λz=>em z.symm;have e2:decide (x.1=m)=false:=Zh λz=>em (z.symm.trans e);rw[e1,e2];by_cases hr:(r.any λx=>decide (x.1=n))=true
     .have:=ih hr;rw[Zd em] at this;exact this
     .have er:r.map (λx=>if x.1=n then(n,q) else x)=r:=by
       conv=>rhs;rw[<-iM r]
       refine aX λy hy=>Zd λz=>hr (gZ.mpr ⟨y,hy,Zg z⟩)
      show(Option.getD ((r.map λx=>if x.1=n then(n,q) else x).find? λq=>decide (q.1=m)) (m,0,1)).2=_;rw[er]
   .rw[Zd e];have hr:(r.any λx=>decide (x.1=n))=true:=by rw[dZ,Zh e,Bool.false_or] at hb;exact hb
    by_cases em:x.1=m
    .rw[Zg em];have:¬m=n:=λz=>e (em.trans z);rw[Zd this]
    .rw[Zh em];exact ih hr
 .rw[Zd hb,jh];by_cases em:m=n
  .subst em;rw[Zc rfl];have:l.find? (λq=>decide (q.1=m))=none:=by rw[gE];exact λx hx z=>hb (gZ.mpr ⟨x,hx,z⟩)
   rw[this,Option.none_or,bP,Zg (show(m,q).1=m from rfl)];rfl
  .rw[Zd em];have:[(n,q)].find? (λq=>decide (q.1=m))=none:=by rw[bP,Zh (show ¬(n,q).1=m from λz=>em z.symm)];rfl
   rw[this,Option.or_none]
def qE(l)(n m):mU (oB l n) m=if m=n then(0,1) else mU l m:=by
 unfold mU nI oB;rw[List.find?_filter];by_cases em:m=n
 .subst em;rw[Zc rfl];have:l.find? (λa=>decide (decide (a.1≠m)=true/\decide (a.1=m)=true))=none:=by
   grind
  rw[this];rfl
 .grind
def oC(l)(n)(q):(oR l n q).map (·.1)=if n∈l.map (·.1) then l.map (·.1) else l.map (·.1)++[n]:=by
 unfold oR;by_cases hb:(l.any λx=>decide (x.1=n))=true
 .have:n∈l.map (·.1):=by
   grind
  rw[Zc hb,Zc this,aH];refine aX λx _=>?_
  grind
 .grind
def w6(n)(q)(h:(l.map (·.1)).Nodup):((oR l n q).map (·.1)).Nodup:=by
 rw[oC];by_cases hn:n∈l.map (·.1)
 .rw[Zc hn];exact h
 .rw[Zd hn];exact Ab h hn
def Ac(l)(n):(oB l n).map (·.1)=(l.map (·.1)).filter λx=>decide (x≠n):=by rw[dX];rfl
def Ef(n)(h:(l.map (·.1)).Nodup):((oB l n).map (·.1)).Nodup:=by rw[Ac];exact h.filter _
def Ik(l)(n)(q):(oR l n q).length<=l.length+1:=by
 have:=congrArg cC (oC l n q);rw[ac] at this;rw[this];split
 .simp_all
 .simp_all
def FF(l)(n):(oB l n).length<=l.length:=cG _ _
def ï(l:Hl)(o1 o2:Str)(q:Int×Int):Hl :=
 let r:=oS (mU l o1) (-q.1,q.2);let l1:=if r=(0,1) then oB l o1 else oR l o1 r
 oR l1 o2 (oS (mU l1 o2) q)
def J1(l:Hl)(o1 o2:Str)(q:Int×Int):Hl :=
 let l1:=oR l o1 (oS (mU l o1) (-q.1,q.2))
 oR l1 o2 (oS (mU l1 o2) q)
def CQ{β:Type}(L:List (Ent×β))(h:Str)(g:Ent->Ent):List (Ent×β):=L.map λx=>if x.1.nm=h then(g x.1,x.2) else x
def vw(v:Ent×β->γ)(hv:∀x,v (g x.1,x.2)=v x):(CQ L h g).map v=L.map v:=by
 unfold CQ;rw[aH];refine aX λx _=>?_
 grind
def Kq(hy:y∈CQ L h g):∃x∈L,(x.1.nm=h/\y=(g x.1,x.2))\/(¬x.1.nm=h/\y=x):=by
 unfold CQ at hy
 grind
theorem Hu:∀{l:List α}{x y:α},(l.map key).Nodup->x∈l->y∈l->key x=key y->x=y
 |[],_,_,_,hx,_,_=>by cases hx
 |z::r,x,y,h,hx,hy,e=>by
  let⟨h1,h2⟩:=aK.mp h;obtain ex|Uj:=ap.mp hx
  .grind
  .obtain ey|hy':=ap.mp hy
   .grind
   .exact Hu h2 Uj hy' e
def FK(he:oZ L h=Za e):e.1.nm=h:=by
 unfold oZ at he
 grind
def JB(nd:(L.map (·.1.nm)).Nodup)(he:oZ L h=Za e)(hx:x∈L)(hn:x.1.nm=h):x=e :=
 Hu nd hx (tf he) (hn.trans (FK he).symm)
def Zu.À2{K:aa}(B:Zu K C H b z R7 L)(nd:(L.map (·.1.nm)).Nodup)(he:oZ L h=Za e)(hg:∀x,g x={ x with held:=(g x).held })(hH:HeldAt K H' e.2 (g e.1).held)(kp:∀c o,H c=Za o->c≠e.2->H' c=Za o):Zu K C H' b z R7 (CQ L h g):=by
 have WB:=tf he;have e2:e.2∈L.map (·.2):=ar.mpr ⟨e,WB,rfl⟩;let⟨n1,r1⟩:=aK.mp B.nd;let⟨n2,r2⟩:=aK.mp r1;let⟨n3,r3⟩:=aK.mp r2;let⟨n4,r4⟩:=aK.mp r3;let⟨n5,r5⟩:=aK.mp r4;let⟨n6,r6⟩:=aK.mp r5;have g1:∀x,(g x).nm=x.nm:=λx=>by rw[hg x]
 have g2:∀x,(g x).th=x.th:=λx=>by rw[hg x]
 have g3:∀x,(g x).mr=x.mr:=λx=>by rw[hg x]
 have g4:∀x,(g x).ls=x.ls:=λx=>by rw[hg x]
 refine⟨kp _ _ B.ob λq=>n1 (q▸by simp only[ap];right;right;right;right;right;exact e2),kp _ _ B.pp λq=>n2 (q▸by simp only[ap];right;right;right;right;exact e2),?_,?_,?_,?_,?_,?_,B.p6,by unfold CQ;rw[ac];exact B.h8⟩
 .rw[vw (v:=λe=>((aq e.1.nm:Key),V.int e.1.th)) λx=>by rw[g1,g2]];exact kp _ _ B.tt λq=>n3 (q▸by simp only[ap];right;right;right;exact e2)
 .rw[vw (v:=λe=>((aq e.1.nm:Key),V.int e.1.mr)) λx=>by rw[g1,g3]];exact kp _ _ B.mm λq=>n4 (q▸by simp only[ap];right;right;exact e2)
 .rw[vw (v:=λe=>((aq e.1.nm:Key),V.int e.1.ls)) λx=>by rw[g1,g4]];exact kp _ _ B.ll λq=>n5 (q▸by simp only[ap];right;exact e2)
 .rw[vw (v:=λe=>((aq e.1.nm:Key),V.ref e.2)) λx=>by rw[g1]];exact B.hh.keep λo h=>kp _ _ h λq=>n6 (q▸e2)
 .intro y hy;obtain⟨x,hx,⟨hn,rfl⟩|⟨hn,rfl⟩⟩:=Kq hy
  .rw[JB nd he hx hn];exact hH
  .have Wf:y.2≠e.2:=λq=>hn (by rw[Hu (key:=λx:Ent×ag=>x.2) r6 hx WB q];exact FK he);obtain⟨R3,hk⟩:∃R3,H e.2=Za (.dK R3):=by let⟨ts,_,q,_⟩:=B.he e WB;exact⟨_,q⟩
   refine(B.he y hx).keep (λo ho=>kp _ _ ho Wf) λc o ho x=>kp c o ho λq=>?_;rw[q,hk] at ho;cases ho;rcases x with⟨xs,z|⟨ob,z⟩⟩<;>cases z
 .rw[vw (v:=λe=>e.2) λx=>rfl];exact B.nd
def P5(i j):OK [V.int i,V.int j] [V.int 0,V.int 1]=decide ((i,j)=((0:Int),(1:Int))):=by
 show(ϭ (.int i) (.int 0)&&(ϭ (.int j) (.int 1)&&true))=_;have e1:∀i j:Int,ϭ (.int i) (.int j)=decide (i=j):=λi j=>rfl
 grind
def bt0(k):Bt k 0:=b7 k
def bt1(h:k≠0):Bt k 1:=Nat.one_lt_two_pow h
def sz0:Sz (0,1):=⟨⟨Zf rfl,(rfl:aI 0 1=1)⟩,bt0 _,bt1 (Zf rfl)⟩
theorem Ï.same{K}(h:Ï K H p l z)(s:ZT H H'):Ï K H' p l z :=
 ⟨h.1,s _ _ h.2.1,λq hq=>(h.2.2 q hq).same s⟩
def Ï.get{K}(h:Ï K H p l z)(ho:ú K H o (0,1))(n) :
  ∃x,(pL (z.map λq=>((aq q.1.1:Key),V.ref q.2)) (aq n)).getD (.ref o)=.ref x/\ú K H x (mU l n):=by
 rcases h.val n with⟨_,hv,hg⟩|⟨_,x,hv,hx⟩
 .simp_all
 .simp_all
def pS(l:Hl)(o:Str)(q:Int×Int):Prop:=¬ 0<q.1\/q.1*(mU l o).2>(mU l o).1*q.2
instance (l:Hl) (o:Str) (q:Int×Int):Decidable (pS l o q):=by unfold pS;infer_instance
abbrev vd:bX:=oJ (top 40) 8
def ñ:K' ["self","house","one","other","share","held","rest"] ["self","house","one","other","share"] (mJ vd):=Ê
structure ό(l:Hl)(o1:Str)(q:Int×Int):Prop where
 len:l.length<1000
 sz:∀n,Sz (mU l n)
 rs:¬pS l o1 q->Sz (oS (mU l o1) (-q.1,q.2))
def HN(K:aa)(a:Y9):Sp:=λvs H Q E=>∃b z R7 L h o1 o2 sp q,vs=[.ref b,.str h,.str o1,.str o2,.ref sp]/\Zu K a.Zo H b z R7 L/\(L.map (·.1.nm)).Nodup/\Nm h/\Nm o1/\Nm o2/\ú K H sp q/\Sz q /\
 (∀e,oZ L h=Za e->ό e.1.held o1 q) /\
 (qJ L h=false->E (.ref a.Í) Zb H) /\
 (qJ L h=true->(qj R7 o1||qJ L o1)=false->E (.ref a.ZQ) Zb H) /\
 (qJ L h=true->(qj R7 o1||qJ L o1)=true->(qj R7 o2||qJ L o2)=false->E (.ref a.ZQ) Zb H) /\
 (∀e,oZ L h=Za e->(qj R7 o1||qJ L o1)=true->(qj R7 o2||qJ L o2)=true->pS e.1.held o1 q->E (.ref a.Ħ) Zb H) /\
 (∀e,oZ L h=Za e->(qj R7 o1||qJ L o1)=true->(qj R7 o2||qJ L o2)=true->¬pS e.1.held o1 q->∀H',Zu K a.Zo H' b z R7 (CQ L h λx=>{ x with held:=ï x.held o1 o2 q })->(∀c o,H c=Za o->c≠e.2->H' c=Za o)->Q .Zn H')
def N9(F:ý K "sale" "Book.sale" vd f fd)(T:Txt K mg a)(Se:Mt P w K mg base a.Zo "need_house" 2 ["self","name"] (qo K a))(Sh:Mt P w K mg base a.Zo "need_holder" 3 ["self","name"] (re K a))(Tb:Fn P w K mg base "is_above" 1 ["first","second"] (Fv K))(UO:Fn P w K mg base "minus" 3 ["first","second"] (Ft K))(TN:Fn P w K mg base "plus" 2 ["first","second"] (zU K)) :
  ZA P w K mg base (Z' P w) 4 f fd ["self","house","one","other","share"] (HN K a):=by
 refine F.okX ñ (λvs H Q E h=>?_) (λSc A outer s H vs Q E hr h=>?_)
 .let⟨b,z,R7,L,h,o1,o2,sp,q,rfl,_⟩:=h;rfl
 .let⟨b,z,R7,L,h,o1,o2,sp,q,rfl,B,nd,nh,n1,n2,hq,sq,Zl,k1,k2,k3,k4,k5⟩:=h;have hu:=o7 hr;refine⟨_,(@m6 _ _ _ _ _ (@pU _ _ _ _ (ur (pv 0) Se (hr.mono (by first|decide|lia)) pN (@mR _ _ _ _ _ (pv 1) Y7 (by rfl))) (by rfl)) (@m6 _ _ _ _ _ (@pU _ _ _ _ (ur (pv 0) Sh (hr.mono (by first|decide|lia)) pN (@mR _ _ _ _ _ (pv 2) Y7 (by rfl))) (by rfl)) (@m6 _ _ _ _ _ (@pU _ _ _ _ (ur (pv 0) Sh (hr.mono (by first|decide|lia)) pN (@mR _ _ _ _ _ (pv 3) Y7 (by rfl))) (by rfl)) (@m6 _ _ _ _ _ (@tJ _ _ (5) _ _ _ _ ñ.nd rfl (eL rfl) (@sO _ _ _ _ _ _ hu (pC (pv 0) rfl) (pv 1) (λ_ _=>rfl)) (by rfl) (by first|exact .inl rfl|exact .inr rfl|assumption)) (@m6 _ _ _ _ _ (@xw _ _ _ _ _ _ _ _ (PW.pt (PB (BI (w5 (@xy _ _ _ _ _ _ _ _ _ _ _ Tb (hr.mono (by first|decide|lia)) rfl pN (@mR _ _ _ _ _ (pv 4) (@mR _ _ _ _ _ (qP rfl T.ŷ T.ų) Y7 (by rfl)) (by rfl)) `d (by rfl) (by rfl)))) (Mj (w5 (@xy _ _ _ _ _ _ _ _ _ _ _ Tb (hr.mono (by first|decide|lia)) rfl pN (@mR _ _ _ _ _ (pv 4) (@mR _ _ _ _ _ (@A9 _ _ _ _ _ _ _ _ _ hu (pv 5) (pv 2) (qP rfl T.ŷ T.ų) ⟨rfl,rfl,rfl,rfl⟩) Y7 (by rfl)) (by rfl)) `d (by rfl) (by rfl)))))) (@nq _ _ _ (qO T.Àe rfl T.Ū rfl (GK (zp (pv 2) (BJ (zp (pv 1) BL)))) Ad)) Ò) (@m6 _ _ _ _ _ (@tJ _ _ (6) _ _ _ _ ñ.nd rfl (eL rfl) (@xy _ _ _ _ _ _ _ _ _ _ _ UO (hr.mono (by first|decide|lia)) rfl pN (@mR _ _ _ _ _ (@sO _ _ _ _ _ _ hu (pv 5) (pv 2) (λ_ _=>rfl)) (@mR _ _ _ _ _ (pv 4) Y7 (by rfl)) (by rfl)) `d (by rfl) (by rfl)) (by rfl) (by first|exact .inl rfl|exact .inr rfl|assumption)) (@m6 _ _ _ _ _ (@xw _ _ _ _ _ _ _ _ (@vX _ _ _ _ _ _ _ _ (QX (Nat.lt_of_succ_lt hu)) (pv 6) (qP rfl T.ŷ T.ų) (wc _)) (@nq _ _ _ (@pU _ _ _ _ (FD (pv 5) (pv 2) ⟨rfl,rfl,rfl,rfl⟩) (by rfl))) (@nq _ _ _ (sN hu (pv 5) (pv 2) (pv 6) rfl))) (@nq _ _ _ (sN hu (pv 5) (pv 3) (@xy _ _ _ _ _ _ _ _ _ _ _ TN (hr.mono (by first|decide|lia)) rfl pN (@mR _ _ _ _ _ (@A9 _ _ _ _ _ _ _ _ _ hu (pv 5) (pv 3) (qP rfl T.ŷ T.ų) ⟨rfl,rfl,rfl,rfl⟩) (@mR _ _ _ _ _ (pv 4) Y7 (by rfl)) (by rfl)) `d (by rfl) (by rfl)) rfl))))))))),?_⟩;have bn:∀{m:Str},¬m="people"->¬m="things_of"->¬m="mark_of"->¬m="loss_of"->¬m="held_of"->(bf z).lookup m=none:=λa b c d e=>uL z a b c d e;refine⟨_,rfl,b,_,_,rfl,B.ob,uL z,_,rfl,b,z,R7,L,h,rfl,B,nh,λhh=>?_,λhh=>k1 hh⟩;refine⟨_,rfl,b,_,_,rfl,B.ob,uL z,_,rfl,b,z,R7,L,o1,rfl,B,n1,λh1=>?_,λh1=>k2 hh h1⟩;refine⟨_,rfl,b,_,_,rfl,B.ob,uL z,_,rfl,b,z,R7,L,o2,rfl,B,n2,λh2=>?_,λh2=>k3 hh h1 h2⟩;cases he:oZ L h with
  |none=>unfold qJ at hh;unfold oZ at he;rw[he] at hh;cases hh
  |some e =>
  have WB:=tf he;have ok:=Zl e he;let⟨zz,Zj⟩:=(B.he e WB).toZ;have UD:=B.hh.Áa h;rw[Br _ he] at UD;have TB:∀H,ú K H a.ϝ (0,1):=λH=>.inr T.zero;refine⟨_,rfl,b,_,_,_,_,rfl,B.ob,T.cl,T.Z7,wq z,_,rfl,_,_,rfl,UD,?_⟩;refine⟨_,rfl,sp,a.ϝ,q,(0,1),rfl,hq,TB H,sq,sz0,_,rfl,wH (λh3=>?_) (λh3=>?_)⟩
  .have h3:=of_decide_eq_false (nbT h3);exact Ot ⟨_,rfl,⟨o1,rfl,n1⟩,_,rfl,⟨h,rfl,nh⟩,λy=>k4 e he h1 h2 (.inl (by simp only at h3;lia))⟩
  have q0:0<q.1:=by have:=Zf (nbF h3);simp only at this;lia
  let⟨x0,Wi,fx0⟩:=Zj.get (TB H) o1;refine⟨_,rfl,_,rfl,e.2,rfl,.inl ⟨_,.inl Zj.2.1⟩,_,rfl,_,Æ.k (k:=aq o1) Zj.2.1,?_⟩;rw[Wi];refine⟨sp,x0,q,_,rfl,hq,fx0,sq,ok.sz o1,_,rfl,wH (λh4=>?_) (λh4=>?_)⟩
  .have h4:=Zf h4;exact⟨_,rfl,⟨o1,rfl,n1⟩,_,rfl,⟨h,rfl,nh⟩,λy=>k4 e he h1 h2 (.inr h4)⟩
  have h4:¬q.1*(mU e.1.held o1).2>(mU e.1.held o1).1*q.2:=λz=>h4 (Zg z);have ntm:¬pS e.1.held o1 q:=λz=>z.elim (λy=>y q0) h4;rcases Zj.val o1 with⟨_,_,hg⟩|⟨hn,x,hv,hx⟩
  .exfalso;rw[hg] at h4;simp only at h4;lia
  have Vn:Æ H e.2 (.str o1) (Za (.ref x)):=by have:=Æ.k (k:=aq o1) Zj.2.1;rw[hv] at this;exact this
  refine⟨_,rfl,_,rfl,e.2,_,rfl,Vn,_,rfl,x,sp,_,_,rfl,hx,hq,ok.sz o1,sq,λr H1 hr0 s1 Wl=>?_⟩;have Z1:=Zj.same s1;have Sq:∀H2 l1 z2,Ï K H2 e.2 l1 z2->ï e.1.held o1 o2 q=oR l1 o2 (oS (mU l1 o2) q)->(∀c o,H c=Za o->c≠e.2->H2 c=Za o)->Sz (mU l1 o2)->l1.length<=e.1.held.length->ú K H2 sp q ->
    Pu (J8 5) (J8 3) (Gq (zU K) [] E (MY (Ma (J8 5) (J8 3) (tC (V.ref a.ϝ))) (MY (J8 4) L9))) { nx:=λx H'=>Q V.Zn H',rt:=Q } [Za (V.ref b),Za (V.str h),Za (V.str o1),Za (V.str o2),Za (V.ref sp),Za (V.ref e.2),Za (V.ref r)] H2:=by
   intro H2 l1 z2 Z2 es kp szl len fq;let⟨y,hy,fy⟩:=Z2.get (TB H2) o2;refine⟨_,rfl,e.2,rfl,.inl ⟨_,.inl Z2.2.1⟩,_,rfl,_,Æ.k (k:=aq o2) Z2.2.1,?_⟩;rw[hy];refine⟨_,rfl,y,sp,_,_,rfl,fy,fq,szl,sq,λt ht=>?_⟩;have st:=rQ (o:=.tup [.int (oS (mU l1 o2) q).1,.int (oS (mU l1 o2) q).2]) ht;have Z3:=Z2.same st;refine⟨_,rfl,_,rfl,e.2,_,rfl,Ė.k (k:=aq o2) Z3.2.1 ?_,?_⟩
   .rw[ac,<-ac (f:=(·.1)),Z2.1];exact aW len (ip ok.len `d)
   .let⟨z4,Z4⟩:=Z3.put (n:=o2) (x:=t) (q:=oS (mU l1 o2) q) (â.of mH);have kp':∀c o,H c=Za o->c≠e.2->(upd (upd H2 t (.tup [.int (oS (mU l1 o2) q).1,.int (oS (mU l1 o2) q).2])) e.2 (.dK (rH (z2.map λq=>((aq q.1.1:Key),V.ref q.2)) (aq o2) (.ref t)))) c=Za o:=λc o hc hn=>by rw[mF hn];exact st c o (kp c o hc hn)
    refine k5 e he h1 h2 ntm _ (B.À2 nd he (λx=>rfl) ?_ kp') kp';show HeldAt K _ e.2 (ï e.1.held o1 o2 q);rw[es];exact Z4.held
  refine⟨_,rfl,r,a.ϝ,_,_,rfl,rfl,â.of Wl,.inr T.zero,rfl,rfl,rfl,_,rfl,wH (λh5=>?_) (λh5=>?_)⟩
  .rw[P5] at h5;have h5:oS (mU e.1.held o1) (-q.1,q.2)=(0,1):=Zf h5;refine⟨_,rfl,e.2,rfl,.inl ⟨_,.inl Z1.2.1⟩,_,rfl,_,aq o1,.ref x,Z1.2.1,rfl,hv,?_⟩;let⟨z2,Z2⟩:=Z1.drop (n:=o1);refine Sq _ _ z2 Z2 ?_ (λc o hc hn=>by rw[mF hn];exact s1 c o hc) ?_ (FF _ _) (EH Z1.2.1 (hq.same s1))
   .unfold ï;simp[h5,if_true]
   .rw[qE];by_cases e2:o2=o1
    .rw[Zc e2];exact sz0
    .rw[Zd e2];exact ok.sz o2
  .rw[P5] at h5;have h5:¬oS (mU e.1.held o1) (-q.1,q.2)=(0,1):=λz=>h5 (Zg z);refine⟨_,rfl,_,rfl,_,rfl,e.2,_,rfl,Ė.k (k:=aq o1) Z1.2.1 ?_,?_⟩
   .rw[ac,<-ac (f:=(·.1)),Zj.1];exact ip ok.len `d
   .let⟨z2,Z2⟩:=Z1.put (n:=o1) (x:=r) (q:=oS (mU e.1.held o1) (-q.1,q.2)) (â.of Wl);refine Sq _ _ z2 Z2 ?_ (λc o hc hn=>by rw[mF hn];exact s1 c o hc) ?_ ?_ (EH Z1.2.1 (hq.same s1))
    .unfold ï;simp[h5,if_false]
    .rw[n8];by_cases e2:o2=o1
     .rw[Zc e2];exact ok.rs ntm
     .rw[Zd e2];exact ok.sz o2
    .have:=congrArg cC (oC e.1.held o1 (oS (mU e.1.held o1) (-q.1,q.2)));rw[Zc hn,ac,ac] at this;exact jo this
def oA(L:List Ent)(n:Str):Option Ent:=L.find? λe=>decide (e.nm=n)
def nK(L:List Ent)(n:Str):Bool:=(oA L n).isSome
def GB(L:List Ent)(h:Str)(g:Ent->Ent):List Ent:=L.map λx=>if x.nm=h then g x else x
def C8(L)(n):(oZ L n).map (·.1)=oA (L.map (·.1)) n:=by unfold oZ oA;rw[gD];rfl
def vG(L)(n):qJ L n=nK (L.map (·.1)) n:=by unfold nK;rw[<-C8];unfold qJ oZ;grind
def Kr(L:List (Ent×ag))(h:Str)(g:Ent->Ent):(CQ L h g).map (·.1)=GB (L.map (·.1)) h g:=by
 unfold CQ GB;rw[aH,aH];refine aX λx _=>?_
 grind
def sQ(a:Y9)(pp:List Str)(L:List Ent)(x:Str):Option ag:=if yN x=false then Za a.œ else if(qj pp x||nK L x)=true then Za a.ϟ else Zb
def xU(a:Y9)(pp:List Str)(L:List Ent)(x:Str):Option ag:=match sQ a pp L x with
 |some c=>Za c
 |none=>if 6<=pp.length then Za a.ø else Zb
def xZ(a:Y9)(pp:List Str)(L:List Ent)(x o:Str)(l:Int):Option ag:=match sQ a pp L x with
 |some c=>Za c
 |none=>if(qj pp o||nK L o)=false then Za a.ZQ else if l<0 then Za a.į else if 8<=L.length then Za a.ø else Zb
def Aa(a)(pp)(L)(x):sB a pp L x=sQ a pp (L.map (·.1)) x:=by unfold sB sQ;rw[vG]
def z7(a)(pp)(L)(x):vY a pp L x=xU a pp (L.map (·.1)) x:=by unfold vY xU;rw[Aa];try (cases sQ a pp (L.map (·.1)) x<;>rfl)
def Am(a)(pp)(L)(x o)(l):tL a pp L x o l=xZ a pp (L.map (·.1)) x o l:=by unfold tL xZ;rw[Aa,vG,ac];try (cases sQ a pp (L.map (·.1)) x<;>rfl)
noncomputable instance (x:Str):Decidable (Nm x):=dE _
def oF(vs:List PV)(s:N')(k:Nat->List Str->List Ent->List PV->Out PV):Out PV:=match vs with
 |.ref n::r=>match s.get n with
  |some (.book pp L)=>k n pp L r
  |_=>.bad
 |_=>.bad
def vK(a:Y9)(vs:List PV)(s:N'):Out PV:=oF vs s λn pp L r=>match r with
 |[.str x]=>if Nm x then(match xU a pp L x with
  |none=>.ok .Zn (s.set n (.book (pp++[x]) L))
  |some c=>.ex c s) else .bad
 |_=>.bad
def yg(a:Y9)(vs:List PV)(s:N'):Out PV:=oF vs s λn pp L r=>match r with
 |[.str x,.str o,.int t,.int m,.int l]=>if Nm x/\Nm o then(match xZ a pp L x o l with
  |none=>.ok .Zn (s.set n (.book pp (L++[⟨x,t,m,l,[(o,1,1)]⟩])))
  |some c=>.ex c s) else .bad
 |_=>.bad
def tD(_:Y9)(vs:List PV)(s:N'):Out PV:=oF vs s λ_ pp _ r=>match r with
 |[]=>.ok (.lst ((ZR pp).map .str)) s
 |_=>.bad
def oI(_:Y9)(vs:List PV)(s:N'):Out PV:=oF vs s λ_ _ L r=>match r with
 |[]=>.ok (.lst ((ZR (L.map (·.nm))).map .str)) s
 |_=>.bad
def ß(q:Int×Int):PV:=.tup [.int q.1,.int q.2]
def uE(q:Str×Int×Int):PV:=.tup [.str q.1,ß q.2]
def rG(l:List (Str×Int×Int)):PV:=.lst ((ZR (l.map (·.1))).map λn=>uE (nI l n))
def pA(a:Y9)(vs:List PV)(s:N'):Out PV:=oF vs s λ_ _ L r=>match r with
 |[.str x]=>if Nm x then(match oA L x with
  |none=>.ex a.Í s
  |some e=>if e.held.length<64 then .ok (rG e.held) s else .bad) else .bad
 |_=>.bad
def MX(a:Y9)(vs:List PV)(s:N'):Out PV:=oF vs s λ_ _ L r=>match r with
 |[.str x]=>if Nm x then(match oA L x with
  |none=>.ex a.Í s
  |some e=>.ok (.tup [.int e.th,.int e.mr,.int e.ls]) s) else .bad
 |_=>.bad
structure ÀA(L:List Ent)(h o1 o2:Str)(q:Int×Int):Prop where
 nd:(L.map (·.nm)).Nodup
 nm:Nm h/\Nm o1/\Nm o2
 sz:Sz q
 ok:∀e,oA L h=Za e->ό e.held o1 q
noncomputable instance (L:List Ent) (h o1 o2:Str) (q:Int×Int):Decidable (ÀA L h o1 o2 q):=dE _
def xm(a:Y9)(vs:List PV)(s:N'):Out PV:=oF vs s λn pp L r=>match r with
 |[.str h,.str o1,.str o2,.tup [.int t,.int b]]=>if ÀA L h o1 o2 (t,b) then(match oA L h with
  |none=>.ex a.Í s
  |some e=>if(qj pp o1||nK L o1)=false then .ex a.ZQ s else if(qj pp o2||nK L o2)=false then .ex a.ZQ s
   else if pS e.held o1 (t,b) then .ex a.Ħ s else .ok .Zn (s.set n (.book pp (GB L h λx=>{ x with held:=ï x.held o1 o2 (t,b) })))) else .bad
 |_=>.bad
def RU(S:SR K CB H m s)(hg:s.get n=Za (.book pp L))(eF:m.fp n=î (m.ad n) z L')(B':Zu K CB H' (m.ad n) z pp' L2)(k:∀a o,H a=Za o->a∉î (m.ad n) z L'->H' a=Za o)(Tj:∀a∈î (m.ad n) z L2,a∈î (m.ad n) z L'\/H a=Zb) :
  SR K CB H' (m.Þ n (î (m.ad n) z L2)) (s.set n (.book pp' (L2.map (·.1))))/\Ext H m s H' (m.Þ n (î (m.ad n) z L2)) (s.set n (.book pp' (L2.map (·.1)))) :=
 S.put hg `g H' _ (by rw[eF];exact k) (by rw[eF];exact Tj) λ_=>⟨z,L2,B',rfl,by show(if n=n then _ else _)=_;rw[Zc rfl];rfl⟩
def onB(S:SR K CB H m s)(r:Y5 K H m s xs vs)(P:Zs K CB (Rep K) E (oF vs s k) H m s Q) :
  ∃n pp L z L' us ys,s.get n=Za (.book pp L)/\Zu K CB H (m.ad n) z pp L'/\L'.map (·.1)=L/\m.fp n=î (m.ad n) z L'/\xs=.ref (m.ad n)::us/\Y5 K H m s us ys/\Zs K CB (Rep K) E (k n pp L ys) H m s Q:=by
 unfold oF at P;split at P
 .rename_i n r';split at P
  .rename_i pp L hg;let⟨z,L',B,e1,e2⟩:=S.get hg;cases r with
   |cons r1 r2 =>
    cases r1;exact⟨n,pp,L,z,L',_,_,hg,B,e1,e2,rfl,r2,P⟩
  .exact P.elim
 .exact P.elim
def Ox(h:e∈L):e.2∈î b z L:=by
 unfold î
 grind
def Kp(L:List (Ent×ag))(h:Str)(g:Ent->Ent):(CQ L h g).map (·.2)=L.map (·.2):=by
 unfold CQ;rw[aH];refine aX λx _=>?_
 grind
def NE(b)(z)(L)(h)(g):î b z (CQ L h g)=î b z L:=by unfold î;rw[Kp]
def Ed(r:Y5 K H m s us [.str x]):us=[.str x]:=by
 cases r with
 |cons a b=>cases a;cases b;rfl
def Gu(vs)(H)(Q)(E)(h:Ķ K a.Zo 2 (vK a) vs H Q E):CO K a vs H Q E:=by
 let⟨_,ps,s,m,r,S,P⟩:=h;let⟨n,pp,L,z,L',us,ys,hg,B,e1,e2,rfl,r',P⟩:=onB S r P;split at P
 .split at P
  .rename_i x hx;cases Ed r';refine⟨_,z,pp,L',x,rfl,B,hx,λhd H' B' k=>?_,λc hd H' k=>?_⟩
   .rw[z7,e1] at hd;rw[hd] at P;let⟨S2,x2⟩:=RU S hg e2 B' (λc o h hc=>k c o h λz=>hc (by rw[z];simp[î])) (λc hc=>.inl hc);rw[e1] at S2 x2;exact P _ _ _ x2 S2 .Zn
   .rw[z7,e1] at hd;rw[hd] at P;exact P _ m (.same k) (S.same k) Zb .no
  .exact P.elim
 .exact P.elim
def IM(vs)(H)(Q)(E)(h:Ķ K a.Zo 6 (yg a) vs H Q E):Fu K a vs H Q E:=by
 let⟨_,ps,s,m,r,S,P⟩:=h;let⟨n,pp,L,z,L',us,ys,hg,B,e1,e2,rfl,r',P⟩:=onB S r P;split at P
 .split at P
  .rename_i x o t mm l hx;cases r' with
   |cons q1 r'=>cases r' with
    |cons q2 r'=>cases r' with
     |cons q3 r'=>cases r' with
      |cons q4 r'=>cases r' with
       |cons q5 r' =>
        cases r';cases q1;cases q2;cases q3;cases q4;cases q5;refine⟨_,z,pp,L',x,o,t,mm,l,rfl,B,hx.1,hx.2,λhd p H' hp B' k=>?_,λc hd H' k=>?_⟩
        .rw[Am,e1] at hd;rw[hd] at P;let⟨S2,x2⟩:=RU S hg e2 B' (λc o h hc=>k c o h λz=>hc (by unfold î;grind)) (λc hc=>by
          unfold î at hc ⊢;rw[aD] at hc;simp[ap,a7,am,cX,fP,or_false] at hc ⊢;obtain h|h|h|h|h|h|h|h:=hc
          .exact .inl (.inl h)
          .exact .inl (.inr (.inl h))
          .simp_all
          .simp_all
          .simp_all
          .simp_all
          .simp_all
          .rw[h];exact .inr hp)
         rw[aD,e1] at S2 x2;exact P _ _ _ x2 S2 .Zn
        .rw[Am,e1] at hd;rw[hd] at P;exact P _ m (.same k) (S.same k) Zb .no
  .exact P.elim
 .exact P.elim
def EZ(vs)(H)(Q)(E)(h:Ķ K a.Zo 1 (tD a) vs H Q E):zV K a.Zo vs H Q E:=by
 let⟨_,ps,s,m,r,S,P⟩:=h;let⟨n,pp,L,z,L',us,ys,hg,B,e1,e2,rfl,r',P⟩:=onB S r P;split at P
 .cases r';exact⟨_,z,pp,L',rfl,B,λl hl=>P.new S hl λex S'=>.lst mH (S.ZK hl) (.ofStrs _)⟩
 .exact P.elim
def Gv(vs)(H)(Q)(E)(h:Ķ K a.Zo 1 (oI a) vs H Q E):yn K a.Zo vs H Q E:=by
 let⟨_,ps,s,m,r,S,P⟩:=h;let⟨n,pp,L,z,L',us,ys,hg,B,e1,e2,rfl,r',P⟩:=onB S r P;split at P
 .cases r';refine⟨_,z,pp,L',rfl,B,λl hl=>P.new S hl λex S'=>.lst mH (S.ZK hl) ?_⟩;rw[<-e1,aH];exact .ofStrs _
 .exact P.elim
def wJ(e:L'.map (·.1)=L):(∀q,oZ L' x=Za q->oA L x=Za q.1)/\(oZ L' x=Zb->oA L x=Zb):=by
 have:=C8 L' x
 grind
theorem CT:∀{l:List (Str×Int×Int)}{vs:List V}{m:Mp}{s:N'}{CB:ag}{H:Hp},SR K CB H m s->fk (æ K H) l vs->Y5 K H m s vs (l.map uE)
 |_,_,_,_,_,_,_,.nil=>.nil
 |_,_,m,s,CB,H,S,.cons r t=>by let⟨p,q,rfl,h1,h2⟩:=r;have tp:∀{c:ag}{xs:List V},â K H c xs->(Rd H c (.tup xs)/\Ŀ m s c\/KT' K c xs):=λh=>h.elim (λz=>.inl ⟨z,z.elim (λz=>S.Â z) λ⟨_,z⟩=>S.ň (.inl z)⟩) .inr;exact .cons (.tup (tp h1) (.cons .str (.cons (.tup (tp h2) (.cons .int (.cons .int .nil))) .nil))) (CT S t)
def Gs(vs)(H)(Q)(E)(h:Ķ K a.Zo 2 (pA a) vs H Q E):CN K a vs H Q E:=by
 let⟨_,ps,s,m,r,S,P⟩:=h;let⟨n,pp,L,z,L',us,ys,hg,B,e1,e2,rfl,r',P⟩:=onB S r P;split at P
 .split at P
  .rename_i x hx;cases Ed r';let⟨f1,f2⟩:=wJ e1;refine⟨_,z,pp,L',x,rfl,B,hx,λe he=>?_,λhe=>?_⟩
   .rw[f1 e he] at P;dsimp only at P;split at P
    .rename_i UY;refine⟨UY,λl VW H' hl k h' pr=>?_⟩;have S':=S.same k;refine P _ H' m (.same k) S' (.lst h' ?_ ?_)
     .have:=S.ZK hl;exact this
     .have:=CT S' pr;rw[aH] at this;exact this
    .exact P.elim
   .rw[f2 he] at P;exact P H m .refl S Zb .no
  .exact P.elim
 .exact P.elim
def Qt(vs)(H)(Q)(E)(h:Ķ K a.Zo 2 (MX a) vs H Q E):Pt K a vs H Q E:=by
 let⟨_,ps,s,m,r,S,P⟩:=h;let⟨n,pp,L,z,L',us,ys,hg,B,e1,e2,rfl,r',P⟩:=onB S r P;split at P
 .split at P
  .rename_i x hx;cases Ed r';let⟨f1,f2⟩:=wJ e1;refine⟨_,z,pp,L',x,rfl,B,hx,λe he t ht=>?_,λhe=>?_⟩
   .rw[f1 e he] at P;exact P.new S ht λex S'=>.tup (.inl ⟨.inl mH,S'.Â mH⟩) (.cons .int (.cons .int (.cons .int .nil)))
   .rw[f2 he] at P;exact P H m .refl S Zb .no
  .exact P.elim
 .exact P.elim
def Km(vs)(H)(Q)(E)(h:Ķ K a.Zo 5 (xm a) vs H Q E):HN K a vs H Q E:=by
 let⟨_,ps,s,m,r,S,P⟩:=h;let⟨n,pp,L,z,L',us,ys,hg,B,e1,e2,rfl,r',P⟩:=onB S r P;split at P
 .split at P
  .rename_i h o1 o2 t b hs;cases r' with
   |cons q1 r'=>cases r' with
    |cons q2 r'=>cases r' with
     |cons q3 r'=>cases r' with
      |cons q4 r' =>
       cases r';cases q1;cases q2;cases q3;let⟨p,ws,rfl,ht,SN⟩:=q4.tp;cases SN with
       |cons w1 w2=>cases w2 with
        |cons w2 w3 =>
         cases w3;cases w1;cases w2;let⟨f1,f2⟩:=wJ e1;have hh:qJ L' h=(oA L h).isSome:=by rw[vG,e1];rfl
         have h1:(qj pp o1||qJ L' o1)=(qj pp o1||nK L o1):=by rw[vG,e1]
         have h2:(qj pp o2||qJ L' o2)=(qj pp o2||nK L o2):=by rw[vG,e1]
         refine⟨_,z,pp,L',h,o1,o2,p,(t,b),rfl,B,by rw[show L'.map (λx=>x.1.nm)=L.map (·.nm) by rw[<-e1,aH];rfl];exact hs.nd,hs.nm.1,hs.nm.2.1,hs.nm.2.2,ht,hs.sz,λe he=>hs.ok _ (f1 e he),λq=>?_,λq g1=>?_,λq g1 g2=>?_,λe he g1 g2 g3=>?_,λe he g1 g2 g3 H' B' k=>?_⟩
         .rw[hh] at q;cases c:oA L h with
          |none=>rw[c] at P;exact P H m .refl S Zb .no
          |some e=>rw[c] at q;cases q
         .rw[hh] at q;cases c:oA L h with
          |none=>rw[c] at q;cases q
          |some e=>rw[c] at P;dsimp only at P;rw[Zc (by rw[<-h1];exact g1)] at P;exact P H m .refl S Zb .no
         .rw[hh] at q;cases c:oA L h with
          |none=>rw[c] at q;cases q
          |some e=>rw[c] at P;dsimp only at P;rw[Zd (by rw[<-h1,g1];decide),Zc (by rw[<-h2];exact g2)] at P;exact P H m .refl S Zb .no
         .rw[f1 e he] at P;dsimp only at P;rw[Zd (by rw[<-h1,g1];decide),Zd (by rw[<-h2,g2];decide),Zc g3] at P;exact P H m .refl S Zb .no
         .rw[f1 e he] at P;dsimp only at P;rw[Zd (by rw[<-h1,g1];decide),Zd (by rw[<-h2,g2];decide),Zd g3] at P;let⟨S2,x2⟩:=RU S hg e2 B' (λc o hc hn=>k c o hc λz=>hn (by rw[z];exact Ox (tf he))) (λc hc=>.inl (by rw[NE] at hc;exact hc));rw[Kr,e1] at S2 x2;exact P _ _ _ x2 S2 .Zn
  .exact P.elim
 .exact P.elim
theorem Mt.imp(M:Mt P w K mg base C mm k ps sp)(h:∀vs H Q E,VB vs H Q E->sp vs H Q E):Mt P w K mg base C mm k ps VB :=
 let⟨f,fd,F,b⟩:=M;⟨f,fd,F.imp h,b⟩
theorem Fn.imp(M:Fn P w K mg base x k ps sp)(h:∀vs H Q E,VB vs H Q E->sp vs H Q E):Fn P w K mg base x k ps VB :=
 let⟨f,fd,F,b⟩:=M;⟨f,fd,F.imp h,b⟩
def tE(_:Y9)(vs:List PV)(s:N'):Out PV:=oF vs s λ_ _ L r=>match r with
 |[]=>.ok (.ref s.nx) (s.add (.lst ((ZR (L.map (·.nm))).map .str)))
 |_=>.bad
noncomputable instance (q:Int×Int):Decidable (Sz q):=dE _
end My
namespace L2
open PySem PySem.Spec PyProof.Rows
def NOw(u:HO):Prop:=∀o x,u≠.Z5 o (.own x)
section
variable{K:aa}
mutual
theorem Rep.now(k:∀a u,H a=Za u->NOw u->H' a=Za u):∀{v:V}{p:PV},Rep K H m s v p->Rep K H' m s v p
 |_,_,.Zn=>.Zn
 |_,_,.bl=>.bl
 |_,_,.int=>.int
 |_,_,.str=>.str
 |_,_,.tup h r=>.tup (h.imp (λz=>⟨z.1.imp (λh=>k _ _ h (by intro _ _ z;cases z)) λ⟨o,h⟩=>⟨o,k _ _ h (by intro _ _ z;cases z)⟩,z.2⟩) λz=>z) (Y5.now k r)
 |_,_,.lst h p r=>.lst (k _ _ h (by intro _ _ z;cases z)) p (Y5.now k r)
 |_,_,.seq h r=>.seq (h.imp (λ⟨⟨o,z⟩,p⟩=>⟨⟨o,k _ _ z (by intro _ _ z;cases z)⟩,p⟩) λz=>z) (Y5.now k r)
 |_,_,.Zv h p r=>.Zv (h.imp (λh=>k _ _ h (by intro _ _ z;cases z)) λ⟨o,h⟩=>⟨o,k _ _ h (by intro _ _ z;cases z)⟩) p (Y6.now k r)
 |_,_,.ref h=>.ref h
 |_,_,.exc h p y=>.exc (k _ _ h (by intro _ _ z;cases z)) p λn z=>let⟨dx,h1,h2,h3⟩:=y n z;⟨dx,h1,k _ _ h2 (by intro _ _ z;cases z),h3⟩
 |_,_,.clo r=>.clo (Y5.now k r)
theorem Y5.now(k:∀a u,H a=Za u->NOw u->H' a=Za u):∀{v:List V}{p:List PV},Y5 K H m s v p->Y5 K H' m s v p
 |_,_,.nil=>.nil
 |_,_,.cons a b=>.cons (Rep.now k a) (Y5.now k b)
theorem Y6.now(k:∀a u,H a=Za u->NOw u->H' a=Za u):∀{v:List (Key×V)}{p:List (Key×PV)},Y6 K H m s v p->Y6 K H' m s v p
 |_,_,.nil=>.nil
 |_,_,.cons a b=>.cons (Rep.now k a) (Y6.now k b)
end
end
def Fro(H H':Hp):Prop:=∀a o u,H a=Za (.Z5 o u)->H' a=Za (.Z5 o u)
structure ÃI(P:bT)(w:cy)(K:aa)(mg:Str->Option ai)(base:cg)(k:Nat)(CB f:ag)(vs:List V)(H:Hp)(dr:List PV->PV->N'->Out PV):Prop where
 ex:∃of fd0 fd ps sp,H f=Za (fzO of)/\of.data=.func fd0/\ZA P w K mg base (Z' P w) k f fd ps sp/\Binds K fd ps [] /\
  ∀H' m s v p l Q,Fro H H'->SR K CB H' m s->Y5 K H' m s vs l->Rep K H' m s v p->Zs K CB (Rep K) E0 (dr l p s) H' m s Q->sp [v] H' Q E0
open Classical in
open Classical in
def tH(fi:XA)(ix:List Nat)(c:XT)(e:XE)(Z:En)(s:N'):Out PV:=(fi Z s).bind λl s1=>if l.length<=100000 then(oH c e (nM ix Z) l s1).bind λvs s2=>.ok (.ref s2.nx) (s2.add (.lst vs)) else .bad
section
variable{X:Cx}
def ŀ.cell{K}{D}{H1 H2}{m1 m2}{s1 s2}{cap}{Z}{ys}{done}(C:ŀ K CB D H1 m1 s1 cap Z ys done H2 m2 s2)(hD:H1 D=Zb)(hn:D∉m1.Z0) :
  SR K CB H2 ((m2.bare m1.Z0).add s2.nx D [D]) (s2.add (.lst done))/\Ext H1 m1 s1 H2 ((m2.bare m1.Z0).add s2.nx D [D]) (s2.add (.lst done)):=by
 have S:=C.sr;have SA:D∈m2.Z0:=by rw[C.Z0];exact al
 have Sd:=λj hj=>az (S.lt j hj);have TV:∀j∈s2.cs.map (·.1),((m2.bare m1.Z0).add s2.nx D [D]).fp j=m2.fp j:=λj hj=>Zd (Sd j hj);have Uq:((m2.bare m1.Z0).add s2.nx D [D]).fp s2.nx=[D]:=Zc rfl;have had:((m2.bare m1.Z0).add s2.nx D [D]).ad s2.nx=D:=Zc rfl;have nD:=λj hj z=>S.hx j hj D z SA;have hk:=λ{j} hj=>ap.mp (show j∈s2.nx::s2.cs.map (·.1) from hj);have Vb:∀a,a∈m1.Z0->a∈m2.Z0:=λa ha=>by rw[C.Z0];exact af _ ha
 have pur:∀a,a≠D->a∉m1.Z0->(∀n∈s2.cs.map (·.1),a∉m2.fp n)->Ŀ ((m2.bare m1.Z0).add s2.nx D [D]) (s2.add (.lst done)) a:=λa h1 h2 h3=>⟨h2,λj hj ha=>by
  obtain rfl|hj:=hk hj
  .grind
  .rw[TV j hj] at ha;exact h3 j hj ha⟩
 have x:ExtR H2 m2 s2 H2 ((m2.bare m1.Z0).add s2.nx D [D]) (s2.add (.lst done)):=⟨dD _,λj hj=>Zd (az hj),λa u h p=>⟨h,pur a (λz=>p.1 (z▸SA)) (λz=>p.1 (Vb a z)) p.2⟩,λa u h _ _=>h⟩;have e1:=C.ex.nx;refine⟨⟨?_,?_,λq hq=>?_,λj hj i hi Su a ha hb=>?_,λj hj a ha hb=>?_,λa ha=>S.hs a (Vb a ha),λP q t=>⟨?_,(S.tb P q t).2⟩⟩,⟨⟨⟨Nat.le_succ_of_le e1,λn hn=>?_,λa u h p=>?_,C.ex.el⟩,λn l hn h=>?_⟩,rfl,C.ex.hk⟩⟩
 .exact aK.mpr ⟨λz=>Sd _ z rfl,S.nd⟩
 .intro j hj;obtain rfl|hj:=hk hj
  .exact bv _
  .exact bK (S.lt j hj)
 .obtain rfl|hq:=ap.mp (hq)
  .exact⟨by rw[Uq,had],ys,by rw[had];exact C.at_,C.rs.Zq x⟩
  .have Wm:q.1∈s2.cs.map (·.1):=ar.mpr ⟨q,hq,rfl⟩;exact(S.ok q hq).keep S x (λa _ o h=>h) (x.ad _ (S.lt _ Wm)) (TV _ Wm)
 .obtain e|hj:=hk hj<;>obtain e'|hi:=hk hi
  .grind
  .rw[e,Uq,ax] at ha;rw[TV i hi,ha] at hb;exact nD i hi hb
  .rw[e',Uq,ax] at hb;rw[TV j hj,hb] at ha;exact nD j hj ha
  .rw[TV j hj] at ha;rw[TV i hi] at hb;exact S.dj j hj i hi Su a ha hb
 .have hb:a∈m1.Z0:=hb;obtain e|hj:=hk hj
  .grind
  .rw[TV j hj] at ha;exact S.hx j hj a ha (Vb a hb)
 .let⟨h1,ps,h2,_⟩:=S.tb P q t;rw[C.Z0] at h1;obtain z|z:=ap.mp h1
  .rw[z,C.at_] at h2;cases h2
  .exact z
 .have:=az (aA hn e1);exact(Zd this).trans (C.ex.ad n hn)
 .let⟨h1,p1⟩:=C.ex.pu a u h p;exact⟨h1,pur a (h.ne hD) p1.1 p1.2⟩
 .let⟨h1,h2⟩:=C.ex.df n l hn h;refine⟨?_,h2⟩;show qK ((s2.nx,Cell.lst done)::s2.cs) n=_;unfold qK;rw[Zd (λz=>az (aA hn e1) z.symm)];exact h1
def JJ(S1:SR X.K CB H1 m1 s1)(er:ER X.K H1 m1 s1 O Z)(it:qz X.K CB J l H1 m1 s1)(hD:H1 D=Zb)(R5:l.length<=100000)(P:Zs X.K CB (Rep X.K) E ((oH t f (nM ix Z) l s1).bind λvs s2=>.ok (.ref s2.nx) (s2.add (.lst vs))) H1 m1 s1 Q):ĳ J (TDT X.K CB E0 t) (Ŭ X.K CB E0 f) (É ix O) D H1 Q:=by
 refine⟨λi k ys H2=>∃done m2 s2,ŀ X.K CB D H1 m1 s1 (É ix O) (nM ix Z) ys done H2 m2 s2/\i<=l.length/\ys.length<=i/\k=l.length-i/\(oH t f (nM ix Z) l s1).bind (λvs s2=>.ok (PV.ref s2.nx) (s2.add (.lst vs)))=(oH t f (nM ix Z) (l.drop i) s2).bind λvs s2=>.ok (.ref s2.nx) (s2.add (.lst (done++vs))),⟨l.length,[],m1.hide D,s1,ŀ.start S1 (er.É ix) hD,aV _,aV _,rfl,?_⟩,?_⟩
 .simp
 rintro i k ys H2 ⟨done,m2,s2,C,hi,hy,rfl,eq⟩
 let⟨U9,UB⟩:=it i H2 m2 s2 C.e0 C.sr;by_cases Sd:i<l.length
 .right;have hq:=ay Sd;let⟨go,yl⟩:=U9 _ hq;refine⟨go,λx H3 We=>?_⟩;let⟨e3,S3,r3⟩:=yl x H3 We;have C3:=C.step hD e3 S3;rw[cF Sd] at eq;rw[eq] at P;rw[pO] at P eq;refine⟨Za l[i]::nM ix Z,s2,m2,C3.er.cons r3,S3,?_⟩;cases ct:t (Za l[i]::nM ix Z) s2 with
  |bad=>rw[ct] at P;exact P.elim
  |ex c3 s3=>rw[ct] at P;exact P.elim
  |ok bt s3 =>
   rw[ct] at P eq
   rintro b4 H4 m4 e4 S4 rfl
   have C4:=C3.step hD e4 S4;cases b4 with
   |false =>
    exact Ou ⟨l.length-(i+1),by omega,done,m4,s3,C4,Sd,by omega,rfl,eq⟩
   |true =>
    refine Ot ⟨Za l[i]::nM ix Z,s3,m4,C4.er.cons (r3.ext e4),S4,?_⟩;dsimp only at P eq;cases cf:f (Za l[i]::nM ix Z) s3 with
    |bad=>rw[cf] at P;exact P.elim
    |ex c5 s5=>rw[cf] at P;exact P.elim
    |ok v s5 =>
     rw[cf] at eq;intro w H5 m5 e5 S5 r5;have C5:=C4.step hD e5 S5;refine⟨C5.at_,aW (aC hy (aC hi R5)) (Zf rfl),l.length-(i+1),by omega,done++[v],m5,s5,C5.push hD r5,Sd,by simp;omega,rfl,?_⟩;rw[eq];dsimp only;cases hh:oH t f (nM ix Z) (l.drop (i+1)) s5 with
     |ok vs s6=>simp[Out.bind]
     |ex c6 s6=>exact absurd hh xI
     |bad=>rfl
 .left;have Te:=eP Sd;rw[cY Te] at eq;rw[eq] at P;let⟨Vz,Tc⟩:=C.cell hD λz=>(S1.hs D z).1 hD;have P:Zs X.K CB (Rep X.K) E (.ok (.ref s2.nx) (s2.add (.lst (done++[])))) H1 m1 s1 Q:=P;rw[bQ] at P;refine⟨UB Te,C.at_,?_⟩;have P:=P (.ref D) H2 ((m2.bare m1.Z0).add s2.nx D [D]) Tc Vz;have e0:((m2.bare m1.Z0).add s2.nx D [D]).ad s2.nx=D:=Zc rfl;apply P;have r:=Rep.ref (K:=X.K) (H:=H2) (m:=(m2.bare m1.Z0).add s2.nx D [D]) (s:=s2.add (.lst done)) (bv _);rw[e0] at r;exact r
def yW(q:Ŭ X.K CB E (tH fi ix t f) O H Q):JY (TDI X.K CB E fi) ix (TDT X.K CB E0 t) (Ŭ X.K CB E0 f) O H Q:=by
 let⟨Z,s,m,er,S,P⟩:=q;refine⟨Z,s,m,er,S,?_⟩;unfold tH at P;cases c:fi Z s with
 |bad=>rw[c] at P;exact P
 |ex c' s'=>rw[c] at P;exact P
 |ok l s1 =>
  rw[c] at P;dsimp only[Out.bind] at P;split at P
  .rename_i R5;exact λJ H1 m1 e1 S1 it D hD=>JJ S1 (er.ext e1) it hD R5 (Zs.shift e1 P)
  .exact P.elim
def LD(hi:DI X CB E (.Name x px) iter fi)(he:∀cl C R4 R9 fp,DE (ą X scope cl C (x::fr) R4 R9 fp) CB E0 elt f)(ht:∀cl C R4 R9 fp,Ŕ (ą X scope cl C (x::fr) R4 R9 fp) CB Sr t:=by exact λ_ _ _ _ _=>qe)(hc:X.calm=true:=by rfl)(S:Ã X.N X.env.scope scope x fr ix:=by exact Kb ‹K' _ _ _›)(hs:∀v,a6 iter X.env v=pure v:=by intro _;rfl):DE X CB E (.ListComp elt [⟨.Name x px,iter,Sr,0⟩] scope pos) (tH fi ix t f) :=
 ⟨(v6 hc S hi.pi (λcl C R4 R9 fp=>(ht cl C R4 R9 fp).Ŵ) (λcl C R4 R9 fp=>(he cl C R4 R9 fp).pe) hs).mono λO H Q q=>yW q⟩
def Fe(hi:DI X CB E (.Name x px) iter fi)(he:∀cl C R4 R9 fp,DE (ą X scope cl C (x::fr) R4 R9 fp) CB E0 elt f)(ht:∀cl C R4 R9 fp,Ŕ (ą X scope cl C (x::fr) R4 R9 fp) CB Sr t:=by exact λ_ _ _ _ _=>qe)(hN:X.N.Nodup:=by exact ‹K' _ _ _›.nd)(UJ:X.N[i]?=Za y:=by rfl)(Um:X.env.scope.names.lookup y=Za .local:=by rfl)(hc:X.calm=true:=by rfl)(S:Ã X.N X.env.scope scope x fr ix:=by exact Kb ‹K' _ _ _›)(Uk:cO (.ListComp elt [⟨.Name x px,iter,Sr,0⟩] scope pos) (Za (.Name y py)) ń.line X.env=pure true:=by rfl)(hs:∀v,a6 iter X.env v=pure v:=by intro _;rfl):DS X CB E (.Assign [.Name y py] (.ListComp elt [⟨.Name x px,iter,Sr,0⟩] scope pos) ń) (Y8 i (tH fi ix t f)) :=
 ⟨(wD hN UJ Um hc S hi.pi (λcl C R4 R9 fp=>(ht cl C R4 R9 fp).Ŵ) (λcl C R4 R9 fp=>(he cl C R4 R9 fp).pe) Uk hs).mono λD O H=>oE λZ s m er S P =>
  yW ⟨Z,s,m,er,S,Zs.so P λv s1 u H1 m1 e1 S1 r1 P1=>P1.next S1 ((er.ext e1).set i r1)⟩⟩
end
def KR(hc:X.calm=true)(S:ĉ X.N X.env.scope scope xs fr ix)(hi:PI X tg iter wi)(hg:∀cl C R4 R9 fp,PG (ą X scope cl C (xs++fr) R4 R9 fp) tg gt)(ht:∀cl C R4 R9 fp,Hj (ą X scope cl C (xs++fr) R4 R9 fp) Sr tc)(he:∀cl C R4 R9 fp,PE (ą X scope cl C (xs++fr) R4 R9 fp) elt te)(hs:∀v,a6 iter X.env v=pure v:=by intro _;rfl):PE X (.ListComp elt [⟨tg,iter,Sr,0⟩] scope pos) (Hm wi ix gt xs.length tc te):=by
 intro R1 s O H Q I h;have Sb:∀y∈scope.names,y.2=.free->∃c,X.env.cells.lookup y.1=Za c:=λy hy hf=>I.ok.has y.1 (.inl (S.free y hy hf));refine fA rfl hs (qw Sb) S.kind S.nm (Zx (hi R1 s O H _ I h) λv s1 h1=>Zx h1 λVH s2 h2=>?_);let⟨it,fp,tn,J,H2,rfl,I2,T,Td,f2,q2⟩:=h2;refine wO hc S hg ht he Sb I2 T Td f2 q2 λD C H' s' I' Vv ⟨b1,b2,b3,b4⟩ TZ q'=>?_;let⟨m',Tk⟩:=TZ;refine⟨m',Tk,λh' Vc=>⟨.ref D,H',?_,rfl,q'⟩⟩;exact I'.turned (λb o hb e=>Vc.extBut b o hb e) Vv b1 (.inr b2) b3 b4
def E4(hN:X.N.Nodup)(UJ:X.N[i]?=Za y)(Um:X.env.scope.names.lookup y=Za .local)(hc:X.calm=true)(S:ĉ X.N X.env.scope scope xs fr ix)(hi:PI X tg iter wi)(hg:∀cl C R4 R9 fp,PG (ą X scope cl C (xs++fr) R4 R9 fp) tg gt)(ht:∀cl C R4 R9 fp,Hj (ą X scope cl C (xs++fr) R4 R9 fp) Sr tc)(he:∀cl C R4 R9 fp,PE (ą X scope cl C (xs++fr) R4 R9 fp) elt te)(Uk:cO (.ListComp elt [⟨tg,iter,Sr,0⟩] scope pos) (Za (.Name y py)) ń.line X.env=pure true:=by rfl)(hs:∀v,a6 iter X.env v=pure v:=by intro _;rfl):PS X (.Assign [.Name y py] (.ListComp elt [⟨tg,iter,Sr,0⟩] scope pos) ń) (Ps (Hm wi ix gt xs.length tc te) (Ha i)):=by
 intro R1 s O H D0 I h;have Sb:∀y∈scope.names,y.2=.free->∃c,X.env.cells.lookup y.1=Za c:=λy hy hf=>I.ok.has y.1 (.inl (S.free y hy hf));rw[exec_Assign_Name_used _ _ _ _ Uk];refine ae (eE (ae ?_));refine ae (aZ (fA rfl hs (qw Sb) S.kind S.nm
  (Zx (hi R1 s O H _ I h) λv s1 h1=>Zx h1 λVH s2 h2=>?_)) (λ_ s' hq=>aE (aE hq)) λ_ _ e=>e)
 let⟨it,fp,tn,J,H2,rfl,I2,T,Td,f2,q2⟩:=h2;refine wO hc S hg ht he Sb I2 T Td f2 q2 λD C H' s' I' Vv ⟨b1,b2,b3,b4⟩ TZ q'=>?_;let⟨m',Tk⟩:=TZ;refine jL (ym (v:=.ref D) I' hN UJ (.inl Um) rfl (λs5 I5 sb=>?_) (.inr Um));let⟨a5,sb,YH⟩:=sb;have YN:C≠a5:=by
  obtain z|z:=YH
  .rw[z];exact b1
  .exact(b3 _ _ z).symm
 refine⟨m',Tk.sameBut sb YN,λh' Vc=>⟨_,H',?_,q'⟩⟩;exact I5.turned (λb o hb e=>Vc.extBut b o hb e) Vv b1 (.inr b2) b3 b4
def ED(q:PV)(s:N'):Option (PV×PV):=match q with
 |.tup [p1,p2]=>Za (p1,p2)
 |_=>Zb
def y2:XG:=Ô 2 (Zp (Y4 0) (Zp (Y4 1) Õ))
def Áe(h:ED q s=Za (p1,p2)):y2 q (Zb::Zb::cap) s=Za (Za p1::Za p2::cap):=by
 unfold ED at h;split at h
 .cases h;rfl
 .cases h
def nW(c:XT)(e:XE)(cap:En):List PV->N'->Out (List PV)
 |[],s=>.ok [] s
 |q::l,s=>match ED q s with
  |none=>.bad
  |some p=>match c (Za p.1::Za p.2::cap) s with
   |.ok true s1=>match e (Za p.1::Za p.2::cap) s1 with
    |.ok v s2=>match nW c e cap l s2 with
     |.ok vs s3=>.ok (v::vs) s3
     |_=>.bad
    |_=>.bad
   |.ok false s1=>nW c e cap l s1
   |_=>.bad
def yX:nW c e cap (q::l) s=match ED q s with
  |none=>.bad
  |some p=>match c (Za p.1::Za p.2::cap) s with
   |.ok true s1=>match e (Za p.1::Za p.2::cap) s1 with
    |.ok v s2=>match nW c e cap l s2 with
     |.ok vs s3=>.ok (v::vs) s3
     |_=>.bad
    |_=>.bad
   |.ok false s1=>nW c e cap l s1
   |_=>.bad:=rfl
theorem Df:∀{l:List PV}{s s':N'}{k:Xc},nW c e cap l s≠.ex k s'
 |[],_,_,_,h=>by cases h
 |q::l,s,s',k,h=>by
  unfold nW at h;split at h
  .cases h
  .split at h
   .split at h
    .split at h<;>cases h
    .cases h
   .exact Df h
   .cases h
def p8(fi:XA)(ix:List Nat)(c:XT)(e:XE)(Z:En)(s:N'):Out PV:=(fi Z s).bind λl s1=>if l.length<=100000 then(nW c e (nM ix Z) l s1).bind λvs s2=>.ok (.lst vs) s2 else .bad
section
variable{X:Cx}
def ER.ÀS{K}{H}{m}{s}{O}{p1 p2}{cap}(h:ER K H m s O (Za p1::Za p2::cap)):ER K H m s O (Zb::Zb::cap) :=
 ⟨h.len,λi p q=>by
  match i,q with
  |0,q=>cases q
  |1,q=>cases q
  |i+2,q=>exact h.at_ (i+2) p q⟩
def ER.ÁX{K}{H}{m}{s}{O}{cap}(h:ER K H m s O cap):ER K H m s (aQ 2 Zb++O) (Zb::Zb::cap) :=
 ⟨by have:=h.len;simp at this ⊢;omega,λi p q=>by
  match i,q with
  |0,q=>cases q
  |1,q=>cases q
  |i+2,q=>exact h.at_ i p q⟩
def ŀ.env{K}{D}{H1 H2}{m1 m2}{s1 s2}{cap cap'}{Z Y'}{ys}{done}(C:ŀ K CB D H1 m1 s1 cap Z ys done H2 m2 s2)(er:ER K H2 m2 s2 cap' Y'):ŀ K CB D H1 m1 s1 cap' Y' ys done H2 m2 s2:=⟨C.Z0,C.at_,C.sr,er,C.rs,C.ex,C.e0⟩
def JK{O}{H1}{m1}{s1}{Z}{J:It}{l}{D}{Q}{t}(S1:SR X.K CB H1 m1 s1)(er:ER X.K H1 m1 s1 O Z)(it:qz X.K CB J l H1 m1 s1)(hD:H1 D=Zb)(R5:l.length<=100000)(P:Zs X.K CB (Rep X.K) E ((nW t f (nM ix Z) l s1).bind λvs s2=>.ok (.lst vs) s2) H1 m1 s1 Q):EX J (TDG X.K CB y2) 2 (TDT X.K CB E0 t) (Ŭ X.K CB E0 f) (É ix O) D H1 Q:=by
 refine⟨λi k ys Ĵ H2=>∃done m2 s2,ŀ X.K CB D H1 m1 s1 Ĵ (Zb::Zb::nM ix Z) ys done H2 m2 s2/\i<=l.length/\ys.length<=i/\k=l.length-i/\(nW t f (nM ix Z) l s1).bind (λvs s2=>.ok (PV.lst vs) s2)=(nW t f (nM ix Z) (l.drop i) s2).bind λvs s2=>.ok (.lst (done++vs)) s2,⟨l.length,[],m1.hide D,s1,(ŀ.start S1 (er.É ix) hD).env ((er.É ix).ÁX.Zq (Ext0.hide hD).toExtR),aV _,aV _,rfl,?_⟩,?_⟩
 .simp
 rintro i k ys Ĵ H2 ⟨done,m2,s2,C,hi,hy,rfl,eq⟩
 let⟨U9,UB⟩:=it i H2 m2 s2 C.e0 C.sr;by_cases Sd:i<l.length
 .right;have hq:=ay Sd;let⟨go,yl⟩:=U9 _ hq;refine⟨go,λx H3 We=>?_⟩;let⟨e3,S3,r3⟩:=yl x H3 We;have C3:=C.step hD e3 S3;rw[cF Sd] at eq;rw[eq] at P;rw[yX] at P eq;cases hp:ED l[i] s2 with
  |none=>rw[hp] at P;exact P.elim
  |some pq =>
   let⟨p1,p2⟩:=pq;rw[hp] at P eq;dsimp only at P eq;refine⟨_,s2,m2,l[i],_,C3.er,S3,r3,Áe hp,λŖ Ue=>?_⟩;have C3:=C3.env Ue;refine⟨_,s2,m2,Ue,S3,?_⟩;cases ct:t (Za p1::Za p2::nM ix Z) s2 with
   |bad=>rw[ct] at P;exact P.elim
   |ex c3 s3=>rw[ct] at P;exact P.elim
   |ok bt s3 =>
    rw[ct] at P eq
    rintro b4 H4 m4 e4 S4 rfl
    have C4:=C3.step hD e4 S4;cases b4 with
    |false =>
     exact Ou ⟨l.length-(i+1),by omega,done,m4,s3,C4.env C4.er.ÀS,Sd,by omega,rfl,eq⟩
    |true =>
     refine Ot ⟨_,s3,m4,C4.er,S4,?_⟩;dsimp only at P eq;cases cf:f (Za p1::Za p2::nM ix Z) s3 with
     |bad=>rw[cf] at P;exact P.elim
     |ex c5 s5=>rw[cf] at P;exact P.elim
     |ok v s5 =>
      rw[cf] at eq;intro w H5 m5 e5 S5 r5;have C5:=C4.step hD e5 S5;refine⟨C5.at_,aW (aC hy (aC hi R5)) (Zf rfl),l.length-(i+1),by omega,done++[v],m5,s5,(C5.push hD r5).env (C5.push hD r5).er.ÀS,Sd,by simp;omega,rfl,?_⟩;rw[eq];dsimp only;cases hh:nW t f (nM ix Z) (l.drop (i+1)) s5 with
      |ok vs s6=>simp[Out.bind]
      |ex c6 s6=>exact absurd hh Df
      |bad=>rfl
 .left;have Te:=eP Sd;rw[cY Te] at eq;rw[eq] at P;let⟨Vz,rd⟩:=C.done;refine⟨UB Te,C.at_,P (.ref D) H2 (m2.bare m1.Z0) C.ex Vz ?_⟩;rw[bQ];exact rd λz=>(S1.hs D z).1 hD
def yY(q:Ŭ X.K CB E (p8 fi ix t f) O H Q):Hm (TDI X.K CB E fi) ix (TDG X.K CB y2) 2 (TDT X.K CB E0 t) (Ŭ X.K CB E0 f) O H Q:=by
 let⟨Z,s,m,er,S,P⟩:=q;refine⟨Z,s,m,er,S,?_⟩;unfold p8 at P;cases c:fi Z s with
 |bad=>rw[c] at P;exact P
 |ex c' s'=>rw[c] at P;exact P
 |ok l s1 =>
  rw[c] at P;dsimp only[Out.bind] at P;split at P
  .rename_i R5;exact λJ H1 m1 e1 S1 it D hD=>JK S1 (er.ext e1) it hD R5 (Zs.shift e1 P)
  .exact P.elim
def Iw(hN:([Tg,Tc]++fr).Nodup)(h1:scope.names.lookup Tg=Za .local)(h2:scope.names.lookup Tc=Za .local):DG (ą X scope cl C ([Tg,Tc]++fr) R4 R9 fp) CB (.Tuple [.Name Tg q1,.Name Tc q2] kt q3) y2 :=
 uH (nQ (nC 0 hN rfl (.inl (dI h1)) (.inr (dI h1))) (nQ (nC 1 hN rfl (.inl (dI h2)) (.inr (dI h2))) rK))
def Bh(hi:DI X CB E (.Tuple [.Name Tg q1,.Name Tc q2] kt q3) iter fi)(he:∀cl C R4 R9 fp,DE (ą X scope cl C ([Tg,Tc]++fr) R4 R9 fp) CB E0 elt f)(ht:∀cl C R4 R9 fp,Ŕ (ą X scope cl C ([Tg,Tc]++fr) R4 R9 fp) CB Sr t:=by exact λ_ _ _ _ _=>qe)(hc:X.calm=true:=by rfl)(S:ĉ X.N X.env.scope scope [Tg,Tc] fr ix:=by exact Âv ‹K' _ _ _›)(h1:scope.names.lookup Tg=Za .local:=by rfl)(h2:scope.names.lookup Tc=Za .local:=by rfl)(hs:∀v,a6 iter X.env v=pure v:=by intro _;rfl):DE X CB E (.ListComp elt [⟨.Tuple [.Name Tg q1,.Name Tc q2] kt q3,iter,Sr,0⟩] scope pos) (p8 fi ix t f) :=
 ⟨(KR hc S hi.pi (λcl C R4 R9 fp=>(Iw S.nd h1 h2).pg) (λcl C R4 R9 fp=>(ht cl C R4 R9 fp).Ŵ) (λcl C R4 R9 fp=>(he cl C R4 R9 fp).pe) hs).mono λO H Q q=>yY q⟩
def yT(hi:DI X CB E (.Tuple [.Name Tg q1,.Name Tc q2] kt q3) iter fi)(he:∀cl C R4 R9 fp,DE (ą X scope cl C ([Tg,Tc]++fr) R4 R9 fp) CB E0 elt f)(ht:∀cl C R4 R9 fp,Ŕ (ą X scope cl C ([Tg,Tc]++fr) R4 R9 fp) CB Sr t:=by exact λ_ _ _ _ _=>qe)(hN:X.N.Nodup:=by exact ‹K' _ _ _›.nd)(UJ:X.N[i]?=Za y:=by rfl)(Um:X.env.scope.names.lookup y=Za .local:=by rfl)(hc:X.calm=true:=by rfl)(S:ĉ X.N X.env.scope scope [Tg,Tc] fr ix:=by exact Âv ‹K' _ _ _›)(h1:scope.names.lookup Tg=Za .local:=by rfl)(h2:scope.names.lookup Tc=Za .local:=by rfl)(Uk:cO (.ListComp elt [⟨.Tuple [.Name Tg q1,.Name Tc q2] kt q3,iter,Sr,0⟩] scope pos) (Za (.Name y py)) ń.line X.env=pure true:=by rfl)(hs:∀v,a6 iter X.env v=pure v:=by intro _;rfl):DS X CB E (.Assign [.Name y py] (.ListComp elt [⟨.Tuple [.Name Tg q1,.Name Tc q2] kt q3,iter,Sr,0⟩] scope pos) ń) (Y8 i (p8 fi ix t f)) :=
 ⟨(E4 hN UJ Um hc S hi.pi (λcl C R4 R9 fp=>(Iw S.nd h1 h2).pg) (λcl C R4 R9 fp=>(ht cl C R4 R9 fp).Ŵ) (λcl C R4 R9 fp=>(he cl C R4 R9 fp).pe) Uk hs).mono λD O H=>oE λZ s m er S P =>
  yY ⟨Z,s,m,er,S,Zs.so P λv s1 u H1 m1 e1 S1 r1 P1=>P1.next S1 ((er.ext e1).set i r1)⟩⟩
end
def ÁW(i:Int):Str:=b5 (toString i)
def JM:ZY X (.type "str") (λxs H Q=>(∃i,xs=[.int i]/\i.natAbs.log2<1920/\Q (.str (ÁW i)) H)\/∃x,xs=[.str x]/\Q (.str x) H):=by
 intro R1 s O H xs us Q I r h;rcases h with⟨i,rfl,hz,q⟩|⟨x,rfl,q⟩
 .let⟨u,rfl,t,rfl⟩:=rF r;exact PySem.P.str_of_int hz ⟨.str _,H,I.tok _,⟨_,rfl⟩,q⟩
 .let⟨u,rfl,t,rfl⟩:=rF r;exact PySem.P.str_of_str ⟨.str _,H,I,⟨_,rfl⟩,q⟩
section
variable{X:Cx}
def Ân(vs:List PV)(s:N'):Out PV:=match vs with
 |[.int i]=>if i.natAbs.log2<1920 then .ok (.str (ÁW i)) s else .bad
 |[.str x]=>.ok (.str x) s
 |_=>.bad
def Àd:ŕ X CB E (.type "str") Ân:=⟨_,JM,by
 intro H m s v x Q S rx P;unfold Ân at P;split at P
 .split at P
  .rename_i hz;cases rx with
   |cons r n=>cases n;cases r;exact .inl ⟨_,rfl,hz,P.here S .str⟩
  .exact P.elim
 .cases rx with
  |cons r n=>cases n;cases r;exact .inr ⟨_,rfl,P.here S .str⟩
 .exact P.elim⟩
end
structure DEx(X:Cx)(CB:ag)(e:cA)(f:XE):Prop where
 pex:PEx X e (λE=>Ŭ X.K CB E f)
structure DSx(X:Cx)(CB:ag)(st:bX)(u:XS):Prop where
 psx:PSx X st (λE=>TDS X.K CB E u)
def Bq(n:Nat)(D:XF)(fa:XA)(Z:En)(s:N'):Out PV:=match fa Z s with
 |.ok vs s1=>if vs.length=n then D vs s1 else .bad
 |_=>.bad
section
variable{X:Cx}{st W0:bX}
def PEx.mono{t t'}(h:PEx X e t)(k:∀E O H Q,t' E O H Q->t E O H Q):PEx X e t':=λR1 s O H Q E I q=>h R1 s O H Q E I (k E O H Q q)
def PSx.mono{t t'}(h:PSx X st t)(k:∀E D O H,t' E D O H->t E D O H):PSx X st t':=λR1 s O H D E I q=>h R1 s O H D E I (k E D O H q)
def RA(F:Fn X.prog X.w X.K X.mg X.base x k ps (Ķ X.K CB n D))(ha:DA X.ė CB E0 (e::es) fa){jr}(hr:Zw jr X.A:=by assumption)(hk:k<=jr:=by first|decide|lia)(hg:Gl X x:=by rfl)(SI:Ĉ x:=by decide)(he:Œ X e es:=by rfl)(Sf:(bI pos (ao es X.env)).any (·.1)=false:=by rfl):DEx X CB (.Call (.Name x p) (e::es) [] pos) (Bq n D fa) :=
 ⟨(QM F (hr.mono hk) hg ha.pa SI he Sf).mono λE O H Q=>oE λZ s m er S P=>⟨Z,s,m,er,S,by
  unfold Bq at P;cases cc:fa Z s with
  |bad=>rw[cc] at P;exact P
  |ex c s1=>rw[cc] at P;exact P.elim
  |ok vs s1 =>
   rw[cc] at P;dsimp only at P;split at P
   .rename_i hl;intro us H1 m1 e1 S1 r1;rw[bQ];exact⟨by rw[r1.length];exact hl,vs,s1,m1,r1,S1,Zs.shift e1 P⟩
   .exact P.elim⟩⟩
def KD(he:PEx X e te)(hs:cO e Zb pos.line X.env=pure false:=by rfl):PSx X (.Expr e pos) (λE=>Pr (te E)):=by exact λR1 s O H D E I h=>wpAny_Expr_any (Zx (he R1 s O H _ E I h) λv s1=>e4 λx H1 I1 r1 q1=>⟨O,H1,I1,q1⟩) I.quiet hs
def Rv(he:DEx X CB e f)(hs:cO e Zb pos.line X.env=pure false:=by rfl):DSx X CB (.Expr e pos) (Ť f) :=
 ⟨(KD he.pex hs).mono λE D O H=>oE λZ s m er S P=>⟨Z,s,m,er,S,Zs.so P λv s1 u H1 m1 e1 S1 r1 P1=>P1.next S1 (er.ext e1)⟩⟩
open Classical in
def Ni(i:Nat)(cl:List ag)(u h:XS)(Z:En)(s:N'):SO:=match u Z s with
 |.ex c s1=>if c.1∈cl then(match h (Z.set i (Za (.exc c))) s1 with
  |.nx Y' s'=>.nx (Y'.set i Zb) s'
  |.rt v s'=>.rt v s'
  |_=>.bad) else .bad
 |o=>o
def ER.put{K}{H}{m}{s}{O}{Z}(h:ER K H m s O Z)(i):ER K H m s (O.set i Zb) (Z.set i Zb) :=
 ⟨by rw[jG,jG];exact h.len,λj p q=>by
  by_cases z:i=j
  .subst z;rw[gM] at q
   grind
  .rw[f7 z] at q ⊢;exact h.at_ j p q⟩
def Rw(hc:X.calm=true)(S6:X.stack=X.env::X.outer)(hf:X.env.frame=Za X.env.locals)(Vp:X.ex=[])(hb:DSx X CB st u)(hg:Gl X x)(hm:X.mg x=Za (.ref D0))(ZD:Cb X.K D0)(Tz:∀c∈cl,Ϗ X.K c/\bJ X.K c (.ref D0)=Za true)(hN:X.N.Nodup)(hi:X.N[i]?=Za nm)(hl:X.env.scope.names.lookup nm=Za .local)(hh:∀a,DSs (õ X a) CB E0 (W0::bs) v)(hd:Ĉ x:=by decide) :
  DS X CB E (.Try [st] [.ExceptHandler (Za (.Name x np)) (Za nm) (W0::bs) hp] [] [] pos) (Ni i cl u v) :=
 ⟨(QE (th:=TDS X.K CB E0 v) hc S6 hf Vp (KC hb.psx) hg hm ZD hN hi hl (λa=>(hh a).pss) hd).mono λD O H=>oE λZ s m er S P=>by
  refine⟨Z,s,m,er,S,?_⟩;unfold Ni at P;cases cc:u Z s with
  |nx=>rw[cc] at P;exact P
  |rt=>rw[cc] at P;exact P
  |bk=>rw[cc] at P;exact P
  |ct=>rw[cc] at P;exact P
  |bad=>rw[cc] at P;exact P
  |ex c s1 =>
   rw[cc] at P;dsimp only at P;split at P
   .rename_i SA;refine λH' m' e1 S1 d y=>⟨c.1,rfl,(Tz _ SA).1,(Tz _ SA).2,λad hn=>?_⟩;have k:=My.rQ (o:=FQ c.1 ad d) hn;have e2:Ext H' m' s1 (upd H' ad (FQ c.1 ad d)) m' s1:=.same k;have r2:Rep X.K (upd H' ad (FQ c.1 ad d)) m' s1 (.ref ad) (.exc c):=.exc mH (S1.ZK hn) (y.Zq e2.toExtR);refine⟨Z.set i (Za (.exc c)),s1,m',((er.ext e1).ext e2).set i r2,S1.same k,?_⟩;have P:=ZP.shift (e1.trans e2) P;cases ch:v (Z.set i (Za (.exc c))) s1 with
    |nx Y' s'=>rw[ch] at P;exact λZG H2 m2 x2 S2 Vw=>P _ H2 m2 x2 S2 (Vw.put i)
    |rt w s'=>rw[ch] at P;exact P
    |bk=>rw[ch] at P;exact P.elim
    |ct=>rw[ch] at P;exact P.elim
    |ex=>rw[ch] at P;exact P.elim
    |bad=>rw[ch] at P;exact P.elim
   .exact P.elim⟩
def Bo(f:XE)(fa:XA)(Z:En)(s:N'):Out PV:=(f Z s).bind λv s1=>match v with
 |.lst l=>(fa Z s1).bind λvs s2=>match vs with
  |[.str y]=>match uC l with
   |some ss=>match ss.findIdx? λz=>decide (z=y) with
    |some j=>if ss.length<1000 then .ok (.int (j:Nat)) s2 else .bad
    |none=>.bad
   |none=>.bad
  |_=>.bad
 |_=>.bad
def Ly(ho:DE X CB E a f)(ha:DA X CB E (e::es) fa)(SB:cm a "index" X.env (eval a X.env)=eval a X.env:=by rfl)(TL:((bI R6 (ao (e::es) X.env)).all (λx=>!x.1)&&(eA R6 (cI [] X.env)).all (λx=>x.1.isSome)
   && decide ((e::es).length+([]:List fV).length+(if([]:List fV).isEmpty then 0 else 1)<30))=true:=by rfl)(Sy:(R8.endLine==R6.line)=true:=by rfl)(hs:Œ X e es:=by rfl)(SH:(bI R6 (ao es X.env)).any (·.1)=false:=by rfl) :
  DE X CB E (.Call (.Attribute a "index" R8) (e::es) [] R6) (Bo f fa) :=
 ⟨(M6 jW jV PySem.F.type_list_index K3 ho.pe ha.pa SB TL Sy hs SH).mono λO H Q=>oE λZ s m er S P=>⟨Z,s,m,er,S,P.bind λv s1 u H1 m1 e1 S1 r1 P1=>by
  split at P1
  .rename_i l;cases r1 with
   |@lst ad Ts _ h0 pu q0 =>
   refine⟨.inl ⟨rfl,Ts,ZU.of h0⟩,Z,s1,m1,er.ext e1,S1,P1.bind λvs s2 us H2 m2 e2 S2 r2 P2=>?_⟩;split at P2
   .rename_i y;split at P2
    .rename_i ss hss;split at P2
     .rename_i j hj;split at P2
      .rename_i hl;cases r2 with
       |cons r n' =>
        cases n';cases r;have ev:Ts=ss.map V.str:=by have e9:=vL hss;rw[e9] at q0;exact q0.strs
        let⟨Sd,hp,T0⟩:=jb.mp hj;refine⟨ad,ss,y,j,rfl,rfl,?_,?_,λi hi z=>?_,hl,P2.here S2 .int⟩
        .rw[<-ev];exact e2.el ad _ h0 `g pu
        .grind
        .grind
      .exact P2.elim
     .exact P2.elim
    .exact P2.elim
   .exact P2.elim
  .exact P1.elim⟩⟩
open Classical in
def yZ(cl:List ag)(tb:ag->Bool)(f:XE)(Z:En)(s:N'):Out PV:=(f Z s).bind λv s1=>match v with
 |.exc c=>if c.1∈cl then .ok (.bl (tb c.1)) s1 else .bad
 |.Zn=>.ok (.bl false) s1
 |_=>.bad
def Ak{cl:List ag}{tb:ag->Bool}{cv:V}{tC':TE}(hcv:(∃a,cv=.ref a)\/∃n,cv=.ty n)(hk:∀c∈cl,Ϗ X.K c/\bA X.K (.ref c) (P9 cv)=Za (tb c))(hn:bA X.K (.type "NoneType") (P9 cv)=Za false){O:St}{H:Hp}{Q:VK}(q:Ŭ X.K CB E (yZ cl tb f) O H Q):Ŭ X.K CB E f O H λu H1=>ÁB X.K [u,cv] H1 Q:=by
 let⟨Z,s,m,er,S,P⟩:=q;refine⟨Z,s,m,er,S,P.bind λv s1 u H1 m1 e1 S1 r1 P1=>?_⟩;split at P1
 .rename_i c;split at P1
  .rename_i hc;cases r1 with
   |exc h1 h2=>exact⟨_,cv,.ref c.1,tb c.1,rfl,hcv,.inr (.inl ⟨_,c.1,_,rfl,rfl,h1,(hk _ hc).1⟩),(hk _ hc).2,P1.here S1 .bl⟩
  .exact P1.elim
 .cases r1;exact⟨_,cv,.type "NoneType",false,rfl,hcv,.inl .Zn,hn,P1.here S1 .bl⟩
 .exact P1.elim
def O5{cl:List ag}{tb:ag->Bool}{C:ag}{px:Pos}(Vm:Gl X "isinstance")(Vf:X.mg "isinstance"=Zb)(ha:DE X CB E a f)(hg:Gl X x)(hm:X.mg x=Za (.ref C))(hk:∀c∈cl,Ϗ X.K c/\bA X.K (.ref c) (.ref C)=Za (tb c))(hn:bA X.K (.type "NoneType") (.ref C)=Za false)(hd:Ĉ x)(hs:ao [a,.Name x px] X.env=(false,eval a X.env)::ao [.Name x px] X.env:=by rfl)(Sf:(bI pos (ao [.Name x px] X.env)).any (·.1)=false:=by rfl):DE X CB E (.Call (.Name "isinstance" p) [a,.Name x px] [] pos) (yZ cl tb f) :=
 ⟨(oP Bi Vm Vf qx (mR ha.pe (mR (qP (v:=.ref C) hg hm rfl hd) Y7) hs) (Zf rfl) (Zf rfl) hs Sf).mono λO H Q q=>Ak (tC':=λ_ _ _=>True) (.inl ⟨_,rfl⟩) hk hn q⟩
def O6{cl:List ag}{tb:ag->Bool}{px:Pos}(Vm:Gl X "isinstance")(Vf:X.mg "isinstance"=Zb)(ha:DE X CB E a f)(hg:Gl X "ValueError")(hm:X.mg "ValueError"=Zb)(hv:bh "ValueError"=Za (.type "ValueError"))(hk:∀c∈cl,Ϗ X.K c/\bA X.K (.ref c) (.type "ValueError")=Za (tb c))(hn:bA X.K (.type "NoneType") (.type "ValueError")=Za false)(hs:ao [a,.Name "ValueError" px] X.env=(false,eval a X.env)::ao [.Name "ValueError" px] X.env:=by rfl)(Sf:(bI pos (ao [.Name "ValueError" px] X.env)).any (·.1)=false:=by rfl):DE X CB E (.Call (.Name "isinstance" p) [a,.Name "ValueError" px] [] pos) (yZ cl tb f) :=
 ⟨(oP Bi Vm Vf qx (mR ha.pe (mR (Ib (v:=.ty "ValueError") hg hm hv rfl) Y7) hs) `d `d hs Sf).mono λO H Q q=>Ak (cv:=.ty "ValueError") (tC':=λ_ _ _=>True) (.inr ⟨_,rfl⟩) hk hn q⟩
end
open PySem.Builtin.Str
def D8{x y:Str}(h:x.cps.toList=y.cps.toList):x=y:=by
 let⟨⟨l⟩⟩:=x;let⟨⟨k⟩⟩:=y
 grind
open PySem.NumText PySem.W in
def Ĥ:bh "dict"=Za (.type "dict"):=by decide +kernel
def Ŧ:=ah @à.eq_1 <|ah @Y3.eq_1 <|ah @Y8.eq_1 <|ah @ZE.eq_1 <|ah @ϸ.eq_1 <|ah @Ť.eq_1 <|ah @ÿ.eq_1 <|ah @Z6.eq_1 <|ah @Ł.eq_1 <|ah @ÀX.eq_1 <|ah @ě.eq_1 <|ah @x1.eq_1 <|ah @x2.eq_1 <|ah @j'.eq_1 <|ah @xC.eq_1 <|ah @xB.eq_1 <|ah @V'.eq_1 <|ah @ł.eq_1 <|ah @F'.eq_1 <|ah @J'.eq_1 <|ah @Ö.eq_1 <|ah @ę.eq_1 <|ah @Ţ.eq_1 <|ah @ZI.eq_1 <|ah @Ĩ.eq_1 <|ah @ÂH.eq_1 <|ah @xOr.eq_1 <|ah @ı.eq_1 <|ah @ÂG.eq_1 <|ah @Àk.eq_1 <|ah @xSl.eq_1 <|ah @Ś.eq_1 <|ah @Č.eq_1 <|ah @ZL.eq_1 <|ah @Ø.eq_1 <|ah @ÀY.eq_1 <|ah @ů.eq_1 <|ah @Ċ.eq_1 <|ah @ϓ.eq_1 <|ah @ġ.eq_1 <|ah @ġ.eq_2 <|ah @Á.eq_1 <|ah @Ě.eq_1 <|ah @ţ.eq_1 <|ah @Àl.eq_1 <|ah @Ϲ.eq_1 <|ah @þ.eq_1 <|ah @ś.eq_1 <|ah @ÀZ.eq_1 <|ah @Àm.eq_1 <|ah @Out.bind.eq_1 <|ah @Out.bind.eq_2 <|ah @Out.bind.eq_3 <|ah @Out.so.eq_1 <|ah @Out.so.eq_2 <|ah @Out.so.eq_3 <|ah @SO.ê.eq_1 <|ah @SO.ê.eq_2 <|ah @ZS.eq_1 <|ah @ZS.eq_2 <|ah @ZS.eq_3 <|ah @ē.eq_1 <|ah @ē.eq_2 <|ah @Zy.eq_1 <|ah @Zy.eq_2 <|ah @Zy.eq_3 <|ah @Ą.eq_1 <|ah @Ą.eq_2 <|ah @ö.eq_1 <|ah @ö.eq_2 <|ah @Ģ.eq_1 <|ah @Ģ.eq_2 <|ah @Ϭ.eq_1 <|ah @Ϭ.eq_2 <|ah @Î.eq_1 <|ah @fIs.eq_1 <|ah @fIs.eq_2 <|ah @Ũ.eq_1 <|ah @Ũ.eq_2 <|ah @Zk.eq_1 <|ah @Zk.eq_2 <|ah @Zk.eq_3 <|ah @Zk.eq_4 <|ah @Zk.eq_5 <|ah @Ϙ.eq_1 <|ah @Ϙ.eq_2 <|ah @fSl.eq_1 <|ah @fSl.eq_2 <|ah @å.eq_1 <|ah @å.eq_2 <|ah @å.eq_3 <|ah @å.eq_4 <|ah @ş.eq_1 <|ah @ş.eq_2 <|ah @Ż.eq_1 <|ah @Ż.eq_2 <|ah @Ż.eq_3 <|ah @ź.eq_1 <|ah @ź.eq_2 <|ah @Àt.eq_1 <|ah @Àt.eq_2 <|ah @Àt.eq_3 <|ah @Àu.eq_1 <|ah @Àu.eq_2 <|ah @ZH.eq_1 <|ah @ZH.eq_2 <|ah @ZH.eq_3 <|ah @ZH.eq_4 <|ah @Ú.eq_1 <|ah @Ú.eq_2 <|ah @Ú.eq_3 <|ah @ó.eq_1 <|ah @ó.eq_2 <|ah @ó.eq_3 <|ah @toV.eq_1 <|ah @toV.eq_2 <|ah @toV.eq_3 <|ah @toV.eq_4 <|ah @toV.eq_5 <|ah @toVs.eq_1 <|ah @toVs.eq_2 <|ah @Y4.eq_1 <|ah @Õ.eq_1 <|ah @Õ.eq_2 <|ah @Zp.eq_1 <|ah @Zp.eq_2 <|ah @Ô.eq_1 <|ah @Ô.eq_2 <|@Áf.eq_1
section
variable{P:bT}{w:cy}{K:aa}{mg:Str->Option ai}{base h:cg}{x q:Str}{st:bX}{f C:ag}{fd:cT}{ps:List Str}{sp:Sp}{k:Nat}{oc kV dc pm cd ct:ai}{od an:Option ag}{sl:Array (Option ai)}
def Bd(x q:Str)(st:bX)(ps:List Str):Prop:=∀(kV dc pm:ai)(an:Option ag)(cd ct:ai)(us:List ai),us.length=ps.length->gA (bW x q (o8 st) (oK st) (mJ st) .none kV dc pm an cd ct) ⟨us,[]⟩=pure (ps.zip us)
def vF:∀{us:List ai},us.length=n+1->∃v r,us=v::r/\r.length=n
 |v::r,h=>⟨v,r,rfl,jY h⟩
def bd0(e:ps.length=0:=by rfl)(h:∀kV dc pm an cd ct,gA (bW x q (o8 st) (oK st) (mJ st) .none kV dc pm an cd ct) ⟨[],[]⟩=pure (ps.zip []):=by intros;rfl):Bd x q st ps:=λ_ _ _ _ _ _ us hl=>by have l0:=hl.trans e;cases List.eq_nil_of_length_eq_zero l0;exact h _ _ _ _ _ _
def bd1(e:ps.length=1:=by rfl)(h:∀kV dc pm an cd ct (v0:ai),gA (bW x q (o8 st) (oK st) (mJ st) .none kV dc pm an cd ct) ⟨[v0],[]⟩=pure (ps.zip [v0]):=by intros;rfl):Bd x q st ps:=λ_ _ _ _ _ _ us hl=>by
 have l0:=hl.trans e;let⟨_,us,rfl,l1⟩:=vF l0
 grind
def bd2(e:ps.length=2:=by rfl)(h:∀kV dc pm an cd ct (v0 v1:ai),gA (bW x q (o8 st) (oK st) (mJ st) .none kV dc pm an cd ct) ⟨[v0,v1],[]⟩=pure (ps.zip [v0,v1]):=by intros;rfl):Bd x q st ps:=λ_ _ _ _ _ _ us hl=>by
 have l0:=hl.trans e;let⟨_,us,rfl,l1⟩:=vF l0;let⟨_,us,rfl,l2⟩:=vF l1
 grind
def bd3(e:ps.length=3:=by rfl)(h:∀kV dc pm an cd ct (v0 v1 v2:ai),gA (bW x q (o8 st) (oK st) (mJ st) .none kV dc pm an cd ct) ⟨[v0,v1,v2],[]⟩=pure (ps.zip [v0,v1,v2]):=by intros;rfl):Bd x q st ps:=λ_ _ _ _ _ _ us hl=>by
 have l0:=hl.trans e;let⟨_,us,rfl,l1⟩:=vF l0;let⟨_,us,rfl,l2⟩:=vF l1;let⟨_,us,rfl,l3⟩:=vF l2
 grind
def bd4(e:ps.length=4:=by rfl)(h:∀kV dc pm an cd ct (v0 v1 v2 v3:ai),gA (bW x q (o8 st) (oK st) (mJ st) .none kV dc pm an cd ct) ⟨[v0,v1,v2,v3],[]⟩=pure (ps.zip [v0,v1,v2,v3]):=by intros;rfl):Bd x q st ps:=λ_ _ _ _ _ _ us hl=>by
 have l0:=hl.trans e;let⟨_,us,rfl,l1⟩:=vF l0;let⟨_,us,rfl,l2⟩:=vF l1;let⟨_,us,rfl,l3⟩:=vF l2;let⟨_,us,rfl,l4⟩:=vF l3
 grind
def bd5(e:ps.length=5:=by rfl)(h:∀kV dc pm an cd ct (v0 v1 v2 v3 v4:ai),gA (bW x q (o8 st) (oK st) (mJ st) .none kV dc pm an cd ct) ⟨[v0,v1,v2,v3,v4],[]⟩=pure (ps.zip [v0,v1,v2,v3,v4]):=by intros;rfl):Bd x q st ps:=λ_ _ _ _ _ _ us hl=>by
 have l0:=hl.trans e;let⟨_,us,rfl,l1⟩:=vF l0;let⟨_,us,rfl,l2⟩:=vF l1;let⟨_,us,rfl,l3⟩:=vF l2;let⟨_,us,rfl,l4⟩:=vF l3;let⟨_,us,rfl,l5⟩:=vF l4
 grind
def bd6(e:ps.length=6:=by rfl)(h:∀kV dc pm an cd ct (v0 v1 v2 v3 v4 v5:ai),gA (bW x q (o8 st) (oK st) (mJ st) .none kV dc pm an cd ct) ⟨[v0,v1,v2,v3,v4,v5],[]⟩=pure (ps.zip [v0,v1,v2,v3,v4,v5]):=by intros;rfl):Bd x q st ps:=λ_ _ _ _ _ _ us hl=>by
 have l0:=hl.trans e;let⟨_,us,rfl,l1⟩:=vF l0;let⟨_,us,rfl,l2⟩:=vF l1;let⟨_,us,rfl,l3⟩:=vF l2;let⟨_,us,rfl,l4⟩:=vF l3;let⟨_,us,rfl,l5⟩:=vF l4;let⟨_,us,rfl,l6⟩:=vF l5
 grind
structure Gx(K:aa)(x:Str):Prop where
 ex:∃X,bF K aT x=Za (Za (.ref X))/\Exc K X
def gx(n:bF K aT x=Za (Za (.ref X)))(a:fL K X bmV "ValueError.__new__"=true)(b:aJ K (.ref X) "__getattribute__"=Za (Za (.builtin "BaseException.__getattribute__")))(c:aJ K (.ref X) "__getattr__"=Za Zb)(d:aJ K (.ref X) "__class__"=Za (Za (.builtin "object.__class__")))(e:cM K (.builtin "object.__class__") "__get__"=Za (Za (.builtin "getset_descriptor.__get__")))(f:fT K (.builtin "object.__class__")=Za true)(g:bJ K X (.type "object")=Za true)(h:bJ K X (.type "BaseException")=Za true):Gx K x:=⟨X,n,⟨Âo a,b,c,d,e,f,g,h⟩,a⟩
structure Gb(K:aa)(C:ag):Prop where
 n:bF K aT "Book"=Za (Za (.ref C))
 p:eB K C ci=true
 h:cE K C=true
 o:gB K C=true
 s:aJ K (.ref C) "__setattr__"=Za (Za (.builtin "object.__setattr__"))
 m:fU K C=true
 k:bU K (.ref C)=true
 a:aJ K (.ref C) "people"=Za Zb
 b:aJ K (.ref C) "things_of"=Za Zb
 c:aJ K (.ref C) "mark_of"=Za Zb
 d:aJ K (.ref C) "loss_of"=Za Zb
 e:aJ K (.ref C) "held_of"=Za Zb
structure Gt(K:aa)(x:Str)(u v:Int):Prop where
 ex:∃(f:ag)(od:Option ag)(a b:Tok)(n:Nat)(sl:Array (Option ai)),bF K aT x=Za (Za (.ref f))/\K.lookup f=Za ⟨.type "tuple",od,.seq #[.int u a,.int v b] n,sl⟩
def gt(h:bF K aT x=Za (Za (.ref f)))(l:K.lookup f=Za ⟨.type "tuple",od,.seq #[.int u a,.int v b] n,sl⟩):Gt K x u v:=⟨f,od,a,b,n,sl,h,l⟩
structure Gi(K:aa)(x:Str)(u:Int):Prop where
 ex:∃t,bF K aT x=Za (Za (.int u t))
def gi(h:bF K aT x=Za (Za (.int u t))):Gi K x u:=⟨t,h⟩
structure Gz(K:aa)(x:Str):Prop where
 z:bF K aT x=Za Zb
def Gz.at_(c:Gz K x)(X:K.In h)(G:h.Ns aT mg):mg x=none:=PySem.W.mg_none_of X G c.z
structure Gf(K:aa)(x:Str)(st:bX):Prop where
 ex:∃f fd,bF K aT x=Za (Za (.ref f))/\ý K x x st f fd
structure Gm(K:aa)(C:ag)(x q:Str)(st:bX):Prop where
 ex:∃f fd,aJ K (.ref C) x=Za (Za (.ref f))/\gQ K (.ref f)=true/\ý K x q st f fd
def gf(h:bF K aT x=Za (Za (.ref f)))(l:K.lookup f=Za ⟨oc,od,.func (bW x x (o8 st) (oK st) (mJ st) .none kV dc pm an cd ct),sl⟩)(c:gg K cd x=true)(k:bU K (.ref f)=true):Gf K x st:=⟨f,_,h,MH l c k⟩
def gm(h:aJ K (.ref C) x=Za (Za (.ref f)))(i:gQ K (.ref f)=true)(l:K.lookup f=Za ⟨oc,od,.func (bW x q (o8 st) (oK st) (mJ st) .none kV dc pm an cd ct),sl⟩)(c:gg K cd q=true)(k:bU K (.ref f)=true):Gm K C x q st:=⟨f,_,h,i,MH l c k⟩
def Gf.fn(X:K.In h)(G:h.Ns aT mg)(c:Gf K x st)(o:∀{f:ag}{fd:cT},ý K x x st f fd->ZA P w K mg base (Z' P w) k f fd ps sp)(b:Bd x x st ps:=by first|exact bd1|exact bd2|exact bd3|exact bd4|exact bd5|exact bd6|exact bd0):Fn P w K mg base x k ps sp :=
 let⟨f,fd,n,U⟩:=c.ex;⟨f,fd,o U,jO X G n,U.kp,U.binds b⟩
def Gm.mt(cl:ϥ K C)(c:Gm K C x q st)(o:∀{f:ag}{fd:cT},ý K x q st f fd->ZA P w K mg base (Z' P w) k f fd ps sp)(b:Bd x q st ps:=by first|exact bd1|exact bd2|exact bd3|exact bd4|exact bd5|exact bd6|exact bd0):Mt P w K mg base C x k ps sp :=
 let⟨f,fd,n,i,U⟩:=c.ex;⟨f,fd,o U,⟨n,i,U.kp⟩,cl,U.binds b⟩
def Gm.bk(c:Gm K C "__init__" q st)(X:K.In h)(G:h.Ns aT mg)(g:Gb K C)(o:∀{f:ag}{fd:cT},ý K "__init__" q st f fd->ZA P w K mg base (Z' P w) k f fd ["self"] sp)(b:Bd "__init__" q st ["self"]:=by exact bd1):MkB P w K mg base "Book" C k ["self"] sp :=
 let⟨f,fd,n,i,U⟩:=c.ex;⟨f,fd,o U,jO X G g.n,⟨g.m,n,i,g.k⟩,U.binds b⟩
end
section
variable{X:Cx}
def N3:Û X (dJ .Mult) (rI jP λi j=>.int (i*j)):=opI λ_ _ _ _ _ _ _ hc q=>mul_int q hc
open Classical in
def Hb(v w:PV)(s:N'):Out PV:=match v,w with
 |.int i,.int j=>if jP i j then .ok (.int (i*j)) s else .bad
 |_,_=>.bad
def Q5:ϒ X.K CB E (rI jP λi j=>V.int (i*j)) Hb:=by
 intro H m s v w x y Q S rx ry P;unfold Hb at P;split at P
 .cases rx;cases ry;split at P
  .rename_i h;exact⟨_,_,rfl,rfl,h,P.here S .int⟩
  .exact P.elim
 .exact P.elim
def O3(ha:DE X CB E a f)(hb:DE X CB E b g):DE X CB E (.BinOp a .Mult b pos) (x2 f g Hb):=Aw N3 Q5 ha hb
def Aq(v w:PV)(s:N'):Out PV:=match v,w with
 |.str x,.int n=>if n=0 then .ok (.str ci) s else if n=1 then .ok (.str x) s else .bad
 |_,_=>.bad
def N1:Û X (dJ .Mult) (λx y H Q=>∃z n,x=.str z/\y=.int n/\((n=0/\Q (.str ci) H)\/(n=1/\Q (.str z) H))):=by
 rintro R1 s O H x y v u Q I rx ry ⟨z,n,rfl,rfl,h⟩
 let⟨t,rfl⟩:=rx;let⟨t',rfl⟩:=ry;rcases h with⟨rfl,q⟩|⟨rfl,q⟩
 .exact PySem.P.mul_str_none (Zf rfl) (Zf rfl) ⟨.str ci,H,I.tok _,⟨_,rfl⟩,q⟩
 .refine PySem.P.mul_str (Zf rfl) (λ_ z=>absurd z (by simp)) (λ_ z=>absurd z (by simp)) ?_;exact⟨.str z,H,I,⟨_,rfl⟩,q⟩
def Q4:ϒ X.K CB E (λx y H Q=>∃z n,x=.str z/\y=.int n/\((n=0/\Q (.str ci) H)\/(n=1/\Q (.str z) H))) Aq:=by
 intro H m s v w x y Q S rx ry P;unfold Aq at P;split at P
 .cases rx;cases ry;split at P
  .rename_i h;exact⟨_,_,rfl,rfl,.inl ⟨h,P.here S .str⟩⟩
  .split at P
   .rename_i h;exact⟨_,_,rfl,rfl,.inr ⟨h,P.here S .str⟩⟩
   .exact P.elim
 .exact P.elim
def O0(ha:DE X CB E a f)(hb:DE X CB E b g):DE X CB E (.BinOp a .Mult b pos) (x2 f g Aq):=Aw N1 Q4 ha hb
def EK(l:List (Key×PV))(k:Key):List (Key×PV):=l.filter λkv=>decide (kv.1≠k)
theorem Y6.drop{K:aa}{H:Hp}{m:Mp}{s:N'}{k:Key}:∀{vs:List (Key×V)}{l:List (Key×PV)},Y6 K H m s vs l->Y6 K H m s (zj vs k) (EK l k)
 |_,_,.nil=>.nil
 |_,_,.cons (k:=k') r rs=>by
  unfold zj EK;rw[gY,gY];by_cases h:k'=k
  .rw[Zd (by simp[h]),Zd (by simp[h])];exact rs.drop
  .rw[Zc (by simp[h]),Zc (by simp[h])];exact .cons r rs.drop
def Gn(f g:XE)(Z:En)(s:N'):Out PV:=(f Z s).bind λv s1=>match v with
 |.ref n=>match s1.get n with
  |some (.Zv _)=>(g Z s1).bind λw s2=>match s2.get n with
   |some (.Zv l)=>match ó w with
    |some k=>match qV l k with
     |some p=>.ok p (s2.set n (.Zv (EK l k)))
     |none=>.bad
    |none=>.bad
   |_=>.bad
  |_=>.bad
 |_=>.bad
def O8(ho:DE X CB E a f)(he:DE X CB E b g)(mm:M1 X a "pop" R8 b R6:=by exact⟨rfl,rfl,rfl,rfl⟩):DE X CB E (.Call (.Attribute a "pop" R8) [b] [] R6) (Gn f g) :=
 ⟨(FD ho.pe he.pe mm).mono λO H Q=>oE λZ s m er S P=>⟨Z,s,m,er,S,P.bind λv s1 u H1 m1 e1 S1 r1 P1=>by
  split at P1
  .split at P1
   .rename_i n _ l0 hg;let⟨_,Ts,h0,r0⟩:=S1.get hg;cases r1 with
    |ref hn =>
    refine⟨_,rfl,.inl ⟨Ts,.inl h0⟩,Z,s1,m1,er.ext e1,S1,P1.bind λw s2 u2 H2 m2 e2 S2 r2 P2=>?_⟩;split at P2
    .rename_i l Uc;split at P2
     .rename_i k hk;split at P2
      .rename_i p hv;let⟨_,vs,h1,r⟩:=S2.get Uc;let⟨u,eu,ru⟩:=(r.val k).1 p hv;let⟨S3,e3⟩:=S2.putD Uc (r.drop);rw[<-e2.ad _ hn];exact⟨vs,k,u,h1,qS r2 hk,eu,P2 _ _ _ e3 S3 (ru.ext e3)⟩
      .exact P2.elim
     .exact P2.elim
    .exact P2.elim
   .exact P1.elim
  .exact P1.elim⟩⟩
def Ite(K:aa)(a:ag):It :=
 ⟨λi H=>∃xs x,ZU K H a xs/\xs[i]?=Za x,λi H x H'=>∃p,H p=Zb/\x=.ref p/\∀xs,ZU K H a xs->∃y,xs[i]?=Za y/\H'=upd H p (.tup [.int i,y]),λi H=>∃xs,ZU K H a xs/\xs.length<=i⟩
def Inv.ÀG(I:Inv X R1 O H s)(k:∀b o,b≠e->b≠it->s.heap.get? b=Za o->h'.get? b=Za o)(fe:AO X R1 H e)(fi:AO X R1 H it)(hn:s.heap.objs.size<=n)(new:ZO X.prog X.w (upd H n (.tup xs)) h' n (.tup xs)):Inv X R1 O (upd H n (.tup xs)) { s with heap:=h',toks:=t' }:=by
 have nH:=I.Zl.fresh hn;have nn:∀b u,H b=Za u->b≠n:=λb u q z=>by rw[z,nH] at q;grind
 have XZ:∀b u,H b=Za u->b≠e/\b≠it:=λb u q=>⟨λz=>(by rw[z,fe.1] at q;grind),λz=>(by rw[z,fi.1] at q;grind)⟩;have k':∀b o,b∉[e,it]->s.heap.get? b=Za o->h'.get? b=Za o:=λb o hc q=>k b o (λz=>hc (by simp[z])) (λz=>hc (by simp[z])) q;refine I.step (λb hb=>?_) (λb o _ _ hc e _=>k' b o hc e) (λb o _ _ hc e _=>⟨o.slots,k' b o hc e⟩) (λb o _ q z=>?_)
  (λb o hc e=>⟨o,k' b o hc e⟩) (λb _ q=>?_) (λb _ _ q=>?_) (λb ps q=>⟨#[],?_⟩) (λm hm=>?_) (λb u q=>?_) I.bare
 .obtain z|z:=ap.mp hb
  .subst z;exact⟨fe.2.2.2.1,fe.2.1,fe.2.2.2.2.1,fe.2.2.2.2.2⟩
  .have z:=ax.mp z;subst z;exact⟨fi.2.2.2.1,fi.2.1,fi.2.2.2.2.1,fi.2.2.2.2.2⟩
 .rw[mF (az (aA (au q) hn))];exact z
 .rw[mF (nn b _ q)];exact q
 .rw[mF (nn b _ q)];exact q
 .rw[mF (nn b _ q),q];simp
 .let⟨o,es,ep,ho,r⟩:=hm;exact⟨o,es,ep,k _ o (bV fe.2.1) (bV fi.2.1) ho,r⟩
 .by_cases hb:b=n
  .subst hb;rw[mH] at q;grind
  .rw[mF hb] at q;refine(I.Zl b u q).ď (λc v hc w=>?_) (λc w=>by rw[mF (nn c _ w)];exact w) λc xs w=>by rw[mF (nn c _ w)];exact w
   grind
def IK{P:bT}{w:cy}{K:aa}{es:List cA}{x1:_}{px:Pos}(a e it:ag)(Su:e≠it):Turn P w K (.Tuple es x1 px) (Ite K a) [e,it] e (λi h=>(∃old,IsEnum h e it i old)/\h.IsListIter it a i) where
 mem:=by simp
 obj:=λi h st b hb=>by
  let⟨⟨old,he⟩,o,e1,c,d⟩:=st
  grind
 keep:=λi h h' st k=>⟨let⟨old,he⟩:=st.1;⟨old,k e (by simp) _ he⟩,st.2.at λo e=>k it (by simp) o e⟩
 item:=by
  intro X hP hw hK hc i R1 s O H E I hf st hg;subst hP hw hK;let⟨xs,x,hq,hx⟩:=hg;let⟨its,rv,p,hz⟩:=I.list hq;let⟨u,hu,ru⟩:=rv.get hx;let⟨⟨old,he⟩,st⟩:=st;refine wpAny_pyNext_enum_item he st p.isList (by simpa using hu) Su λh' eo TF ht hs kp=>⟨_,rfl,?_⟩;refine wpAny_letOwnedTupleGo_enum eo λh2 e2 sb=>?_;have hel:=au he;have Wj:=(sb.2 _ (fH hel)).trans ht;have X6:=λb o b1 b2 q=>(sb.2 b b1).trans (kp b o b1 b2 q);have I1:Inv X R1 O (upd H s.heap.objs.size (.tup [.int i,x])) { s with heap:=h2,toks:=s.toks+1 } :=
   I.ÀG X6 (hf e (by simp)) (hf it (by simp)) (ak _) ⟨(show 2<=aF by decide),[.int i s.toks,u],.cons ⟨_,rfl⟩ (.cons ru .nil),_,Wj,rfl,0,rfl⟩
  refine⟨.ref s.heap.objs.size,_,I1,rfl,⟨_,I.fresh,rfl,λys hy=>⟨x,by rw[I.ğ hy hq];exact hx,rfl⟩⟩,⟨⟨u,by simpa using e2⟩,TF.at λo q=>(sb.2 it (bV Su)).trans q⟩,λb hb=>?_⟩;have Sd:b≠s.heap.objs.size:=by
   obtain z|z:=ap.mp hb
   .rw[z];exact az hel
   .rw[ax.mp z];let⟨o,q,_⟩:=st;exact az (au q)
  rw[mF Sd];exact(hf b hb).1
 done:=by intro X hP hw hK hc i R1 s O H E I hf st hg;subst hP hw hK;let⟨xs,hq,hx⟩:=hg;let⟨its,rv,p,hz⟩:=I.list hq;let⟨f0,f1,f2,f3,f4,f5⟩:=hf it (by simp);let⟨⟨old,he⟩,st⟩:=st;have hl:=rv.length;exact wpAny_pyNext_enum_end (I.ok.hd hc) he st p.isList (by simp;lia) λh' eb=>⟨rfl,I.turned (λb o hb e=>eb b o hb e) f0 f1 f3 f4 f5⟩
 self:=λ_ _ _ _ _ st h=>let⟨_,he⟩:=st.1;wpAny_pyIter_enum he h
def sX(k:Nat):List PV->List PV
 |[]=>[]
 |p::r=>.tup [.int k,p]::sX (k+1) r
theorem yD:∀(l:List PV)(k i:Nat),(sX k l)[i]?=(l[i]?).map λp=>PV.tup [.int (k+i:Nat),p]
 |[],_,_=>rfl
 |p::r,k,0=>rfl
 |p::r,k,i+1=>by have:=yD r (k+1) i;rw[show k+1+i=k+(i+1) by lia] at this;exact this
theorem tj:∀(l:List PV)(k:Nat),(sX k l).length=l.length
 |[],_=>rfl
 |p::r,k=>congrArg (·+1) (tj r (k+1))
def xn(fa:XA)(Z:En)(s:N'):Out (List PV):=(fa Z s).bind λvs s1=>match vs with
 |[.lst l]=>.ok (sX 0 l) s1
 |_=>.bad
def D6:bh "enumerate"=Za (.type "enumerate"):=by decide +kernel
def Âc(K:aa)(ta:TA):TI:=λO H R=>ta O H λxs H1=>∃a ys,xs=[.ref a]/\ZU K H1 a ys/\R (Ite K a) H1
def NT{es:List cA}{x1:_}{px p:Pos}{ta:TA}(hg:Gl X "enumerate")(hm:X.mg "enumerate"=Zb)(ha:PA X [a] ta)(hs:ao [a] X.env=[(false,eval a X.env)]:=by rfl):PI X (.Tuple es x1 px) (.Call (.Name "enumerate" p) [a] [] pos) (Âc X.K ta):=by
 refine λR1 s O H R I h=>Call_ (zq I hg hm D6 (dN (Zx (ha pos R1 s O H _ I h) λus s1=>e4 λvs H1 I1 r1 q1=>?_) hs rfl));let⟨b,ys,rfl,hq,q⟩:=q1;cases r1 with
 |cons r rr =>
  cases rr;cases r;let⟨its,rv,pl,hz⟩:=I1.list hq;refine call_enumerate_list pl.isList λh' he hi hsz kp=>?_;refine wpAny_pyIter_enum he ⟨s1.heap.objs.size+1,[s1.heap.objs.size+1,s1.heap.objs.size],_,_,H1,rfl,I1.kept kp,IK b (s1.heap.objs.size+1) s1.heap.objs.size (Nat.succ_ne_self _),⟨⟨_,he⟩,hi⟩,λc hc=>?_,q⟩;have UK:s1.heap.objs.size<=c:=by
   grind
  exact I1.Ź UK (I1.Zl.fresh UK)
def Á8{K:aa}{H0:Hp}{m0:Mp}{s0:N'}{b:ag}{l:List PV}(r:Rep K H0 m0 s0 (.ref b) (.lst l)):qz K CB (Ite K b) (sX 0 l) H0 m0 s0:=by
 intro i H m s ex S;let⟨b',vs,⟨⟩,hq,rs⟩:=(r.Zq ex.toExtR).ls S (rfl);refine⟨λq' Ti=>?_,λhi=>⟨vs,hq,by rw[rs.length,<-tj l 0];exact hi⟩⟩;rw[yD] at Ti;cases cl:l[i]? with
 |none=>rw[cl] at Ti;cases Ti
 |some q0 =>
  rw[cl] at Ti;cases Ti;let⟨u,hu,ru⟩:=rs.get cl;refine⟨⟨vs,u,hq,hu⟩,λx H' ⟨p,hp,e1,e2⟩=>?_⟩;let⟨y,hy,e3⟩:=e2 vs hq;subst e1 e3;rw[hu] at hy;cases hy;have k:=My.rQ (o:=.tup [.int i,u]) hp;have S':=S.same k;exact⟨.same k,S',.tup (.inl ⟨.inl mH,S'.Â mH⟩) (by rw[fG];exact .cons .int (.cons (ru.ext (.same k)) .nil))⟩
def Em{es:List cA}{x1:_}{px p:Pos}{fa:XA}(ha:DA X CB E [a] fa)(hg:Gl X "enumerate":=by rfl)(hm:X.mg "enumerate"=none:=by assumption)(hs:ao [a] X.env=[(false,eval a X.env)]:=by rfl):DI X CB E (.Tuple es x1 px) (.Call (.Name "enumerate" p) [a] [] pos) (xn fa) :=
 ⟨(NT hg hm ha.pa hs).mono λO H R q=>TDI.Ày q λv s1 u H1 m1 S1 r1 P=>by
  split at P
  .rename_i l s' hF;split at hF
   .cases hF;cases r1 with
    |cons r n =>
     cases n;cases r with
     |lst h1 h2 h3=>exact⟨_,_,rfl,ZU.of h1,P _ _ _ .refl S1 (Á8 (.lst h1 h2 h3))⟩
   .cases hF
  .rename_i hF;split at hF<;>cases hF
  .exact P.elim⟩
def ÁA(K:aa):List V->Hp->VK->Prop:=λxs H Q=>∃(x:V)(p:ag)(Cs:List ag)(t:ai)(b:Bool),xs=[x,.ref p]/\H p=Za (.tup (Cs.map V.ref))/\((x=.Zn/\t=.type "NoneType")\/∃a C d,x=.ref a/\t=.ref C/\H a=Za (FQ C a d)/\Ϗ K C)/\ee K t (Cs.map aP)=Za b/\Q (.bl b) H
theorem CG:∀{Cs:List ag}{us:List ai},Vals (Cs.map V.ref) us->us=Cs.map aP
 |[],_,h=>by cases h;rfl
 |C::r,_,h=>by
  cases h with
  |cons a b =>
   cases a;rw[CG b];rfl
def JO:ZY X (.builtin "isinstance") (ÁA X.K):=by
 rintro R1 s O H xs us Q I r ⟨x,p,Cs,t,b,rfl,hp,ty,e,q⟩
 let⟨u,v,rfl,ru,rfl⟩:=JU r;have Sq:∀tk,EP X R1 O Q (.bool b) { s with toks:=tk }:=λtk=>⟨.bl b,H,I.tok tk,rfl,q⟩;let⟨its,r',⟨⟨oc,od,dt,sl⟩,ho,hc,n,hd⟩,_⟩:=I.tuple (.inl (.inl hp));subst hc hd;have e2:=CG r';subst e2;rcases ty with⟨rfl,rfl⟩|⟨a,C,d,rfl,rfl,ha,Zj⟩
 .cases(ru);exact ma lz I.Ü cH ho e (λz=>nomatch z) Sq
 .cases(ru);let⟨p,_⟩:=I.Zl a _ ha;exact ma (FG Zj) I.Ü p.1 ho e (λz=>nomatch z) Sq
def JV(Cs:List ag):TA:=λ_ H Q=>Q (Cs.map V.ref) H
def E5:PA X [] (JV []):=Y7
def sP(hm:X.mg x=Za (.ref C))(h:PA X es (JV Cs))(hg:Gl X x:=by rfl)(hd:Ĉ x:=by decide)(hs:ao (.Name x p::es) X.env=(false,eval (.Name x p) X.env)::ao es X.env:=by rfl):PA X (.Name x p::es) (JV (C::Cs)) :=
 mR (qP (v:=.ref C) hg hm rfl hd) h hs
def Lx{cl Cs:List ag}{tb:ag->Bool}{es:List cA}{x1:_}{px p:Pos}(ha:DE X CB E a f)(hes:PA X es (JV Cs))(hk:∀c∈cl,Ϗ X.K c/\ee X.K (.ref c) (Cs.map aP)=Za (tb c))(hn:ee X.K (.type "NoneType") (Cs.map aP)=Za false)(hl:Cs.length<=100:=by simp)(Vm:Gl X "isinstance":=by rfl)(Vf:X.mg "isinstance"=none:=by exact T.Ó)(hs:ao [a,.Tuple es x1 px] X.env=(false,eval a X.env)::ao [.Tuple es x1 px] X.env:=by rfl)(UE:ao [.Tuple es x1 px] X.env=(false,eval (.Tuple es x1 px) X.env)::ao [] X.env:=by rfl)(Sf:(bI pos (ao [.Tuple es x1 px] X.env)).any (·.1)=false:=by rfl):DE X CB E (.Call (.Name "isinstance" p) [a,.Tuple es x1 px] [] pos) (yZ cl tb f) :=
 ⟨(oP JO Vm Vf qx (mR ha.pe (mR (vZ hes) Y7 UE) hs) (Zf rfl) (Zf rfl) hs Sf).mono λO H Q=>oE λZ s m er S P=>⟨Z,s,m,er,S,P.bind λv s1 u H1 m1 e1 S1 r1 P1=>by
  have hz:(Cs.map V.ref).length<=aF:=by rw[ac];exact aC hl (Zf rfl)
  refine⟨hz,λq hq=>?_⟩;have k:=My.rQ (o:=.tup (Cs.map V.ref)) hq;split at P1
  .rename_i c;split at P1
   .rename_i hc;cases r1 with
    |exc h1 h2=>exact⟨_,q,Cs,.ref c.1,tb c.1,rfl,mH,.inr ⟨_,c.1,_,rfl,rfl,k _ _ h1,(hk _ hc).1⟩,(hk _ hc).2,P1 _ _ _ (.same k) (S1.same k) .bl⟩
   .exact P1.elim
  .cases r1;exact⟨_,q,Cs,.type "NoneType",false,rfl,mH,.inl ⟨rfl,rfl⟩,hn,P1 _ _ _ (.same k) (S1.same k) .bl⟩
  .exact P1.elim⟩⟩
def RX(v:PV)(s:N'):Out PV:=match v with
 |.lst l=>.ok (.lst l) s
 |v=>ġ v s
def F8(f:XE)(Z:En)(s:N'):Out PV:=(f Z s).bind RX
def O7(h:DE X CB E a f):DE X CB E a (F8 f):=⟨h.pe.mono λO H Q=>oE λZ s m er S P=>⟨Z,s,m,er,S,P.bind λv s1 u H1 m1 e1 S1 r1 P1=>by
 unfold RX at P1;split at P1
 .exact P1.here S1 r1
 .cases c:ġ v s1 with
  |ok w s2 =>
   rw[c] at P1;let⟨S2,e2,r2⟩:=S1.Z5 r1 c;exact P1 u H1 m1 e2 S2 r2
  |ex c' s' =>
   unfold ġ at c
   repeat' split at c
   all_goals cases c
  |bad=>rw[c] at P1;exact P1.elim⟩⟩
end
end L2
namespace Att
open PySem PySem.W PySem.Calls PyProof.Rows
def Ϟ(ns:List Int):Prop:=∀n∈ns,cq n<=1048576
theorem LY:∀{ns:List Int},hZ (ns.map iH)<=2^20->Ϟ ns
 |[],_,_,h=>nomatch h
 |m::r,h,n,hn=>by
  have e:hZ ((m::r).map iH)=cq m+1+hZ (r.map iH):=rfl;rw[e] at h;obtain z|z:=ap.mp hn
  .rw[z];lia
  .exact LY (show hZ (r.map iH)<=2^20 by lia) n z
def ϊ{l:gP}{n:Nat}{q:bT}{Tl:List Str}{XP:(Str->Option ai)->cg->Prop}{YP:cy->cg->Prop}{d:DefRec}(hn:l.most=Za n)(WD:d.params.defaults=[])(call:∀(w:cy)(Ç Sj:aw)(mg mb:Str->Option ai)(fa:ag)(o:Obj)(pm cd Tq:ai)(a:ag)(vs:List ai)(ns:List Int),
   Ground q Tl [] XP w Ç mg mb Sj.heap->YP w Sj.heap ->
   Sj.heap.get? fa=Za o->o.data=.func (docDef d.name d.params d.body d.scope pm cd Tq)->Sj.heap.CodeRec cd d.name->mg d.name=Za (.ref fa) ->
   Sj.heap.get? a=Za { cls:=.type "list",data:=.seq vs.toArray }->IntsAre vs ns->ns.length<=n->Ϟ ns->Sj.gens=#[] ->
   eX (model l.prog w) jM (.call (.ref fa) ⟨[.ref a],[]⟩) (λr s'=>r=.ok (.ret (.bool true))/\OldK Sj.heap s'.heap/\s'.os=Sj.os/\ia s'.gens) Sj) :
  lM q Tl XP YP l.row.toRowW d [] (λf vs=>lJ f vs):=by
 intro w Ç Sj mg mb G Y fa o pm cd Tq dV kV ho hd Tf hD Wn hg args U2 as UF Yn hrd Ya hlo;obtain rfl:dV=.none:=Dflts.none hD WD;obtain rfl:kV=.none:=Dflts.noKw hD;let⟨a,vs,ns,rfl,rfl,Ve,Up,R5⟩:=IR hn UF Ya;have hw:Ϟ ns:=by have h1:=(dM.mp Yn) _ al;simp[WData.layable,cJ,decide_eq_true_eq] at h1;exact LY h1.2
 refine enter_call (fS (call w Ç Sj mg mb fa o pm cd Tq a vs ns G Y ho (fd_plain hd) Tf Wn Ve Up R5 hw hg) λr s' hq=>?_);let⟨rfl,h2,h3,h4⟩:=hq;exact⟨.inl ⟨.bool true,.bool true,[],rfl,λ_=>rfl,.bool true,IY l _,λ_=>⟨List.Pairwise.nil,λ_ hm=>(nomatch hm)⟩⟩,h2,h3,h4⟩
end Att
namespace L2
open PySem PySem.Spec PyProof.Rows
def Àn{l:gP}{n k:Nat}{q:bT}{Tl:List Str}{XP:(Str->Option ai)->cg->Prop}{YP:cy->cg->Prop}{d:DefRec}{K:Params->aa}{CX:cy->CXT}{sp:cy->Sp}{x:Str}(hn:l.most=Za n)(Xj:n<=aF)(WD:d.params.defaults=[])(hr:Zw k jM)(hY:∀(w:cy)(h:cg),YP w h->(K w.params).In h)(F:∀(w:cy)(mg:Str->Option ai)(fa:ag)(h:cg),(K w.params).In h->h.Ns aT mg->mg d.name=Za (.ref fa) ->
   ∃fd:cT,(∀(s:aw)(u:ai),jS s fd ⟨[u],[]⟩ [(x,u)]) /\
    ∀base:cg,(K w.params).In base->base.Ns aT mg->ZA l.prog w (K w.params) mg base (CX w) k fa fd [x] (sp w))(Uv:∀(w:cy)(H:Hp)(a:ag)(ns:List Int),ns.length<=n->Att.Ϟ ns->Pn H->ZU (K w.params) H a (ns.map V.int)->sp w [.ref a] H (λv _=>v=.bl true) λ_ _ _=>False)(YO:∀(w:cy)(H:Hp)(s:aw)(e:ai)(s':aw),CX w [] H s (λ_ _ _=>False) e s'->False) :
  lM q Tl XP YP l.row.toRowW d [] (λf vs=>lJ f vs):=by
 refine Att.ϊ hn WD λw Ç Sj mg mb fa o pm cd Tq a vs ns G Y ho hd Tf Wn Ve Up R5 hw hg=>?_;have KX:=hY w _ Y;let⟨fd,hb,hF⟩:=F w mg fa _ KX G.T.g Wn;exact Lb KX G.T.g G.T.b G.T.builtins G.T.nolimit hg Ve Up (aC R5 Xj) hr hF hb (λH hO hS=>Uv w H a ns R5 hw hO hS) λH e s'=>YO w H Sj e s'
def Rb(hi:cq i<=33554432)(hj:cq j<=33554432):jP i j:=by intro h;simp only[cJ,Builtin.Int.intTooBig] at h;have:=h.2;unfold bitsLine at this;lia
def uF:List PV->Option (List Int)
 |[]=>Za []
 |.int i::l=>(uF l).map (i::·)
 |_=>Zb
theorem wI:∀l:List Int,uF (l.map PV.int)=Za l
 |[]=>rfl
 |x::r=>by rw[am];unfold uF;rw[wI r];rfl
def yO{K:aa}{H:Hp}{m:Mp}{s:N'}:∀{l:List PV}{vs:List V}{is:List Int},Y5 K H m s vs l->uF l=Za is->vs=is.map V.int
  :=by
 intro l;induction l with
 |nil =>
  intro _ is r h;cases r;cases h;rfl
 |cons p l ih =>
  intro _ is r h;cases r with
  |cons r rs =>
   cases p with
   |int i =>
    have h:(uF l).map (i::·)=Za is:=h;cases c:uF l with
    |none=>grind
    |some js =>
     rw[c] at h;cases h;cases r;rw[ih rs c];rfl
   |_=>cases h
def LP(hc:X.calm=true):ZY X (.builtin "sum") (λxs H Q=>∃(p:ag)(is:List Int),xs=[.ref p]/\ZU X.K H p (is.map V.int)/\Q (.int is.sum) H):=by
 intro R1 s O H xs us Q I r h;let⟨p,is,rfl,hq,q⟩:=h;let⟨u,rfl,ru⟩:=rF r;cases ru;let⟨its,rv,pl,VI⟩:=I.list hq;have Vx:∀{is:List Int}{its:List ai},Vals (is.map V.int) its->∃ys:List (Int×Tok),its=ys.map (λy=>jn y.1 y.2)/\ys.map (·.1)=is:=by
  intro is;induction is with
  |nil=>intro its rv;cases rv;exact⟨[],rfl,rfl⟩
  |cons i is ih =>
   intro its rv;cases rv with
   |cons r rs =>
    let⟨t,rfl⟩:=r;let⟨ys,rfl,rfl⟩:=ih rs;exact⟨(i,t)::ys,rfl,rfl⟩
 let⟨ys,rfl,rfl⟩:=Vx rv;have hl:s.heap.IsList p (intItems ys.toArray):=by
  have:=pl.isList;have e:intItems ys.toArray=(ys.map (λy=>jn y.1 y.2)).toArray:=by simp[intItems]
  rw[e];exact this
 refine sum_intListG (I.ok.hd hc) hl λh' tk t' hk=>?_;have e:preSum (numAt ys.toArray) ys.toArray.size=(ys.map (·.1)).sum:=by rw[preSum_eq,ib (by simp)]
 rw[e];exact⟨.int _,H,I.kept hk,⟨_,rfl⟩,q⟩
def P4(vs:List PV)(s:N'):Out PV:=match vs with
 |[v]=>match ZH s v with
  |some l=>match uF l with
   |some is=>.ok (.int is.sum) s
   |none=>.bad
  |none=>.bad
 |_=>.bad
def Ây(hc:X.calm=true):ŕ X CB E (.builtin "sum") P4:=⟨_,LP hc,by
 intro H m s v x Q S rx P;unfold P4 at P;split at P
 .cases rx with
  |cons r n =>
   cases n;split at P
   .rename_i l hl;split at P
    .rename_i is hb;let⟨a,vs,rfl,q,r⟩:=r.ls S hl;have e:=yO r hb;subst e;exact⟨a,is,rfl,q,P.here S .int⟩
    .exact P.elim
   .exact P.elim
 .exact P.elim⟩
def MS:bh "sum"=Za (.builtin "sum"):=by decide +kernel
def Itz(K:aa)(a b:ag):It :=
 ⟨λi H=>∃xs ys x y,ZU K H a xs/\ZU K H b ys/\xs[i]?=Za x/\ys[i]?=Za y,λi H x H'=>∃p,H p=Zb/\x=.ref p/\∀xs ys,ZU K H a xs->ZU K H b ys->∃u v,xs[i]?=Za u/\ys[i]?=Za v/\H'=upd H p (.tup [u,v]),λi H=>∃xs ys,ZU K H a xs/\ZU K H b ys/\(xs.length<=i\/ys.length<=i)⟩
def Inv.ÀE{R1:List (ag×Obj)}{O:St}{H:Hp}{s:aw}{h':cg}{t':Nat}{ch:List ag}{n:ag}{xs:List V}(I:Inv X R1 O H s)(k:∀b o,b∉ch->s.heap.get? b=Za o->h'.get? b=Za o)(fe:∀b∈ch,AO X R1 H b)(hn:s.heap.objs.size<=n)(new:ZO X.prog X.w (upd H n (.tup xs)) h' n (.tup xs)):Inv X R1 O (upd H n (.tup xs)) { s with heap:=h',toks:=t' }:=by
 have nH:=I.Zl.fresh hn;have nn:∀b u,H b=Za u->b≠n:=λb u q z=>by grind
 have XZ:∀b u,H b=Za u->b∉ch:=λb u q z=>by rw[(fe b z).1] at q;grind
 refine I.step (λb hb=>⟨(fe b hb).2.2.2.1,(fe b hb).2.1,(fe b hb).2.2.2.2.1,(fe b hb).2.2.2.2.2⟩) (λb o _ _ hc e _=>k b o hc e) (λb o _ _ hc e _=>⟨o.slots,k b o hc e⟩) (λb o _ q z=>?_)
  (λb o hc e=>⟨o,k b o hc e⟩) (λb _ q=>?_) (λb _ _ q=>?_) (λb ps q=>⟨#[],?_⟩) (λm hm=>?_) (λb u q=>?_) I.bare
 .rw[mF (az (aA (au q) hn))];exact z
 .rw[mF (nn b _ q)];exact q
 .rw[mF (nn b _ q)];exact q
 .rw[mF (nn b _ q),q];simp
 .let⟨o,es,ep,ho,r⟩:=hm;exact⟨o,es,ep,k _ o (λz=>(fe _ z).2.1 rfl) ho,r⟩
 .by_cases hb:b=n
  .subst hb;rw[mH] at q;grind
  .rw[mF hb] at q;refine(I.Zl b u q).ď (λc v hc w=>?_) (λc w=>by rw[mF (nn c _ w)];exact w) λc xs w=>by rw[mF (nn c _ w)];exact w
   grind
def Inv.ÀF{R1:List (ag×Obj)}{O:St}{H:Hp}{s:aw}{h':cg}{t':Nat}{ch:List ag}(I:Inv X R1 O H s)(k:∀b o,b∉ch->s.heap.get? b=Za o->h'.get? b=Za o)(fe:∀b∈ch,AO X R1 H b):Inv X R1 O H { s with heap:=h',toks:=t' }:=by
 have XZ:∀b u,H b=Za u->b∉ch:=λb u q z=>by rw[(fe b z).1] at q;grind
 refine I.step (λb hb=>⟨(fe b hb).2.2.2.1,(fe b hb).2.1,(fe b hb).2.2.2.2.1,(fe b hb).2.2.2.2.2⟩) (λb o _ _ hc e _=>k b o hc e) (λb o _ _ hc e _=>⟨o.slots,k b o hc e⟩) (λb o _ q z=>z)
  (λb o hc e=>⟨o,k b o hc e⟩) (λb _ q=>q) (λb _ _ q=>q) (λb ps q=>⟨#[],by simpa using q⟩) (λm hm=>?_) (λb u q=>?_) I.bare
 .let⟨o,es,ep,ho,r⟩:=hm;exact⟨o,es,ep,k _ o (λz=>(fe _ z).2.1 rfl) ho,r⟩
 .refine(I.Zl b u q).ď (λc v hc w=>?_) (λc w=>w) λc xs w=>w
  grind
def Kh{P:bT}{w:cy}{K:aa}{es:List cA}{x1:_}{px:Pos}(a b z TI TO i1 i2:ag)(D:ZipApart z TI TO i1 i2 a b):Turn P w K (.Tuple es x1 px) (Itz K a b) [z,TI,TO,i1,i2] z (λi h=>IsZip h z TI TO .none/\IsPair h TI (.ref i1) (.ref i2)/\(∃u v,IsPair h TO u v)/\h.IsListIter i1 a i/\h.IsListIter i2 b i) where
 mem:=by simp
 obj:=λi h st c hc=>by
  let⟨hz,UX,⟨u,v,Vt⟩,⟨o1,g1,c1,d1⟩,⟨o2,g2,c2,d2⟩⟩:=st
  grind
 keep:=λi h h' st k=>⟨k z (by simp) _ st.1,k TI (by simp) _ st.2.1,(let⟨u,v,q⟩:=st.2.2.1;⟨u,v,k TO (by simp) _ q⟩),st.2.2.2.1.at λo e=>k i1 (by simp) o e,st.2.2.2.2.at λo e=>k i2 (by simp) o e⟩
 item:=by
  intro X hP hw hK hc i R1 s O H E I hf st hg;subst hP hw hK;let⟨xs,ys,x,y,VJ,Tu,hx,hy⟩:=hg;let⟨Wc,W4,p1,hz1⟩:=I.list VJ;let⟨Tp,VD,p2,VI⟩:=I.list Tu;let⟨u1,hu1,ru1⟩:=W4.get hx;let⟨u2,hu2,ru2⟩:=VD.get hy;let⟨hz,UX,⟨u,v,Vt⟩,st1,Td⟩:=st;refine wpAny_pyNext_zip_item D hz UX Vt st1 Td p1.isList p2.isList (x:=u1) (y:=u2) (by simpa using hu1) (by simpa using hu2) λh' X9 YI XN XJ ht hs kp=>⟨_,rfl,?_⟩;refine wpAny_letOwnedTupleGo_zip X9 λh2 hz3 sb=>?_;have hzl:z<s.heap.objs.size:=au hz;have Wj:IsPair h2 s.heap.objs.size u1 u2:=(sb.2 _ (fH hzl)).trans ht;have X6:∀c o,c∉[z,TI,TO,i1,i2]->s.heap.get? c=Za o->h2.get? c=Za o:=λc o hc q=>by simp[ap,fP,or_false,not_or] at hc;exact(sb.2 c hc.1).trans (kp c o hc.1 hc.2.2.1 hc.2.2.2.1 hc.2.2.2.2 q)
  have I1:Inv X R1 O (upd H s.heap.objs.size (.tup [x,y])) { s with heap:=h2,toks:=s.toks } :=
   I.ÀE X6 hf (ak _) ⟨(show 2<=aF by decide),[u1,u2],.cons ru1 (.cons ru2 .nil),_,Wj,rfl,0,rfl⟩
  have YJ:IsPair h2 TI (.ref i1) (.ref i2):=(sb.2 TI D.TIz).trans (kp TI _ D.TIz D.TITO D.TIi1 D.TIi2 UX);refine⟨.ref s.heap.objs.size,_,I1,rfl,⟨_,I.fresh,rfl,λxs' VW h1 h2=>⟨x,y,by rw[I.ğ h1 VJ];exact hx,by rw[I.ğ h2 Tu];exact hy,rfl⟩⟩,⟨hz3,YJ,⟨_,_,(sb.2 TO D.TOz).trans YI⟩,XN.at λo q=>(sb.2 i1 D.i1z).trans q,XJ.at λo q=>(sb.2 i2 D.i2z).trans q⟩,λc hc=>?_⟩;have Sd:c≠s.heap.objs.size:=by
   simp[ap,fP,or_false] at hc;let⟨o1,g1,_⟩:=st1;let⟨o2,g2,_⟩:=Td;obtain q|q|q|q|q:=hc
   .rw[q];exact az hzl
   .rw[q];exact az (au UX)
   .rw[q];exact az (au Vt)
   .rw[q];exact az (au g1)
   .rw[q];exact az (au g2)
  rw[mF Sd];exact(hf c hc).1
 done:=by
  intro X hP hw hK hc i R1 s O H E I hf st hg;subst hP hw hK;let⟨xs,ys,VJ,Tu,hx⟩:=hg;let⟨Wc,W4,p1,hz1⟩:=I.list VJ;let⟨Tp,VD,p2,VI⟩:=I.list Tu;let⟨hz,UX,⟨u,v,Vt⟩,st1,Td⟩:=st;have UU:=W4.length;have Wq:=VD.length;refine wpAny_pyNext_zip_end (I.ok.hd hc) D hz UX Vt st1 Td p1.isList p2.isList (hx.imp (λz=>by simp;lia) λz=>by simp;lia) λh' eb=>⟨rfl,?_⟩;refine I.ÀF (t':=s.toks) (ch:=[z,TI,TO,i1,i2]) (λc o hc q=>?_) hf
  grind
 self:=λ_ _ _ _ _ st h=>wpAny_pyIter_zip st.1 h
def vS:List PV->List PV->List PV
 |x::r,y::q=>.tup [x,y]::vS r q
 |_,_=>[]
theorem Fh:∀(l k:List PV)(i:Nat),(vS l k)[i]?=match l[i]?,k[i]? with|some x,Za y=>Za (.tup [x,y])|_,_=>Zb
 |[],_,_=>by simp[vS]
 |_::_,[],i=>by simp[vS]
 |x::r,y::q,0=>rfl
 |x::r,y::q,i+1=>by simp only[vS,gX];exact Fh r q i
theorem AQ:∀(l k:List PV),(vS l k).length=min l.length k.length
 |[],_=>by simp[vS]
 |_::_,[]=>by simp[vS]
 |x::r,y::q=>by simp only[vS,bu,AQ r q];lia
def LX(fa:XA)(Z:En)(s:N'):Out (List PV):=(fa Z s).bind λvs s1=>match vs with
 |[.lst l,.lst k]=>.ok (vS l k) s1
 |_=>.bad
def RJ:bh "zip"=Za (.type "zip"):=by decide +kernel
def Ãk(K:aa)(ta:TA):TI:=λO H R=>ta O H λxs H1=>∃a b ys zs,xs=[.ref a,.ref b]/\ZU K H1 a ys/\ZU K H1 b zs/\R (Itz K a b) H1
def zap(n l1 l2)(h1:l1<n)(h2:l2<n):ZipApart (n+4:Nat) (n+2:Nat) (n+3:Nat) n (n+1:Nat) l1 l2:=by constructor<;>(apply(λh=>h) ;lia)
def QH{es:List cA}{x1:_}{px p:Pos}{ta:TA}(hg:Gl X "zip")(hm:X.mg "zip"=Zb)(ha:PA X [a,b] ta)(hs:ao [a,b] X.env=(false,eval a X.env)::ao [b] X.env:=by rfl)(Sf:(bI pos (ao [b] X.env)).any (·.1)=false:=by rfl):PI X (.Tuple es x1 px) (.Call (.Name "zip" p) [a,b] [] pos) (Ãk X.K ta):=by
 refine λR1 s O H R I h=>Call_ (zq I hg hm RJ (dN (Zx (ha pos R1 s O H _ I h) λus s1=>e4 λvs H1 I1 r1 q1=>?_) hs Sf));let⟨l1,l2,ys,zs,rfl,VJ,Tu,q⟩:=q1;let⟨u1,u2,rfl,r1,r2⟩:=JU r1;cases r1;cases r2;let⟨Wc,W4,p1,hz1⟩:=I1.list VJ;let⟨Tp,VD,p2,VI⟩:=I1.list Tu;have t1:l1<s1.heap.objs.size:=by let⟨o,ho,_⟩:=p1.isList;exact au ho
 have t2:l2<s1.heap.objs.size:=by let⟨o,ho,_⟩:=p2.isList;exact au ho
 refine call_zip_2 p1.isList p2.isList λh' hz UX Vt Yq hi2 hsz kp=>?_;have D:=zap _ _ _ t1 t2;refine wpAny_pyIter_zip hz ⟨s1.heap.objs.size+4,[s1.heap.objs.size+4,s1.heap.objs.size+2,s1.heap.objs.size+3,s1.heap.objs.size,s1.heap.objs.size+1],_,_,H1,rfl,I1.kept kp,Kh l1 l2 _ _ _ _ _ D,⟨hz,UX,⟨_,_,Vt⟩,Yq,hi2⟩,λc hc=>?_,q⟩;have UK:s1.heap.objs.size<=c:=by simp[ap,fP,or_false] at hc;obtain z|z|z|z|z:=hc<;>rw[z]<;>lia
 exact I1.Ź UK (I1.Zl.fresh UK)
def Á5{K:aa}{H0:Hp}{m0:Mp}{s0:N'}{b c:ag}{l k:List PV}(r:Rep K H0 m0 s0 (.ref b) (.lst l))(r':Rep K H0 m0 s0 (.ref c) (.lst k)):qz K CB (Itz K b c) (vS l k) H0 m0 s0:=by
 intro i H m s ex S;let⟨b',vs,⟨⟩,hq,rs⟩:=(r.Zq ex.toExtR).ls S (rfl);let⟨c',ws,⟨⟩,Ti,rs'⟩:=(r'.Zq ex.toExtR).ls S (rfl);refine⟨λq' hz=>?_,λhi=>⟨vs,ws,hq,Ti,?_⟩⟩
 .rw[Fh] at hz;cases cl:l[i]? with
  |none=>rw[cl] at hz;cases hz
  |some q0 =>
   cases ck:k[i]? with
   |none=>rw[cl,ck] at hz;cases hz
   |some q1 =>
    rw[cl,ck] at hz;cases hz;let⟨u,hu,ru⟩:=rs.get cl;let⟨v,hv,rv⟩:=rs'.get ck;refine⟨⟨vs,ws,u,v,hq,Ti,hu,hv⟩,λx H' ⟨p,hp,e1,e2⟩=>?_⟩;let⟨y,z,hy,hz,e3⟩:=e2 vs ws hq Ti;subst e1 e3;rw[hu] at hy;rw[hv] at hz;cases hy;cases hz;have kk:=My.rQ (o:=.tup [u,v]) hp;have S':=S.same kk;exact⟨.same kk,S',.tup (.inl ⟨.inl mH,S'.Â mH⟩) (.cons (ru.ext (.same kk)) (.cons (rv.ext (.same kk)) .nil))⟩
 .rw[AQ] at hi;rw[rs.length,rs'.length];lia
def MN{es:List cA}{x1:_}{px p:Pos}{fa:XA}(ha:DA X CB E [a,b] fa)(hg:Gl X "zip":=by rfl)(hm:X.mg "zip"=none:=by assumption)(hs:ao [a,b] X.env=(false,eval a X.env)::ao [b] X.env:=by rfl)(Sf:(bI pos (ao [b] X.env)).any (·.1)=false:=by rfl):DI X CB E (.Tuple es x1 px) (.Call (.Name "zip" p) [a,b] [] pos) (LX fa) :=
 ⟨(QH hg hm ha.pa hs Sf).mono λO H R q=>TDI.Ày q λv s1 u H1 m1 S1 r1 P=>by
  split at P
  .rename_i l s' hF;split at hF
   .cases hF;cases r1 with
    |cons r n =>
     cases n with
     |cons r' n =>
      cases n;cases r with
      |lst h1 h2 h3 =>
       cases r' with
       |lst k1 k2 k3=>exact⟨_,_,_,_,rfl,ZU.of h1,ZU.of k1,P _ _ _ .refl S1 (Á5 (.lst h1 h2 h3) (.lst k1 k2 k3))⟩
   .cases hF
  .rename_i hF;split at hF<;>cases hF
  .exact P.elim⟩
def Pq(i:Nat)(f:XE)(Z:En)(s:N'):SO:=match Z[i]? with
 |some (Za (.int x))=>(f Z s).so λv s1=>match v with
  |.int y=>.nx (Z.set i (Za (.int (x+y)))) s1
  |_=>.bad
 |_=>.bad
def Ry(i)(he:DE X CB E e f)(hN:X.N.Nodup:=by exact ‹K' _ _ _›.nd)(hi:X.N[i]?=Za x:=by rfl)(hx:Loc X.env.scope x:=by first|exact eL rfl|exact gR rfl)(hf:X.fn x=true\/X.env.scope.names.lookup x=Za .local:=by first|exact .inl rfl|exact .inr rfl|assumption):DS X CB E (.AugAssign (.Name x Sv) .Add e pos) (Pq i f) :=
 ⟨(QG hN hi hx he.pe MC hf).mono λD O H=>oE λZ s m er S P=>by
  unfold Pq at P;split at P
  .rename_i a ŧ;let⟨u0,hu,⟨⟩⟩:=er.at_ i _ ŧ;refine⟨_,hu,Z,s,m,er,S,Zs.so P λv s1 u H1 m1 e1 S1 r1 P1=>?_⟩;split at P1
   .cases r1;exact⟨_,_,rfl,rfl,P1.next S1 ((er.ext e1).set i .int)⟩
   .exact P1.elim
  .exact P.elim⟩
section
variable[DecidableEq κ]{K:aa}
def ZM(K:aa)(H:Hp)(m:Mp)(s:N')(vs:List (κ×V))(l:List (κ×PV)):Prop:=vs.map (·.1)=l.map (·.1)/\Y5 K H m s (vs.map (·.2)) (l.map (·.2))
theorem ZM.nil:ZM K H m s ([]:List (κ×V)) []:=⟨rfl,.nil⟩
def ZM.cons_inv:∀{vs:List (κ×V)},ZM K H m s vs (q::l)->∃w r,vs=(q.1,w)::r/\Rep K H m s w q.2/\ZM K H m s r l
 |[],h=>nomatch h.1
 |(k,w)::r,h=>by
  let⟨e1,e2⟩:=iz h.1;cases h.2 with
  |cons a b =>
   subst e1;exact⟨w,r,rfl,a,e2,b⟩
theorem ZM.cons{q:κ×PV}{l}{w}{vs}(a:Rep K H m s w q.2)(h:ZM K H m s vs l):ZM K H m s ((q.1,w)::vs) (q::l):=⟨by rw[am,am,h.1],.cons a h.2⟩
theorem ZM.length(h:ZM K H m s vs l):vs.length=l.length:=by
 have:=congrArg cC h.1
 grind
def uM(l:List (κ×PV))(k:κ):Option PV:=(l.find? λkv=>decide (kv.1=k)).map (·.2)
def Ec(l:List (κ×PV))(k:κ)(p:PV):List (κ×PV) :=
 if(l.any λkv=>decide (kv.1=k))=true then l.map (λkv=>if kv.1=k then(kv.1,p) else kv) else l++[(k,p)]
theorem ZM.val:∀{l:List (κ×PV)}{vs:List (κ×V)},ZM K H m s vs l->uM l k=Za p->∃w,pL vs k=Za w/\Rep K H m s w p
 |[],_,_,e=>nomatch e
 |q::l,vs,h,e=>by
  let⟨w,r,rfl,a,b⟩:=h.cons_inv;unfold uM at e;unfold pL;rw[bP] at e ⊢;by_cases c:q.1=k
  .grind
  .rw[Zh c] at e;let⟨w',h1,h2⟩:=b.val e;refine⟨w',?_,h2⟩;rw[Zh c];exact h1
theorem ZM.any:∀{l:List (κ×PV)}{vs:List (κ×V)},ZM K H m s vs l->(vs.any λkv=>decide (kv.1=k))=l.any λkv=>decide (kv.1=k)
 |[],vs,h=>by
  have:=h.length
  grind
 |q::l,vs,h=>by let⟨w,r,rfl,a,b⟩:=h.cons_inv;rw[dZ,dZ,b.any]
theorem ZM.map(rv:Rep K H m s v p):∀{l:List (κ×PV)}{vs:List (κ×V)},ZM K H m s vs l->ZM K H m s (vs.map λkv=>if kv.1=k then(kv.1,v) else kv) (l.map λkv=>if kv.1=k then(kv.1,p) else kv)
 |[],vs,h=>by
  have:=h.length
  simp_all
 |q::l,vs,h=>by
  let⟨w,r,rfl,a,b⟩:=h.cons_inv;rw[am,am];by_cases c:q.1=k
  .rw[Zc c,Zc c];exact ZM.cons (q:=(q.1,p)) rv (b.map rv)
  .rw[Zd c,Zd c];exact ZM.cons a (b.map rv)
def ZM.snoc(rv:Rep K H m s v p)(h:ZM K H m s vs l):ZM K H m s (vs++[(k,v)]) (l++[(k,p)]) :=
 ⟨by rw[aD,aD,h.1];rfl,by rw[aD,aD];exact h.2.append (.cons rv .nil)⟩
def ZM.put{k:κ}{v:V}{p:PV}(rv:Rep K H m s v p){l:List (κ×PV)}{vs:List (κ×V)}(h:ZM K H m s vs l):ZM K H m s (rH vs k v) (Ec l k p):=by
 unfold rH Ec;rw[h.any];split
 .exact h.map rv
 .exact h.snoc rv
theorem yw[DecidableEq κ][BEq κ][LawfulBEq κ](k:κ):∀fs:List (κ×V),fs.lookup k=pL fs k
 |[]=>rfl
 |(g,x)::r=>by
  rw[cx];unfold pL;rw[bP];by_cases c:g=k
  .subst c;simp
  .have h1:(k==g)=false:=by simpa using bV c
   rw[h1];simp[c];exact yw k r
def Cp(f:Str)(v:PV):List (Str×PV)->List (Str×PV)
 |[]=>[(f,v)]
 |(g,x)::r=>if g=f then(g,v)::r else(g,x)::Cp f v r
theorem ZM.Å(rv:Rep K H m s v p):∀{l:List (Str×PV)}{vs:List (Str×V)},ZM K H m s vs l->ZM K H m s (Å f v vs) (Cp f p l)
 |[],vs,h=>by
  have:=h.length;rw[fm.mp this];exact ZM.cons (q:=(f,p)) rv .nil
 |(g,x)::l,vs,h=>by
  let⟨w,r,rfl,a,b⟩:=h.cons_inv;show ZM K H m s (if g=f then(g,v)::r else(g,w)::L2.Å f v r) (if g=f then(g,p)::l else(g,x)::Cp f p l);split
  .exact ZM.cons (q:=(g,p)) rv b
  .exact ZM.cons a (b.Å rv)
end
def SR.Â7{K:aa}{H:Hp}{m:Mp}{s:N'}{n:Nat}{dx:ag}{l l':List (Str×PV)}{SE:List (Str×V)}(S:SR K CB H m s)(hn:s.get n=Za (.obj C l))(r:ZM K H m s SE l') :
  SR K CB (upd H (m.ad n) (.ins C dx SE)) (m.Þ n [m.ad n]) (s.set n (.obj C l'))/\Ext H m s (upd H (m.ad n) (.ins C dx SE)) (m.Þ n [m.ad n]) (s.set n (.obj C l')):=by
 let⟨e1,dx',vs,h1,_⟩:=S.get hn;refine S.put hn `g _ _ (λa o h ha=>?_) (λa ha=>.inl (by rw[e1];exact ha)) λex=>⟨by show(if n=n then [m.ad n] else m.fp n)=_;rw[Zc rfl];rfl,dx,SE,mH,r.1,r.2.Zq ex⟩;rw[e1,ax] at ha;rw[mF ha];exact h
def SR.Â6{K:aa}{H:Hp}{m:Mp}{s:N'}{n:Nat}{l l':List (List Key×PV)}{SE:List (List Key×V)}(S:SR K CB H m s)(hn:s.get n=Za (.û l))(r:ZM K H m s SE l') :
  SR K CB (upd H (m.ad n) (.dT SE)) (m.Þ n [m.ad n]) (s.set n (.û l'))/\Ext H m s (upd H (m.ad n) (.dT SE)) (m.Þ n [m.ad n]) (s.set n (.û l')):=by
 let⟨e1,vs,h1,_⟩:=S.get hn;refine S.put hn `g _ _ (λa o h ha=>?_) (λa ha=>.inl (by rw[e1];exact ha)) λex=>⟨by show(if n=n then [m.ad n] else m.fp n)=_;rw[Zc rfl];rfl,SE,mH,r.1,r.2.Zq ex⟩;rw[e1,ax] at ha;rw[mF ha];exact h
def Gh(C:ag)(nm:Str)(f:XE)(Z:En)(s:N'):Out PV:=(f Z s).bind λv s1=>match v with
 |.ref n=>match s1.get n with
  |some (.obj C' fs)=>if C'=C then(match uM fs nm with
   |some p=>.ok p s1
   |none=>.bad) else .bad
  |_=>.bad
 |_=>.bad
def ES(ho:DE X CB E a f)(hC:ϥ X.K C)(hn:Z9 X.K C nm)(hb:cm a nm X.env (eval a X.env)=eval a X.env:=by rfl):DE X CB E (.Attribute a nm pos) (Gh C nm f) :=
 ⟨(pC ho.pe hb).mono λO H Q=>oE λZ s m er S P=>⟨Z,s,m,er,S,P.bind λv s1 u H1 m1 e1 S1 r1 P1=>by
  split at P1
  .split at P1
   .rename_i hg;split at P1
    .rename_i hc;subst hc;split at P1
     .rename_i hv;let⟨_,dx,Tw,h1,rf⟩:=S1.get hg;cases r1 with
      |ref hl =>
       let⟨w,hw,SN⟩:=ZM.val rf hv;exact⟨_,_,dx,Tw,w,rfl,h1,hC,hn,(yw nm Tw).trans hw,P1.here S1 SN⟩
     .exact P1.elim
    .exact P1.elim
   .exact P1.elim
  .exact P1.elim⟩⟩
def F7(C:ag)(nm:Str)(f g:XE)(Z:En)(s:N'):SO:=(g Z s).so λp s1=>(f Z s1).so λv s2=>match v with
 |.ref n=>match s2.get n with
  |some (.obj C' fs)=>if C'=C/\fs.length<1000 then .nx Z (s2.set n (.obj C (Cp nm p fs))) else .bad
  |_=>.bad
 |_=>.bad
def MM{nm:Str}(ho:DE X CB E a f)(hv:DE X CB E e g)(hC:ϥ X.K C)(hn:Z9 X.K C nm)(hs:cO e (Za (.Attribute a nm Sv)) pos.line X.env=pure false:=by rfl):DS X CB E (.Assign [.Attribute a nm Sv] e pos) (F7 C nm f g) :=
 ⟨(zo ho.pe hv.pe hs).mono λD O H=>oE λZ s m er S P=>⟨Z,s,m,er,S,Zs.so P λp s1 u H1 m1 e1 S1 r1 P1=>⟨Z,s1,m1,er.ext e1,S1,Zs.so P1 λv s2 u2 H2 m2 e2 S2 r2 P2=>by
  split at P2
  .split at P2
   .rename_i hg;split at P2
    .rename_i hc;let⟨hc,hl⟩:=hc;subst hc;let⟨_,dx,Tw,h1,rf⟩:=S2.get hg;cases r2 with
     |ref Sd =>
      have rz:ZM X.K H2 m2 s2 Tw _:=rf;let⟨S3,e3⟩:=S2.Â7 hg (rz.Å (r1.ext e2));exact⟨_,_,dx,Tw,rfl,h1,hC,hn,by rw[rz.length];exact hl,P2 _ _ _ e3 S3 (((er.ext e1).ext e2).ext e3)⟩
    .exact P2.elim
   .exact P2.elim
  .exact P2.elim⟩⟩⟩
def Po(_:En)(s:N'):Out PV:=.ok (.ref s.nx) (s.add (.û []))
def O1:DE X CB E (.Dict [] [] pos) Po:=⟨Àq.mono λO H Q=>oE λZ s m er S P p hp=>by
 let⟨S2,e2⟩:=S.add (c:=.û []) _ p [p] (My.rQ hp) (λa ha=>by rw[ax.mp ha];exact hp) λex=>by
  have e1:(m.add s.nx p [p]).ad s.nx=p:=by show(if s.nx=s.nx then p else _)=_;rw[Zc rfl]
  have e2:(m.add s.nx p [p]).fp s.nx=[p]:=by show(if s.nx=s.nx then [p] else _)=_;rw[Zc rfl]
  exact⟨by rw[e1,e2],[],by rw[e1];exact mH,rfl,.nil⟩
 exact P _ _ _ e2 S2 .new⟩
def Cu:List PV->Option (List Key)
 |[]=>Za []
 |p::l=>match ó p,Cu l with
  |some k,Za ks=>Za (k::ks)
  |_,_=>Zb
def Ah{K:aa}{H:Hp}{m:Mp}{s:N'}:∀{l:List PV}{vs:List V}{ks:List Key},Y5 K H m s vs l->Cu l=Za ks->vs=ks.map kV
  :=by
 intro l;induction l with
 |nil =>
  intro _ _ r h;cases r;cases h;rfl
 |cons p l ih =>
  intro _ _ r h;cases r with
  |cons r rs =>
   unfold Cu at h;split at h
   .rename_i k ks' h1 h2;cases h;rw[qS r h1,ih rs h2];rfl
   .cases h
def Nj(f:XE)(fa:XA)(Z:En)(s:N'):Out PV:=(f Z s).bind λv s1=>(fa Z s1).bind λvs s2=>match v with
 |.ref n=>match s2.get n,Cu vs with
  |some (.û l),Za ks=>if vs.length<=100000 then(match uM l ks with
   |some p=>.ok p s2
   |none=>.bad) else .bad
  |_,_=>.bad
 |_=>.bad
def RE{x1}(ho:DE X CB E a f)(hi:DA X CB E es fa){jr:Nat}(hr:Zw jr X.A:=by assumption)(hs:RZ (.Tuple es x1 SG):=by exact λ_ _=>rfl):DE X CB E (.Subscript a (.Tuple es x1 SG) pos) (Nj f fa) :=
 ⟨(sO (o7 hr) ho.pe (vZ hi.pa) hs).mono λO H Q=>oE λZ s m er S P=>⟨Z,s,m,er,S,P.bind λv s1 u H1 m1 e1 S1 r1 P1=>⟨Z,s1,m1,er.ext e1,S1,P1.bind λvs s2 us H2 m2 e2 S2 r2 P2=>by
  split at P2
  .split at P2
   .rename_i l ks hg hk;split at P2
    .rename_i hl;split at P2
     .rename_i hv;refine⟨by rw[r2.length];exact sz5 hl,λp hp=>?_⟩;let⟨_,SE,h1,rf⟩:=S2.get hg;have rz:ZM X.K H2 m2 s2 SE l:=rf;let⟨w,hw,SN⟩:=rz.val hv;have XU:=r1.ext e2;cases XU with
      |ref Sd =>
       have Ub:p≠m2.ad _:=λz=>by rw[z,h1] at hp;grind
       have ek:=Ah r2 hk;subst ek;exact⟨_,w,rfl,hw▸Æ.t (by rw[mF (bV Ub)];exact h1) mH,P2.new S2 hp λex S'=>SN.ext ex⟩
     .exact P2.elim
    .exact P2.elim
   .exact P2.elim
  .exact P2.elim⟩⟩⟩
def ZM.same{κ:Type}{K:aa}{H H':Hp}{m m':Mp}{s s':N'}{vs:List (κ×V)}{l:List (κ×PV)}(h:ZM K H m s vs l)(e:Ext H m s H' m' s'):ZM K H' m' s' vs l:=⟨h.1,h.2.ext e⟩
def JS(f:XE)(fa:XA)(h:XE)(Z:En)(s:N'):SO:=(h Z s).so λq s1=>(f Z s1).so λv s2=>(fa Z s2).so λvs s3=>match v with
 |.ref n=>match s3.get n,Cu vs with
  |some (.û l),Za ks=>if vs.length<=100000/\l.length<100000 then .nx Z (s3.set n (.û (Ec l ks q))) else .bad
  |_,_=>.bad
 |_=>.bad
def OO{x1}(ho:DE X CB E a f)(hi:DA X CB E es fa)(hv:DE X CB E e h)(hr:Zw jr X.A:=by assumption)(hs:cO e (Za (.Subscript a (.Tuple es x1 SG) Sv)) pos.line X.env=pure false:=by rfl):DS X CB E (.Assign [.Subscript a (.Tuple es x1 SG) Sv] e pos) (JS f fa h) :=
 ⟨(sN (o7 hr) ho.pe (vZ hi.pa) hv.pe hs).mono λD O H=>oE λZ s m er S P=>⟨Z,s,m,er,S,Zs.so P λq s1 u H1 m1 e1 S1 r1 P1=>⟨Z,s1,m1,er.ext e1,S1,Zs.so P1 λv s2 u2 H2 m2 e2 S2 r2 P2=>⟨Z,s2,m2,(er.ext e1).ext e2,S2,Zs.so P2 λvs s3 us H3 m3 e3 S3 r3 P3=>by
  split at P3
  .split at P3
   .rename_i l ks hg hk;split at P3
    .rename_i hl;refine⟨by rw[r3.length];exact sz5 hl.1,λp hp=>?_⟩;let⟨_,SE,h1,rf⟩:=S3.get hg;have rz:ZM X.K H3 m3 s3 SE l:=rf;have r2':=r2.ext e3;cases r2' with
     |ref Sd =>
      have Ub:p≠m3.ad _:=λz=>by rw[z,h1] at hp;grind
      have ek:=Ah r3 hk;subst ek;have kk:=My.rQ (o:=.tup (ks.map kV)) hp;have S4:=S3.same kk;have e4:Ext H3 m3 s3 _ m3 s3:=.same kk;have rq:=((r1.ext e2).ext e3).ext e4;let⟨S5,e5⟩:=S4.Â6 hg ((rz.same e4).put rq);exact⟨_,_,rfl,Ė.t (by rw[mF (bV Ub)];exact h1) mH (by rw[rz.length];exact sz6 hl.2),P3 _ _ _ (e4.trans e5) S5 (((((er.ext e1).ext e2).ext e3).ext e4).ext e5)⟩
    .exact P3.elim
   .exact P3.elim
  .exact P3.elim⟩⟩⟩⟩
def xMk(C:ag)(n:Nat)(D:XF)(fa:XA)(Z:En)(s:N'):Out PV:=(fa Z s).bind λvs s1=>if vs.length+1=n then(D (.ref s1.nx::vs) (s1.add (.obj C []))).bind (λv s2=>match v with
 |.Zn=>.ok (.ref s1.nx) s2
 |_=>.bad) else .bad
def ÁF(M:MkB X.prog X.w X.K X.mg X.base x C k ps sp)(hr:Zw (k+1) X.A)(hg:Gl X x)(hx:oW (Z' X.prog X.w) X E)(ha:PA X (e::es) t)(SI:Ĉ x:=by decide)(he:Œ X e es:=by rfl)(Sf:(bI pos (ao es X.env)).any (·.1)=false:=by rfl):PE X (.Call (.Name x p) (e::es) [] pos) (JX C sp [] E t):=by
 let⟨f,fd,F,hm,mk,hb⟩:=M;exact NX mk F hr hg hm hb .nil hx ha SI he Sf
def Âr(M:MkB X.prog X.w X.K X.mg X.base x C k ps (Ķ X.K CB n D))(ha:DA X CB E (e::es) fa)(hr:Zw jr X.A:=by assumption)(hk:k+1<=jr:=by first|decide|omega)(hg:Gl X x:=by rfl)(hx:oW (Z' X.prog X.w) X E:=by first|exact pN|exact sA)(SI:Ĉ x:=by decide)(he:Œ X e es:=by rfl)(Sf:(bI pos (ao es X.env)).any (·.1)=false:=by rfl):DE X CB E (.Call (.Name x p) (e::es) [] pos) (xMk C n D fa) :=
 ⟨(ÁF M (hr.mono hk) hg hx ha.pa SI he Sf).mono λO H Q=>oE λZ s m er S P=>⟨Z,s,m,er,S,P.bind λvs s1 us H1 m1 e1 S1 r1 P1=>by
  split at P1
  .rename_i hl;intro b dx hb Yx Su;rw[bQ];have kk:ZT H1 (upd (upd H1 dx (.own b)) b (.ins C dx [])):=λc o h=>by rw[mF (mQ h hb),mF (mQ h Yx)];exact h
   let⟨S2,e2⟩:=S1.add (c:=.obj C []) (upd (upd H1 dx (.own b)) b (.ins C dx [])) b [b] kk (λa ha=>by rw[ax.mp ha];exact hb) λex=>by
    have q1:(m1.add s1.nx b [b]).ad s1.nx=b:=by show(if s1.nx=s1.nx then b else _)=_;rw[Zc rfl]
    have q2:(m1.add s1.nx b [b]).fp s1.nx=[b]:=by show(if s1.nx=s1.nx then [b] else _)=_;rw[Zc rfl]
    exact⟨by rw[q1,q2],dx,[],by rw[q1];exact mH,rfl,.nil⟩
   refine⟨by rw[bu,r1.length];exact hl,_,_,_,.cons .new (r1.ext e2),S2,(Zs.shift e2 P1).bind λv s3 u H3 m3 e3 S3 r3 P3=>?_⟩;split at P3
   .cases r3;exact⟨rfl,P3 _ _ _ .refl S3 (Rep.new.ext e3)⟩
   .exact P3.elim
  .exact P1.elim⟩⟩
theorem ZM.none{κ:Type}[DecidableEq κ]{K:aa}{H:Hp}{m:Mp}{s:N'}{k:κ}:∀{l:List (κ×PV)}{vs:List (κ×V)},ZM K H m s vs l->uM l k=Zb->pL vs k=Zb
 |[],vs,h,_=>by
  have:=h.length;rw[fm.mp this];rfl
 |q::l,vs,h,e=>by
  let⟨w,r,rfl,a,b⟩:=h.cons_inv;unfold uM at e;unfold pL;rw[bP] at e ⊢;by_cases c:q.1=k
  .rw[Zg c] at e;cases e
  .rw[Zh c] at e;show Option.map _ (match decide (q.1=k) with|true=>Za (q.1,w)|false=>_)=_;rw[Zh c];exact b.none e
def xOM(C:ag)(nm:Str)(n:Nat)(D:XF)(f:XE)(fa:XA)(Z:En)(s:N'):Out PV:=(f Z s).bind λo s1=>match o with
 |.ref k=>match s1.get k with
  |some (.obj C' fs)=>if C'=C/\uM fs nm=Zb then(fa Z s1).bind λvs s2=>if vs.length+1=n then D (.ref k::vs) s2 else .bad else .bad
  |_=>.bad
 |_=>.bad
def P6(ho:DE X CB E a f)(M:Mt X.prog X.w X.K X.mg X.base C m k ps (Ķ X.K CB n D))(ha:DA X CB E (e::es) fa)(hr:Zw jr X.A:=by assumption)(hk:k<=jr:=by first|decide|omega)(hx:oW (Z' X.prog X.w) X E:=by first|exact pN|exact sA)(S6:Œ X e es:=by rfl)(Sf:(bI pos (ao es X.env)).any (·.1)=false:=by rfl)(ht:eval (.Call (.Attribute a m R8) (e::es) [] pos) X.env=(do
   let ov <-eval a X.env
   fR R8.atName
   let(f,first) <-holding [ov] (fK ov m pl)
   iB pos f first (bI pos (ao (e::es) X.env)) (eA pos (cI [] X.env))):=by rfl):DE X CB E (.Call (.Attribute a m R8) (e::es) [] pos) (xOM C m n D f fa) :=
 ⟨(ur (pl:=pl) ho.pe M (hr.mono hk) hx ha.pa S6 Sf ht).mono λO H Q=>oE λZ s m' er S P=>⟨Z,s,m',er,S,P.bind λv s1 u H1 m1 e1 S1 r1 P1=>by
  split at P1
  .split at P1
   .rename_i hg;split at P1
    .rename_i hc;let⟨hc,hn0⟩:=hc;subst hc;let⟨_,dx,Tw,h1,rf⟩:=S1.get hg;cases r1 with
     |ref hn =>
     refine⟨_,_,_,rfl,h1,(yw m Tw).trans (ZM.none rf hn0),Z,s1,m1,er.ext e1,S1,P1.bind λvs s2 us H2 m2 e2 S2 r2 P2=>?_⟩;split at P2
     .rename_i hl;rw[bQ];refine⟨by rw[bu,r2.length];exact hl,_,s2,m2,.cons ?_ r2,S2,P2⟩;exact(Rep.ref hn).ext e2
     .exact P2.elim
    .exact P1.elim
   .exact P1.elim
  .exact P1.elim⟩⟩
def Áz(K:aa):R2:=λx y H Q=>∃(p:ag)(xs:List V)(j:Nat)(v:V),x=.ref p/\y=.int (j:Int)/\ZU K H p xs/\xs[j]?=Za v/\Q v H
def Lj:ÂE X (Áz X.K):=by
 rintro R1 s O H x y v u Q I rx ry ⟨p,xs,j,z,rfl,rfl,hq,he,q⟩
 cases rx;let⟨t,rfl⟩:=ry;let⟨its,r,pl,hz⟩:=I.list hq;let⟨w,ew,SN⟩:=r.get he;have hl:=r.length;have hn:=xg;have hj:=(aR.mp ew).1;exact wpAny_getItem_list pl.isList `l `l (by simpa using ew) ⟨z,H,I,SN,q⟩
def JT(f g h:XE)(Z:En)(s:N'):SO:=(f Z s).so λo s1=>(g Z s1).so λi s2=>match o,i with
 |.ref n,.int k=>if 0<=k then(match s2.get n with
  |some (.lst l)=>(match l[k.toNat]? with
   |some (.int x)=>(h Z s2).so λv s3=>match v with
    |.int y=>(match s3.get n with
     |some (.lst l')=>if k.toNat<l'.length then .nx Z (s3.set n (.lst (l'.set k.toNat (.int (x+y))))) else .bad
     |_=>.bad)
    |_=>.bad
   |_=>.bad)
  |_=>.bad) else .bad
 |_,_=>.bad
def OS(ho:DE X CB E a f)(hi:DE X CB E b g)(he:DE X CB E e h)(ha:∀ov iv new,augStore b ov iv new=(do holding [new,ov,iv] (kK ov iv new);release [new,ov,iv] [];pure .next):=by intros;rfl):DS X CB E (.AugAssign (.Subscript a b SG) .Add e pos) (JT f g h) :=
 ⟨(NQ ho.pe hi.pe Lj he.pe MC set_list ha).mono λD O H=>oE λZ s m er S P=>⟨Z,s,m,er,S,Zs.so P λo s1 uo H1 m1 e1 S1 r1 P1=>⟨Z,s1,m1,er.ext e1,S1,Zs.so P1 λi s2 ui H2 m2 e2 S2 r2 P2=>by
  split at P2
  .rename_i n k;split at P2
   .rename_i hk;split at P2
    .rename_i l hg;split at P2
     .rename_i x hx;let⟨_,vs,h1,q1⟩:=S2.get hg;let⟨u0,hu0,⟨⟩⟩:=q1.get hx;have XU:=r1.ext e2;cases XU with
      |ref Sd =>
      cases r2;have ek:k=(k.toNat:Int):=by lia
      refine⟨_,vs,k.toNat,_,rfl,by rw[<-ek],ZU.of h1,hu0,Z,s2,m2,(er.ext e1).ext e2,S2,Zs.so P2 λv s3 uv H3 m3 e3 S3 r3 P3=>?_⟩;split at P3
      .split at P3
       .rename_i l' hg';split at P3
        .rename_i hl;cases r3;let⟨_,SE,VR,q1'⟩:=S3.get hg';have hn:=Sd;have ead:=e3.ad n hn;let⟨S4,e4⟩:=S3.putL hg' (q1'.set k.toNat (.int));rw[ead] at VR S4 e4;refine⟨_,_,rfl,rfl,_,SE,_,k.toNat,rfl,rfl,VR,?_,P3 _ _ _ e4 S4 ((((er.ext e1).ext e2).ext e3).ext e4)⟩;rw[q1'.length];unfold Ϥ
         grind
        .exact P3.elim
       .exact P3.elim
      .exact P3.elim
     .exact P2.elim
    .exact P2.elim
   .exact P2.elim
  .exact P2.elim⟩⟩⟩
end L2
namespace PySem
open Sem (wp)
def DV:jt (.type "list") "keys"=pure none:=by kernel_rfl
def zM(hx:s.heap.get? a=Za o)(hc:o.cls=.type "list")(Ur:o.data=.seq xs k)(hd:o.dict=Zb)(hA:A.handled=Zb)(h:∀h' tk,(∀b o,s.heap.get? b=Za o->h'.get? b=Za o)->Q Zb { s with heap:=h',toks:=tk }) :
  aM (model prog w) A (getAttr? (.ref a) "keys") Q E s:=by
 let⟨c,Zv,dat,sl⟩:=o;simp only at hc Ur hd;subst hc Ur hd;let⟨y1,y2,y3,y4,y5⟩:=s;have ty:∀z,(⟨y1,y2,y3,z,y5⟩:aw).TypeIs (.ref a) "list":=λ_=>⟨_,hx,rfl⟩;have f1:=sub_AttributeError;have f3:=g8.lookup;have f4:=g8.bind (.ref a);have f5:=am_list_getattr_none;unfold getAttr? getAttrBy? getAttrBy
 repeat (any_goals (first|assumption|exact ty _|((with_reducible show aM _ _ (call (fN "list.__getattribute__") _ _) _ _ _);refine jv g8 (ty _) am_entry_list_getattribute (F.args_list_getattribute_2 _ _) (meets_getattribute_miss_list a xs k sl "keys" _ DV (by decide +kernel) (Zf rfl)) ⟨hx,hA,λh' tk' e Uj=>?_⟩)|wp_step))
 let⟨t',u',he⟩:=Uj.there;unfold getattributeRaised
 repeat any_goals first|assumption|wp_step
 exact h _ _ Uj.keeps
namespace F
def Ć:plainId "dict.update.loop"=true:=by decide +kernel
def ũ:entryFor table "dict.update.loop"=Za Builtin.«dict.update.loop»:=entryFor_of_tree (by kernel_rfl)
end F
section
variable[DecidableEq K]{knd:KeyKind prog w K}{R:k9->aw->Prop}{D it l:ag}
structure æ(knd:KeyKind prog w K)(h:cg)(p:ag×K×ai×ai):Prop where
 at_:∃o n,h.get? p.1=Za o/\o.cls=.type "tuple"/\o.data=.seq #[p.2.2.1,p.2.2.2] n
 is:knd.is p.2.1 p.2.2.1=true
def xP(R3:List (K×ai)):List (ag×K×ai×ai)->List (K×ai)
 |[]=>R3
 |p::ps=>xP (stored R3 p.2.1 p.2.2.2) ps
theorem FV(hh:A.handled=Zb)(Xq:D≠it)(hDl:D≠l)(hil:it≠l):∀(ps:List (ag×K×ai×ai))(i:Nat)(pre:List ai)(s:aw)(R3:List (K×ai)),pre.length=i->s.heap.IsListIter it l i ->
  s.heap.IsList l (pre++ps.map λp=>aP p.1).toArray->(∀p∈ps,æ knd s.heap p/\p.1≠it/\p.1≠D)->s.heap.DictOf knd D R3->R3.length+ps.length<=aF ->
  (∀h' tk,h'.DictOf knd D (xP R3 ps)->(∀b o,b≠it->b≠D->s.heap.get? b=Za o->h'.get? b=Za o)->R (.ok (.ret .none)) { s with heap:=h',toks:=tk }) ->
  eX (model prog w) A (.builtin "dict.update.loop" ⟨[.ref D,.ref it,rawInt i,.none],[]⟩) R s
 |[],i,pre,s,R3,hi,Vk,hl,hp,hd,hz,hR=>by
  refine kE F.ũ ?_;rw[kR F.Ć _];show aM _ A.in1 (pyNext (.ref it) >>= _) _ _ s;refine ae (wpAny_pyNext_list_end (A:=A.in1) hh Vk hl (by simp[hi]) λh' sb=>?_);exact ae (aE (aE (hR h' s.toks (hd.extBut sb Xq) λb o hb _ e=>sb b o hb e)))
 |p::ps,i,pre,s,R3,hi,Vk,hl,hp,hd,hz,hR=>by
  let⟨⟨⟨o,n,hT,hc,WC⟩,hk⟩,ni,nD⟩:=hp p al;apply kE F.ũ;rw[kR F.Ć _];refine ae (wpAny_pyNext_list_item (x:=.ref p.1) Vk hl (by simp[<-hi]) λh' Yp sb=>?_);have hT':=(sb.2 _ ni).trans hT;have Yb:(⟨h',s.gens,s.drawn,s.toks,s.os⟩:aw).TypeIs (.ref p.1) "tuple":=⟨_,hT',hc⟩;refine ae (cD (ae (wpAny_tryCatch ?_)));refine ae (wpAny_typeOf Yb ?_);rw[Zc (Zf rfl)];refine ae (wpAny_seqItems hT' WC (aE ?_));have Xo:=hd.sameBut sb Xq;refine cD (wpAny_dictSet_pairs (hsz:=by rw[bu] at hz;lia) hk Xo λh2 WE sb2=>?_);refine aE ⟨plainId_quiet F.Ć _,?_⟩;have kp:=λb h1 h2=>(sb2.2 b h2).trans (sb.2 b h1);have:=FV hh Xq hDl hil ps (i+1) (pre++[.ref p.1]) { s with heap:=h2,toks:=s.toks+1 } (stored R3 p.2.1 p.2.2.2) (by simp[hi])
   (Yp.at λo e=>(sb2.2 it (bV Xq)).trans e) (by
    have e:(pre++[aP p.1]++ps.map λp=>aP p.1)=pre++(p::ps).map λp=>aP p.1:=by simp
    rw[e];exact hl.at λo e=>(kp l (bV hil) (bV hDl)).trans e) (λq hq=>by
    let⟨⟨⟨o,n,g,g2⟩,k⟩,a1,a2⟩:=hp q (af _ hq);exact⟨⟨⟨o,n,(kp _ a1 a2).trans g,g2⟩,k⟩,a1,a2⟩) WE (by
    have:=stored_length_le R3 p.2.1 p.2.2.2;rw[bu] at hz;lia) λh3 tk hd3 k3=>?_
  .exact this
  .exact hR h3 tk hd3 λb o h1 h2 e=>k3 b o h1 h2 ((kp b h1 h2).trans e)
end
open Sem (wp)
section
variable{prog:bT}{w:cy}{K:Type}[DecidableEq K]{knd:KeyKind prog w K}{E:ai->aw->Prop}{A:cQ}{s:aw}
def zl(hh:A.handled=Zb)(hx:s.heap.get? l=Za ol)(Tz:ol.cls=.type "list")(Yy:ol.dict=Zb)(Xn:ol.data=.seq (ps.map λp=>aP p.1).toArray n)(hp:∀p∈ps,æ knd s.heap p)(hz:ps.length<=aF)(h:∀h' tk,h'.DictOf knd s.heap.objs.size (xP [] ps)->(∀b o,s.heap.get? b=Za o->h'.get? b=Za o)->Q (.ref s.heap.objs.size) { s with heap:=h',toks:=tk }) :
  aM (model prog w) A (call (.type "dict") [.ref l]) Q E s:=by
 refine callType_codes (Q₁:=λob s0=>ob=.ref s.heap.objs.size/\s0={ s with heap:=s.heap.push { cls:=.type "dict",data:=.dict #[] } }) F.kt_called_dict (F.kt_typeCall_dict_1 _) F.entry_dict_init (kt_code_dict_new _ ⟨rfl,rfl⟩) ?_
 rintro _ _ ⟨rfl,rfl⟩
 have nw:(s.heap.push { cls:=.type "dict",data:=.dict #[] }).DictOf knd s.heap.objs.size []:=kQ s.heap;have Uj:(s.heap.push { cls:=.type "dict",data:=.dict #[] }).get? l=Za ol:=aj _ hx;have hTl:({ s with heap:=s.heap.push { cls:=.type "dict",data:=.dict #[] } }:aw).TypeIs (.ref l) "list":=⟨_,Uj,Tz⟩;have Xk:=au hx;refine⟨nw.typeIs,F.args_dict_init_2 _ _,?_⟩;apply ae;refine ae (wpAny_notOrdered_dict nw.typeIs ?_);apply aE;show aM _ _ (Builtin.Dict.updateFrom "dict.__init__" s.heap.objs.size (.ref l) [] .none) _ _ _;refine ae (wpAny_typeOf hTl ?_);rw[Zc (Zf rfl)];refine ae (zM Uj Tz Xn Yy hh λh1 tk kp=>?_);rw[Zc (show Zb.isNone=true from rfl)];refine ae (wpAny_rule ?_);have UU:h1.IsList l (ps.map λp=>aP p.1).toArray:=⟨_,kp _ _ Uj,Tz,_,Xn⟩;refine ae (hJ UU ?_);let⟨od,es,ep,hod,rd⟩:=nw;have hD1:=kp _ _ hod;have WF:h1.DictOf knd s.heap.objs.size []:=⟨od,es,ep,hD1,rd⟩;have l1:=au (kp _ _ Uj);have lD:=au hD1;have UB:(h1.push { cls:=.type "list_iterator",data:=.fields #[.ref l,.int 0 0] }).IsListIter h1.objs.size l 0:=⟨_,aO _ rfl,rfl,rfl⟩;refine aE ⟨plainId_quiet F.Ć _,FV (A:=A.in1) hh (az lD) (fH Xk) (fH l1) ps 0 [] _ [] rfl UB (UU.push _) (λp q=>?_) (WF.push _) (by simpa using hz) λh2 tk2 WE k2=>⟨rfl,h h2 tk2 WE λb o e=>?_⟩⟩
 .let⟨⟨o,n,g,g2⟩,k⟩:=hp p q;have g1:=kp _ _ (aj { cls:=.type "dict",data:=.dict #[] } g);exact⟨⟨⟨o,n,aj _ g1,g2⟩,k⟩,az (au g1),az (au g)⟩
 .have g1:=kp _ _ (aj { cls:=.type "dict",data:=.dict #[] } e);exact k2 b o (az (au g1)) (az (au e)) (aj _ g1)
end
end PySem
namespace L2
open PySem PySem.Spec PyProof.Rows
section
variable{X:Cx}{CB:ag}{E:XK}
def putAll(R3:List (Key×V)):List (Key×V)->List (Key×V)
 |[]=>R3
 |p::ps=>putAll (rH R3 p.1 p.2) ps
def rDP(K:aa):List V->Hp->VK->Prop:=λxs H Q=>∃(l:ag)(ts:List (ag×Key×V)),xs=[.ref l]/\ZU K H l (ts.map λt=>V.ref t.1)/\(∀t∈ts,â K H t.1 [kV t.2.1,t.2.2])/\∀p,H p=Zb->Q (.ref p) (upd H p (.dK (putAll [] (ts.map (·.2)))))
theorem wf:∀(ps R3:List (Key×V)),(putAll R3 ps).length<=R3.length+ps.length
 |[],R3=>ak _
 |p::ps,R3=>by have h1:=wf ps (rH R3 p.1 p.2);have h2:=rV R3 p.1 p.2;show(putAll (rH R3 p.1 p.2) ps).length<=R3.length+(ps.length+1);lia
theorem KV.putAll:∀{ts:List (ag×Key×V)}{ps:List (ag×Key×ai×ai)}{R3:List (Key×V)}{vs:List (Key×ai)},KV R3 vs->fk (λ(t:ag×Key×V)(p:ag×Key×ai×ai)=>t.1=p.1/\t.2.1=p.2.1/\RelV t.2.2 p.2.2.2) ts ps->KV (L2.putAll R3 (ts.map (·.2))) (xP vs ps)
 |[],_,_,_,r,.nil=>r
 |t::ts,p::ps,R3,vs,r,.cons h hs=>by let⟨_,h2,h3⟩:=h;show KV (L2.putAll (rH R3 t.2.1 t.2.2) (ts.map (·.2))) (xP (stored vs p.2.1 p.2.2.2) ps);rw[<-h2];exact KV.putAll (r.put t.2.1 h3) hs
def Pe(hc:X.calm=true):ZY X (.type "dict") (rDP X.K):=by
 rintro R1 s O H xs us Q I r ⟨l,ts,rfl,hl,ht,q⟩
 let⟨u,rfl,rfl⟩:=rF r;let⟨its,rv,pl,hz⟩:=I.list hl;have XR:∀{ts:List (ag×Key×V)}{its:List ai},Vals (ts.map λt=>V.ref t.1) its->its=ts.map λt=>aP t.1:=by
  intro ts;induction ts with
  |nil=>rintro its ⟨⟩;rfl
  |cons t ts ih =>
   intro its rv;cases rv with
   |cons r rs =>
    cases r;rw[ih rs];rfl
 have V4:∀(ts:List (ag×Key×V)),(∀t∈ts,â X.K H t.1 [kV t.2.1,t.2.2])->∃ps:List (ag×Key×ai×ai),(∀p∈ps,æ (nY X.prog X.w) s.heap p)/\fk (λt p=>t.1=p.1/\t.2.1=p.2.1/\RelV t.2.2 p.2.2.2) ts ps:=by
  intro ts;induction ts with
  |nil=>exact λ_=>⟨[],(λ_ z=>nomatch z),.nil⟩
  |cons t ts ih =>
   intro h;let⟨ps,h1,h2⟩:=ih λt' z=>h t' (af _ z);let⟨Tp,VD,⟨o,ho,Tz,n,hd⟩,_⟩:=I.tuple (h t al);let⟨u1,u2,rfl,r1,r2⟩:=JU VD;refine⟨(t.1,t.2.1,u1,u2)::ps,λp z=>?_,.cons ⟨rfl,rfl,r2⟩ h2⟩;obtain z|z:=ap.mp z
   .rw[z];exact⟨⟨o,n,ho,Tz,hd⟩,zf r1⟩
   .exact h1 p z
 let⟨ps,h1,h2⟩:=V4 ts ht;have eps:∀{ts:List (ag×Key×V)}{ps:List (ag×Key×ai×ai)},fk (λt p=>t.1=p.1/\t.2.1=p.2.1/\RelV t.2.2 p.2.2.2) ts ps->(ts.map λt=>aP t.1)=ps.map λp=>aP p.1:=by
  intro ts;induction ts with
  |nil=>rintro ps ⟨⟩;rfl
  |cons t ts ih =>
   intro ps h;cases h with
   |cons a b=>rw[am,am,ih b,a.1]
 rw[XR rv,eps h2] at pl;let⟨o,n,ho,Tz,Yy,Xn⟩:=pl;rw[ac] at hz;have R5:=(iS h2).symm;refine zl (I.ok.hd hc) ho Tz Yy Xn h1 (by rw[R5];exact hz) λh' tk dd kp=>?_;refine⟨.ref s.heap.objs.size,_,I.laid (λb o e=>kp b o e) (ak _) (EL ?_ (beq_eq_false_iff_ne.mpr (bV (az I.big))) (KV.putAll .nil h2) dd),rfl,q _ (I.Zl.fresh (ak _))⟩;have:=wf (ts.map (·.2)) [];rw[ac] at this;simp[jH,fG] at this;exact aC this hz
def Av:List (Key×PV)->List PV->Option (List (Key×PV))
 |R3,[]=>Za R3
 |R3,.tup [k,p]::l=>match ó k with
  |some key=>Av (z5 R3 key p) l
  |none=>Zb
 |_,_=>Zb
def zh(vs:List PV)(s:N'):Out PV:=match vs with
 |[v]=>match ZH s v with
  |some l=>match Av [] l with
   |some d=>.ok (.Zv d) s
   |none=>.bad
  |none=>.bad
 |_=>.bad
def Hc{K:aa}{H:Hp}{m:Mp}{s:N'}:∀{l:List PV}{vs:List V}{R3:List (Key×V)}{q d:List (Key×PV)},Y5 K H m s vs l->Y6 K H m s R3 q->Av q l=Za d->∃ts:List (ag×Key×V),vs=(ts.map λt=>V.ref t.1)/\(∀t∈ts,â K H t.1 [kV t.2.1,t.2.2])/\Y6 K H m s (putAll R3 (ts.map (·.2))) d
  :=by
 intro l;induction l with
 |nil =>
  intro _ _ _ _ r rq h;cases r;cases h;exact⟨[],rfl,(λ_ z=>nomatch z),rq⟩
 |cons p l ih =>
  intro _ _ _ _ r rq h;cases r with
  |cons r rs =>
   unfold Av at h;split at h
   .rename_i z;cases z
   .rename_i k p' l' heq;cases heq;split at h
    .rename_i key hk;let⟨a,SE,rfl,sq,rr⟩:=r.tp;cases rr with
     |cons r1 rr =>
      cases rr with
      |cons r2 rr =>
       cases rr;let⟨ts,e1,e2,e3⟩:=ih rs (rq.put key r2) h;have ek:=qS r1 hk;refine⟨(a,key,_)::ts,by rw[e1];rfl,λt z=>?_,e3⟩
       grind
    .cases h
   .cases h
def EW(hc:X.calm=true):ŕ X CB E (.type "dict") zh:=⟨_,Pe hc,by
 intro H m s v x Q S rx P;unfold zh at P;split at P
 .cases rx with
  |cons r n =>
   cases n;split at P
   .rename_i l hl;split at P
    .rename_i d hd;let⟨a,vs,rfl,q,r⟩:=r.ls S hl;let⟨ts,rfl,e2,e3⟩:=Hc r .nil hd;exact⟨a,ts,rfl,q,e2,λp hp=>P.new S hp λex S'=>.Zv (.inl mH) (S.ZK hp) (e3.ext ex)⟩
    .exact P.elim
   .exact P.elim
 .exact P.elim⟩
end
def Ex(d:ag):Obj:={ cls:=.type "dict_values",data:=.fields #[.ref d] }
def Án(td:TE):TE:=λO H Q=>td O H λx H1=>∃(d:ag)(R3:List (Key×V)),x=.ref d/\Rd H1 d (.dK R3)/\∀v,H1 v=Zb->Q (.ref v) (upd H1 v (fzO (Ex d)))
def NU(ho:PE X a td)(SB:cm a "values" X.env (eval a X.env)=eval a X.env:=by rfl)(Sy:(R8.endLine==R6.line)=true:=by rfl):PE X (.Call (.Attribute a "values" R8) [] [] R6) (Án td):=by refine λR1 s O H Q I h=>wpAny_Call_method0_late SB Sy (Zx (ho R1 s O H _ I h) λv s1=>e4 λx H1 I1 r1 ⟨d,R3,ex,hd,q⟩=>?_);subst ex;obtain rfl:v=aP d:=r1;let⟨t1,t2,_⟩:=HA I1 (.inl ⟨R3,hd⟩);refine⟨"dict","dict.values",gJ,jQ,PySem.F.type_dict_values,t1,t2,fC rfl (PySem.evalArgs_none ?_)⟩;let⟨z,hs,vs,rel,dd⟩:=vO I1.Zl hd;refine jN jQ dd.typeIs PySem.F.entry_dict_values (PySem.F.args_dict_values_1 _) (meets_dict_values (nY X.prog X.w) d hs) ⟨⟨vs,dd⟩,?_⟩;have e0:(s1.heap.push (Ex d)).get? s1.heap.objs.size=Za (Ex d):=aO _ rfl;exact⟨.ref s1.heap.objs.size,_,I1.laid (o:=fzO (Ex d)) (λb o e=>aj _ e) (ak _) ⟨e0,_,e0⟩,rfl,q _ (I1.Zl.fresh (ak _))⟩
def JL(hc:X.calm=true):ZY X (.builtin "sum") (λxs H Q=>∃(v d:ag)(R3:List (Key×V))(is:List Int),xs=[.ref v]/\H v=Za (fzO (Ex d))/\Rd H d (.dK R3)/\R3.map (·.2)=is.map V.int/\Q (.int is.sum) H):=by
 rintro R1 s O H xs us Q I r ⟨v,d,R3,is,rfl,hv,hd,hi,q⟩
 let⟨u,rfl,rfl⟩:=rF r;let⟨z,hs,vs,rel,dd⟩:=vO I.Zl hd;let⟨hov,_⟩:=(I.Zl v _ hv);let⟨ep,SY⟩:=dd.dictAt;have Vx:∀{is:List Int}{R3:List (Key×V)}{vs:List (Key×ai)},KV R3 vs->R3.map (·.2)=is.map V.int->∀(i:Nat) k w,vs[i]?=Za (k,w)->∃t,w=jn ((is[i]?).getD 0) t:=by
  intro is;induction is with
  |nil =>
   intro R3 vs rel e i k w hw;have:=List.map_eq_nil_iff.mp e;subst this;cases rel;cases hw
  |cons x is ih =>
   intro R3 vs rel e i k w hw;cases rel with
   |nil=>cases e
   |cons a b =>
    rw[am,am] at e;let⟨e1,e2⟩:=iz e;cases i with
    |zero =>
     cases hw;have:=a.2;rw[e1] at this;let⟨t,rfl⟩:=this;exact⟨t,rfl⟩
    |succ i=>exact ih b e2 i k w hw
 have R5:vs.length=is.length:=by
  have h1:=rel.length;have h2:=congrArg cC hi
  grind
 have UW:d<s.heap.objs.size:=by let⟨o,_,_,ho,_⟩:=dd;exact au ho
 refine call_sum_walkG (wpAny_pyIter_values ⟨_,hov,rfl,rfl⟩ SY ?_);refine⟨s.heap.objs.size,_,_,vs.length,_,_,λi=>(is[i]?).getD 0,rfl,Walks.dictValues (show X.A.in1.handled=Zb from I.ok.hd hc) s.heap.objs.size d (az UW) vs ep,⟨⟨_,aO _ rfl,rfl,rfl⟩,SY.push _⟩,λb hb=>?_,λi w ⟨k,hk⟩=>Vx rel hi i k w hk,λh' tk t' hk=>?_⟩
 .rw[iI]
  grind
 .have ps:∀(is:List Int) n,preSum (λi=>(is[i]?).getD 0) n=(is.take n).sum:=by
   intro is n;induction n with
   |zero=>rfl
   |succ n ih =>
    show preSum _ n+(is[n]?).getD 0=_;rw[ih,ei,List.sum_append];cases is[n]?<;>simp
  rw[ps,R5,jp];refine⟨.int _,H,I.kept λb o e=>hk b o ?_ (aj _ e),⟨_,rfl⟩,q⟩;simp[ax];exact az (au e)
def F6(f:XE)(Z:En)(s:N'):Out PV:=(f Z s).bind λv s1=>match Ú s1 v with
 |some l=>match uF (l.map (·.2)) with
  |some is=>.ok (.int is.sum) s1
  |none=>.bad
 |none=>.bad
theorem zZ{K:aa}{H:Hp}{m:Mp}{s:N'}:∀{vs:List (Key×V)}{l:List (Key×PV)},Y6 K H m s vs l->Y5 K H m s (vs.map (·.2)) (l.map (·.2))
 |_,_,.nil=>.nil
 |_,_,.cons a b=>.cons a (zZ b)
def OZ(ho:DE X CB E a f)(hc:X.calm=true:=by rfl)(hg:Gl X "sum":=by rfl)(hm:X.mg "sum"=none:=by assumption)(SB:cm a "values" X.env (eval a X.env)=eval a X.env:=by rfl)(Sy:(R8.endLine==R6.line)=true:=by rfl)(hs:ao [Expr.Call (.Attribute a "values" R8) [] [] R6] X.env=(false,eval (Expr.Call (.Attribute a "values" R8) [] [] R6) X.env)::ao [] X.env:=by rfl)(Sf:(bI pos (ao [] X.env)).any (·.1)=false:=by rfl):DE X CB E (.Call (.Name "sum" p) [.Call (.Attribute a "values" R8) [] [] R6] [] pos) (F6 f) :=
 ⟨(oP (JL hc) hg hm MS (mR (NU ho.pe SB Sy) Y7 hs) (Zf rfl) (Zf rfl) hs Sf).mono λO H Q=>oE λZ s m er S P=>⟨Z,s,m,er,S,P.bind λv s1 u H1 m1 e1 S1 r1 P1=>by
  split at P1
  .rename_i l hl;split at P1
   .rename_i is hi;let⟨d,vs,rfl,hd,rr⟩:=r1.dc S1 hl;have e:=yO (zZ rr) hi;refine⟨d,vs,rfl,hd,λw hw=>?_⟩;have kk:=My.rQ (o:=fzO (Ex d)) hw;exact⟨w,d,vs,is,rfl,mH,hd.same kk,e,P1 _ _ _ (.same kk) (S1.same kk) .int⟩
   .exact P1.elim
  .exact P1.elim⟩⟩
def J3(K:aa)(C:ag):Bool:=match K.lookup C with
 |some ⟨ct,_,.cls cd,sl⟩=>ct==.type "type"&&(match cd.mro,sl.toList with
  |.ref C'::bm,[_,_,_,_,Za (.builtin n),_]=>C'==C&&n=="ValueError.__new__"&&!cd.hasDel&&jy K bmV bm&&cd.hasDict
  |_,_=>false)
 |_=>false
structure Ew(K:aa)(C Zi f:ag):Prop where
 ex:J3 K C=true
 init:aJ K (.ref C) "__init__"=Za (Za (.ref f))
 fn:PySem.W.typeIn K (.ref f)=Za (.type "function")
 me:bJ K C (.ref C)=Za true
 mo:(PySem.W.clsIn K C).map (·.mro)=Za (.ref C::.ref Zi::bmV)
 hd:cE K C=true
 sa:aJ K (.ref C) "__setattr__"=Za (Za (.builtin "object.__setattr__"))
 gr:aJ K (.ref C) "group"=Za Zb
 ga:cM K (.ref Zi) "__getattribute__"=Za (Za (.builtin "type.__getattribute__"))
 rd:l9 K Zi (.type "type")=true
 kw:bU K (.ref C)=true
 fi:mf K (.ref Zi) (.type "type") "__init__"=Za (.val (.builtin "ValueError.__init__"))
def Ew.ob{K:aa}{C Zi f:ag}(Zj:Ew K C Zi f):∃dd cd sl,K.lookup C=Za ⟨.type "type",dd,.cls cd,sl⟩:=by
 have z:=Zj.ex;unfold J3 at z;split at z
 .rw[cJ] at z;cases eq_of_beq z.1;exact⟨_,_,_,‹_›⟩
 .cases z
def Ew.obj{K:aa}{C Zi f:ag}{h:cg}(Zj:Ew K C Zi f)(X:K.In h):∃bm N nm q bs sn sub ab col dd k0 k1 k2 k3 k5,
  h.get? C=Za (kr nm q C N bs bm true sn sub ab col dd k0 k1 k2 k3 k5 "ValueError.__new__")/\OwnTail h bmV bm:=by
 have z:=Zj.ex;unfold J3 at z;split at z
 case h_2=>cases z
 case h_1 ct ddv Sc slv lk =>
  rw[cJ] at z;let⟨hct,z⟩:=z;cases eq_of_beq hct;split at z
  case h_2=>cases z
  case h_1 D bm a0 a1 a2 a3 nw a5 em es =>
   have z':((((D=C/\nw="ValueError.__new__")/\Sc.hasDel=false)/\jy K bmV bm=true)/\Sc.hasDict=true):=by
    simp_all
   let⟨⟨⟨⟨eD,eN⟩,UW⟩,tl⟩,hd⟩:=z';rcases Sc with⟨c1,c2,c3,c4,c5,c6,c7,c8,c9,Y1,c11⟩;subst em UW eD eN hd;have YS:slv=#[a0,a1,a2,a3,Za (.builtin "ValueError.__new__"),a5]:=by
    rcases slv with⟨l⟩
    grind
   subst YS;exact⟨bm,c4,c1,c5,c2,c7,c8,c9,Y1,ddv,a0,a1,a2,a3,a5,X _ _ lk,k7 X tl⟩
abbrev Fl(vs:List ai):Obj:={ cls:=.type "tuple",data:=.seq vs.toArray }
abbrev zA(C t:ag):Obj:={ cls:=.ref C,data:=.fields #[.ref t,.none,.none,.none,.bool false,.none] }
section
variable{os:OsState}
def Lp{rest:List ai}{Q:Fin->aw->Prop}(T:OwnTail h bmV bm)(hC:h.get? C=Za (kr nm q C N bs bm true sn sub ab col dd k0 k1 k2 k3 k5 "ValueError.__new__"))(hi:eC (model prog w) h (jt (.ref C) "__init__") (Za (.ref f)))(hb:∀self,eC (model prog w) h (bindSpecial (.ref f) self) (.ref f,[self]))(hq:eX (model prog w) A (.call (.ref f) ⟨.ref (h.objs.size+1)::rest,[]⟩) (λr s'=>match r with|.ok (.ret v)=>v=.none/\Q (.done (.ret (.ref (h.objs.size+1)))) s'|.ok _=>False|.error e=>E e s')
   ⟨(h.push (Fl rest)).push (zA C h.objs.size),g,d,t,os⟩)(UQ:rest.length<=aF) :
  aM (model prog w) A (Builtin.«type.__call__» ⟨.ref C::rest,[]⟩) Q E ⟨h,g,d,t,os⟩:=by
 have F:=cz
 repeat (first|with_reducible refine cW hC ?_|with_reducible refine wpAny_madeBy_exc hC ?_|wp_step)
 refine codeAny_call_builtin_code (i9 _ F.quiet) (wpAny_check_new_subT F T hC ?_);refine codeAny_exc_new_subT F T hC ?_ UQ;show aM _ _ _ _ _ _;have k:∀b o,h.get? b=Za o->((h.push (Fl rest)).push (zA C h.objs.size)).get? b=Za o:=λb o e=>aj _ (aj _ e);have hC1:=k _ _ hC;have Vn:((h.push (Fl rest)).push (zA C h.objs.size)).get? (h.objs.size+1)=Za (zA C h.objs.size):=by heap_get
 have hcC:(aP C::bm).contains (.ref C)=true:=by simp
 have Yq:=hi.keeps k;have WL:=(hb (.ref (h.objs.size+1))).keeps k;unfold ju
 repeat (first|with_reducible refine cW Vn ?_|(with_reducible refine jj hC1 ?_;rw[hcC])|wp_step)
 show aM _ _ (jt (.ref C) _) _ _ _;refine Yq _ _ _ _ (λ_ _ e=>e) ?_;refine cD (ae (WL _ _ _ _ (λ_ _ e=>e) ?_));refine ae (iP (fS hq λr s' z=>?_));obtain e|(v|_|_|_):=r<;>first|exact z|exact z.elim|skip
 let⟨rfl,z⟩:=z
 wp_walk
 exact z
end
section
variable{K:aa}
def OF(Zj:Ew K C Zi f)(X:K.In s.heap)(hx:s.heap.get? x=Za ox)(hc:ox.cls=.ref C)(hf:ox.data=.fields vs)(hd:ox.dict=Zb)(h:∀h' tk,h'.get? x=Za { ox with dict:=Za s.heap.objs.size }->h'.Ns1 s.heap.objs.size (λy=>if y="group" then Za v else Zb)->(∀b o,b≠x->s.heap.get? b=Za o->h'.get? b=Za o)->Q () { s with heap:=h',toks:=tk }) :
  aM (model prog w) A (setAttr (.ref x) "group" v) Q E s:=by
 have J:PySem.W.InstAt s.heap x ox C none:=⟨hx,hc,by let⟨a,b,c,d⟩:=ox;cases hf;rfl,by rw[hd];trivial⟩;let⟨cd,Tf,hm⟩:=gS.mp Zj.mo;have SF:=PySem.F.store_object;have sub:eC (model prog w) s.heap (ju (.ref x) (.type "object")) true:=J.type.andThen (gG X (by unfold bJ;rw[Tf,Option.bind_some,hm];rfl));have Yk:eC (model prog w) s.heap (mroOf (.ref C)) (.ref C::.ref Zi::bmV):=hm▸(iD X Tf).andThen .now;refine ly X J Zj.sa (eU SF.slot.plain SF.entry (@PySem.W.check_slot (model prog w) _ _ _ "object.__setattr__" "object" "__setattr__" (.ref x) [.str "group" s.toks,v] [] _ SF.kind SF.split sub (SF.args (.ref x) (.str "group" s.toks) v) ?_));rw[PySem.W.osa_eq,refuse_eq];refine ae (ae (J.type.here (s:={ s with toks:=s.toks+1 }) (ae (Yk.here (s:={ s with toks:=s.toks+1 }) ?_))));rw[refuseLoop_ref,refuseLoop_ref,PySem.F.store_ValueError.passes];refine aE (ae (J.type.here (s:={ s with toks:=s.toks+1 }) (ae ((dB X Zj.gr).here (s:={ s with toks:=s.toks+1 }) (ae (aE ?_))))));refine ae (aE ?_);rw[Zd (show ¬(aP C==Value.type "module")=true by intro z;cases z)];apply ae;show aM _ _ (instanceDict x true) _ _ _;refine ae (k6 (hx) ?_);dsimp only;let⟨cd',hc1,UK⟩:=lL Zj.hd;rw[hc,hd,hf];refine ae ((iD X hc1).here (s:={ s with toks:=s.toks+1 }) ?_);rw[UK,Zd (Zf rfl),Zd (by simp[typeHasDict])];refine ae (wpAny_alloc ?_);refine ae (wpAny_update (aj _ hx) ?_);have hxs:=az (au hx);apply aE;have gx:((s.heap.push bS).update x λo=>{ o with dict:=Za s.heap.objs.size }).get? x=Za { ox with dict:=Za s.heap.objs.size }:=d6 _ (aj _ hx) (by let⟨a,b,c,d⟩:=ox;cases hf;rfl);have gd:((s.heap.push bS).update x λo=>{ o with dict:=Za s.heap.objs.size }).get? s.heap.objs.size=Za bS:=(dL _ _ _ _ (bV hxs)).trans (aO _ rfl);have nd:((s.heap.push bS).update x λo=>{ o with dict:=Za s.heap.objs.size }).Ns s.heap.objs.size (λ_=>Zb):=⟨_,#[],_,gd,rfl,λe he=>absurd he (by simp),λ_=>rfl⟩;refine ae (aE (ae (wpAny_nsSet1 (lf nd) λh' Tk hs=>?_)));let⟨oD,esD,epD,Yh,YA,YC⟩:=Tk.count (lK "group" v Within.nil);refine ae (wpAny_lookBehind Yh (by rw[YA];exact pastItsLine_dict (aC YC (by rw[bu,jH,kq];decide))) ?_);refine aE (h h' _ ((hs.2 x hxs).trans gx) Tk λb o hb e=>?_);exact(hs.2 b (az (au e))).trans ((dL _ _ _ _ hb).trans (aj _ e))
end
def Cf(C e:ag):HO:=.ext λh=>∃t,h.get? e=Za (zA C t)
def Iq(C e dx:ag):HO:=.ext λh=>∃t,h.get? e=Za { zA C t with dict:=Za dx }
def Ir(x:h.get? e=Za (zA C t)):ZO P w H h e (Cf C e):=⟨⟨t,x⟩,⟨_,x⟩,λ_ _ ⟨t,q⟩ k=>⟨t,k _ q⟩⟩
def OH(x:h.get? e=Za { zA C t with dict:=Za dx }):ZO P w H h e (Iq C e dx):=⟨⟨t,x⟩,⟨_,x⟩,λ_ _ ⟨t,q⟩ k=>⟨t,k _ q⟩⟩
def Nw(C:ag)(t:TA):TE:=λO H Q=>t O H λvs H1=>∃e y,vs=[.ref e,y]/\H1 e=Za (Cf C e)/\∀H2:Hp,(∀a u,H1 a=Za u->H2 a=Za u)->Q .Zn H2
def Jb(Zj:Ew X.K C Zi f)(hg:Gl X x)(hm:X.mg x=Za (.ref Zi))(ha:PA X [e1,e2] ta)(hd:Ĉ x:=by decide)(S6:ao [e1,e2] X.env=(false,eval e1 X.env)::ao [e2] X.env:=by rfl)(Sf:(bI pos (ao [e2] X.env)).any (·.1)=false:=by rfl)(ht:eval (.Call (.Attribute (.Name x np) "__init__" R8) [e1,e2] [] pos) X.env=(do
   let ov <-eval (.Name x np) X.env
   fR R8.atName
   let(f,first) <-holding [ov] (fK ov "__init__" pl)
   iB pos f first (bI pos (ao [e1,e2] X.env)) (eA pos (cI [] X.env))):=by rfl) :
  PE X (.Call (.Attribute (.Name x np) "__init__" R8) [e1,e2] [] pos) (Nw C ta):=by
 refine λR1 s O H Q I h=>g5 (pl:=pl) (rJ I hg hm ?_ hd) ht;refine PySem.W.method_cls I.Ü Zj.ga (PySem.W.cls_value I.Ü Zj.rd Zj.fi rfl ?_);refine iK (Zx (ha pos R1 _ O H _ (I.tok _) h) λus s2=>e4 λvs H1 I1 r ⟨e,y,ev,he,q⟩=>?_) S6 Sf;subst ev;let⟨bm,N,nm,qn,bs,sn,sub,ab,col,dd,k0,k1,k2,k3,k5,hC,T⟩:=Zj.obj I1.Ü;cases r with
 |cons r1 r=>cases r with
  |cons r2 r =>
   cases r;obtain rfl:=(show _=aP e from r1);rename_i u2;obtain⟨⟨t,hx⟩,-⟩:=I1.Zl e _ he;have F:=cz;let⟨hh,g,d,tk,os⟩:=s2;refine iP (eU F.init.plain F.initEntry (wpAny_check_init_subT F T hC hx rfl ?_));unfold Builtin.«BaseException.__init__»;dsimp only;rw[Zd (by simp)];unfold newTuple lQ;have Xg:=aj (h:=hh) (Fl [u2]) hx;have nf:∀b u,hh.get? b=Za u->(hh.push (Fl [u2])).get? b=Za u:=λb u q=>aj _ q;have V7:e≠hh.objs.size:=az (au hx);refine ae (dH (ae (ae (ko (x:=.ref t) Xg rfl rfl (ae (wpAny_setField Xg rfl (show 0<6 by decide) ?_))))) (by show 1<=aF;decide));refine wpAny_letGo (aE ⟨.Zn,upd (upd H1 hh.objs.size (.tup [y])) e (Cf C e),?_,rfl,q _ ?_⟩)
   .have I2:=I1.laid (a:=hh.objs.size) (o:=.tup [y]) (h':=hh.push (Fl [u2])) (t':=tk) nf (ak _) ⟨by show 1<=aF;decide,[u2],.cons r2 .nil,_,aO _ rfl,rfl,_,rfl⟩;have VO:upd H1 hh.objs.size (.tup [y]) e=Za (Cf C e):=by rw[mF V7];exact he
    refine I2.write (x:=e) (e:=e) (o:=Cf C e) (t':=tk) (by rw[VO];trivial) (.inl rfl) (λb u hb q=>(dL _ _ _ _ hb).trans q) ⟨_,d6 _ Xg rfl⟩ ?_;exact Ir (t:=hh.objs.size) (d6 _ Xg rfl)
   .intro a u q;by_cases h1:a=e
    .subst h1;rw[mH];rw[he] at q;exact q
    .rw[mF h1,mF (λz=>by subst z;rw[I1.fresh] at q;cases q)];exact q
def Qx(C:ag)(tv ts:TE):TS:=λD O H=>tv O H λy H1=>ts O H1 λx H2=>∃e,x=.ref e/\H2 e=Za (Cf C e) /\
 ∀(dx:ag)(H3:Hp),H2 dx=Zb->(∀a u,a≠e->H2 a=Za u->H3 a=Za u)->H3 e=Za (Iq C e dx)->H3 dx=Za (.xd [("group",y)])->D.nx O H3
def KG(Zj:Ew X.K C Zi f)(ha:PE X o ts)(hv:PE X Sa tv)(hs:cO Sa (Za (.Attribute o "group" Sv)) pos.line X.env=pure false:=by rfl):PS X (.Assign [.Attribute o "group" Sv] Sa pos) (Qx C tv ts):=by
 refine λR1 s O H D I h=>jU (Zx (hv R1 s O H _ I h) λu s1=>e4 λy H1 I1 ry q=>Zx (ha R1 s1 O H1 _ I1 q) λov s2=>e4 λx H2 I2 rx ⟨e,ex,he,q2⟩=>?_) hs;subst ex;obtain rfl:ov=aP e:=rx;let⟨⟨t,hx⟩,_⟩:=I2.Zl e _ he;have V7:=az (au hx);refine OF Zj I2.Ü hx rfl rfl rfl λh' tk g1 g2 k=>?_;have gm:(h'.update e λ_=>zA C t).get? e=Za (zA C t):=d6 _ g1 rfl;have I3:=I2.laid (o:=.xd [("group",y)]) (h':=h'.update e λ_=>zA C t) (t':=tk) (λb u q=>by
  by_cases hb:b=e
  .grind
  .exact(dL _ _ _ _ hb).trans (k b u hb q)) (ak _) ⟨_,g2.at λo q=>(dL _ _ _ _ (bV V7)).trans q,λf=>by
  rw[cx];by_cases hf:f="group"
  .subst hf;rw[Zc rfl];simp[BEq.rfl];exact ry
  .rw[Zd hf,show(f=="group")=false from by simpa using hf];trivial⟩
 have he3:upd H2 s2.heap.objs.size (.xd [("group",y)]) e=Za (Cf C e):=by rw[mF V7];exact he
 have I4:=I3.write (t':=tk) (by rw[he3];trivial) (.inl rfl) (λb u hb q=>by have q:=q;rw[dL _ _ _ _ hb] at q;exact q) ⟨_,g1⟩ (OH g1)
 refine⟨O,_,I4,q2 s2.heap.objs.size _ I2.fresh (λa u hae q=>?_) mH ?_⟩
 .rw[mF hae,mF (λz=>by subst z;rw[I2.fresh] at q;grind)];exact q
 .rw[mF (bV V7),mH]
def IW{R1:List (ag×Obj)}{O:St}{H:Hp}{s:aw}{Q:ag->Hp->Prop}{us:List ai}{vs:List V}(Zj:Ew X.K C Zi f)(F:ZA X.prog X.w X.K X.mg X.base (Z' X.prog X.w) k f fd ps sp)(hr:Zw (k+1) X.A)(hb:Binds X.K fd ps [])(I:Inv X R1 O H s)(r:Vals vs us)(hz:us.length<=aF)(h:∀a b,H a=Zb->H b=Zb->a≠b->sp (.ref a::vs) (upd (upd H b (.tup vs)) a (Cf C a)) (λv H2=>v=.Zn/\Q a H2) E0) :
  aM (model X.prog X.w) X.A (call (.ref C) us) (λv s'=>∃a H2,v=.ref a/\(∀b o,s.heap.get? b=Za o->b≠a)/\Inv X R1 O H2 s'/\Q a H2) X.xe s:=by
 have n1:H (s.heap.objs.size+1)=none:=I.Zl.fresh (dD _);have hq:=h (s.heap.objs.size+1) s.heap.objs.size n1 I.fresh (fH (bv _));let⟨bm,N,nm,qn,bs,sn,sub,ab,col,dd,k0,k1,k2,k3,k5,hC,T⟩:=Zj.obj I.Ü;have e2:((s.heap.push (Fl us)).push (zA C s.heap.objs.size)).get? (s.heap.objs.size+1)=Za (zA C s.heap.objs.size):=by have:=aO (s.heap.push (Fl us)) (o:=zA C s.heap.objs.size) rfl;rwa[iI] at this
 have I1:=I.laid (a:=s.heap.objs.size) (o:=.tup vs) (h':=s.heap.push (Fl us)) (t':=s.toks) (λb u q=>aj _ q) (ak _) ⟨by rw[r.length];exact hz,us,r,_,aO _ rfl,rfl,_,rfl⟩;have I2:=I1.laid (a:=s.heap.objs.size+1) (o:=Cf C (s.heap.objs.size+1)) (h':=(s.heap.push (Fl us)).push (zA C s.heap.objs.size)) (t':=s.toks) (λb u q=>aj _ q) (jo (iI _ _)) (Ir e2);have r2:Vals (V.ref (s.heap.objs.size+1)::vs) (aP (s.heap.objs.size+1)::us):=.cons rfl r;have hl:(aP (s.heap.objs.size+1)::us++[]).length=ps.length:=by have e:=r2.length;rw[F.len _ _ _ _ hq] at e;rw[bQ];exact e.symm
 have f1:=tc_lookup;have f2:=tc_bind (.ref C);have old:∀b o,s.heap.get? b=Za o->b≠s.heap.objs.size+1:=λb o e=>az (bK (au e));have hi:=dB (M:=model X.prog X.w) I.Ü Zj.init;have hbf:=λself=>mh (M:=model X.prog X.w) I.Ü self Zj.fn;have run:=F.run _ X.stack _ _ ⟨aP (s.heap.objs.size+1)::us,[]⟩ (aP (s.heap.objs.size+1)::us) _ _ E0 (hr.make C us []) (I2.ÀP.make C us []) (by have:=hb _ (aP (s.heap.objs.size+1)::us) I2.Ü hl;rwa[bQ] at this) r2 hq;let⟨hh,g,d,tk,os⟩:=s;have hT:(⟨hh,g,d,tk,os⟩:aw).TypeIs (.ref C) "type":=⟨_,hC,rfl⟩;refine iP (codeAny_of_tree ?_);show aM _ _ (callAny (.ref C) _) _ _ _
 repeat (any_goals (first|assumption|with_reducible refine cW hC ?_|wp_step))
 refine⟨rfl,?_⟩;refine codeAny_call_builtin_at (i9 _ (by decide +kernel)) entry_typeCall (wpAny_check_type_call_sub hC (Lp T hC hi hbf (fS run λr s' z=>?_) hz));cases r with
 |error e=>exact sA R1 O _ _ e s' I2 z
 |ok fl =>
  cases fl with
  |ret u =>
   let⟨v,H',I3,rv,rfl,q3⟩:=I2.after z;exact⟨rv,⟨_,H',rfl,old,I3,q3⟩⟩
  |next=>exact bj z
  |brk=>exact bj z
  |cont=>exact bj z
def Ev(X:Cx)(E:XK):Prop:=∀(R1:List (ag×Obj))(O:St)(H:Hp)(s:aw)(a C dx:ag),Inv X R1 O H s->H a=Za (Iq C a dx)->(∀b o,X.Ç.heap.get? b=Za o->b≠a)->E (.ref C) (Za dx) (λb=>if b=a then Zb else H b)->X.xe (.ref a) s
def Nu(C:ag)(sp:Sp)(E:XK)(t:TA):TS:=λ_ O H=>t O H λvs H1=>vs.length=1/\∀a b,H1 a=Zb->H1 b=Zb->a≠b ->
 sp (.ref a::vs) (upd (upd H1 b (.tup vs)) a (Cf C a)) (λv H2=>v=.Zn/\∃dx,H2 a=Za (Iq C a dx)/\E (.ref C) (Za dx) (λb=>if b=a then Zb else H2 b)) E0
def IX(Zj:Ew X.K C Zi f)(F:ZA X.prog X.w X.K X.mg X.base (Z' X.prog X.w) k f fd ps sp)(hb:Binds X.K fd ps [])(hr:Zw (k+1) X.A)(hg:Gl X x)(hm:X.mg x=Za (.ref C))(hc:X.calm=true)(Vp:X.ex=[])(hp:Ev X E)(ha:PA X [e] t)(hd:Ĉ x:=by decide)(he:ao [e] X.env=(false,eval e X.env)::ao [] X.env:=by rfl)(Sf:(bI R6 (ao [] X.env)).any (·.1)=false:=by rfl) :
  PS X (.Raise (Za (.Call (.Name x np) [e] [] R6)) Zb pos) (Nu C sp E t):=by
 intro R1 s O H D I h;rw[arm_exec_Raise];refine ae (eE ?_);show aM _ _ (raiseStmt X.env (Za (do let v <-eval (.Call (.Name x np) [e] [] R6) X.env;fR pos;pure v)) Zb) _ _ _;unfold raiseStmt;have ev:aM (model X.prog X.w) X.A (eval (.Call (.Name x np) [e] [] R6) X.env) (λv s'=>∃a H2,v=.ref a/\(∀b o,X.Ç.heap.get? b=Za o->b≠a)/\Inv X R1 O H2 s'/\∃dx,H2 a=Za (Iq C a dx)/\E (.ref C) (Za dx) (λb=>if b=a then Zb else H2 b)) X.xe s:=by
  refine dy (rJ I hg hm ?_ hd);refine eV (h₀:=X.base) I.ok.mod.kin Zj.kw (Zx (ha R6 R1 s O H _ I h) λus s1=>e4 λvs H1 I1 r ⟨hl,q⟩=>⟨I1.Ü,?_⟩) he Sf;refine Zx (IW (Q:=λa H2=>∃dx,H2 a=Za (Iq C a dx)/\E (.ref C) (Za dx) (λb=>if b=a then Zb else H2 b)) Zj F hr hb I1 r ?_ q) λv s2 ⟨a,H2,e1,e2,I2,q2⟩=>⟨a,H2,e1,λb o eb=>?_,I2,q2⟩
  .rw[fb,<-r.length,hl];decide
  .let⟨o',e'⟩:=I1.base.there b o eb (by rw[Vp];simp);exact e2 b o' e'
 refine ae (ae (aZ ev (λv s1 h1=>ae (eE (aE ?_))) λ_ _ z=>z));let⟨a,H2,rfl,old,I2,dx,ha2,hE⟩:=h1;have xx:=hp R1 O H2 s1 a C dx I2 ha2 old hE;let⟨bm,N,nm,qn,bs,sn,sub,ab,col,dd,k0,k1,k2,k3,k5,hC,T⟩:=Zj.obj I2.Ü;obtain⟨⟨t',hx⟩,-⟩:=I2.Zl a _ ha2;have YD:(aP C::bm).contains (.type "BaseException")=true:=by rw[mw,T.hasType cz.hasBase,Bool.or_true]
 have hh:=I2.ok.hd hc;let⟨TY,g,d,tk,os⟩:=s1
 repeat (first|with_reducible refine cW hx ?_|with_reducible refine cW hC ?_|(with_reducible refine jj hC ?_;rw[YD])|wp_step)
 exact wpAny_raiseNew_none hh xx
section
variable{K:aa}
def Á1:Ev (Ep (Z' P w) P w K mg base N qual scope f cd A outer Ç Ha0 E) E:=by
 intro R1 O H s a C dx I ha ÁL hE;have ϖ:s.heap.FunFrames base (eg qual scope Ç.heap.objs.size f cd::outer):=I.stack;let l:List ag:=a::Ý (eg qual scope Ç.heap.objs.size f cd::outer);have SA:∀env∈(eg qual scope Ç.heap.objs.size f cd::outer),∀b,env.frame=Za b->b∈l:=λenv he b hb=>af _ (gC.mpr ⟨env,he,hb⟩);have W2:∀b o,s.heap.get? b=Za o->b∉l->(dP s.heap l).get? b=Za o:=λb o e n=>iE l e n;have ub:Un (Ý outer) [] Ha0 H Ç.heap s.heap:=I.base;obtain⟨⟨t,hx⟩,-⟩:=I.Zl a _ ha;have U5:∀b u,H b=Za u->b≠a->b∉l:=λb u e nb z=>by
  obtain z|z:=ap.mp z
  .exact nb z
  .rw[I.ĺ b z] at e;cases e
 have SQ:∀b o,Ç.heap.get? b=Za o->b∉Ý outer->b∉l:=λb o e n z=>by
  obtain z|z:=ap.mp z
  .exact ÁL b o e z
  .obtain z|z:=Ii (L:=Ç.heap.objs.size) rfl z
   .exact az (au e) z
   .exact n z
 have aB:(dP s.heap l).get? a=none:=kG l al;refine aZ (Ō.any (wpAny_leaving_firstW (Q:=λ_ s2=>∃h',s2={ s with heap:=h' }/\Heap.LeftW (dP s.heap l) (eg qual scope Ç.heap.objs.size f cd::outer) a (.ref C) (.ref t) s.heap h') (L:=Ç.heap.objs.size) (a0:=.ref t) (I.ok.frames) (kg ϖ SA) rfl hx (λb o e=>iR l e) aB rfl rfl rfl λh' hL=>⟨h',rfl,hL⟩)) (λ_ s2 ⟨⟨h',z,hL⟩,ds⟩=>?_) λ_ _ z=>z;subst z;let⟨k1,⟨_,_,k2⟩,k3,up⟩:=hL;have dk:Dk h' a (Za dx):=Dk.go (λ_ z=>by cases z;exact⟨_,hx,rfl⟩) ds (k3.at.there.imp λ_ z=>z.1);have S7:∀b o,s.heap.get? b=Za o->b∉l->h'.get? b=Za o:=λb o e n=>k1 b o (W2 b o e n);have frame:∀b o,s.heap.get? b=Za o->b∈Ý (eg qual scope Ç.heap.objs.size f cd::outer)->∃sl,h'.get? b=Za { o with slots:=sl }:=λb o e hb=>by let⟨_,o3,e3,Ul⟩:=ϖ.mem hb;rw[e] at e3;cases e3;exact up b o e Ul
 refine⟨a,C,.ref t,dP s.heap l,λb=>if b=a then Zb else H b,Za dx,rfl,I.os,I.bare,⟨λb o e n hb _=>?_,λb o e n hb _=>?_,λb o e n _=>?_,λb o e _=>?_,λb xs e=>?_,λb o u e=>?_,λb ps e=>?_⟩,λb u e=>?_,⟨k1,aB,k2,k3⟩,λb u o e q=>?_,λb o e n=>?_,dk,hE⟩
 .exact S7 b o (ub.keep b o e n hb (by simp)) (SQ b o e hb)
 .let⟨sl,e1⟩:=ub.slot b o e n hb (by simp);let⟨V1,e2⟩:=frame b _ e1 (Ap rfl hb);exact⟨V1,e2⟩
 .show(if b=a then Zb else H b)=Zb;split
  .rfl
  .exact ub.free b o e n (by simp)
 .let⟨o1,e1⟩:=ub.there b o e (by simp);by_cases hb:b∈Ý (eg qual scope Ç.heap.objs.size f cd::outer)
  .let⟨V1,e2⟩:=frame b _ e1 hb;exact⟨_,e2⟩
  .exact⟨o1,S7 b o1 e1 λz=>(ap.mp z).elim (ÁL b o e) hb⟩
 .have:=ub.Ā b xs e;show(if b=a then Zb else H b)=_;rw[Zd (λz=>by rw[z,ha] at this;cases this)];exact this
 .have:=ub.ä b o u e;show(if b=a then Zb else H b)=_;rw[Zd (λz=>by rw[z,ha] at this;cases this)];exact this
 .let⟨m,this⟩:=ub.Ď b ps e;refine⟨m,?_⟩;show(if b=a then Zb else H b)=_;rw[Zd (λz=>by rw[z,ha] at this;cases this)];exact this
 .have e:(if b=a then Zb else H b)=Za u:=e;by_cases hb:b=a
  .rw[Zc hb] at e;cases e
  .rw[Zd hb] at e;have ne:∀c v,H c=Za v->v≠Iq C a dx->c≠a:=λc v q n z=>by rw[z,ha] at q;exact n (bL q).symm
   refine(I.Zl b u e).ď (λc v hc q=>?_) (λc q=>?_) λc xs q=>?_
   .obtain z|z:=hc
    .subst z;exact S7 _ v q (U5 _ u e hb)
    .exact S7 c v q (U5 c _ z (ne c _ z (by intro z;cases z)))
   .show(if c=a then Zb else H c)=_;rw[Zd (ne c _ q (by intro z;cases z))];exact q
   .show(if c=a then Zb else H c)=_;rw[Zd (ne c _ q (by intro z;cases z))];exact q
 .have e:(if b=a then Zb else H b)=Za u:=e;by_cases hb:b=a
  .rw[Zc hb] at e;cases e
  .rw[Zd hb] at e;let⟨o1,q1⟩:=(I.Zl b u e).there
   grind
 .let⟨o1,e1⟩:=ub.there b o e (by simp);exact⟨o1,S7 b o1 e1 (SQ b o e n),W2 b o1 e1 (SQ b o e n)⟩
open PySem.W Builtin Builtin.ObjectAttr in
def JE(Zj:Ϗ K C)(gr:aJ K (.ref C) "group"=Za Zb)(hd:cE K C=true)(X:K.In s.heap)(hx:s.heap.get? x=Za ox)(hc:ox.cls=.ref C)(hf:ox.data=.fields vs)(hk:ox.dict=Za dx)(n:s.heap.Ns1 dx mA)(hv:mA "group"=Za v)(hh:kf v=true)(h:Q v { s with toks:=s.toks+1 }):aM (model prog w) A (getAttr (.ref x) "group" expr) Q E s:=by
 let⟨od,ho,hl⟩:=CZ n;have J:InstAt s.heap x ox C (Za od):=⟨hx,hc,by let⟨a,b,c,d⟩:=ox;cases hf;rfl,by rw[hk];exact ho⟩;let⟨hp,g,d,t,os⟩:=s;have L0:=J.type (M:=model prog w);have L1:=dB (M:=model prog w) X Zj.ga;have L2:=dB (M:=model prog w) X Zj.gt;have L3:=looks_find (M:=model prog w) X J (findObj_own hd gr rfl (by rw[hl,hv]));have LB:eC (model prog w) hp (ju (.ref x) (.type "BaseException")) true:=L0.andThen (gG X Zj.mb);have pk:hp.get? x=Za ox/\True:=⟨hx,trivial⟩;clear J hx ho n;have cls:∀{A:cQ}{tk:Tok}{R:k9->aw->Prop},R (.ok (.ret v)) ⟨hp,g,d,t+1,os⟩->eX (model prog w) A (.call (.builtin "BaseException.__getattribute__") ⟨[.ref x,.str "group" tk],[]⟩) R ⟨hp,g,d,t+1,os⟩:=by
  intro A tk R hq;have hk:builtinKind "BaseException.__getattribute__"=Za .slot:=by decide +kernel
  have TJ:splitId "BaseException.__getattribute__"=Za ("BaseException","__getattribute__"):=by decide +kernel
  have ha:=F.args_bexc_ga (.ref x) (.str "group" tk);apply eU (by decide +kernel) F.entry_bexc_ga;simp[checkBuiltinCall,hk,TJ];refine ae (LB.at ?_)
  repeat (any_goals (first|assumption|wp_step))
  obtain⟨SY,-⟩:=id pk;refine cW SY (aE ?_);rw[hc];clear SY;refine ae (L3.at ?_)
  repeat (any_goals (first|assumption|wp_step))
 have f4:=jz.ga.bind (.ref x);have hx2:(fN "BaseException.__getattribute__"==fN "object.__getattribute__")=false:=by decide +kernel
 unfold getAttr getAttrBy;refine ae (wpAny_mkText (cD (ae (L0.at (ae (L1.at ?_))))));show aM _ _ (iW _ _ _ _ _ _) _ _ _;unfold iW;refine ae (L2.at ?_);have z:(expr&&onTheHeap (fN "BaseException.__getattribute__"))=false:=by cases expr<;>rfl
 refine ae (wpAny_attempt (cD ?_));unfold callGetattribute;rw[z]
 repeat (any_goals (first|assumption|wp_step))
 apply cls;show aM _ _ (handedOut v) _ _ _;rw[handedOut_of hh];exact aE h
end
structure Gc(K:aa)(C:ag):Prop where
 z:Ϗ K C
 g:aJ K (.ref C) "group"=Za Zb
 h:cE K C=true
def ÂT(C:ag)(ta:TE):TE:=λO H Q=>ta O H λx H1=>∃a dx y,x=.ref a/\H1 a=Za (FQ C a (Za dx))/\H1 dx=Za (.xd [("group",y)])/\Q y H1
def QQ(G:Gc X.K C)(he:PE X e ta)(hb:cm e "group" X.env (eval e X.env)=eval e X.env):PE X (.Attribute e "group" pos) (ÂT C ta):=by refine λR1 s O H Q I h=>IF hb (Zx (he R1 s O H _ I h) λu s1=>e4 λx H1 I1 rx ⟨a,dx,y,ex,ha,hx,q⟩=>?_);subst ex;obtain rfl:u=aP a:=rx;let⟨⟨⟨ox,vs,e1,e2,e3⟩,dk⟩,_⟩:=I1.Zl a _ ha;let⟨oe,e4,e5⟩:=dk dx rfl;rw[e1] at e4;cases e4;let⟨mA,n,r⟩:=I1.Zl dx _ hx;let⟨u,hu,ru⟩:=ù.some_of (r "group");exact JE G.z G.g G.h I1.Ü e1 e2 e3 e5 n hu (C7 ru) ⟨y,H1,I1.tok _,ru,q⟩
def spW(K:aa)(C:ag):Sp:=λvs H Q _=>∃a g xs,vs=[.ref a,.ref g]/\H a=Za (Cf C a)/\ZU K H g xs /\
 ∀(dx l:ag)(H':Hp),H l=Zb->H dx=Zb->H' a=Za (Iq C a dx)->H' dx=Za (.xd [("group",.ref l)])->H' l=Za (.lst xs)->(∀b u,b≠a->H b=Za u->H' b=Za u)->Q .Zn H'
structure Wh(P:bT)(w:cy)(K:aa)(mg:Str->Option ai)(base:cg)(x:Str)(C:ag)(k:Nat):Prop where
 ex:∃Zi f fd,Ew K C Zi f/\ZA P w K mg base (Z' P w) k f fd ["self","group"] (spW K C)/\Binds K fd ["self","group"] []
 g:mg x=Za (.ref C)
def HH(C:ag)(f:XE)(Z:En)(s:N'):SO:=(f Z s).so λv s1=>match ZH s1 v with
 |some l=>.ex (C,Za s1.nx) (s1.add (.lst l))
 |none=>.bad
def JG(A:Wh X.prog X.w X.K X.mg X.base x C k)(he:DE X CB E e f)(hr:Zw jr X.A:=by assumption)(hk:k+1<=jr:=by first|decide|lia)(hg:Gl X x:=by rfl)(hc:X.calm=true:=by rfl)(Vp:X.ex=[]:=by rfl)(hp:Ev X E:=by exact Á1)(hd:Ĉ x:=by decide)(S6:ao [e] X.env=(false,eval e X.env)::ao [] X.env:=by rfl)(Sf:(bI R6 (ao [] X.env)).any (·.1)=false:=by rfl) :
  DS X CB E (.Raise (Za (.Call (.Name x np) [e] [] R6)) Zb pos) (HH C f):=by
 let⟨Zi,fa,fd,Zj,F,hb⟩:=A.ex;exact⟨(IX Zj F hb (hr.mono hk) hg A.g hc Vp hp (mR he.pe Y7 S6) hd S6 Sf).mono λD O H=>oE λZ s m er S P=>⟨Z,s,m,er,S,Zs.so P λv s1 u H1 m1 e1 S1 r1 P1=>by
  split at P1
  .rename_i l hl;refine⟨rfl,λa b na nb ne=>?_⟩;let⟨g,xs,rfl,sq,rs⟩:=r1.ls S1 hl;have kk:ZT H1 (upd (upd H1 b (.tup [.ref g])) a (Cf C a)):=λc o h=>by rw[mF (mQ h na),mF (mQ h nb)];exact h
   refine⟨a,g,xs,rfl,mH,sq.imp (λz=>z.same kk) id,λdx l' H' nl nd h1 h2 h3 k=>⟨rfl,dx,h1,?_⟩⟩;have k2:ZT H1 (λc=>if c=a then Zb else H' c):=λc o h=>by show(if c=a then Zb else H' c)=_;rw[Zd (mQ h na)];exact k c o (mQ h na) (kk c o h)
   have nu:∀c,upd (upd H1 b (.tup [.ref g])) a (Cf C a) c=Zb->c≠a/\H1 c=none:=λc h=>by
    have h1:c≠a:=λz=>by rw[z,mH] at h;cases h
    rw[mF h1] at h;have h2:c≠b:=λz=>by rw[z,mH] at h;cases h
    rw[mF h2] at h;exact⟨h1,h⟩
   let⟨la,nl⟩:=nu _ nl;let⟨da,nd⟩:=nu _ nd;have Vi:(λc=>if c=a then Zb else H' c) l'=Za (.lst xs):=by
    grind
   let⟨S2,e2⟩:=S1.add (c:=.lst l) _ l' [l'] k2 (λc hc=>by rw[ax.mp hc];exact nl) λex=>⟨by rw[Mp.ĕ];exact Zc rfl,xs,by rw[Mp.ĕ];exact Vi,rs.ext ex⟩;refine P1 _ _ e2 S2 _ λn hn=>?_;cases hn;refine⟨dx,rfl,?_,bv _,?_⟩
   .rw[Mp.ĕ]
    grind
   .let⟨p1,p2⟩:=S1.ZK nd;refine⟨p1,λn hn=>?_⟩;show dx∉(if n=s1.nx then [l'] else m1.fp n);split
    .grind
    .rename_i nn;apply p2 n;simp[N'.add] at hn
     grind
  .exact P1.elim⟩⟩
def Ág(C:ag)(f:XE)(Z:En)(s:N'):Out PV:=(f Z s).bind λv s1=>match v with
 |.exc (c,Za n)=>if c=C then .ok (.ref n) s1 else .bad
 |_=>.bad
def RF(G:Gc X.K C)(he:DE X CB E e f)(hb:cm e "group" X.env (eval e X.env)=eval e X.env:=by rfl):DE X CB E (.Attribute e "group" pos) (Ág C f) :=
 ⟨(QQ G he.pe hb).mono λO H Q=>oE λZ s m er S P=>⟨Z,s,m,er,S,P.bind λv s1 u H1 m1 e1 S1 r1 P1=>by
  split at P1
  .split at P1
   .rename_i hc;subst hc;cases r1 with
    |exc h1 h2 h3 =>
     let⟨dx,rfl,h4,h5,_⟩:=h3 _ rfl;exact⟨_,dx,_,rfl,h1,h4,P1.here S1 (.ref h5)⟩
   .exact P1.elim
  .exact P1.elim⟩⟩
def w4(g:XE)(ix:List Nat)(c:XT)(e:XE)(Z:En)(s:N'):Out PV:=match g Z s with
 |.ok (.ref n) s1=>match s.get n with
  |some (.Zv _)=>match s1.get n with
   |some (.Zv l)=>if l.length<=100000 then(oH c e (nM ix Z) (l.map λkv=>wG kv.1) (s1.set n (.Ì l))).bind λvs s2=>match thw n s2 with
    |some s3=>.ok (.lst vs) s3
    |none=>.bad else .bad
   |_=>.bad
  |_=>.bad
 |_=>.bad
def LC(hg:DE X CB E0 iter g)(he:∀cl C R4 R9 fp,DE (ą X scope cl C (x::fr) R4 R9 fp) CB E0 elt f)(ht:∀cl C R4 R9 fp,Ŕ (ą X scope cl C (x::fr) R4 R9 fp) CB Sr t:=by exact λ_ _ _ _ _=>qe)(hc:X.calm=true:=by rfl)(S:Ã X.N X.env.scope scope x fr ix:=by exact Kb ‹K' _ _ _›)(hs:∀v,a6 iter X.env v=pure v:=by intro _;rfl):DE X CB E (.ListComp elt [⟨.Name x px,iter,Sr,0⟩] scope pos) (w4 g ix t f) :=
 ⟨(NV (v6 hc S (z6 hg.pe) (λcl C R4 R9 fp=>(ht cl C R4 R9 fp).Ŵ) (λcl C R4 R9 fp=>(he cl C R4 R9 fp).pe) hs)).mono λO H Q=>oE λZ s m er S P=>by
  unfold w4 at P;split at P
  .rename_i n s1 hf;split at P
   .rename_i l0 Ys;split at P
    .rename_i l hg;split at P
     .rename_i R5;let⟨Ts,WP,_⟩:=S.Ÿ Ys;have hn:=S.lt n (ar.mpr ⟨_,oz Ys,rfl⟩);have h0:∀l',s.get n≠Za (.Ì l'):=λl' z=>by rw[Ys] at z;grind
      refine⟨m.ad n,Ts,WP,Z,s,m,er,S,?_⟩;rw[hf];intro u0 H1 m1 e1 S1 r1;have ea1:=e1.ad n hn;cases r1 with
      |ref Yj =>
      let⟨vs,h1,hfz⟩:=S1.Ÿ hg;rw[ea1] at h1 hfz ⊢;refine⟨m.ad n,vs,rfl,.inl ⟨h1,λob D hD=>?_⟩⟩;let⟨m2,ea,S2,e2,r2⟩:=hfz ob;have Yr:(s1.set n (.Ì l)).get n=Za (.Ì l):=D9 hg;have YV:m2.ad n=m.ad n:=by rw[ea];exact ea1
      apply FU (E:=E0) (t:=t) (f:=f) S2 ((er.ext e1).ext e2) (Nd S2 Yr YV mH r2) hD (by simpa using R5);cases cc:oH t f (nM ix Z) (l.map λkv=>wG kv.1) (s1.set n (.Ì l)) with
      |bad=>rw[cc] at P;exact P.elim
      |ex c' s'=>exact absurd cc xI
      |ok W1 s2 =>
       rw[cc] at P;intro u2 H3 m3 e3 S3 r3;simp[Out.bind] at P;unfold thw at P;split at P
       .rename_i s3 h3;split at h3<;>cases h3
        rename_i l2 Uc;let⟨UA,SE,q1,m4,S4,e4,x4⟩:=SR.Ào h0 hn ((e1.trans e2).trans e3) S3 Uc;exact⟨UA,SE,q1,P u2 _ m4 e4 S4 (r3.Zq x4)⟩
       .exact P.elim
     .exact P.elim
    .exact P.elim
   .exact P.elim
  .exact P.elim⟩
def F9(j:Nat)(y:XG)(body:XS)(Z:En)(s:N'):SO:=match Z[j]? with
 |some (Za (.ref n))=>match s.get n with
  |some (.Ì l)=>(nR (nj y body) (l.map λkv=>wG kv.1) Z s).ê
  |_=>.bad
 |_=>.bad
def OP(j)(hg:DG X.ė CB tg yy)(hb:DSs X.ė CB E0 Ua u)(hc:X.calm=true:=by rfl)(hN:X.N[j]?=Za y:=by rfl)(hv:Vis X.env.scope y:=by first|exact eL rfl|exact gR (eL rfl))(hs:∀x,a6 (.Name y py) X.env x=pure x:=by intro _;rfl)(hd:Ĉ y:=by decide)(Tf:(y==("__classdict__":Str))=false:=by decide):DS X CB E (.For tg (.Name y py) Ua [] pos) (F9 j yy u) :=
 ⟨PS.ė ((EB (X:=X.ė) eK hc (z6 (EC hN hv hd Tf)) hg.pg hb.pss hs).mono λD O H=>oE λZ s m er S P=>by
  unfold F9 at P;split at P
  .rename_i n ŧ;split at P
   .rename_i l hg;have P:=ZP.ê P;let⟨u0,hu,ru⟩:=er.at_ j _ ŧ;cases ru with
    |ref hn =>
    let⟨e1,ob,vs,h1,r⟩:=S.get hg;exact⟨_,hu,m.ad n,vs,rfl,.inr ⟨ob,h1,Be S er (Nd S hg rfl h1 r) P⟩⟩
   .exact P.elim
  .exact P.elim)⟩
end L2
namespace My
open PySem L2 Fra
abbrev tW:bX:=oJ (top 14) 0
def BG:K' ["self","group"] ["self","group"] (mJ tW):=Ê
def BP(Zj:Ew K a.Ñ a.ĥ f)(F:ý K "__init__" "Whole.__init__" tW f fd)(T:Txt K mg a):ZA P w K mg base (Z' P w) 2 f fd ["self","group"] (spW K a.Ñ):=by
 refine F.okN BG (λvs H Q E h=>?_) (λSc A outer s H vs Q E hr h=>?_)
 .let⟨b,z,xs,rfl,_⟩:=h;rfl
 .let⟨e,g,xs,rfl,he,sq,q⟩:=h;refine⟨_,(m6 (pU (Jb Zj rfl T.ŏ (mR (pv 0) (mR (yu wZ rfl T.ő AJ (mR (pv 1) Y7)) Y7)))) (nq (KG Zj (pv 0) (yu wZ rfl T.ő AJ (mR (pv 1) Y7))))),?_⟩;refine⟨_,rfl,_,rfl,g,xs,rfl,.inl sq,λl1 n1=>⟨e,_,rfl,by rw[mF (mQ he n1)];exact he,λH2 k2=>?_⟩⟩;have k3:=λb u h=>k2 b u (by rw[mF (mQ h n1)];exact h);refine⟨_,rfl,g,xs,rfl,.inl (sq.imp (λz=>z.same k3) id),λl2 n2=>⟨_,rfl,e,rfl,by rw[mF (mQ (k3 _ _ he) n2)];exact k3 _ _ he,λdx H3 nd k4 h5 h6=>?_⟩⟩;refine q dx l2 H3 ?_ ?_ h5 h6 (k4 l2 _ (λz=>by rw[z,k3 _ _ he] at n2;grind) mH) λb u hb hu=>k4 b u hb (by rw[mF (mQ (k3 b u hu) n2)];exact k3 b u hu)
  .cases hl:H l2 with
   |none=>rfl
   |some u=>grind
  .cases hl:H dx with
   |none=>rfl
   |some u =>
    rw[mF (mQ (k3 _ _ hl) n2),k3 _ _ hl] at nd;cases nd
def Y9.cl(a:Y9):List ag:=[a.Ñ]
def Y9.others(a:Y9):List ag:=[a.ZQ,a.Í,a.į,a.œ,a.Ħ,a.ÀB,a.ø,a.ϟ]
structure T2w(K:aa)(a:Y9):Prop where
 tr:∀c∈a.cl,Ϗ K c/\bJ K c (.ref a.ĥ)=Za true
 ka:∀c∈a.cl,Ϗ K c/\ee K (.ref c) (a.others.map aP)=Za false
 na:ee K (.type "NoneType") (a.others.map aP)=Za false
 kv:∀c∈a.cl,Ϗ K c/\bA K (.ref c) (.type "ValueError")=Za true
 nv:bA K (.type "NoneType") (.type "ValueError")=Za false
 k_Whole:∀c∈a.cl,Ϗ K c/\bA K (.ref c) (.ref a.Ñ)=Za (decide (c=a.Ñ))
 ļ:bA K (.type "NoneType") (.ref a.Ñ)=Za false
 gc:Gc K a.Ñ
def E1(vs)(H)(Q)(E)(h:Ķ K a.Zo 1 (tE a) vs H Q E):yn K a.Zo vs H Q E:=by
 let⟨_,ps,s,m,r,S,P⟩:=h;let⟨n,pp,L,z,L',us,ys,hg,B,e1,e2,rfl,r',P⟩:=onB S r P;split at P
 .cases r';refine⟨_,z,pp,L',rfl,B,λl hl=>?_⟩;rw[<-e1,aH] at P;let⟨S2,x2⟩:=S.add (c:=.lst ((ZR (L'.map (·.1.nm))).map .str)) (upd H l (.lst ((ZR (L'.map (·.1.nm))).map V.str))) l [l] (rQ hl) (λc hc=>by rw[ax.mp hc];exact hl) λ_=>⟨by simp[Mp.add],_,by show upd H l _ (if _=_ then l else _)=_;rw[Zc rfl];exact mH,.ofStrs _⟩;have:=P (.ref ((m.add s.nx l [l]).ad s.nx)) _ _ x2 S2 (.ref (bv _));rw[Mp.ĕ] at this;exact this
 .exact P.elim
end My
namespace L2
open PySem PySem.Spec PyProof.Rows
open Classical in
def uJ(c:XT)(e:XE)(cap:En)(s:N'):List PV->Option (List PV)
 |[]=>Za []
 |q::l=>match c (Za q::cap) s with
  |.ok b s0=>if s0=s then(if b=true then(match e (Za q::cap) s with
   |.ok v s'=>if s'=s then(uJ c e cap s l).map (v::·) else Zb
   |_=>Zb) else uJ c e cap s l) else Zb
  |_=>Zb
def Bp(g:XE)(ix:List Nat)(c:XT)(e:XE)(Z:En)(s:N'):Out PV:=match g Z s with
 |.ok (.ref n) s1=>match s1.get n with
  |some (.lst l)=>if l.length<=100000 then(match uJ c e (nM ix Z) s1 l with
   |some vs=>.ok (.lst vs) s1
   |none=>.bad) else .bad
  |_=>.bad
 |_=>.bad
def vT(g:XE)(ix:List Nat)(c:XT)(e:XE)(Z:En)(s:N'):Out PV:=match g Z s with
 |.ok (.ref n) s1=>match s1.get n with
  |some (.lst l)=>if l.length<=100000 then(match uJ c e (nM ix Z) s1 l with
   |some vs=>.ok (.ref s1.nx) (s1.add (.lst vs))
   |none=>.bad) else .bad
  |_=>.bad
 |_=>.bad
section
variable{X:Cx}
def AE(S1:SR X.K CB H1 m1 s1)(er:ER X.K H1 m1 s1 O Z)(hl:s1.get n=Za (.lst l))(hn:n<s1.nx)(hD:H1 D=Zb)(R5:l.length<=100000)(hv:uJ t f (nM ix Z) s1 l=Za vs)(Sq:∀H2 m2 ys,ŀ X.K CB D H1 m1 s1 (É ix O) (nM ix Z) ys vs H2 m2 s1->Q (.ref D) H2):ĳ (Itl X.K (m1.ad n)) (TDT X.K CB E0 t) (Ŭ X.K CB E0 f) (É ix O) D H1 Q:=by
 refine⟨λi k ys H2=>∃done m2 rest,ŀ X.K CB D H1 m1 s1 (É ix O) (nM ix Z) ys done H2 m2 s1/\i<=l.length/\ys.length<=i/\k=l.length-i/\uJ t f (nM ix Z) s1 (l.drop i)=Za rest/\vs=done++rest,⟨l.length,[],m1.hide D,vs,ŀ.start S1 (er.É ix) hD,aV _,aV _,rfl,hv,rfl⟩,?_⟩
 rintro i k ys H2 ⟨done,m2,rest,C,hi,hy,rfl,eq,ev⟩
 let⟨_,W1,h2,rs⟩:=C.sr.get hl;rw[show m2.ad n=m1.ad n from C.e0.ad n hn] at h2;by_cases Sd:i<l.length
 .right;have hq:=ay Sd;let⟨u0,hu,ru⟩:=rs.get hq;refine⟨⟨W1,u0,ZU.of h2,hu⟩,λx H3 ⟨hy1,Wf⟩=>?_⟩;subst hy1;have e3:=Wf W1 (ZU.of h2);rw[hu] at e3;cases e3;rw[cF Sd] at eq;unfold uJ at eq;split at eq
  case h_2=>cases eq
  rename_i b s0 cc;split at eq
  case isFalse=>cases eq
  rename_i Xr;subst Xr;refine⟨Za l[i]::nM ix Z,_,m2,C.er.cons ru,C.sr,?_⟩;rw[cc]
  rintro b4 H4 m4 e4 S4 rfl
  have C4:=C.step hD e4 S4;split at eq
  .rename_i hb;split at eq
   case h_2=>cases eq
   rename_i v s' cf;split at eq
   case isFalse=>cases eq
   rename_i es;subst es;let⟨V2,eq',rfl⟩:=gS.mp eq;rw[Zc hb];refine⟨Za l[i]::nM ix Z,_,m4,C4.er.cons (ru.ext e4),S4,?_⟩;rw[cf];intro w H5 m5 e5 S5 r5;have C5:=C4.step hD e5 S5;exact⟨C5.at_,aW (aC hy (aC hi R5)) (Zf rfl),l.length-(i+1),by omega,done++[v],m5,V2,C5.push hD r5,Sd,by simp;omega,rfl,eq',by rw[ev];simp⟩
  .rename_i hb;rw[Zd hb];exact⟨l.length-(i+1),by omega,done,m4,rest,C4,Sd,by omega,rfl,eq,ev⟩
 .left;have Te:=eP Sd;rw[cY Te] at eq;cases eq;rw[bQ] at ev;subst ev;exact⟨⟨W1,ZU.of h2,by rw[rs.length];exact Te⟩,C.at_,Sq H2 m2 ys C⟩
def LA(hg:DE X CB E iter g)(he:∀cl C R4 R9 fp,DE (ą X scope cl C (x::fr) R4 R9 fp) CB E0 elt f)(ht:∀cl C R4 R9 fp,Ŕ (ą X scope cl C (x::fr) R4 R9 fp) CB Sr t:=by exact λ_ _ _ _ _=>qe)(hc:X.calm=true:=by rfl)(S:Ã X.N X.env.scope scope x fr ix:=by exact Kb ‹K' _ _ _›)(hs:∀v,a6 iter X.env v=pure v:=by intro _;rfl):DE X CB E (.ListComp elt [⟨.Name x px,iter,Sr,0⟩] scope pos) (Bp g ix t f) :=
 ⟨(v6 hc S (J0 hg.pe) (λcl C R4 R9 fp=>(ht cl C R4 R9 fp).Ŵ) (λcl C R4 R9 fp=>(he cl C R4 R9 fp).pe) hs).mono λO H Q=>oE λZ s m er S P=>by
  refine⟨Z,s,m,er,S,?_⟩;unfold Bp at P;split at P
  case h_2=>exact P.elim
  rename_i n s1 hf;rw[hf];intro a0 H1 m1 e1 S1 r1;have P:=Zs.shift e1 P;split at P
  case h_2=>exact P.elim
  rename_i l hl;split at P
  case isFalse=>exact P.elim
  rename_i R5;split at P
  case h_2=>exact P.elim
  rename_i vs hv;cases r1 with
  |ref hn =>
  let⟨_,Ts,h1,_⟩:=S1.get hl;refine .inl ⟨_,rfl,⟨Ts,ZU.of h1⟩,λD hD=>AE S1 (er.ext e1) hl hn hD R5 hv λH2 m2 ys C=>?_⟩;let⟨Vz,rd⟩:=C.done;exact P (.ref D) H2 (m2.bare m1.Z0) C.ex Vz (rd λz=>(S1.hs D z).1 hD)⟩
def D3(hg:DE X CB E iter g)(he:∀cl C R4 R9 fp,DE (ą X scope cl C (x::fr) R4 R9 fp) CB E0 elt f)(ht:∀cl C R4 R9 fp,Ŕ (ą X scope cl C (x::fr) R4 R9 fp) CB Sr t:=by exact λ_ _ _ _ _=>qe)(hN:X.N.Nodup:=by exact ‹K' _ _ _›.nd)(hz:X.N[i]?=Za z:=by rfl)(hl:X.env.scope.names.lookup z=Za .local:=by rfl)(hc:X.calm=true:=by rfl)(S:Ã X.N X.env.scope scope x fr ix:=by exact Kb ‹K' _ _ _›)(Uk:cO (.ListComp elt [⟨.Name x px,iter,Sr,0⟩] scope pos) (Za (.Name z pz)) ń.line X.env=pure true:=by rfl)(hs:∀v,a6 iter X.env v=pure v:=by intro _;rfl):DS X CB E (.Assign [.Name z pz] (.ListComp elt [⟨.Name x px,iter,Sr,0⟩] scope pos) ń) (Y8 i (vT g ix t f)) :=
 ⟨(wD hN hz hl hc S (J0 hg.pe) (λcl C R4 R9 fp=>(ht cl C R4 R9 fp).Ŵ) (λcl C R4 R9 fp=>(he cl C R4 R9 fp).pe) Uk hs).mono λD0 O H=>oE λZ s m er S P=>by
  refine⟨Z,s,m,er,S,?_⟩;unfold Y8 vT at P;split at P
  case h_2=>exact P.elim
  rename_i n s1 hf;rw[hf];intro a0 H1 m1 e1 S1 r1;split at P
  case h_2=>exact P.elim
  rename_i l hl;split at P
  case isFalse=>exact P.elim
  rename_i R5;split at P
  case h_2=>exact P.elim
  rename_i vs hv;cases r1 with
  |ref hn =>
  let⟨_,Ts,h1,_⟩:=S1.get hl;refine .inl ⟨_,rfl,⟨Ts,ZU.of h1⟩,λD hD=>AE S1 (er.ext e1) hl hn hD R5 hv λH2 m2 ys C=>?_⟩;let⟨S2,e2⟩:=C.cell hD λz=>(S1.hs D z).1 hD;exact P _ H2 _ (e1.trans e2) S2 ((er.ext (e1.trans e2)).set i .new)⟩
end
open Classical in
def Af(body:PV->XS)(s:N'):List PV->En->Option En
 |[],Z=>Za Z
 |q::l,Z=>match body q Z s with
  |.nx Y' s'=>if s'=s then Af body s l Y' else Zb
  |_=>Zb
def Ge(f:XE)(y:XG)(body:XS)(Z:En)(s:N'):SO:=match f Z s with
 |.ok (.ref n) s1=>match s1.get n with
  |some (.lst l)=>(match Af (nj y body) s1 l Z with
   |some Y'=>.nx Y' s1
   |none=>.bad)
  |_=>.bad
 |_=>.bad
def OQ{y:XG}(he:DE X.ė CB E0 e f)(hg:DG X.ė CB tg y)(hb:DSs X.ė CB E0 Ua u)(hc:X.calm=true:=by rfl)(hs:∀x,a6 e X.env x=pure x:=by intro _;rfl):DS X CB E (.For tg e Ua [] pos) (Ge f y u) :=
 ⟨PS.ė ((EB (X:=X.ė) eK hc (J0 he.pe) hg.pg hb.pss hs).mono λD O H=>oE λZ s m er S P=>by
  refine⟨Z,s,m,er,S,?_⟩;unfold Ge at P;split at P
  case h_2=>exact P.elim
  rename_i n s1 hf;rw[hf];intro a0 H1 m1 e1 S1 r1;split at P
  case h_2=>exact P.elim
  rename_i l hl;split at P
  case h_2=>exact P.elim
  rename_i ρe hv;cases r1 with
  |ref hn =>
  let⟨_,Ts,h1,_⟩:=S1.get hl;refine .inl ⟨_,rfl,⟨Ts,ZU.of h1⟩,λi k ZG H'=>∃Y' m',ER X.K H' m' s1 ZG Y'/\SR X.K CB H' m' s1/\Ext H1 m1 s1 H' m' s1/\i<=l.length/\k=l.length-i/\Af (nj y u) s1 (l.drop i) Y'=Za ρe,⟨l.length,Z,m1,er.ext e1,S1,.refl,aV _,rfl,hv⟩,?_⟩
  rintro i k ZG H' ⟨Y',m',er',S',ex',hi,rfl,eq⟩
  let⟨_,vs,h1,rs⟩:=S'.get hl;rw[ex'.ad n hn] at h1;by_cases Sd:i<l.length
  .right;let⟨u0,hu,ru⟩:=rs.get (ay Sd);rw[cF Sd] at eq;unfold Af at eq;split at eq
   case h_2=>cases eq
   rename_i ρ3 s3 cb;split at eq
   case isFalse=>cases eq
   rename_i es;subst es;refine⟨⟨vs,u0,ZU.of h1,hu⟩,λĴ H2=>∃ĸ m2,ER X.K H2 m2 s3 Ĵ ĸ/\SR X.K CB H2 m2 s3/\Ext H1 m1 s3 H2 m2 s3/\Af (nj y u) s3 (l.drop (i+1)) ĸ=Za ρe,λĴ H2 ⟨ĸ,m2,a1,a2,a3,a4⟩=>⟨l.length-(i+1),by omega,ĸ,m2,a1,a2,a3,Sd,rfl,a4⟩,λx H2 ⟨hy1,Wf⟩=>?_⟩;subst hy1;have e3:=Wf vs (ZU.of h1);rw[hu] at e3;cases e3;have cb:(match y l[i] Y' s3 with|some Y'=>u Y' s3|none=>.bad)=_:=cb;cases hyq:y l[i] Y' s3 with
   |none=>rw[hyq] at cb;cases cb
   |some ĸ =>
    rw[hyq] at cb;refine⟨Y',s3,m',_,ĸ,er',S',ru,hyq,λĴ Vw=>⟨ĸ,s3,m',Vw,S',?_⟩⟩;rw[show u ĸ s3=_ from cb];exact λŖ H3 m3 e3 S3 Ue=>⟨ρ3,m3,Ue,S3,ex'.trans e3,eq⟩
  .left;rw[cY (by omega)] at eq;cases eq;exact⟨⟨vs,ZU.of h1,by rw[rs.length];omega⟩,P _ H' m' (e1.trans ex') S' er'⟩)⟩
end L2
namespace My
open PySem L2 Fra
section
variable{P:bT}{w:cy}{K:aa}{mg:Str->Option ai}{base:cg}{a:Y9}{f:ag}{fd:cT}
def oi(a:Y9)(vs:List PV)(s:N'):Out PV:=match vs with
 |[.int n,.int m]=>if 0<m then .ok (.int (aI n m)) s else .bad
 |_=>.bad
def Ny(vs)(H)(Q)(E)(h:Ķ K a.Zo 2 (oi a) vs H Q E):Hq vs H Q E:=by
 let⟨_,ps,s,m,r,S,P⟩:=h;unfold oi at P;split at P
 .split at P
  .rename_i hz;cases r with
   |cons r1 r=>cases r with
    |cons r2 r =>
     cases r;cases r1;cases r2;exact⟨_,_,rfl,hz,P.here S .int⟩
  .exact P.elim
 .exact P.elim
structure Yz(K:aa)(mg:Str->Option ai)(a:Y9):Prop where
 T:Txt K mg a
 h:∃h:cg,K.In h/\h.Ns aT mg
class Cq (P:outParam bT) (w:outParam cy) (K:outParam aa) (mg:outParam (Str->Option ai)) (base:outParam cg) (a:outParam Y9):Prop where
 Y:Yz K mg a
abbrev Fq[Cq P w K mg base a](x:Str)(k:Nat)(ps:List Str)(n:Nat)(D:Y9->XF):Prop:=Fn P w K mg base x k ps (Ķ K a.Zo n (D a))
abbrev Mq[Cq P w K mg base a](C:Y9->ag)(x:Str)(k:Nat)(ps:List Str)(n:Nat)(D:Y9->XF):Prop:=Mt P w K mg base (C a) x k ps (Ķ K a.Zo n (D a))
variable[Cq P w K mg base a]
def Ē{x}{st}{k}{ps}{sp:Sp}(c:Gf K x st)(o:∀{f:ag}{fd:cT},Txt K mg a->ý K x x st f fd->ZA P w K mg base (Z' P w) k f fd ps sp)(b:Bd x x st ps:=by first|exact bd1|exact bd2|exact bd3|exact bd4|exact bd5|exact bd6|exact bd0):Fn P w K mg base x k ps sp :=
 let⟨_,X,G⟩:=Cq.Y.h;c.fn X G (o Cq.Y.T) b
abbrev Co:Prop:=Mq Y9.Zo "person" 4 ["self","name"] 2 vK
abbrev D7:Prop:=Mq Y9.Zo "house" 4 ["self","name","owner","things","mark","loss"] 6 yg
abbrev Ff:Prop:=Mq Y9.Zo "sale" 4 ["self","house","one","other","share"] 5 xm
abbrev zP:Prop:=Mq Y9.Zo "persons" 1 ["self"] 1 tD
abbrev pG:Prop:=Mq Y9.Zo "houses" 1 ["self"] 1 oI
abbrev wu:Prop:=Mq Y9.Zo "shares" 3 ["self","house"] 2 pA
abbrev JR:Prop:=Mq Y9.Zo "of" 3 ["self","house"] 2 MX
abbrev Fg[Cq P w K mg base a]:Prop:=MkB P w K mg base "Book" a.Zo 1 ["self"] (Me K a.Zo)
abbrev sU:Prop:=Fq "common_divisor" 1 ["number","other"] 2 oi
abbrev tT:bX:=top 42
def BD:K' ["_law_cell","_law_k","_law_number_here"] ["_law_cell","_law_k"] (mJ tT):=Ê
def wX(a:Y9):XS:=(Y3 (Y8 2 (x2 (x2 (x2 (x2 (x2 (x2 (j' 0) (j' 0) Hb) (x2 (xC (.int 3)) (j' 0) Zy) ZS) (x2 (xC (.int 7919)) (j' 1) Zy) ZS) (xC (.int 1)) ZS) (xC (.int 48271)) Zy) (xC (.int 2147483629)) ö)) (ZE (x2 (x2 (x2 (j' 2) (j' 2) Zy) (xC (.int 7)) ZS) (xC (.int 2147483587)) ö)))
def qZ(a:Y9):XF:=(à 3 (wX a))
abbrev ue:Prop:=Fq "_law_mixed" 1 ["_law_cell","_law_k"] 2 qZ
def BY(c:Gf K "_law_mixed" tT):ue :=
 Ē c λT F=>ou F BD rfl λ_ _ _ _ _ _ hr S=>(mG (mX 2 (xj (nV (oQ (oQ (oQ (O3 (mC 0) (mC 0)) (nV mK (mC 0))) (nV mK (mC 1))) mK) mK) mK)) (mO (m9 (xj (oQ (nV (mC 2) (mC 2)) mK) mK))))
abbrev tR:bX:=top 43
def BB:K' ["_law_script","_law_cells","_law_number_here","_law_k"] ["_law_script"] (mJ tR):=Ê
def rA(a:Y9) :XS:=(Y8 2 (x2 (x2 (j' 2) (xC (.int 2147483587)) Zy) (V' 2 (qZ a) (F' (x2 (j' 1) (x2 (j' 3) (xB (F' (j' 1) J') å) ö) Zk) (F' (j' 3) J'))) ZS))
def tY(a:Y9):XS:=(Y3 (Y8 1 (x2 (xSl (j' 0) Ś (Č (xC (.int 63)))) (ę (F' (xC (.int 0)) J')) ZS)) (Y3 (Y8 2 (xC (.int 1))) (Y3 (Ċ (Ø (F' (xC (.int 64)) J')) (Y4 3) (rA a)) (Y3 (ÿ (ZI (x2 (xB (F' (x2 (j' 1) (xC (.int 0)) Zk) J') ş) (x2 (xC (.int 10)) (xC (.int 18)) Ģ) fGe)) (ZE (Ţ (F' (xB (F' (x2 (j' 1) (xC (.int 0)) Zk) J') ş) (F' (j' 2) J')))) Z6) (ZE (Ţ (F' (j' 2) (F' (j' 2) J'))))))))
def pj(a:Y9):XF:=(à 4 (tY a))
abbrev uc:Prop:=Fq "_law_purse" 2 ["_law_script"] 1 pj
def BW(c:Gf K "_law_purse" tR)(A0:ue):uc :=
 Ē c λT F=>ou F BB rfl λ_ _ _ _ _ _ hr S=>(mG (mX 1 (oQ (J5 (mC 0) As (Ar mK)) (wn (mI mK)))) (mG (mX 2 mK) (mG (sD (qF (mI mK)) (nC 3) (mO (mX 2 (oQ (nV (mC 2) mK) (nc A0 (mL (mZ (mC 1) (xj (mC 3) (nN á (mI (mC 1))))) (mI (mC 3)))))))) (mG (pX (o4 Âx (nN Ĳ (mI (mZ (mC 1) mK))) (Cj mK mK)) (mO (m9 (Ax (mL (nN Ĳ (mI (mZ (mC 1) mK))) (mI (mC 2)))))) nS) (mO (m9 (Ax (mL (mC 2) (mI (mC 2))))))))))
abbrev uZ:bX:=top 44
def Dz:K' ["_law_purse_here","_law_out_of","_law_drawn"] ["_law_purse_here","_law_out_of"] (mJ uZ):=Ê
def vk(a:Y9):XS:=(Y3 (ÿ (ZI (x2 (x2 (j' 0) (xC (.int 0)) Zk) (xC (.int 0)) Ĕ)) (Ł (j' 0) (xC (.int 0)) (x2 (j' 0) (xC (.int 1)) Zk)) Z6) (Y3 (Y8 2 (x2 (x2 (j' 0) (xC (.int 0)) Zk) (j' 1) ö)) (Y3 (Ł (j' 0) (xC (.int 0)) (x2 (x2 (j' 0) (xC (.int 0)) Zk) (j' 1) Ą)) (ZE (j' 2)))))
def mV(a:Y9):XF:=(à 3 (vk a))
abbrev o6:Prop:=Fq "_law_draw" 1 ["_law_purse_here","_law_out_of"] 2 mV
def DR(c:Gf K "_law_draw" uZ):o6 :=
 Ē c λT F=>ou F Dz rfl λ_ _ _ _ _ _ hr S=>(mG (pX (o4 Dj (mZ (mC 0) mK) mK) (mO (Cg (mC 0) mK (mZ (mC 0) mK))) nS) (mG (mX 2 (xj (mZ (mC 0) mK) (mC 1))) (mG (Cg (mC 0) mK (uI (mZ (mC 0) mK) (mC 1))) (mO (m9 (mC 2))))))
abbrev rh:bX:=top 45
def y8:K' ["_law_one","_law_other"] ["_law_one","_law_other"] (mJ rh):=Ê
def o9(a:Y9) :XS:=(ÀX 0 1 (F' (j' 1) (F' (x2 (j' 0) (j' 1) ö) J')))
def uO(a:Y9):XS:=(Y3 (Y8 0 (xB (F' (j' 0) J') ş)) (Y3 (Y8 1 (xB (F' (j' 1) J') ş)) (Y3 (tG (ZI (x2 (j' 1) (xC (.int 0)) fGt)) (o9 a)) (ZE (j' 0)))))
def oO(a:Y9):XF:=(à 2 (uO a))
abbrev p4:Prop:=Fq "_law_divisor" 1 ["_law_one","_law_other"] 2 oO
def zd(c:Gf K "_law_divisor" rh):p4 :=
 Ē c λT F=>ou F y8 rfl λ_ _ _ _ _ _ hr S=>(mG (mX 0 (nN Ĳ (mI (mC 0)))) (mG (mX 1 (nN Ĳ (mI (mC 1)))) (mG (xG (o4 Qa (mC 1) mK) (mO (Rx (i:=0) (j:=1) rfl S.nd rfl rfl `d rfl rfl (mL (mC 1) (mI (xj (mC 0) (mC 1)))) rfl))) (mO (m9 (mC 0))))))
abbrev uX:bX:=top 46
def Dx:K' ["_law_top","_law_bottom","_law_by"] ["_law_top","_law_bottom"] (mJ uX):=Ê
def yQ(a:Y9):XS:=(Y3 (Y8 2 (V' 2 (oO a) (F' (j' 0) (F' (j' 1) J')))) (Y3 (ÿ (ZI (x2 (j' 1) (xC (.int 0)) fLt)) (Y8 2 (x2 (xC (.int 0)) (j' 2) ē)) Z6) (ZE (Ö (F' (x2 (j' 0) (j' 2) Ą) (F' (x2 (j' 1) (j' 2) Ą) J'))))))
def nO(a:Y9):XF:=(à 3 (yQ a))
abbrev pR:Prop:=Fq "_law_made" 2 ["_law_top","_law_bottom"] 2 nO
def DP(c:Gf K "_law_made" uX)(A0:p4):pR :=
 Ē c λT F=>ou F Dx rfl λ_ _ _ _ _ _ hr S=>(mG (mX 2 (nc A0 (mL (mC 0) (mI (mC 1))))) (mG (pX (o4 Ãt (mC 1) mK) (mO (mX 2 (zx mK (mC 2)))) nS) (mO (m9 (qu (mL (uI (mC 0) (mC 2)) (mI (uI (mC 1) (mC 2)))))))))
abbrev tS:bX:=top 48
def BC:K' ["_law_purse_here","_law_many","_law_letters","_law_long","_law_stem","_law_at","_law_found","_law_k","_law_spots"] ["_law_purse_here","_law_many"] (mJ tS):=Ê
def o5(a:Y9) :XS:=(Y3 (Y8 8 (pW (Ø (F' (j' 3) J')) [4,7,5] og (x2 (x2 (j' 1) (j' 0) Zk) (x2 (x2 (xC (.int 5)) (j' 2) Zy) (xB (F' (x2 (j' 0) (j' 3) Ĕ) J') Ż) Zy) ZS))) (Ť (Á (j' 6) (F' (ţ (xC (.str "")) (F' (pW (ZL (j' 8)) [2] og (x2 (j' 1) (x2 (j' 0) (xC (.int 26)) ö) Zk)) J')) J'))))
def tZ(a:Y9):XS:=(Y3 (Y8 2 (xC (.str "abcdefghijklmnopqrstuvwxyz"))) (Y3 (Y8 3 (x2 (xC (.int 1)) (V' 2 (mV a) (F' (j' 0) (F' (xC (.int 7)) J'))) ZS)) (Y3 (Y8 4 (pW (Ø (F' (j' 3) J')) [0] og (V' 2 (mV a) (F' (j' 1) (F' (xC (.int 26)) J'))))) (Y3 (Y8 5 (V' 2 (mV a) (F' (j' 0) (F' (j' 3) J')))) (Y3 (Y8 6 (Ţ J')) (Y3 (Ċ (Ø (F' (j' 1) J')) (Y4 7) (o5 a)) (Y3 (ÿ (ZI (x2 (V' 2 (mV a) (F' (j' 0) (F' (xC (.int 4)) J'))) (xC (.int 0)) Ĕ)) (Y8 6 (p8 (xn (F' (ϓ (j' 6)) J')) [] og (x2 (j' 1) (x2 (xC (.str "x")) (x2 (j' 0) (xC (.int 2)) ö) Aq) ZS))) Z6) (ZE (F8 (j' 6))))))))))
def uk(a:Y9):XF:=(à 9 (tZ a))
abbrev ud:Prop:=Fq "_law_names" 2 ["_law_purse_here","_law_many"] 2 uk
def BX(c:Gf K "_law_names" tS)(EN:mg "enumerate"=Zb)(A0:o6):ud :=
 Ē c λT F=>ou F BC rfl λ_ _ _ _ _ _ hr S=>(mG (mX 2 EO) (mG (mX 3 (oQ mK (nc A0 (mL (mC 0) (mI mK))))) (mG (mX 4 (sT (fr:=["_law_purse_here"]) (qF (mI (mC 3))) (λ_ _ _ _ _=>(nc A0 (mL (mC 1) (mI mK)))))) (mG (mX 5 (nc A0 (mL (mC 0) (mI (mC 3))))) (mG (mX 6 (Ax zy)) (mG (sD (qF (mI (mC 1))) (nC 7) (mG (wK (fr:=["_law_stem","_law_k","_law_at"]) (qF (mI (mC 3))) (λ_ _ _ _ _=>(oQ (mZ (mC 1) (mC 0)) (nV (nV mK (mC 2)) (tu ϛ (mI (Hd Dj (mC 0) (mC 3)))))))) (mO (zi (vP (mC 6) (mI (O4 EO (mI (sT (fr:=["_law_letters"]) (rX (mC 8)) (λ_ _ _ _ _=>(mZ (mC 1) (xj (mC 0) mK)))))))))))) (mG (pX (o4 Dj (nc A0 (mL (mC 0) (mI mK))) mK) (mO (yT (fr:=[]) (Em (mI (MP (mC 6))) rfl EN) (λ_ _ _ _ _=>(oQ (mC 1) (O0 EO (xj (mC 0) mK)))))) nS) (mO (m9 (O7 (mC 6)))))))))))
abbrev sf:bX:=top 49
def zB:K' ["_law_purse_here","_law_most"] ["_law_purse_here"] (mJ sf):=Ê
def wk(a:Y9):XS:=(Y3 (Y8 1 (x2 (ę (F' (xC (.int 10)) (F' (xC (.int 10)) (F' (xC (.int 100)) (F' (xC (.int 3)) (F' (x2 (xC (.int 10)) (xC (.int 6)) Ģ) (F' (x2 (xC (.int 10)) (xC (.int 20)) Ģ) J'))))))) (V' 2 (mV a) (F' (j' 0) (F' (xC (.int 6)) J'))) Zk)) (ZE (x2 (V' 2 (mV a) (F' (j' 0) (F' (x2 (xC (.int 2)) (j' 1) Zy) J'))) (x2 (j' 1) (xC (.int 3)) Ą) ē)))
def oG(a:Y9):XF:=(à 2 (wk a))
abbrev sG:Prop:=Fq "_law_number" 2 ["_law_purse_here"] 1 oG
def zI(c:Gf K "_law_number" sf)(A0:o6):sG :=
 Ē c λT F=>ou F zB rfl λ_ _ _ _ _ _ hr S=>(mG (mX 1 (mZ (wn (mL mK (mL mK (mL mK (mL mK (mL (Cj mK mK) (mI (Cj mK mK)))))))) (nc A0 (mL (mC 0) (mI mK))))) (mO (m9 (zx (nc A0 (mL (mC 0) (mI (nV mK (mC 1))))) (uI (mC 1) mK)))))
abbrev uW:bX:=top 50
def Dw:K' ["_law_purse_here","_law_share","_law_kind","_law_low"] ["_law_purse_here","_law_share"] (mJ uW):=Ê
def vj(a:Y9):XS:=(Y3 (Y8 2 (V' 2 (mV a) (F' (j' 0) (F' (xC (.int 5)) J')))) (Y3 (ÿ (ZI (x2 (j' 2) (xC (.int 0)) Ĕ)) (ZE (j' 1)) Z6) (Y3 (Y8 3 (x2 (ę (F' (xC (.int 2)) (F' (xC (.int 3)) (F' (xC (.int 7)) (F' (x2 (xC (.int 10)) (xC (.int 6)) Ģ) J'))))) (x2 (j' 2) (xC (.int 1)) ē) Zk)) (ZE (V' 2 (nO a) (F' (x2 (x2 (j' 1) (xC (.int 0)) Zk) (x2 (xC (.int 1)) (V' 2 (mV a) (F' (j' 0) (F' (x2 (j' 3) (xC (.int 1)) ē) J'))) ZS) Zy) (F' (x2 (x2 (j' 1) (xC (.int 1)) Zk) (j' 3) Zy) J')))))))
def qL(a:Y9):XF:=(à 4 (vj a))
abbrev vp:Prop:=Fq "_law_part" 3 ["_law_purse_here","_law_share"] 2 qL
def DM(c:Gf K "_law_part" uW)(A0:o6)(A1:pR):vp :=
 Ē c λT F=>ou F Dw rfl λ_ _ _ _ _ _ hr S=>(mG (mX 2 (nc A0 (mL (mC 0) (mI mK)))) (mG (pX (o4 Dj (mC 2) mK) (mO (m9 (mC 1))) nS) (mG (mX 3 (mZ (wn (mL mK (mL mK (mL mK (mI (Cj mK mK)))))) (zx (mC 2) mK))) (mO (m9 (nc A1 (mL (nV (mZ (mC 1) mK) (oQ mK (nc A0 (mL (mC 0) (mI (zx (mC 3) mK)))))) (mI (nV (mZ (mC 1) mK) (mC 3))))))))))
abbrev uV:bX:=top 51
def Dv:K' ["_law_purse_here","_law_model","_law_holders","_law_book","_law_houses","_law_house","_law_shares","_law_owners","_law_one","_law_other","_law_part_here","_law_top","_law_low","_law_rest"] ["_law_purse_here","_law_model","_law_holders","_law_book"] (mJ uV):=Ê
def vi(a:Y9):XS:=(Y3 (Y8 4 (xB (F' (j' 1) J') ny)) (Y3 (Y8 5 (x2 (j' 4) (V' 2 (mV a) (F' (j' 0) (F' (xB (F' (j' 4) J') å) J'))) Zk)) (Y3 (Y8 6 (x2 (x2 (j' 1) (j' 5) Zk) (xC (.int 0)) Zk)) (Y3 (Y8 7 (xB (F' (j' 6) J') ny)) (Y3 (Y8 8 (x2 (j' 7) (V' 2 (mV a) (F' (j' 0) (F' (xB (F' (j' 7) J') å) J'))) Zk)) (Y3 (Y8 9 (x2 (j' 2) (V' 2 (mV a) (F' (j' 0) (F' (xB (F' (j' 2) J') å) J'))) Zk)) (Y3 (Y8 10 (V' 2 (qL a) (F' (j' 0) (F' (x2 (j' 6) (j' 8) Zk) J')))) (Y3 (ÿ (ZI (x2 (x2 (j' 10) (xC (.int 1)) Zk) (x2 (xC (.int 10)) (xC (.int 29)) Ģ) fGe)) ϸ Z6) (Y3 (Ť (ł 5 (xm a) (j' 3) (F' (j' 5) (F' (j' 8) (F' (j' 9) (F' (j' 10) J')))))) (Y3 (ě (Gn (j' 6) (j' 8)) (Ô 2 (Zp (Y4 11) (Zp (Y4 12) Õ)))) (Y3 (Y8 13 (V' 2 (nO a) (F' (x2 (x2 (j' 11) (x2 (j' 10) (xC (.int 1)) Zk) Zy) (x2 (x2 (j' 10) (xC (.int 0)) Zk) (j' 12) Zy) ē) (F' (x2 (j' 12) (x2 (j' 10) (xC (.int 1)) Zk) Zy) J')))) (Y3 (ÿ (ZI (x2 (x2 (j' 13) (xC (.int 0)) Zk) (xC (.int 0)) fGt)) (Ł (j' 6) (j' 8) (j' 13)) Z6) (Y3 (ě (Ě (j' 6) (j' 9) (Ö (F' (xC (.int 0)) (F' (xC (.int 1)) J')))) (Ô 2 (Zp (Y4 11) (Zp (Y4 12) Õ)))) (Ł (j' 6) (j' 9) (V' 2 (nO a) (F' (x2 (x2 (j' 11) (x2 (j' 10) (xC (.int 1)) Zk) Zy) (x2 (x2 (j' 10) (xC (.int 0)) Zk) (j' 12) Zy) ZS) (F' (x2 (j' 12) (x2 (j' 10) (xC (.int 1)) Zk) Zy) J')))))))))))))))))
def rZ(a:Y9):XF:=(à 14 (vi a))
abbrev vo:Prop:=Fq "_law_sold" 5 ["_law_purse_here","_law_model","_law_holders","_law_book"] 4 rZ
def DK(c:Gf K "_law_sold" uV)(A0:vp)(A1:Ff)(A2:pR)(A3:o6):vo :=
 Ē c λT F=>ou F Dv rfl λ_ _ _ _ _ _ hr S=>(mG (mX 4 (nN (ZZ rfl) (mI (mC 1)))) (mG (mX 5 (mZ (mC 4) (nc A3 (mL (mC 0) (mI (nN á (mI (mC 4)))))))) (mG (mX 6 (mZ (mZ (mC 1) (mC 5)) mK)) (mG (mX 7 (nN (ZZ rfl) (mI (mC 6)))) (mG (mX 8 (mZ (mC 7) (nc A3 (mL (mC 0) (mI (nN á (mI (mC 7)))))))) (mG (mX 9 (mZ (mC 2) (nc A3 (mL (mC 0) (mI (nN á (mI (mC 2)))))))) (mG (mX 10 (nc A0 (mL (mC 0) (mI (mZ (mC 6) (mC 8)))))) (mG (pX (o4 Âx (mZ (mC 10) mK) (Cj mK mK)) (mO ON) nS) (mG (zi (ET (mC 3) A1 (mL (mC 5) (mL (mC 8) (mL (mC 9) (mI (mC 10))))))) (mG (Ch (O8 (mC 6) (mC 8)) (uH (nQ (nC 11) (nQ (nC 12) rK)))) (mG (mX 13 (nc A2 (mL (zx (nV (mC 11) (mZ (mC 10) mK)) (nV (mZ (mC 10) mK) (mC 12))) (mI (nV (mC 12) (mZ (mC 10) mK)))))) (mG (pX (o4 Qa (mZ (mC 13) mK) mK) (mO (Cg (mC 6) (mC 8) (mC 13))) nS) (mG (Ch (HF (mC 6) (mC 9) (qu (mL mK (mI mK)))) (uH (nQ (nC 11) (nQ (nC 12) rK)))) (mO (Cg (mC 6) (mC 9) (nc A2 (mL (oQ (nV (mC 11) (mZ (mC 10) mK)) (nV (mZ (mC 10) mK) (mC 12))) (mI (nV (mC 12) (mZ (mC 10) mK))))))))))))))))))))
abbrev tV:bX:=top 52
def BF:K' ["_law_purse_here","_law_most","_law_many","_law_count","_law_names_here","_law_book","_law_model","_law_name","_law_k","_law_owner","_law_three"] ["_law_purse_here","_law_most"] (mJ tV):=Ê
def uP(a:Y9) :XS:=(Ť (ł 2 (vK a) (j' 5) (F' (j' 7) J')))
def pZ(a:Y9) :XS:=(Y3 (Y8 9 (x2 (j' 4) (V' 2 (mV a) (F' (j' 0) (F' (x2 (j' 2) (j' 8) ZS) J'))) Zk)) (Y3 (Y8 10 (Ö (F' (V' 1 (oG a) (F' (j' 0) J')) (F' (V' 1 (oG a) (F' (j' 0) J')) (F' (xB (F' (V' 1 (oG a) (F' (j' 0) J')) J') ş) J'))))) (Y3 (Ť (ł 6 (yg a) (j' 5) (F' (x2 (j' 4) (x2 (j' 2) (j' 8) ZS) Zk) (F' (j' 9) (F' (x2 (j' 10) (xC (.int 0)) Zk) (F' (x2 (j' 10) (xC (.int 1)) Zk) (F' (x2 (j' 10) (xC (.int 2)) Zk) J'))))))) (Ł (j' 6) (x2 (j' 4) (x2 (j' 2) (j' 8) ZS) Zk) (ę (F' (Ϲ (j' 9) (Ö (F' (xC (.int 1)) (F' (xC (.int 1)) J')))) (F' (j' 10) J')))))))
def pY(a:Y9) :XS:=(Ť (V' 4 (rZ a) (F' (j' 0) (F' (j' 6) (F' (j' 4) (F' (j' 5) J'))))))
def wY(a:Y9):XS:=(Y3 (Y8 2 (x2 (xC (.int 1)) (V' 2 (mV a) (F' (j' 0) (F' (xC (.int 3)) J'))) ZS)) (Y3 (Y8 3 (V' 2 (mV a) (F' (j' 0) (F' (x2 (j' 1) (xC (.int 1)) ZS) J')))) (Y3 (Y8 4 (V' 2 (uk a) (F' (j' 0) (F' (x2 (j' 2) (j' 3) ZS) J')))) (Y3 (Y8 5 Àm) (Y3 (Y8 6 Àl) (Y3 (Ċ (ZL (xSl (j' 4) Ś (Č (j' 2)))) (Y4 7) (uP a)) (Y3 (Ċ (Ø (F' (j' 3) J')) (Y4 8) (pZ a)) (Y3 (ÿ (ZI (x2 (j' 3) (xC (.int 0)) fGt)) (Ċ (Ø (F' (V' 2 (mV a) (F' (j' 0) (F' (x2 (x2 (xC (.int 4)) (j' 3) Zy) (xC (.int 1)) ZS) J'))) J')) (Y4 8) (pY a)) Z6) (ZE (Ö (F' (j' 5) (F' (xB (F' (xSl (j' 4) Ś (Č (j' 2))) J') ny) (F' (j' 6) J')))))))))))))
def rb(a:Y9):XF:=(à 11 (wY a))
abbrev ug:Prop:=Fq "_law_built" 6 ["_law_purse_here","_law_most"] 2 rb
def B6(c:Gf K "_law_built" tV)(A0:o6)(A1:ud)(A2:Fg)(A3:Co)(A4:D7)(A5:sG)(A6:vo):ug :=
 Ē c λT F=>ou F BF rfl λ_ _ _ _ _ _ hr S=>(mG (mX 2 (oQ mK (nc A0 (mL (mC 0) (mI mK))))) (mG (mX 3 (nc A0 (mL (mC 0) (mI (oQ (mC 1) mK))))) (mG (mX 4 (nc A1 (mL (mC 0) (mI (oQ (mC 2) (mC 3)))))) (mG (mX 5 (Pa A2)) (mG (mX 6 O2) (mG (sD (rX (J5 (mC 4) As (Ar (mC 2)))) (nC 7) (mO (zi (ET (mC 5) A3 (mI (mC 7)))))) (mG (sD (qF (mI (mC 3))) (nC 8) (mG (mX 9 (mZ (mC 4) (nc A0 (mL (mC 0) (mI (oQ (mC 2) (mC 8))))))) (mG (mX 10 (qu (mL (nc A5 (mI (mC 0))) (mL (nc A5 (mI (mC 0))) (mI (nN Ĳ (mI (nc A5 (mI (mC 0)))))))))) (mG (zi (ET (mC 5) A4 (mL (mZ (mC 4) (oQ (mC 2) (mC 8))) (mL (mC 9) (mL (mZ (mC 10) mK) (mL (mZ (mC 10) mK) (mI (mZ (mC 10) mK)))))))) (mO (Cg (mC 6) (mZ (mC 4) (oQ (mC 2) (mC 8))) (wn (mL (O9 (mC 9) (qu (mL mK (mI mK)))) (mI (mC 10)))))))))) (mG (pX (o4 Qa (mC 3) mK) (mO (sD (qF (mI (nc A0 (mL (mC 0) (mI (oQ (nV mK (mC 3)) mK)))))) (nC 8) (mO (zi (nc A6 (mL (mC 0) (mL (mC 6) (mL (mC 4) (mI (mC 5)))))))))) nS) (mO (m9 (qu (mL (mC 5) (mL (nN (ZZ rfl) (mI (J5 (mC 4) As (Ar (mC 2))))) (mI (mC 6)))))))))))))))
end
section
variable{P:bT}{w:cy}{K:aa}{mg:Str->Option ai}{base:cg}{a:Y9}{f:ag}{fd:cT}
variable[Cq P w K mg base a]
structure Wy(K:aa)(mg:Str->Option ai)(a:Y9):Prop where
 c:ϥ K a.ZJ
 ŋ:Z9 K a.ZJ "bottom"
 Ŋ:Z9 K a.ZJ "top_of"
 g:mg "Ways"=Za (.ref a.ZJ)
 m:fU K a.ZJ=true
 k:bU K (.ref a.ZJ)=true
def gom(c:Gm K a.ZJ x q st)(W:Wy K mg a)(o:∀{f:ag}{fd:cT},Txt K mg a->ý K x q st f fd->ZA P w K mg base (Z' P w) k f fd ps sp)(b:Bd x q st ps:=by first|exact bd1|exact bd2|exact bd3|exact bd4|exact bd5|exact bd6|exact bd0):Mt P w K mg base a.ZJ x k ps sp:=Gm.mt W.c c (o Cq.Y.T) b
def gok(c:Gm K a.ZJ "__init__" q st)(W:Wy K mg a)(o:∀{f:ag}{fd:cT},Txt K mg a->ý K "__init__" q st f fd->ZA P w K mg base (Z' P w) k f fd ps sp)(b:Bd "__init__" q st ps:=by first|exact bd1|exact bd2|exact bd3|exact bd4|exact bd5|exact bd6|exact bd0):MkB P w K mg base "Ways" a.ZJ k ps sp :=
 let⟨f,fd,n,i,U⟩:=c.ex;⟨f,fd,o Cq.Y.T U,W.g,⟨W.m,n,i,W.k⟩,U.binds b⟩
abbrev A7:bX:=top 19
def IV:K' ["top","bottom","common"] ["top","bottom"] (mJ A7):=Ê
def Lo(a:Y9):XS:=(Y3 (Y8 2 (V' 2 (oi a) (F' (j' 0) (F' (j' 1) J')))) (ZE (Ö (F' (x2 (j' 0) (j' 2) Ą) (F' (x2 (j' 1) (j' 2) Ą) J')))))
def xM(a:Y9):XF:=(à 3 (Lo a))
abbrev Bm:Prop:=Fq "lowest" 2 ["top","bottom"] 2 xM
def Jk(c:Gf K "lowest" A7)(A0:sU):Bm :=
 Ē c λT F=>ou F IV rfl λ_ _ _ _ _ _ hr S=>(mG (mX 2 (nc A0 (mL (mC 0) (mI (mC 1))))) (mO (m9 (qu (mL (uI (mC 0) (mC 2)) (mI (uI (mC 1) (mC 2))))))))
abbrev yp:bX:=top 2
def GD:K' ["row","by","turn","former"] ["row","by","turn","former"] (mJ yp):=Ê
def JC(a:Y9):XS:=(ZE (p8 (LX (F' (j' 0) (F' (j' 1) J'))) [3,1,2,0] og (x2 (x2 (x2 (x2 (j' 3) (j' 4) Zk) (j' 0) Zy) (x2 (x2 (j' 5) (j' 4) Zk) (j' 1) Zy) ē) (j' 2) Ą)))
def tF(a:Y9):XF:=(à 4 (JC a))
abbrev yH:Prop:=Fq "cleared" 1 ["row","by","turn","former"] 4 tF
def GO(c:Gf K "cleared" yp)(ZN:mg "zip"=Zb):yH :=
 Ē c λT F=>ou F GD rfl λ_ _ _ _ _ _ hr S=>(mO (m9 (Bh (fr:=["former","by","turn","row"]) (MN (mL (mC 0) (mI (mC 1))) (hm:=ZN)) (λ_ _ _ _ _=>(uI (zx (nV (mZ (mC 3) (mC 4)) (mC 0)) (nV (mZ (mC 5) (mC 4)) (mC 1))) (mC 2))))))
abbrev AY:bX:=top 3
def IT:K' ["rows","bottom","now","turn","by"] ["rows"] (mJ AY):=Ê
def wP(a:Y9) :XS:=(Y3 (Y8 4 (x2 (j' 2) (j' 3) Zk)) (Y3 (Y8 2 (p8 (xn (F' (j' 2) J')) [3,4,1] og (ś (ZI (x2 (j' 0) (j' 2) Ĕ)) (j' 1) (V' 4 (tF a) (F' (j' 1) (F' (j' 3) (F' (j' 2) (F' (j' 4) J')))))))) (Y8 1 (x2 (j' 4) (j' 3) Zk))))
def Ln(a:Y9):XS:=(Y3 (Y8 1 (xC (.int 1))) (Y3 (Y8 2 (j' 0)) (Y3 (Ċ (Ø (F' (xB (F' (j' 0) J') å) J')) (Y4 3) (wP a)) (ZE (Ö (F' (pW (ZL (j' 2)) [0] og (xSl (j' 0) (Č (xB (F' (j' 1) J') å)) Ś)) (F' (j' 1) J')))))))
def xL(a:Y9):XF:=(à 5 (Ln a))
abbrev Bk:Prop:=Fq "solved" 2 ["rows"] 1 xL
def Jg(c:Gf K "solved" AY)(EN:mg "enumerate"=Zb)(A0:yH):Bk :=
 Ē c λT F=>ou F IT rfl λ_ _ _ _ _ _ hr S=>(mG (mX 1 mK) (mG (mX 2 (mC 0)) (mG (sD (qF (mI (nN á (mI (mC 0))))) (nC 3) (mG (mX 4 (mZ (mC 2) (mC 3))) (mG (yT (fr:=["turn","by","bottom"]) (Em (mI (mC 2)) rfl EN) (λ_ _ _ _ _=>(HE (o4 Dj (mC 0) (mC 2)) (mC 1) (nc A0 (mL (mC 1) (mL (mC 3) (mL (mC 2) (mI (mC 4))))))))) (mO (mX 1 (mZ (mC 4) (mC 3))))))) (mO (m9 (qu (mL (sT (fr:=["rows"]) (rX (mC 2)) (λ_ _ _ _ _=>(J5 (mC 0) (Ar (nN á (mI (mC 1)))) As))) (mI (mC 1)))))))))
abbrev qg:bX:=top 24
def wQ:K' ["book","house","group"] ["book","house","group"] (mJ qg):=Ê
def x6(a:Y9):XS:=(ZE (xB (F' (p8 (ZL (ł 2 (pA a) (j' 0) (F' (j' 1) J'))) [2] og (x2 (j' 0) (j' 2) fIn)) J') Àu))
def nL(a:Y9):XF:=(à 3 (x6 a))
abbrev pf:Prop:=Fq "is_held_within" 4 ["book","house","group"] 3 nL
def wS(c:Gf K "is_held_within" qg)(A0:wu):pf :=
 Ē c λT F=>ou F wQ rfl λ_ _ _ _ _ _ hr S=>(mO (m9 (nN (Ϝ rfl) (mI (Bh (fr:=["group"]) (rX (ET (mC 0) A0 (mI (mC 1)))) (λ_ _ _ _ _=>(Hd Âw (mC 0) (mC 2))))))))
abbrev qq:bX:=top 25
def uN:K' ["book","group","inside"] ["book"] (mJ qq):=Ê
def nF(a:Y9) :XS:=(Y3 (Y8 2 (pW (ZL (j' 1)) [0,1] (ZI (V' 3 (nL a) (F' (j' 1) (F' (j' 0) (F' (j' 2) J'))))) (j' 0))) (Y3 (ÿ (ZI (x2 (j' 2) (j' 1) Ĕ)) (ZE (j' 1)) Z6) (Y8 1 (j' 2))))
def Cd(a:Y9):XS:=(Y3 (Y8 1 (ł 1 (oI a) (j' 0) J')) (tG (ZI (xC (.bl true))) (nF a)))
def sJ(a:Y9):XF:=(à 3 (Cd a))
abbrev sF:Prop:=Fq "whole_group" 5 ["book"] 1 sJ
def zG(c:Gf K "whole_group" qq)(A0:pG)(A1:pf):sF :=
 Ē c λT F=>ou F uN rfl λ_ _ _ _ _ _ hr S=>(mG (mX 1 (xk (mC 0) A0)) (mO (xG (qU wM) (mG (wK (fr:=["book","group"]) (rX (mC 1)) (λ_ _ _ _ _=>(mC 0)) (λ_ _ _ _ _=>(xH (qU (nc A1 (mL (mC 1) (mL (mC 0) (mI (mC 2))))))))) (mG (pX (o4 Dj (mC 2) (mC 1)) (mO (m9 (mC 1))) nS) (mO (mX 1 (mC 2))))))))
abbrev oT:bX:=top 26
def sY:K' ["book","group"] ["book"] (mJ oT):=Ê
def uz(a:Y9):XS:=(Y3 (Y8 1 (V' 1 (sJ a) (F' (j' 0) J'))) (ÿ (ZI (x2 (j' 1) (ę J') Ş)) (HH a.Ñ (j' 1)) Z6))
def oj(a:Y9):XF:=(à 2 (uz a))
abbrev oU:Prop:=Fq "need_no_whole_group" 6 ["book"] 1 oj
def sZ(c:Gf K "need_no_whole_group" oT)(WH:Wh P w K mg base "Whole" a.Ñ 2)(A0:sF):oU :=
 Ē c λT F=>ou F sY rfl λ_ _ _ _ _ _ hr S=>(mG (mX 1 (nc A0 (mI (mC 0)))) (mO (pX (o4 Hg (mC 1) (wn zy)) (mO (JG WH (mC 1))) nS)))
abbrev M0:bX:=top 27
def Qw:K' ["shares","pieces","holder","share"] ["shares"] (mJ M0):=Ê
def x9(a:Y9) :XS:=(Y8 1 (x2 (j' 1) (x2 (x2 (j' 3) (xC (.int 1)) Zk) (V' 2 (oi a) (F' (j' 1) (F' (x2 (j' 3) (xC (.int 1)) Zk) J'))) Ą) Zy))
def PZ(a:Y9):XS:=(Y3 (Y8 1 (xC (.int 1))) (Y3 (Ċ (ZL (j' 0)) (Ô 2 (Zp (Y4 2) (Zp (Y4 3) Õ))) (x9 a)) (ZE (xB (F' (p8 (ZL (j' 0)) [1] og (Ö (F' (j' 0) (F' (x2 (x2 (j' 1) (xC (.int 0)) Zk) (x2 (j' 2) (x2 (j' 1) (xC (.int 1)) Zk) Ą) Zy) J')))) J') zh))))
def J7(a:Y9):XF:=(à 4 (PZ a))
abbrev Nh:Prop:=Fq "cut" 2 ["shares"] 1 J7
def Q3(c:Gf K "cut" M0)(DN:mg "dict"=Zb)(A0:sU):Nh :=
 Ē c λT F=>ou F Qw rfl λ_ _ _ _ _ _ hr S=>(mG (mX 1 mK) (mG (sD (rX (mC 0)) (uH (nQ (nC 2) (nQ (nC 3) rK))) (mO (mX 1 (nV (mC 1) (uI (mZ (mC 3) mK) (nc A0 (mL (mC 1) (mI (mZ (mC 3) mK))))))))) (mO (m9 (tu (EW rfl) (mI (Bh (fr:=["pieces"]) (rX (mC 0)) (λ_ _ _ _ _=>(qu (mL (mC 0) (mI (nV (mZ (mC 1) mK) (uI (mC 2) (mZ (mC 1) mK))))))))) (hm:=DN) (hv:=Ĥ))))))
abbrev yq:bX:=top 28
def GE:K' ["book"] ["book"] (mJ yq):=Ê
def JD(a:Y9):XS:=(ZE (xB (F' (pW (ZL (ł 1 (oI a) (j' 0) J')) [0] og (Ö (F' (j' 0) (F' (V' 1 (J7 a) (F' (ł 2 (pA a) (j' 1) (F' (j' 0) J')) J')) J')))) J') zh))
def yJ(a:Y9):XF:=(à 1 (JD a))
abbrev yI:Prop:=Fq "all_cut" 4 ["book"] 1 yJ
def GP(c:Gf K "all_cut" yq)(DN:mg "dict"=Zb)(A0:Nh)(A1:pG)(A2:wu):yI :=
 Ē c λT F=>ou F GE rfl λ_ _ _ _ _ _ hr S=>(mO (m9 (tu (EW rfl) (mI (sT (fr:=["book"]) (rX (xk (mC 0) A1)) (λ_ _ _ _ _=>(qu (mL (mC 0) (mI (nc A0 (mI (ET (mC 1) A2 (mI (mC 0))))))))))) (hm:=DN) (hv:=Ĥ))))
abbrev AZ:bX:=top 29
def IU:K' ["house","houses","pieces_of","row"] ["house","houses","pieces_of"] (mJ AZ):=Ê
def FO(a:Y9):XS:=(Y3 (Y8 3 (tH (ZL (j' 1)) [0,2] og (x1 (Ě (x2 (j' 2) (j' 0) Zk) (j' 1) (xC (.int 0))) Ϙ))) (Y3 (JT (j' 3) (Bo (j' 1) (F' (j' 0) J')) (F6 (x2 (j' 2) (j' 0) Zk))) (ZE (j' 3))))
def Bn(a:Y9):XF:=(à 4 (FO a))
abbrev Bl:Prop:=Fq "owning" 1 ["house","houses","pieces_of"] 3 Bn
def Jj(c:Gf K "owning" AZ)(SM:mg "sum"=Zb):Bl :=
 Ē c λT F=>ou F IU rfl λ_ _ _ _ _ _ hr S=>(mG (Fe (fr:=["house","pieces_of"]) (rX (mC 1)) (λ_ _ _ _ _=>(RD (HF (mZ (mC 2) (mC 0)) (mC 1) mK)))) (mG (OS (mC 3) (Ly (mC 1) (mI (mC 0))) (OZ (mZ (mC 2) (mC 0)) (hm:=SM))) (mO (m9 (mC 3)))))
abbrev uU:bX:=top 30
def Du:K' ["house","houses","pieces_of"] ["house","houses","pieces_of"] (mJ uU):=Ê
def Fc(a:Y9):XS:=(ZE (x2 (V' 3 (Bn a) (F' (j' 0) (F' (j' 1) (F' (j' 2) J')))) (pW (ZL (j' 1)) [0] og (ś (ZI (x2 (j' 0) (j' 1) Ĕ)) (xC (.int 1)) (xC (.int 0)))) ZS))
def rY(a:Y9):XF:=(à 3 (Fc a))
abbrev vn:Prop:=Fq "agreement" 2 ["house","houses","pieces_of"] 3 rY
def DJ(c:Gf K "agreement" uU)(A0:Bl):vn :=
 Ē c λT F=>ou F Du rfl λ_ _ _ _ _ _ hr S=>(mO (m9 (oQ (nc A0 (mL (mC 0) (mL (mC 1) (mI (mC 2))))) (sT (fr:=["house"]) (rX (mC 1)) (λ_ _ _ _ _=>(HE (o4 Dj (mC 0) (mC 1)) mK mK))))))
abbrev va:bX:=oJ (top 31) 0
def DB:K' ["self","book","houses","pieces_of","solution","place","house","holder","top","other","piece"] ["self","book"] (mJ va):=Ê
def pF(a:Y9) :XS:=(Pq 8 (x2 (Ě (x2 (j' 3) (j' 9) Zk) (j' 7) (xC (.int 0))) (x2 (j' 10) (j' 5) Zk) Zy))
def pE(a:Y9) :XS:=(Y3 (Y8 8 (ś (ZI (x2 (j' 7) (j' 6) Ĕ)) (Gh a.ZJ "bottom" (j' 0)) (xC (.int 0)))) (Y3 (Ċ (LX (F' (j' 2) (F' (x2 (j' 4) (xC (.int 0)) Zk) J'))) (Ô 2 (Zp (Y4 9) (Zp (Y4 10) Õ))) (pF a)) (JS (Gh a.ZJ "top_of" (j' 0)) (F' (j' 7) (F' (j' 6) J')) (j' 8))))
def qy(a:Y9) :XS:=(Ċ (ZL (x2 (ł 1 (tD a) (j' 1) J') (j' 2) ZS)) (Y4 7) (pE a))
def yS(a:Y9):XS:=(Y3 (Ť (V' 1 (oj a) (F' (j' 1) J'))) (Y3 (Y8 2 (ł 1 (oI a) (j' 1) J')) (Y3 (Y8 3 (V' 1 (yJ a) (F' (j' 1) J'))) (Y3 (Y8 4 (V' 1 (xL a) (F' (pW (ZL (j' 2)) [2,3] og (V' 3 (rY a) (F' (j' 0) (F' (j' 1) (F' (j' 2) J'))))) J'))) (Y3 (F7 a.ZJ "bottom" (j' 0) (x2 (j' 4) (xC (.int 1)) Zk)) (Y3 (F7 a.ZJ "top_of" (j' 0) Po) (Ċ (xn (F' (j' 2) J')) (Ô 2 (Zp (Y4 5) (Zp (Y4 6) Õ))) (qy a))))))))
def sd(a:Y9):XF:=(à 11 (yS a))
abbrev vt[Cq P w K mg base a]:Prop:=MkB P w K mg base "Ways" a.ZJ 7 ["self","book"] (Ķ K a.Zo 2 (sd a))
def DU(WY:Wy K mg a)(c:Gm K a.ZJ "__init__" "Ways.__init__" va)(EN:mg "enumerate"=Zb)(ZN:mg "zip"=Zb)(A0:oU)(A1:pG)(A2:yI)(A3:Bk)(A4:vn)(A5:zP):vt :=
 gok c WY λT F=>ou F DB rfl λ_ _ _ _ _ _ hr S=>(mG (zi (nc A0 (mI (mC 1)))) (mG (mX 2 (xk (mC 1) A1)) (mG (mX 3 (nc A2 (mI (mC 1)))) (mG (mX 4 (nc A3 (mI (sT (fr:=["houses","pieces_of"]) (rX (mC 2)) (λ_ _ _ _ _=>(nc A4 (mL (mC 0) (mL (mC 1) (mI (mC 2)))))))))) (mG (MM (mC 0) (mZ (mC 4) mK) WY.c WY.ŋ) (mG (MM (mC 0) O1 WY.c WY.Ŋ) (mO (sD (Em (mI (mC 2)) rfl EN) (uH (nQ (nC 5) (nQ (nC 6) rK))) (mO (sD (rX (oQ (xk (mC 1) A5) (mC 2))) (nC 7) (mG (mX 8 (HE (o4 Dj (mC 7) (mC 6)) (ES (mC 0) WY.c WY.ŋ) mK)) (mG (sD (MN (mL (mC 2) (mI (mZ (mC 4) mK))) (hm:=ZN)) (uH (nQ (nC 9) (nQ (nC 10) rK))) (mO (Ry 8 (nV (HF (mZ (mC 3) (mC 9)) (mC 7) mK) (mZ (mC 10) (mC 5)))))) (mO (OO (ES (mC 0) WY.c WY.Ŋ) (mL (mC 7) (mI (mC 6))) (mC 8)))))))))))))))
abbrev si:bX:=oJ (top 31) 1
def zC:K' ["self","holder","things"] ["self","holder","things"] (mJ si):=Ê
def Ce(a:Y9):XS:=(ZE (xB (F' (pW (ů (j' 2)) [2,0,1] og (x2 (Nj (Gh a.ZJ "top_of" (j' 2)) (F' (j' 3) (F' (j' 0) J'))) (x2 (j' 1) (j' 0) Zk) Zy)) J') P4))
def qA(a:Y9):XF:=(à 3 (Ce a))
abbrev sH:Prop:=Mq Y9.ZJ "top_by" 1 ["self","holder","things"] 3 qA
def zJ(WY:Wy K mg a)(c:Gm K a.ZJ "top_by" "Ways.top_by" si)(SM:mg "sum"=Zb):sH :=
 gom c WY λT F=>ou F zC rfl λ_ _ _ _ _ _ hr S=>(mO (m9 (nN (Ây rfl) (mI (sT (fr:=["things","self","holder"]) (OU (mC 2)) (λ_ _ _ _ _=>(nV (RE (ES (mC 2) WY.c WY.Ŋ) (mL (mC 3) (mI (mC 0)))) (mZ (mC 1) (mC 0)))))) (hm:=SM) (hv:=MS))))
abbrev sj:bX:=oJ (top 31) 2
def zD:K' ["self","holders","things"] ["self","holders","things"] (mJ sj):=Ê
def wl(a:Y9):XS:=(ZE (tH (ZL (j' 1)) [2,0] og (Ö (F' (j' 0) (F' (V' 2 (xM a) (F' (xOM a.ZJ "top_by" 3 (qA a) (j' 2) (F' (j' 0) (F' (j' 1) J'))) (F' (Gh a.ZJ "bottom" (j' 2)) J'))) J')))))
def sK(a:Y9):XF:=(à 3 (wl a))
abbrev sI:Prop:=Mq Y9.ZJ "all_by" 3 ["self","holders","things"] 3 sK
def zK(WY:Wy K mg a)(c:Gm K a.ZJ "all_by" "Ways.all_by" sj)(A0:Bm)(A1:sH):sI :=
 gom c WY λT F=>ou F zD rfl λ_ _ _ _ _ _ hr S=>(mO (m9 (LD (fr:=["things","self"]) (rX (mC 1)) (λ_ _ _ _ _=>(qu (mL (mC 0) (mI (nc A0 (mL (P6 (mC 2) A1 (mL (mC 0) (mI (mC 1)))) (mI (ES (mC 2) WY.c WY.ŋ)))))))))))
abbrev tN:bX:=top 32
def Bv:K' ["book"] ["book"] (mJ tN):=Ê
def DX(a:Y9):XS:=(ZE (xB (F' (pW (ZL (ł 1 (oI a) (j' 0) J')) [0] og (Ö (F' (j' 0) (F' (x2 (ł 2 (MX a) (j' 1) (F' (j' 0) J')) (xC (.int 0)) Zk) J')))) J') zh))
def uh(a:Y9):XF:=(à 1 (DX a))
abbrev t5:Prop:=Fq "own_things" 4 ["book"] 1 uh
def BQ(c:Gf K "own_things" tN)(DN:mg "dict"=Zb)(A0:pG)(A1:JR):t5 :=
 Ē c λT F=>ou F Bv rfl λ_ _ _ _ _ _ hr S=>(mO (m9 (tu (EW rfl) (mI (sT (fr:=["book"]) (rX (xk (mC 0) A0)) (λ_ _ _ _ _=>(qu (mL (mC 0) (mI (mZ (ET (mC 1) A1 (mI (mC 0))) mK))))))) (hm:=DN) (hv:=Ĥ))))
abbrev AX:bX:=top 33
def IS:K' ["book"] ["book"] (mJ AX):=Ê
def Lm(a:Y9):XS:=(ZE (xOM a.ZJ "all_by" 3 (sK a) (xMk a.ZJ 2 (sd a) (F' (j' 0) J')) (F' (ł 1 (oI a) (j' 0) J') (F' (V' 1 (uh a) (F' (j' 0) J')) J'))))
def rS(a:Y9):XF:=(à 1 (Lm a))
abbrev xK:Prop:=Fq "worths" 9 ["book"] 1 rS
def Jf(c:Gf K "worths" AX)(A0:sI)(A1:pG)(A2:t5)(A3:vt):xK :=
 Ē c λT F=>ou F IS rfl λ_ _ _ _ _ _ hr S=>(mO (m9 (P6 (Âr A3 (mI (mC 0))) A0 (mL (xk (mC 0) A1) (mI (nc A2 (mI (mC 0))))))))
end
section
variable{P:bT}{w:cy}{K:aa}{mg:Str->Option ai}{base:cg}{a:Y9}{f:ag}{fd:cT}
variable[Cq P w K mg base a]
def nz(a:Y9) :XS:=(Y3 (Y8 2 (vT (j' 1) [0,1] (ZI (V' 3 (nL a) (F' (j' 1) (F' (j' 0) (F' (j' 2) J'))))) (j' 0))) (Y3 (ÿ (ZI (x2 (j' 2) (j' 1) Ĕ)) (ZE (j' 1)) Z6) (Y8 1 (j' 2))))
def zN(a:Y9):XS:=(Y3 (Y8 1 (ł 1 (tE a) (j' 0) J')) (tG (ZI (xC (.bl true))) (nz a)))
def oM(a:Y9):XF:=(à 3 (zN a))
abbrev rB:Prop:=Fq "whole_group" 5 ["book"] 1 oM
def za(c:Gf K "whole_group" qq)(AC:Mt P w K mg base a.Zo "houses" 1 ["self"] (Ķ K a.Zo 1 (tE a)))(A1:pf):rB :=
 Ē c λT F=>ou F uN rfl λ_ _ _ _ _ _ hr S=>(mG (mX 1 (xk (mC 0) AC)) (mO (xG (qU wM) (mG (D3 (fr:=["book","group"]) (mC 1) (λ_ _ _ _ _=>(mC 0)) (λ_ _ _ _ _=>(xH (qU (nc A1 (mL (mC 1) (mL (mC 0) (mI (mC 2))))))))) (mG (pX (o4 Dj (mC 2) (mC 1)) (mO (m9 (mC 1))) nS) (mO (mX 1 (mC 2))))))))
abbrev tO:bX:=top 47
def Bw:K' ["_law_found"] ["_law_found"] (mJ tO):=Ê
def DY(a:Y9):XS:=(ZE (ı (þ .int (j' 0)) (Àk (þ .bool (j' 0)))))
def qY(a:Y9):XF:=(à 1 (DY a))
abbrev t7:Prop:=Fq "_law_whole" 1 ["_law_found"] 1 qY
def BS(c:Gf K "_law_whole" tO):t7 :=
 Ē c λT F=>ou F Bw rfl λ_ _ _ _ _ _ hr S=>(mO (m9 (EU (wo _ (mC 0)) (HD (RC (wo _ (mC 0)))))))
abbrev tU:bX:=top 53
def BE:K' ["_law_model","_law_group_here","_law_kept"] ["_law_model"] (mJ tU):=Ê
def nJ(a:Y9) :XS:=(Y3 (ÿ (ZI (x2 (j' 2) (xC .Zn) Ũ)) (Y8 1 (j' 2)) Z6) (Y8 2 (pW (ZL (j' 1)) [1,0] (ZI (x2 (w4 (x2 (x2 (j' 2) (j' 0) Zk) (xC (.int 0)) Zk) [1] (ZI (x2 (j' 0) (j' 1) zw)) (j' 0)) (ę J') Ĕ)) (j' 0))))
def D2(a:Y9):XS:=(Y3 (Y8 1 (xB (F' (j' 0) J') ny)) (Y3 (Y8 2 (xC .Zn)) (Y3 (tG (ZI (x2 (j' 2) (j' 1) Ş)) (nJ a)) (ZE (j' 1)))))
def ra(a:Y9):XF:=(à 3 (D2 a))
abbrev uf:Prop:=Fq "_law_group" 1 ["_law_model"] 1 ra
def BZ(c:Gf K "_law_group" tU):uf :=
 Ē c λT F=>ou F BE rfl λ_ _ _ _ _ _ hr S=>(mG (mX 1 (nN (ZZ rfl) (mI (mC 0)))) (mG (mX 2 EQ) (mG (xG (o4 Hg (mC 2) (mC 1)) (mG (pX (o4 RI (mC 2) EQ) (mO (mX 1 (mC 2))) nS) (mO (wK (fr:=["_law_group_here","_law_model"]) (rX (mC 1)) (λ_ _ _ _ _=>(mC 0)) (λ_ _ _ _ _=>(xH (o4 Dj (LC (fr:=["_law_group_here"]) (S:=⟨rfl,Zf rfl,rfl,Zf rfl,Zf rfl,by decide,Zf rfl,Zf rfl,rfl⟩) (mZ (mZ (mC 2) (mC 0)) mK) (λ_ _ _ _ _=>(mC 0)) (λ_ _ _ _ _=>(xH (o4 Pf (mC 0) (mC 1))))) (wn zy)))))))) (mO (m9 (mC 1))))))
abbrev wC:bX:=top 54
def E3:K' ["_law_some","_law_top","_law_low","_law_number_here"] ["_law_some"] (mJ wC):=Ê
def t4(a:Y9) :XS:=(ě (V' 2 (nO a) (F' (x2 (x2 (j' 1) (x2 (j' 3) (xC (.int 1)) Zk) Zy) (x2 (x2 (j' 3) (xC (.int 0)) Zk) (j' 2) Zy) ZS) (F' (x2 (j' 2) (x2 (j' 3) (xC (.int 1)) Zk) Zy) J'))) (Ô 2 (Zp (Y4 1) (Zp (Y4 2) Õ))))
def G9(a:Y9):XS:=(Y3 (ě (Ö (F' (xC (.int 0)) (F' (xC (.int 1)) J'))) (Ô 2 (Zp (Y4 1) (Zp (Y4 2) Õ)))) (Y3 (Ċ (ZL (j' 0)) (Y4 3) (t4 a)) (ZE (Ö (F' (j' 1) (F' (j' 2) J'))))))
def rO(a:Y9):XF:=(à 4 (G9 a))
abbrev ux:Prop:=Fq "_law_sum" 3 ["_law_some"] 1 rO
def E8(c:Gf K "_law_sum" wC)(A0:pR):ux :=
 Ē c λT F=>ou F E3 rfl λ_ _ _ _ _ _ hr S=>(mG (Ch (qu (mL mK (mI mK))) (uH (nQ (nC 1) (nQ (nC 2) rK)))) (mG (sD (rX (mC 0)) (nC 3) (mO (Ch (nc A0 (mL (oQ (nV (mC 1) (mZ (mC 3) mK)) (nV (mZ (mC 3) mK) (mC 2))) (mI (nV (mC 2) (mZ (mC 3) mK))))) (uH (nQ (nC 1) (nQ (nC 2) rK)))))) (mO (m9 (qu (mL (mC 1) (mI (mC 2))))))))
abbrev tP:bX:=top 55
def Bx:K' ["_law_one","_law_other"] ["_law_one","_law_other"] (mJ tP):=Ê
def DZ(a:Y9):XS:=(ZE (V' 2 (nO a) (F' (x2 (x2 (j' 0) (xC (.int 0)) Zk) (x2 (j' 1) (xC (.int 0)) Zk) Zy) (F' (x2 (x2 (j' 0) (xC (.int 1)) Zk) (x2 (j' 1) (xC (.int 1)) Zk) Zy) J'))))
def uj(a:Y9):XF:=(à 2 (DZ a))
abbrev t9:Prop:=Fq "_law_times" 3 ["_law_one","_law_other"] 2 uj
def BU(c:Gf K "_law_times" tP)(A0:pR):t9 :=
 Ē c λT F=>ou F Bx rfl λ_ _ _ _ _ _ hr S=>(mO (m9 (nc A0 (mL (nV (mZ (mC 0) mK) (mZ (mC 1) mK)) (mI (nV (mZ (mC 0) mK) (mZ (mC 1) mK)))))))
abbrev uY:bX:=top 56
def Dy:K' ["_law_model","_law_holder","_law_by","_law_some","_law_house"] ["_law_model","_law_holder","_law_by"] (mJ uY):=Ê
def oV(a:Y9) :XS:=(ÿ (ZI (x2 (j' 1) (x2 (x2 (j' 0) (j' 4) Zk) (xC (.int 0)) Zk) fIn)) (Ť (Á (j' 3) (F' (V' 2 (uj a) (F' (x2 (x2 (x2 (j' 0) (j' 4) Zk) (xC (.int 0)) Zk) (j' 1) Zk) (F' (x2 (j' 2) (j' 4) Zk) J'))) J'))) Z6)
def yR(a:Y9):XS:=(Y3 (Y8 3 (Ţ J')) (Y3 (F9 0 (Y4 4) (oV a)) (ZE (V' 1 (rO a) (F' (ϓ (j' 3)) J')))))
def vv(a:Y9):XF:=(à 5 (yR a))
abbrev vq:Prop:=Fq "_law_held" 4 ["_law_model","_law_holder","_law_by"] 3 vv
def DQ(c:Gf K "_law_held" uY)(A0:ux)(A1:t9):vq :=
 Ē c λT F=>ou F Dy rfl λ_ _ _ _ _ _ hr S=>(mG (mX 3 (Ax zy)) (mG (OP 0 (nC 4) (mO (pX (o4 Âw (mC 1) (mZ (mZ (mC 0) (mC 4)) mK)) (mO (zi (vP (mC 3) (mI (nc A1 (mL (mZ (mZ (mZ (mC 0) (mC 4)) mK) (mC 1)) (mI (mZ (mC 2) (mC 4))))))))) nS))) (mO (m9 (nc A0 (mI (MP (mC 3))))))))
abbrev pH:bX:=top 57
def vx:K' ["_law_found"] ["_law_found"] (mJ pH):=Ê
def wx(a:Y9):XS:=(Y3 (ÿ (xOr (Ĩ (ZI (þ .tuple (j' 0)))) (xOr (ZI (x2 (xB (F' (j' 0) J') å) (xC (.int 2)) Ş)) (xOr (Ĩ (ZI (V' 1 (qY a) (F' (x2 (j' 0) (xC (.int 0)) Zk) J')))) (Ĩ (ZI (V' 1 (qY a) (F' (x2 (j' 0) (xC (.int 1)) Zk) J'))))))) (ZE (xC (.bl false))) Z6) (ZE (ı (x2 (x2 (j' 0) (xC (.int 1)) Zk) (xC (.int 0)) fGt) (x2 (V' 2 (oO a) (F' (x2 (j' 0) (xC (.int 0)) Zk) (F' (x2 (j' 0) (xC (.int 1)) Zk) J'))) (xC (.int 1)) Ĕ))))
def pK(a:Y9):XF:=(à 1 (wx a))
abbrev pJ:Prop:=Fq "_law_is_fraction" 2 ["_law_found"] 1 pK
def vB(c:Gf K "_law_is_fraction" pH)(A0:t7)(A1:p4):pJ :=
 Ē c λT F=>ou F vx rfl λ_ _ _ _ _ _ hr S=>(mG (pX (DW.dt (Cv (wm (qU (wo _ (mC 0)))) (Cv (o4 Hg (nN á (mI (mC 0))) mK) (Cv (wm (qU (nc A0 (mI (mZ (mC 0) mK))))) (EJ (wm (qU (nc A0 (mI (mZ (mC 0) mK)))))))))) (mO (m9 wM)) nS) (mO (m9 (EU (Hd Qa (mZ (mC 0) mK) mK) (HD (Hd Dj (nc A1 (mL (mZ (mC 0) mK) (mI (mZ (mC 0) mK)))) mK))))))
abbrev rg:bX:=top 58
def y7:K' ["_law_book","_law_group_here","_law_caught","e"] ["_law_book","_law_group_here"] (mJ rg):=Ê
def zO(a:Y9):XS:=(Y3 (Y8 2 (xC .Zn)) (Y3 (Ni 3 a.cl (Ť (Bq 1 (rS a) (F' (j' 0) J'))) (Y8 2 (j' 3))) (Y3 (ÿ (ZI (yZ a.cl (λ_=>false) (j' 2))) (ZE (xC (.bl false))) Z6) (ZE (ı (yZ a.cl (λc=>decide (c=a.Ñ)) (j' 2)) (ı (yZ a.cl (λ_=>true) (j' 2)) (x2 (Ág a.Ñ (j' 2)) (j' 1) Ĕ)))))))
def rD(a:Y9):XF:=(à 4 (zO a))
abbrev rC:Prop:=Fq "_law_refused" 10 ["_law_book","_law_group_here"] 2 rD
def zc(c:Gf K "_law_refused" rg)(T2:T2w K a)(A0:xK):rC :=
 Ē c λT F=>ou F y7 rfl λ_ _ _ _ _ _ hr S=>(mG (mX 2 EQ) (mG (Rw rfl rfl rfl rfl (Rv (RA A0 (mI (mC 0)))) rfl T.ŏ T.ϧ.cb T2.tr S.nd rfl rfl (λ_=>(mO (mX 2 (mC 3))))) (mG (pX (qU (Lx (mC 2) (sP T.Ő (sP T.ū (sP T.Ϛ (sP T.ϙ (sP T.Ū (sP T.Àx (sP T.ĭ (sP T.Àc E5)))))))) T2.ka T2.na)) (mO (m9 wM)) nS) (mO (m9 (EU (O5 rfl T.Ó (mC 2) rfl T.ÀQ T2.k_Whole T2.ļ `d) (EU (O6 rfl T.Ó (mC 2) rfl T.ſ Cn T2.kv T2.nv) (HD (Hd Dj (RF T2.gc (mC 2)) (mC 1))))))))))
abbrev tQ:bX:=top 59
def Bz:K' ["_law_found","_law_model","_law_one","_law_by","_law_house"] ["_law_found","_law_model"] (mJ tQ):=Ê
def rn(a:Y9) :XS:=(ÿ (xOr (Ĩ (ZI (þ .tuple (j' 2)))) (xOr (ZI (x2 (xB (F' (j' 2) J') å) (xC (.int 2)) Ş)) (Ĩ (ZI (V' 1 (pK a) (F' (x2 (j' 2) (xC (.int 1)) Zk) J')))))) (ZE (xC (.bl false))) Z6)
def rm(a:Y9) :XS:=(ÿ (ZI (x2 (x2 (j' 3) (j' 4) Zk) (V' 1 (rO a) (F' (ę (F' (Ö (F' (x2 (x2 (x2 (j' 1) (j' 4) Zk) (xC (.int 1)) Zk) (xC (.int 0)) Zk) (F' (xC (.int 1)) J'))) (F' (V' 3 (vv a) (F' (j' 1) (F' (j' 4) (F' (j' 3) J')))) J'))) J')) Ş)) (ZE (xC (.bl false))) Z6)
def wW(a:Y9):XS:=(Y3 (ÿ (xOr (Ĩ (ZI (þ .list (j' 0)))) (ZI (x2 (Bp (j' 0) [] og (x2 (j' 0) (xC (.int 0)) Zk)) (xB (F' (j' 1) J') ny) Ş))) (ZE (xC (.bl false))) Z6) (Y3 (Ge (j' 0) (Y4 2) (rn a)) (Y3 (Y8 3 (xB (F' (j' 0) J') zh)) (Y3 (Gg 1 (Y4 4) (rm a)) (ZE (xC (.bl true)))))))
def p7(a:Y9):XF:=(à 5 (wW a))
abbrev ua:Prop:=Fq "_law_right" 5 ["_law_found","_law_model"] 2 p7
def BV(c:Gf K "_law_right" tQ)(DN:mg "dict"=Zb)(A0:ux)(A1:pJ)(A2:vq):ua :=
 Ē c λT F=>ou F Bz rfl λ_ _ _ _ _ _ hr S=>(mG (pX (DW.dt (Cv (wm (qU (wo _ (mC 0)))) (EJ (o4 Hg (LA (fr:=[]) (mC 0) (λ_ _ _ _ _=>(mZ (mC 0) mK))) (nN (ZZ rfl) (mI (mC 1))))))) (mO (m9 wM)) nS) (mG (OQ (mC 0) (nC 2) (mO (pX (DW.dt (Cv (wm (qU (wo _ (mC 2)))) (Cv (o4 Hg (nN á (mI (mC 2))) mK) (EJ (wm (qU (nc A1 (mI (mZ (mC 2) mK))))))))) (mO (m9 wM)) nS))) (mG (mX 3 (tu (EW rfl) (mI (mC 0)) (hm:=DN) (hv:=Ĥ))) (mG (OR 1 (nC 4) (mO (pX (o4 Hg (mZ (mC 3) (mC 4)) (nc A0 (mI (wn (mL (qu (mL (mZ (mZ (mZ (mC 1) (mC 4)) mK) mK) (mI mK))) (mI (nc A2 (mL (mC 1) (mL (mC 4) (mI (mC 3))))))))))) (mO (m9 wM)) nS))) (mO (m9 wM))))))
abbrev MZ:bX:=top 60
def Qv:K' ["_law_script","_law_purse_here","_law_book","_law_persons","_law_model","_law_group_here","_law_told","_law_found"] ["_law_script"] (mJ MZ):=Ê
def J2(a:Y9):XS:=(Y3 (Y8 1 (V' 1 (pj a) (F' (j' 0) J'))) (Y3 (ě (V' 2 (rb a) (F' (j' 1) (F' (xC (.int 6)) J'))) (Ô 3 (Zp (Y4 2) (Zp (Y4 3) (Zp (Y4 4) Õ))))) (Y3 (Y8 5 (V' 1 (ra a) (F' (j' 4) J'))) (Y3 (Y8 6 (V' 1 (oM a) (F' (j' 2) J'))) (Y3 (ÿ (xOr (Ĩ (ZI (þ .list (j' 6)))) (ZI (x2 (j' 6) (j' 5) Ş))) (ZE (xC (.bl false))) Z6) (Y3 (Ť (Á (j' 6) (F' (xC (.str "zz")) J'))) (Y3 (ÿ (ZI (x2 (V' 1 (oM a) (F' (j' 2) J')) (j' 5) Ş)) (ZE (xC (.bl false))) Z6) (Y3 (ÿ (ZI (x2 (j' 5) (ę J') Ş)) (ZE (V' 2 (rD a) (F' (j' 2) (F' (j' 5) J')))) Z6) (Y3 (Y8 7 (V' 1 (rS a) (F' (j' 2) J'))) (Y3 (ÿ (Ĩ (ZI (V' 2 (p7 a) (F' (j' 7) (F' (j' 4) J'))))) (ZE (xC (.bl false))) Z6) (Y3 (Ť (Á (j' 7) (F' (xC .Zn) J'))) (ZE (V' 2 (p7 a) (F' (V' 1 (rS a) (F' (j' 2) J')) (F' (j' 4) J')))))))))))))))
def Cy(a:Y9):XF:=(à 8 (J2 a))
def Q0(T:Txt K mg a)(F:ý K "law" "law" MZ f fd)(A0:uc)(A1:ug)(A2:uf)(A3:rB)(A4:xK)(A5:ua)(A6:rC):ZA P w K mg base (Z' P w) 11 f fd ["_law_script"] (Ķ K a.Zo 1 (Cy a)) :=
 ou F Qv rfl λ_ _ _ _ _ _ hr S=>(mG (mX 1 (nc A0 (mI (mC 0)))) (mG (Ch (nc A1 (mL (mC 1) (mI mK))) (uH (nQ (nC 2) (nQ (nC 3) (nQ (nC 4) rK))))) (mG (mX 5 (nc A2 (mI (mC 4)))) (mG (mX 6 (nc A3 (mI (mC 2)))) (mG (pX (DW.dt (Cv (wm (qU (wo _ (mC 6)))) (EJ (o4 Hg (mC 6) (mC 5))))) (mO (m9 wM)) nS) (mG (zi (vP (mC 6) (mI EO))) (mG (pX (o4 Hg (nc A3 (mI (mC 2))) (mC 5)) (mO (m9 wM)) nS) (mG (pX (o4 Hg (mC 5) (wn zy)) (mO (m9 (nc A6 (mL (mC 2) (mI (mC 5)))))) nS) (mG (mX 7 (nc A4 (mI (mC 2)))) (mG (pX (wm (qU (nc A5 (mL (mC 7) (mI (mC 4)))))) (mO (m9 wM)) nS) (mG (zi (vP (mC 7) (mI EQ))) (mO (m9 (nc A5 (mL (nc A4 (mI (mC 2))) (mI (mC 4)))))))))))))))))
end
def Sm(x:Str):Prop:=x.length<=9/\∀c∈x.cps.toList,c<128
def Sm.nm{x}(h:Sm x):Nm x:=⟨aC h.1 (Zf rfl),λc hc=>ip (h.2 c hc) (Zf rfl)⟩
def K8(x:Str):x.length=x.cps.toList.length:=by show x.cps.size=_;simp
def Bj(x y:Str):(x++y).cps.toList=x.cps.toList++y.cps.toList:=PyProof.Rows.cps_toList_append x y
def Oj:∀j,j<26->(b5 "abcdefghijklmnopqrstuvwxyz").cps.toList[j]?=Za (97+j):=by decide +kernel
def Re{i}(h0:0<=i)(h1:i<26):ü (b5 "abcdefghijklmnopqrstuvwxyz").cps.toList i=Za (97+i.toNat):=by
 have e:i=(i.toNat:Int):=by lia
 have:=nT (Oj i.toNat `l);rw[<-e] at this;exact this
def Kl{ys:List Str}(h:∀y∈ys,y.length<=1):(ys.map (·.length)).sum<=ys.length:=by
 induction ys with
 |nil=>exact ak _
 |cons y r ih =>
  have:=ih λz hz=>h z (af _ hz);have:=h y al;simp[am,fY,bu];lia
structure FrB(k:Nat)(v:Int)(q:Int×Int):Prop where
 low:ħ q
 nn:0<=q.1
 le:q.1<=v*q.2
 bb:Bt k q.2
def NJ{q}(h:0<q.2):(red q).2∣q.2:=by obtain⟨v,hv⟩:(aI q.1 q.2:Int)∣q.2:=b8 ..;have hg:0<aI q.1 q.2:=bw _ `l;refine⟨(aI q.1 q.2:Int),?_⟩;unfold red;simp only;rw[Int.ediv_mul_cancel (b8 ..)]
def xJ{p q}(hp:0<p.2)(hq:0<q.2):(oS p q).1*(p.2*q.2)=(p.1*q.2+q.1*p.2)*(oS p q).2:=(uA (q:=(p.1*q.2+q.1*p.2,p.2*q.2)) (br hp hq)).2
def IH{k l}{p q}(hp:0<p.2)(hq:0<q.2)(bp:Bt k p.2)(bq:Bt l q.2):Bt (k+l) (oS p q).2 :=
 (bp.mul bq).dvd (Int.ne_of_gt (br hp hq)) (NJ (q:=(p.1*q.2+q.1*p.2,p.2*q.2)) (br hp hq))
def vN{a b d:Int}(hd:0<d)(h:a*d<=b*d):a<=b:=kn h hd
def zS{k:Nat}{v:Int}{g q:Int×Int}(hg:FrB k v g)(hq:ħ q)(q0:0<q.1)(h:q.1*g.2<=g.1*q.2)(bq:Bt 97 q.2):FrB (k+97) v (oS g (-q.1,q.2)):=by
 have g0:=hg.low.1;have p0:=hq.1;have lq:ħ (-q.1,q.2):=⟨hq.1,by have:=hq.2;unfold ř aI at *;simp[iT];exact this⟩;have lo:=F3 hg.low lq;have D0:0<g.2*q.2:=br g0 p0;have ev:=xJ (p:=g) (q:=(-q.1,q.2)) g0 p0;simp only at ev;generalize hr:oS g (-q.1,q.2)=r at *;have r0:=lo.1;refine⟨lo,?_,?_,?_⟩
 .apply vN D0;rw[ev,Int.zero_mul];refine iV ?_ (bx r0);rw[jI];lia
 .apply vN D0;rw[ev];have h1:g.1*q.2+-q.1*g.2<=v*g.2*q.2:=by have a1:g.1*q.2<=v*g.2*q.2:=aS hg.le (bx p0);have a2:0<=q.1*g.2:=iV (bx q0) (bx g0);rw[jI];lia
  have h2:=aS h1 (bx r0);have e:v*g.2*q.2*r.2=v*r.2*(g.2*q.2):=by simp[bc,fJ,bR]
  rw[<-e];exact h2
 .rw[<-hr];exact IH g0 p0 hg.bb bq
def Pk{k:Nat}{v:Int}{g q:Int×Int}(hg:FrB k v g)(hq:ħ q)(q0:0<q.1)(h:q.1<=v*q.2)(bq:Bt 97 q.2):FrB (k+97) (2*v) (oS g q)/\0<(oS g q).1:=by
 have g0:=hg.low.1;have p0:=hq.1;have lo:=F3 hg.low hq;have D0:0<g.2*q.2:=br g0 p0;have ev:=xJ (p:=g) (q:=q) g0 p0;have bt:=IH (p:=g) (q:=q) g0 p0 hg.bb bq;generalize hr:oS g q=r at *;have r0:=lo.1;have pos:0<r.1:=by
  have a1:0<=g.1*q.2:=iV hg.nn (bx p0);have a2:0<q.1*g.2:=br q0 g0;have a3:0<(g.1*q.2+q.1*g.2)*r.2:=br `l r0;rw[<-ev] at a3;by_cases z:0<r.1
  .exact z
  .have:=je (show r.1<=0 by lia) (bx D0);lia
 refine⟨⟨lo,bx pos,?_,bt⟩,pos⟩;apply vN D0;rw[ev];have h1:g.1*q.2+q.1*g.2<=2*v*g.2*q.2:=by
  have a1:g.1*q.2<=v*g.2*q.2:=aS hg.le (bx p0);have a2:q.1*g.2<=v*q.2*g.2:=aS h (bx g0);have e1:v*q.2*g.2=v*g.2*q.2:=ft ..;have e2:2*v*g.2*q.2=2*(v*g.2*q.2):=by rw[bc 2,bc 2]
  rw[e2];lia
 have h2:=aS h1 (bx r0);have e:2*v*g.2*q.2*r.2=2*v*r.2*(g.2*q.2):=by simp[bc,fJ,bR]
 rw[<-e];exact h2
def Ic{k:Nat}{v:Int}{g q:Int×Int}(hg:FrB k v g)(hq:ħ q)(h:q.1*g.2<=g.1*q.2):q.1<=v*q.2:=by refine vN hg.low.1 (ir h ?_);have:=aS hg.le (bx hq.1);rw[ft];exact this
def ϣ(c:Nat)(q:Int×Int):Prop:=FrB (194*c+2) (2^c:Nat) q
def ϣ.top{c}{q}(h:ϣ c q):Bt (195*c+2) q.1:=by
 have h1:=h.le;have h0:=h.nn;have hb:Bt (c+1) ((2^c:Nat):Int):=by unfold Bt;rw[jd,lh];have:=b7 c;lia
 have h2:q.1.natAbs<=(((2^c:Nat):Int)*q.2).natAbs:=by lia
 unfold Bt;apply aW h2;rw[iU,jd];have hb2:q.2.natAbs<2^(194*c+2):=h.bb;have:2^c*q.2.natAbs<2^c*2^(194*c+2):=Nat.mul_lt_mul_of_pos_left hb2 (b7 c);rw[<-lS] at this;have e:c+(194*c+2)=195*c+2:=by lia
 rw[e] at this;exact this
def ϣ.sz{c}{q}(h:ϣ c q)(hc:c<=45):Sz q:=⟨h.low,h.top.mono `l,h.bb.mono `l⟩
theorem ϣ.mono{c d}{q}(h:ϣ c q)(hc:c<=d):ϣ d q:=by refine⟨h.low,h.nn,ir h.le ?_,h.bb.mono `l⟩;refine aS ?_ (bx h.low.1);exact iq.mpr (b6 (Zf rfl) hc)
def Âl(c):ϣ c (0,1):=⟨⟨Zf rfl,(rfl:aI 0 1=1)⟩,Int.le_refl _,by rw[lV];exact Int.natCast_nonneg _,bt1 `l⟩
def Ãr(c):ϣ c (1,1):=⟨⟨Zf rfl,(rfl:aI 1 1=1)⟩,Zf rfl,by rw[lV];exact iq.mpr (b7 c),bt1 `l⟩
structure ϲ(q:Int×Int):Prop where
 low:ħ q
 bt:Bt 200 q.1
 bb:Bt 97 q.2
def ϲ.sz{q}(h:ϲ q):Sz q:=⟨h.low,h.bt.mono (Zf rfl),h.bb.mono (Zf rfl)⟩
def wj{l}{n}(h:n∉l.map (·.1)):mU l n=(0,1):=by
 unfold mU nI;have:l.find? (λq=>decide (q.1=n))=none:=by rw[gE];exact λx hx z=>h (ar.mpr ⟨x,hx,Zf z⟩)
 rw[this];rfl
def rv(q:Int×Int):Rat:=aN q.1 q.2
def Mi{p q}(hp:0<p.2)(hq:0<q.2):rv (oS p q)=rv p+rv q:=by have h:=xJ hp hq;have h2:0<(oS p q).2:=(uA (q:=(p.1*q.2+q.1*p.2,p.2*q.2)) (br hp hq)).1.1;unfold rv;rw[lw _ _ `l `l,kC `l (by have:=br hp hq;lia)];exact h
def Mh(q):rv (-q.1,q.2)=-rv q:=by unfold rv;rw[Rat.neg_divInt]
def nG:List Rat->Rat
 |[]=>0
 |x::l=>x+nG l
theorem AU:∀l m:List Rat,nG (l++m)=nG l+nG m
 |[],m=>by show nG m=0+nG m;rw[kY]
 |x::l,m=>by show x+nG (l++m)=x+nG l+nG m;rw[AU l m,Rat.add_assoc]
theorem Fp{f g}{o}(h:∀n,n≠o->f n=g n):∀ns:List Str,ns.Nodup->nG (ns.map f)=if o∈ns then nG (ns.map g)+(f o-g o) else nG (ns.map g)
 |[],_=>rfl
 |n::ns,nd=>by
  let⟨n1,n2⟩:=aK.mp nd;have ih:=Fp h ns n2;show f n+nG (ns.map f)=_;by_cases e:n=o
  .subst e;rw[Zd n1] at ih;rw[Zc al,ih];show f n+nG (ns.map g)=g n+nG (ns.map g)+(f n-g n)
   grind
  .have m:o∈n::ns↔o∈ns:=⟨λz=>(ap.mp z).resolve_left λq=>e q.symm,af _⟩;by_cases z:o∈ns
   .rw[Zc z] at ih;rw[Zc (m.mpr z),ih,h n e];show g n+(nG (ns.map g)+(f o-g o))=g n+nG (ns.map g)+(f o-g o);rw[Rat.add_assoc]
   .rw[Zd z] at ih;rw[Zd (λq=>z (m.mp q)),ih,h n e];rfl
def J9(l:Hl):Rat:=nG ((l.map (·.1)).map λn=>rv (mU l n))
def Fs{l}(nd:(l.map (·.1)).Nodup)(o)(q):J9 (oR l o q)=J9 l+(rv q-rv (mU l o)):=by
 have h:∀n,n≠o->rv (mU (oR l o q) n)=rv (mU l n):=λn hn=>by rw[n8,Zd hn]
 have ho:rv (mU (oR l o q) o)=rv q:=by rw[n8,Zc rfl]
 have u:=Fp h (l.map (·.1)) nd;unfold J9;rw[oC];by_cases z:o∈l.map (·.1)
 .rw[Zc z] at u ⊢;rw[u,ho]
 .rw[Zd z] at u ⊢;rw[aD,AU,u,wj z];show _+(rv (mU (oR l o q) o)+0)=_;have:rv (0,1)=0:=iu 1;rw[ho,this]
  grind
structure On(D:Int)(q:Int×Int)(u:Int):Prop where
 low:ħ q
 ev:q.1*D=u*q.2
def On.dvd{D}{q}{u}(h:On D q u):q.2∣D:=Es h.low.2.symm ⟨u,by rw[h.ev,bR]⟩
def On.add{D}{p q}{u v}(h:On D p u)(g:On D q v):On D (oS p q) (u+v):=by
 have p0:=h.low.1;have q0:=g.low.1;have ev:=xJ p0 q0;have pq:0<p.2*q.2:=br p0 q0;refine⟨(uA (q:=(p.1*q.2+q.1*p.2,p.2*q.2)) pq).1,eJ (a:=p.2*q.2) `l ?_⟩;generalize oS p q=r at ev ⊢;have e1:=h.ev;have e2:=g.ev
 calc r.1*D*(p.2*q.2)=(r.1*(p.2*q.2))*D:=by rw[bc,bR D,<-bc]
  _=((p.1*q.2+q.1*p.2)*r.2)*D:=by rw[ev]
  _=((p.1*D)*q.2+(q.1*D)*p.2)*r.2:=by
   rw[bc,bR r.2 D,<-bc,Int.add_mul (p.1*q.2)]
   congr 2
   .rw[bc,bR q.2,<-bc]
   .rw[bc,bR p.2,<-bc]
  _=((u*p.2)*q.2+(v*q.2)*p.2)*r.2:=by rw[e1,e2]
  _=(u+v)*r.2*(p.2*q.2):=by
   have a1:u*p.2*q.2=u*(p.2*q.2):=bc ..;have a2:v*q.2*p.2=v*(p.2*q.2):=by rw[bc,bR q.2]
   rw[a1,a2,<-Int.add_mul,bc,bR (p.2*q.2),<-bc]
def On.neg{D}{q}{u}(h:On D q u):On D (-q.1,q.2) (-u) :=
 ⟨⟨h.low.1,by have:=h.low.2;unfold ř aI at *;simp[iT];exact this⟩,by show -q.1*D=-u*q.2;rw[jI,jI,h.ev]⟩
def On.scale{D}{q}{u}(h:On D q u)(k):On (D*k) q (u*k) :=
 ⟨h.low,by rw[<-bc,h.ev,bc,bR q.2,<-bc]⟩
def N7(D):On D (0,1) 0:=⟨⟨Zf rfl,rfl⟩,by simp⟩
def QZ(D):On D (1,1) D:=⟨⟨Zf rfl,rfl⟩,by show 1*D=D*1;lia⟩
def N8{q}(h:ħ q):On q.2 q q.1:=⟨h,rfl⟩
structure HR(c:Nat)(hl hm:Hl):Prop where
 q:∀n,mU hl n=mU hm n
 nm:∀n,n∈hl.map (·.1)↔0<(mU hl n).1
 n1:(hl.map (·.1)).Nodup
 n2:(hm.map (·.1)).Nodup
 l1:hl.length<=c+1
 l2:hm.length<=c+1
 fr:∀n,ϣ c (mU hl n)
 ex:∃n,0<(mU hl n).1
 sm:∀n∈hm.map (·.1),Sm n
 one:J9 hm=1
 dv:∃(D:Int)(U:Str->Int),0<D/\Bt (97*c+1) D/\∀n,On D (mU hm n) (U n)
def Rn(c){o}(ho:Sm o):HR c [(o,1,1)] [(o,1,1)]:=by
 have g:∀n,mU [(o,1,1)] n=if n=o then(1,1) else(0,1):=λn=>by
  unfold mU nI;rw[bP];by_cases e:o=n
  .rw[show decide ((o,((1:Int),(1:Int))).1=n)=true from Zg e,Zc e.symm];rfl
  .rw[show decide ((o,((1:Int),(1:Int))).1=n)=false from Zh e,Zd λz=>e z.symm];rfl
 refine⟨λ_=>rfl,λn=>?_,by simp,by simp,by simp,by simp,λn=>?_,⟨o,by rw[g,Zc rfl];decide⟩,λn hn=>by rw[ax.mp hn];exact ho,by
  show rv (mU [(o,1,1)] o)+0=1;rw[g,Zc rfl,ii];exact Rat.divInt_self' (Zf rfl),1,λn=>if n=o then 1 else 0,Zf rfl,bt1 `l,λn=>by
   rw[g];by_cases e:n=o
   .rw[Zc e];show On 1 (1,1) (if n=o then 1 else 0);rw[Zc e];exact QZ 1
   .rw[Zd e];show On 1 (0,1) (if n=o then 1 else 0);rw[Zd e];exact N7 1⟩
 .rw[g];by_cases e:n=o
  .rw[Zc e];simp[e]
  .rw[Zd e];simp[e]
 .rw[g];by_cases e:n=o
  .rw[Zc e];exact Ãr c
  .rw[Zd e];exact Âl c
def HR.had{c}{hl hm}(h:HR c hl hm){n}(h0:0<(mU hm n).1):n∈hm.map (·.1):=by
 by_cases z:n∈hm.map (·.1)
 .exact z
 .rw[wj z] at h0;exact absurd h0 (Zf rfl)
def Bb{q}(h:ħ q)(h0:q.1=0):q=(0,1):=by
 let⟨t,b⟩:=q;let⟨h1,h2⟩:=h;simp only at h0 h1 h2;subst h0;have e:b=1:=by have:aI 0 b=1:=h2;rw[Int.gcd_zero_left] at this;lia
 rw[e]
def HR.Àp{c}{hl hm}(h:HR c hl hm){o1 o2}{q}(hq:ϲ q)(so:Sm o2)(nt:¬pS hl o1 q):HR (c+1) (ï hl o1 o2 q) (J1 hm o1 o2 q):=by
 have q0:0<q.1:=by by_cases z:0<q.1;exact z;exact absurd (.inl z) nt
 have Te:q.1*(mU hl o1).2<=(mU hl o1).1*q.2:=by
  by_cases z:q.1*(mU hl o1).2>(mU hl o1).1*q.2
  .exact absurd (.inr z) nt
  .lia
 have R:=zS (h.fr o1) hq.low q0 Te hq.bb;have qv:=Ic (h.fr o1) hq.low Te;have Ug:o1∈hl.map (·.1):=by
  rw[h.nm];by_cases z:0<(mU hl o1).1
  .exact z
  .have a1:(mU hl o1).1*q.2<=0:=je `l (bx hq.low.1);have a2:0<q.1*(mU hl o1).2:=br q0 (h.fr o1).low.1;lia
 have V5:o1∈hm.map (·.1):=h.had (by rw[<-h.q];exact(h.nm o1).mp Ug);generalize hr:oS (mU hl o1) (-q.1,q.2)=r at *;have key:∃l1 m1:Hl,ï hl o1 o2 q=oR l1 o2 (oS (mU l1 o2) q)/\J1 hm o1 o2 q=oR m1 o2 (oS (mU m1 o2) q)/\(∀n,mU l1 n=mU m1 n)/\(∀n,n∈l1.map (·.1)↔0<(mU l1 n).1)/\(l1.map (·.1)).Nodup/\(m1.map (·.1)).Nodup/\l1.length<=c+1/\m1.length<=c+1/\(∀n,FrB (194*c+2+97) (2^c:Nat) (mU l1 n))/\(∀n∈m1.map (·.1),Sm n)/\J9 m1+rv q=1/\∃(D:Int)(U:Str->Int),0<D/\Bt (97*(c+1)+1) D/\On D q (U ci)/\∀n,∃u,On D (mU m1 n) u:=by
  have gm:∀n,mU (oR hm o1 r) n=if n=o1 then r else mU hl n:=λn=>by rw[n8,h.q]
  have lm:(oR hm o1 r).length<=c+1:=by have:=congrArg cC (oC hm o1 r);rw[Zc V5,ac,ac] at this;rw[this];exact h.l2
  have VS:∀n,FrB (194*c+2+97) (2^c:Nat) (if n=o1 then r else mU hl n):=λn=>by
   by_cases e:n=o1
   .rw[Zc e];exact R
   .rw[Zd e];exact⟨(h.fr n).low,(h.fr n).nn,(h.fr n).le,(h.fr n).bb.mono `l⟩
  have em:J1 hm o1 o2 q=oR (oR hm o1 r) o2 (oS (mU (oR hm o1 r) o2) q):=by unfold J1;simp[<-h.q o1,hr]
  have smm:∀n∈(oR hm o1 r).map (·.1),Sm n:=λn hn=>by rw[oC,Zc V5] at hn;exact h.sm n hn
  have ÀL:J9 (oR hm o1 r)+rv q=1:=by
   rw[Fs h.n2,h.one,<-hr,Mi (q:=(-q.1,q.2)) (h.fr o1).low.1 hq.low.1,Mh,h.q]
   grind
  have dv1:∃(D:Int)(U:Str->Int),0<D/\Bt (97*(c+1)+1) D/\On D q (U ci)/\∀n,∃u,On D (mU (oR hm o1 r) n) u:=by
   let⟨D,U,d1,d2,d3⟩:=h.dv;have oq:On (D*q.2) q (q.1*D):=by rw[bR D];exact(N8 hq.low).scale D
   refine⟨D*q.2,λ_=>q.1*D,br d1 hq.low.1,(d2.mul hq.bb).mono `l,oq,λn=>?_⟩;rw[n8];by_cases e:n=o1
   .rw[Zc e,<-hr,h.q];exact⟨_,((d3 o1).scale q.2).add oq.neg⟩
   .rw[Zd e];exact⟨_,(d3 n).scale q.2⟩
  by_cases rz:r=(0,1)
  .have gl:∀n,mU (oB hl o1) n=if n=o1 then r else mU hl n:=λn=>by rw[qE,rz]
   refine⟨oB hl o1,oR hm o1 r,?_,em,λn=>by rw[gl,gm],λn=>?_,Ef _ h.n1,w6 _ _ h.n2,aC (FF _ _) h.l1,lm,λn=>by rw[gl];exact VS n,smm,ÀL,dv1⟩
   .unfold ï;simp[hr,rz,if_true]
   .rw[Ac,aU,gl,h.nm,decide_eq_true_iff];by_cases e:n=o1
    .rw[Zc e,rz];exact⟨λz=>absurd e z.2,λz=>absurd z (Zf rfl)⟩
    .rw[Zd e];exact⟨λz=>z.1,λz=>⟨z,e⟩⟩
  .have gl:∀n,mU (oR hl o1 r) n=if n=o1 then r else mU hl n:=λn=>n8 ..
   have rp:0<r.1:=by
    have:=R.nn;by_cases z:r.1=0
    .exact absurd (Bb R.low z) rz
    .lia
   refine⟨oR hl o1 r,oR hm o1 r,?_,em,λn=>by rw[gl,gm],λn=>?_,w6 _ _ h.n1,w6 _ _ h.n2,?_,lm,λn=>by rw[gl];exact VS n,smm,ÀL,dv1⟩
   .unfold ï;simp[hr,rz,if_false]
   .rw[oC,Zc Ug,gl,h.nm];by_cases e:n=o1
    .rw[Zc e];exact⟨λ_=>rp,λ_=>by rw[e];exact(h.nm o1).mp Ug⟩
    .rw[Zd e]
   .have:=congrArg cC (oC hl o1 r);rw[Zc Ug,ac,ac] at this;rw[this];exact h.l1
 let⟨l1,m1,es,em,gq,nm1,nd1,nd2,ÃF,ÃE,VS,sm1,ÀL,D1,U1,d1,d2,oq,dm⟩:=key;let⟨U,up⟩:=Pk (VS o2) hq.low q0 qv hq.bb;have ev:(2*((2^c:Nat):Int))=((2^(c+1):Nat):Int):=by rw[lh,Int.natCast_mul,bR];rfl
 rw[es,em];refine⟨λn=>?_,λn=>?_,w6 _ _ nd1,w6 _ _ nd2,aC (Ik _ _ _) `l,aC (Ik _ _ _) `l,λn=>?_,⟨o2,by rw[n8,Zc rfl];exact up⟩,λn hn=>?_,?_,?_⟩
 .rw[n8,n8,gq,gq]
 .rw[n8,oC];by_cases e:n=o2
  .rw[Zc e];refine⟨λ_=>up,λ_=>?_⟩;rw[e];by_cases z:o2∈l1.map (·.1)
   .rw[Zc z];exact z
   .rw[Zd z];exact aL _ (ax.mpr rfl)
  .rw[Zd e,<-nm1];by_cases z:o2∈l1.map (·.1)
   .rw[Zc z]
   .rw[Zd z,a7];exact⟨λy=>y.elim id λy=>absurd (ax.mp y) e,λy=>.inl y⟩
 .rw[n8];by_cases e:n=o2
  .rw[Zc e];unfold ϣ;rw[<-ev];exact⟨U.low,U.nn,U.le,U.bb.mono `l⟩
  .rw[Zd e];have:=VS n;refine⟨this.low,this.nn,ir this.le ?_,this.bb.mono `l⟩;exact aS (iq.mpr (b6 (Zf rfl) `l)) (bx this.low.1)
 .rw[oC] at hn;by_cases z:o2∈m1.map (·.1)
  .rw[Zc z] at hn;exact sm1 n hn
  .rw[Zd z] at hn;obtain y|y:=a7.mp hn
   .exact sm1 n y
   .rw[ax.mp y];exact so
 .rw[Fs nd2,Mi (by rw[<-gq];exact(VS o2).low.1) hq.low.1]
  grind
 .have:∀n,∃u,On D1 (mU (oR m1 o2 (oS (mU m1 o2) q)) n) u:=λn=>by
   rw[n8];by_cases e:n=o2
   .rw[Zc e];let⟨u,hu⟩:=dm o2;exact⟨_,hu.add oq⟩
   .rw[Zd e];exact dm n
  exact⟨D1,λn=>Classical.choose (this n),d1,d2,λn=>Classical.choose_spec (this n)⟩
def HR.À0{c}{hl hm}(h:HR c hl hm)(hc:c<=44){o1}{q}(hq:ϲ q):ό hl o1 q:=by
 refine⟨aW h.l1 `l,λn=>(h.fr n).sz `l,λnt=>?_⟩;have q0:0<q.1:=by by_cases z:0<q.1;exact z;exact absurd (.inl z) nt
 have Te:q.1*(mU hl o1).2<=(mU hl o1).1*q.2:=by
  by_cases z:q.1*(mU hl o1).2>(mU hl o1).1*q.2
  .exact absurd (.inr z) nt
  .lia
 have R:=zS (h.fr o1) hq.low q0 Te hq.bb;refine ϣ.sz (c:=c+1) ⟨R.low,R.nn,ir R.le ?_,R.bb.mono `l⟩ `l;exact aS (iq.mpr (b6 (Zf rfl) `l)) (bx R.low.1)
def Ij{body:PV->XS}(l:List PV)(I:Nat->En->N'->Prop)(h:∀k q Z s,l[k]?=Za q->I k Z s->∃Y' s',body q Z s=.nx Y' s'/\I (k+1) Y' s'){Z:En}{s:N'}(h0:I 0 Z s):∃Y' s',nR body l Z s=.nx Y' s'/\I l.length Y' s':=by
 have main:∀r k (Z:En) s,k<=l.length->l.drop k=r->I k Z s->∃Y' s',nR body r Z s=.nx Y' s'/\I l.length Y' s':=by
  intro r;induction r with
  |nil =>
   intro k Z s hk e hI;have:=jT hk (lF.mp e);subst this;exact⟨Z,s,rfl,hI⟩
  |cons q r ih =>
   intro k Z s hk e hI;have hq:l[k]?=Za q:=by
    have:=congrArg List.head? e;rw[List.head?_drop] at this
    simp_all
   let⟨Y',s',h1,h2⟩:=h k q Z s hq hI;have e2:l.drop (k+1)=r:=by rw[<-List.tail_drop,e];rfl
   let⟨ĸ,s2,h3,h4⟩:=ih (k+1) Y' s' ((aR.mp hq).1) e2 h2;refine⟨ĸ,s2,?_,h4⟩;unfold nR
   simp_all
 exact main l 0 Z s (aV _) rfl h0
def xu(n:Nat):(vV 0 n).length=n:=by simp[vV]
def Kw{n k:Nat}{q:PV}(h:(vV 0 n)[k]?=Za q):k<n/\q=.int (k:Int):=by
 unfold vV at h;by_cases hk:k<n
 .simp_all
 .simp_all
def vE{body:PV->XS}(n:Nat)(I:Nat->En->N'->Prop)(h:∀(k:Nat) Z s,k<n->I k Z s->∃Y' s',body (.int (k:Int)) Z s=.nx Y' s'/\I (k+1) Y' s'){Z:En}{s:N'}(h0:I 0 Z s):∃Y' s',nR body (vV 0 n) Z s=.nx Y' s'/\I n Y' s':=by have:=Ij (vV 0 n) I (λk q Z s hq hI=>by let⟨h1,h2⟩:=Kw hq;rw[h2];exact h k Z s h1 hI) h0;rw[xu] at this;exact this
def pM(s:N')(i:Int):PV.data s 12 (.int i)=Za (.int i):=rfl
def sS(i j:Int):cR (.int i) (.int j)=(i==j):=rfl
theorem FM:∀(l:List (Nat×Cell))(n:Nat)(c d:Cell),qK l n=Za c->qK (pT n d l) n=Za d
 |(k,e)::r,n,c,d,h=>by
  unfold qK at h;unfold pT;split at h
  .rename_i z;rw[Zc z];unfold qK;rw[Zc rfl]
  .rename_i z;rw[Zd z];unfold qK;rw[Zd z];exact FM r n c d h
def nZ{s:N'}{n:Nat}{c d:Cell}(h:s.get n=Za c):(s.set n d).get n=Za d:=FM s.cs n c d h
def nr(s:N')(c:Cell)(k:Nat):(s.add c).get k=if s.nx=k then Za c else s.get k:=by rfl
def mM(s:N'){n k:Nat}(c:Cell)(h:k≠n):(s.set n c).get k=s.get k:=rW h
def GA(s:N')(c d:Cell){p:Nat}(h:s.nx≠p):(s.add d).set p c=(s.set p c).add d:=by unfold N'.set N'.add;simp[pT,h]
def zY(s:N')(c d:Cell):(s.add d).set s.nx c=s.add c:=by unfold N'.set N'.add;simp[pT]
def sM(s:N')(n:Nat)(c d:Cell):(s.set n c).set n d=s.set n d:=by
 have:∀l,pT n d (pT n c l)=pT n d l:=by
  intro l;induction l with
  |nil=>rfl
  |cons q r ih =>
   let⟨k,e⟩:=q;by_cases h:k=n
   .simp[pT,h]
   .simp[pT,h,ih]
 unfold N'.set;simp[this]
def AV(s:N')(n:Nat)(c:Cell)(h:s.get n=Za c):s.set n c=s:=by
 have:∀l,qK l n=Za c->pT n c l=l:=by
  intro l;induction l with
  |nil=>intro h;rfl
  |cons q r ih =>
   intro h;let⟨k,e⟩:=q;by_cases hk:k=n
   .simp[qK,hk] at h;simp[pT,hk,h]
   .simp[qK,hk] at h;simp[pT,hk,ih h]
 unfold N'.set;rw[this _ h]
def N'.bump(s:N'):N':=⟨s.nx+1,s.cs⟩
def OV(s:N')(d:Cell):(s.add d).del s.nx=N'.bump s:=by unfold N'.del N'.add N'.bump;simp[Eo]
def Lk(s:N')(k:Nat):(N'.bump s).get k=s.get k:=rfl
def Zz(s:N')(p:Nat):Prop:=∃x y,s.get p=Za (.lst [.int x,.int y])
def ZF(s:N')(p:Nat)(x y:Int):N':=s.set p (.lst [.int x,.int y])
def QD(s:N')(p:Nat)(x y:Int):(ZF s p x y).nx=s.nx:=rfl
theorem Zz.ZF{s:N'}{p:Nat}(h:Zz s p)(x y:Int):Zz (ZF s p x y) p:=let⟨_,_,h⟩:=h;⟨x,y,D9 h⟩
theorem Zz.add{s:N'}{p:Nat}(h:Zz s p)(c:Cell)(hp:p<s.nx):Zz (s.add c) p:=by let⟨x,y,h⟩:=h;exact⟨x,y,by rw[nr,Zd `l];exact h⟩
def NO(s:N')(p:Nat)(x y x' y':Int)(d:Cell)(hp:p<s.nx):((ZF s p x y).add d).set p (.lst [.int x',.int y'])=(ZF s p x' y').add d:=by rw[GA _ _ _ (by rw[QD];lia)];unfold ZF;rw[sM]
def Pd{c:XT}{e:XE}{cap:En}(l:List PV)(I:Nat->List PV->N'->Prop)(h:∀k q vs s,l[k]?=Za q->I k vs s->(∃s1,c (Za q::cap) s=.ok false s1/\I (k+1) vs s1)\/(∃s1 v s2,c (Za q::cap) s=.ok true s1/\e (Za q::cap) s1=.ok v s2/\I (k+1) (vs++[v]) s2)){s:N'}(h0:I 0 [] s) :
  ∃vs s',oH c e cap l s=.ok vs s'/\I l.length vs s':=by
 have main:∀r k vs s,k<=l.length->l.drop k=r->I k vs s->∃ws s',oH c e cap r s=.ok ws s'/\I l.length (vs++ws) s':=by
  intro r;induction r with
  |nil =>
   intro k vs s hk e hI;have:=jT hk (lF.mp e);subst this;exact⟨[],s,rfl,by simpa using hI⟩
  |cons q r ih =>
   intro k vs s hk e' hI;have hq:l[k]?=Za q:=by
    have:=congrArg List.head? e';rw[List.head?_drop] at this
    simp_all
   have e2:l.drop (k+1)=r:=by rw[<-List.tail_drop,e'];rfl
   have Xl:=(aR.mp hq).1;rcases h k q vs s hq hI with⟨s1,h1,h2⟩|⟨s1,v,s2,h1,h2,h3⟩
   .let⟨ws,s',h3,h4⟩:=ih (k+1) vs s1 Xl e2 h2;exact⟨ws,s',by rw[pO,h1];exact h3,h4⟩
   .let⟨ws,s',h4,h5⟩:=ih (k+1) (vs++[v]) s2 Xl e2 h3;refine⟨v::ws,s',by rw[pO,h1];simp[h2,h4],by simpa using h5⟩
 let⟨ws,s',h1,h2⟩:=main l 0 [] s (aV _) rfl h0;exact⟨ws,s',h1,by simpa using h2⟩
theorem qG{c:XT}{e:XE}{cap:En}{s:N'}(p:PV->Bool)(f:PV->PV):∀(l:List PV),(∀q∈l,c (Za q::cap) s=.ok (p q) s)->(∀q∈l,p q=true->e (Za q::cap) s=.ok (f q) s)->oH c e cap l s=.ok ((l.filter p).map f) s
 |[],_,_=>rfl
 |q::l,h1,h2=>by
  rw[pO,h1 q al];have ih:=qG p f l (λx hx=>h1 x (af _ hx)) (λx hx=>h2 x (af _ hx));cases hp:p q with
  |false=>simp[ih,hp]
  |true=>simp[ih,hp,h2 q al hp]
def qf{n:Int}(h0:0<n)(h1:n<2^64):Bt 9000 n:=by
 have:Bt 64 n:=by unfold Bt;lia
 exact this.mono (Zf rfl)
def Fb:(b5 "abcdefghijklmnopqrstuvwxyz").length<=100000:=Zf rfl
def uB(a:Y9)(s:N')(p:Nat)(n:Int)(h:Zz s p)(h0:0<n)(h1:Bt 9000 n):∃r x y,0<=r/\r<n/\mV a [.ref p,.int n] s=.ok (.int r) (s.set p (.lst [.int x,.int y])):=by
 let⟨x,y,h⟩:=h;have hd:Au n:=⟨h0,h1⟩;by_cases hx:x=0
 .refine⟨y%n,y/n,y,fj _ `l,dU _ h0,?_⟩;subst hx;simp[Ŧ,rc,ny,uw,mV,vk,h,ü,Ϥ,pM,sS,hd,h0,nZ h,sM]
 .refine⟨x%n,x/n,y,fj _ `l,dU _ h0,?_⟩;simp[Ŧ,rc,ny,uw,mV,vk,h,ü,Ϥ,pM,sS,hd,h0,hx]
def LH(l:List Int)(lo hi:Option Int):∃k:List Int,Er (l.map PV.int) lo hi=k.map PV.int/\k.length<=l.length/\∀x∈k,x∈l:=by
 refine⟨(l.drop (HT.À l.length 0 lo)).take (HT.À l.length l.length hi-HT.À l.length 0 lo),?_,?_,λx hx=>lE (lC hx)⟩
 .unfold Er;simp[List.map_drop]
 .rw[eM,gT];lia
def IG{l:List Int}{i:Int}(h0:0<=i)(h1:i<l.length):∃x∈l,ü (l.map PV.int) i=Za (.int x):=by
 obtain⟨j,rfl⟩:∃j:Nat,i=j:=⟨i.toNat,by lia⟩;have hj:j<l.length:=by lia
 exact⟨l[j],cZ hj,nT (by simp[hj])⟩
def K4(a:Y9)(s:N')(c:Int)(k:Nat)(hc:cq c<=1048576)(hk:k<64):∃v,qZ a [.int c,.int k] s=.ok (.int v) s:=by have m1:jP c c:=Rb `l `l;have m2:qN 3 c:=.inr (.inl ⟨Zf rfl,Zf rfl⟩);have m3:qN 7919 k:=.inr (.inl ⟨Zf rfl,Zf rfl⟩);have m4:qN (c*c+3*c+7919*k+1) 48271:=.inr (.inr ⟨Zf rfl,Zf rfl⟩);generalize hz:((c*c+3*c+7919*k+1)*48271)%2147483629=z;have m5:qN z z:=.inr (.inl ⟨by lia,by lia⟩);refine⟨(z*z+7)%2147483587,?_⟩;simp[Ŧ,rc,ny,uw,qZ,wX,Hb,m1,m2,m3,m4,hz,m5]
def KB(a:Y9)(s:N')(l:List Int)(hl:l.length<=63)(hw:Att.Ϟ l):∃x y,pj a [.seq (l.map .int)] s=.ok (.ref s.nx) (s.add (.lst [.int x,.int y])):=by
 let⟨c,hc,R5,Vg⟩:=LH l Zb (Za 63);have hsz:c.length<=99999:=by lia
 have Vd:(0:Int)<c.length+1:=by lia
 have h2:2<=aF:=Zf rfl;have hw2:∀x∈c++[0],cq x<=1048576:=λx hx=>by
  obtain z|z:=a7.mp hx
  .exact hw x (Vg x z)
  .rw[ax.mp z];decide
 let⟨Y',s',Uo,rfl,v,k,rfl⟩:=vE (body:=nj (Y4 3) (rA a)) 64
  (λ_ Z t=>t=s/\∃v k,Z=[Za (.seq (l.map .int)),Za (.lst ((c++[0]).map .int)),Za (.int v),k])
  (λk Z t hk hI=>by let⟨rfl,v,k',rfl⟩:=hI;let⟨x,hxm,hx⟩:=IG (l:=c++[0]) (i:=k%(c.length+1)) (fj _ `l) (by have:=dU k Vd;simpa using this);let⟨u,hu⟩:=K4 a t x k (hw2 x hxm) hk;have m3:qN v 2147483587:=.inr (.inr ⟨Zf rfl,Zf rfl⟩);refine⟨_,_,?_,rfl,v*2147483587+u,Za (.int k),rfl⟩;simp[aD,am,cX] at hx;simp[Ŧ,rc,ny,uw,nj,rA,hx,m3,Vd,hu]) ⟨rfl,1,Zb,rfl⟩
 let⟨x0,_,Wi⟩:=IG (l:=c++[0]) (i:=0) `l (by simp);simp[aD,am,cX] at Wi Uo;generalize hab:(if x0<0 then -x0 else x0)=x1 at *;by_cases h18:(1000000000000000000:Int)<=x1
 .refine⟨x1,v,?_⟩;simp[Ŧ,rc,ny,uw,pj,tY,hc,hsz,Uo,Wi,hab,h18,h2]
 .refine⟨v,v,?_⟩;simp[Ŧ,rc,ny,uw,pj,tY,hc,hsz,Uo,Wi,hab,h18,h2]
structure ÃH(p q:Int×Int):Prop where
 p0:0<p.2
 q0:0<q.2
 b:Bt 4400 p.2/\Bt 4400 q.2
 t:Bt 9000 p.1/\Bt 9000 q.1
def sR{i j:Int}(h:Bt 9000 i)(g:Bt 9000 j):qN i j:=.inl ⟨h.mono `d,g.mono `d⟩
def D5(a:Y9)(s:N'):∀(k:Nat)(t b:Int),0<=t->0<=b->b.toNat<=k->∃n t',m7 (ZI (x2 (j' 1) (xC (.int 0)) fGt)) (o9 a) n [Za (.int t),Za (.int b)] s=.nx [Za (.int t'),Za (.int 0)] s/\0<=t'/\t'.natAbs=aI t b:=by
 intro k;induction k with
 |zero =>
  intro t b ht h0 hk;have:b=0:=by lia
  subst this;refine⟨1,t,?_,ht,by simp[aI]⟩;unfold m7;simp[Ŧ,rc,ny,uw]
 |succ k ih =>
  intro t b ht h0 hk;by_cases hb:b=0
  .subst hb;refine⟨1,t,?_,ht,by simp[aI]⟩;unfold m7;simp[Ŧ,rc,ny,uw]
  .have hp:0<b:=by lia
   have m0:=fj t hb;have m1:=dU t hp;let⟨n,t',h1,h3,h2⟩:=ih b (t%b) h0 m0 `l;refine⟨n+1,t',?_,h3,by rw[h2];exact FN t b hp⟩;have hs:o9 a [Za (.int t),Za (.int b)] s=.nx [Za (.int b),Za (.int (t%b))] s:=by simp[Ŧ,rc,ny,uw,o9,hp]
   unfold m7;simp[Ŧ,rc,ny,uw,hp,hs,h1]
def At(a:Y9)(s:N')(t b:Int):oO a [.int t,.int b] s=.ok (.int (aI t b)) s:=by
 have e1:(if t<0 then -t else t)=t.natAbs:=by split<;>lia
 have e2:(if b<0 then -b else b)=b.natAbs:=by split<;>lia
 let⟨n,t',h1,h3,h2⟩:=D5 a s (b.natAbs:Int).toNat t.natAbs b.natAbs `l `l (ak _);have hw:=yi h1 (by simp);simp[Ŧ,rc,ny,uw,oO,uO,e1,e2,hw];have:aI t.natAbs b.natAbs=aI t b:=by simp[aI]
 rw[<-this,<-h2];lia
def xX(a:Y9)(s:N')(t b:Int)(hb:0<b)(hB:Bt 9000 b):nO a [.int t,.int b] s=.ok (ß (red (t,b))) s:=by
 have hg:0<aI t b:=bw _ `l;have hd:Au (aI t b:Int):=⟨by lia,hB.dvd `l (b8 ..)⟩;have e:=At a s t b;have hn:¬b<0:=by lia
 simp[Ŧ,rc,ny,uw,nO,yQ,e,hd,hn,ß,red]
def Cm{n:Int}{k:Nat}(h:n.natAbs<2^k)(hk:k<=9000):Bt 9000 n:=aA h (b6 `d hk)
def six{r:Int}(h0:0<=r)(h1:r<6):r=0\/r=1\/r=2\/r=3\/r=4\/r=5:=by lia
def CS{s:N'}{p:Nat}{x y:Int}(h:Zz s p):Zz (s.set p (.lst [.int x,.int y])) p:=by let⟨u,v,h⟩:=h;exact⟨x,y,nZ h⟩
def Jn(a:Y9)(s:N')(p:Nat)(h:Zz s p):∃v x y,oG a [.ref p] s=.ok (.int v) (s.set p (.lst [.int x,.int y]))/\Bt 100 v:=by
 let⟨r,x,y,r0,r1,e1⟩:=uB a s p 6 h (Zf rfl) (Cm (k:=4) (Zf rfl) `d);have h2:=CS (x:=x) (y:=y) h;obtain⟨m,hm,hm0,hmB,SY⟩:∃m:Int,ü [PV.int 10,.int 10,.int 100,.int 3,.int (10^6),.int (10^20)] r=Za (.int m)/\0<m/\(2*m).natAbs<2^100/\True:=by
  obtain z|z|z|z|z|z:=six r0 r1<;>subst z
  .exact⟨10,rfl,by decide,by decide,trivial⟩
  .exact⟨10,rfl,by decide,by decide,trivial⟩
  .exact⟨100,rfl,Zf rfl,Zf rfl,trivial⟩
  .exact⟨3,rfl,by decide,Zf rfl,trivial⟩
  .exact⟨10^6,rfl,Zf rfl,Zf rfl,trivial⟩
  .exact⟨10^20,rfl,Zf rfl,Zf rfl,trivial⟩
 let⟨r',x',y',q0,q1,e2⟩:=uB a (s.set p (.lst [.int x,.int y])) p (2*m) h2 `l (Cm hmB (Zf rfl));have m2:qN 2 m:=.inr (.inl ⟨Zf rfl,Zf rfl⟩);have d3:Au 3:=⟨by decide,Cm (k:=4) (Zf rfl) `d⟩;rw[sM] at e2;refine⟨r'-m/3,x',y',?_,by unfold Bt;lia⟩;have UT:ü [PV.int 10,.int 10,.int 100,.int 3,.int 1000000,.int 100000000000000000000] r=Za (.int m):=hm;simp[Ŧ,rc,ny,uw,oG,wk,e1,UT,e2,m2,d3]
def Ãs{r:Int}(h0:0<=r)(h1:r<5):r=0\/r=1\/r=2\/r=3\/r=4:=by lia
structure ϳ(q q':Int×Int):Prop where
 low:ħ q'
 pos:0<q'.1
 le:q'.1*q.2<=q.1*q'.2
def KS{q:Int×Int}(h:ħ q)(h0:0<q.1){m l:Int}(m0:0<m)(ml:m<=l):ϳ q (red (q.1*m,q.2*l)):=by
 have hl:0<l:=by lia
 have hb:=br h.1 hl;let⟨lo,ev⟩:=uA (q:=(q.1*m,q.2*l)) hb;have b0:=lo.1;generalize red (q.1*m,q.2*l)=z at *;have p1:=br (br h0 m0) b0;have p2:0<z.1:=by
  rw[<-ev] at p1;by_cases z0:0<z.1
  .exact z0
  .have:=aS (show z.1<=0 by lia) (bx hb)
   grind
 refine⟨lo,p2,?_⟩;refine kn ?_ hl;have e1:z.1*q.2*l=z.1*(q.2*l):=by rw[bc]
 have e2:q.1*z.2*l=q.1*l*z.2:=by grind
 simp_all
def N0(a:Y9)(s:N')(p:Nat)(h:Zz s p)(q:Int×Int)(hq:ħ q)(h0:0<q.1)(hB:Bt 8900 q.2):∃q' x y,ϳ q q'/\qL a [.ref p,ß q] s=.ok (ß q') (s.set p (.lst [.int x,.int y])):=by
 let⟨r,x,y,r0,r1,e1⟩:=uB a s p 5 h (Zf rfl) (Cm (k:=4) (Zf rfl) (Zf rfl));have h2:=CS (x:=x) (y:=y) h;by_cases hz:r=0
 .subst hz;refine⟨q,x,y,⟨hq,h0,Int.le_refl _⟩,?_⟩;simp[Ŧ,rc,ny,uw,qL,vj,e1,pM,sS,ß]
 .obtain⟨l,hl,l1,lB,_⟩:∃l:Int,ü [PV.int 2,.int 3,.int 7,.int (10^6)] (r-1)=Za (.int l)/\1<l/\l<=10^6/\True:=by
   obtain z|z|z|z|z:=Ãs r0 r1<;>subst z
   .exact absurd rfl hz
   .exact⟨2,rfl,Zf rfl,Zf rfl,trivial⟩
   .exact⟨3,rfl,Zf rfl,Zf rfl,trivial⟩
   .exact⟨7,rfl,Zf rfl,Zf rfl,trivial⟩
   .exact⟨10^6,rfl,Zf rfl,Zf rfl,trivial⟩
  let⟨r',x',y',s0,s1,e2⟩:=uB a (s.set p (.lst [.int x,.int y])) p (l-1) h2 `l (Cm (k:=20) `l (Zf rfl));rw[sM] at e2;have m1:qN q.1 (1+r'):=.inr (.inr ⟨by lia,by lia⟩);have m2:qN q.2 l:=.inr (.inr ⟨by lia,by lia⟩);have bB:Bt 9000 (q.2*l):=(hB.mul (show Bt 20 l by show l.natAbs<1048576;lia)).mono (Zf rfl);have em:=xX a (s.set p (.lst [.int x',.int y'])) (q.1*(1+r')) (q.2*l) (br hq.1 `l) bB;refine⟨red (q.1*(1+r'),q.2*l),x',y',KS hq h0 `l `l,?_⟩;have Vi:ü [PV.int 2,.int 3,.int 7,.int 1000000] (r-1)=Za (.int l):=hl;have q1:ü [PV.int q.1,.int q.2] 0=Za (.int q.1):=rfl;have q2:ü [PV.int q.1,.int q.2] 1=Za (.int q.2):=rfl;simp[Ŧ,rc,ny,uw,qL,vj,e1,pM,sS,ß,hz,Vi,e2,m1,m2,q1,q2,em]
def D8{x y:Str}(h:x.cps.toList=y.cps.toList):x=y:=by
 let⟨a⟩:=x
 simp_all
def mkW(cs:List Nat):Str:=⟨cs.toArray⟩
def rR(cs):(mkW cs).cps.toList=cs:=by simp[mkW]
def Ih(cs):(mkW cs).length=cs.length:=by rw[K8,rR]
theorem Ai:∀cs:List Nat,Str.join (b5 "") (cs.map λc=>(⟨#[c]⟩:Str))=mkW cs
 |[]=>rfl
 |[c]=>rfl
 |c::d::r=>by have ih:=Ai (d::r);have e:Str.join (b5 "") ((c::d::r).map λc=>(⟨#[c]⟩:Str))=(⟨#[c]⟩:Str)++b5 ""++Str.join (b5 "") ((d::r).map λc=>(⟨#[c]⟩:Str)):=rfl;rw[e,ih];apply D8;rw[Bj,Bj,rR,rR];rfl
def GZ(cs):Txt.join (b5 "") (cs.map λc=>(⟨#[c]⟩:Str))=mkW cs:=(StrLaws.glued_eq_join _ _).trans (Ai cs)
def Ey(vs:List Int)(j:Nat):Int:=(vs[j]?).getD 0
def qm(vs:List Int)(d k j:Nat):Int:=Ey vs j+5*(k:Int)*(if j=d then 1 else 0)
def ŗ(vs:List Int)(d k:Nat):List Nat:=(bo vs.length).map λj=>97+(qm vs d k j%26).toNat
def xN(vs)(d k):(ŗ vs d k).length=vs.length:=by simp[ŗ]
def Nn(vs)(d k):∀c∈ŗ vs d k,97<=c/\c<=122:=λc hc=>by
 let⟨j,_,rfl⟩:=ar.mp hc
 grind
def L4(vs)(hd:d<vs.length)(k):(ŗ vs d k)[d]?=Za (97+((Ey vs d+5*(k:Int))%26).toNat):=by
 unfold ŗ qm
 simp_all
def ť(vs:List Int)(d:Nat)(fl:Bool)(k:Nat):Str:=mkW (ŗ vs d k++if fl=true/\k%2=1 then [120] else [])
def Nk(hd:d<vs.length)(hi:i<10)(hj:j<10)(h:ť vs d fl i=ť vs d fl j):i=j:=by
 have e:ŗ vs d i++(if fl=true/\i%2=1 then [120] else [])=ŗ vs d j++(if fl=true/\j%2=1 then [120] else []):=by have:=congrArg (λx:Str=>x.cps.toList) h;simpa[ť,rR] using this
 have e2:=congrArg (λl:List Nat=>l[d]?) e;rw[du (by rw[xN];exact hd),du (by rw[xN];exact hd),L4 vs hd,L4 vs hd] at e2;have e3:=bL e2;omega
def LZ(h0:0<vs.length)(h7:vs.length<=7)(d)(fl)(k):Sm (ť vs d fl k)/\yN (ť vs d fl k)=true:=by
 have hl:(ť vs d fl k).length=vs.length+(if fl=true/\k%2=1 then 1 else 0):=by unfold ť;rw[Ih,aY,xN];split<;>rfl
 have hc:∀c∈(ť vs d fl k).cps.toList,97<=c/\c<=122:=λc hc=>by
  unfold ť at hc;rw[rR] at hc;obtain z|z:=a7.mp hc
  .exact Nn vs d k c z
  .grind
 have Wq:1<=(ť vs d fl k).length/\(ť vs d fl k).length<=8:=by rw[hl];split<;>lia
 refine⟨⟨by lia,λc h=>by have:=hc c h;lia⟩,?_⟩;unfold yN;rw[Zg Wq.1,Zg Wq.2];simp only[i7,dM];intro c h;have:=hc c h;simp[low];lia
theorem AG(g:Nat->Str->Str):∀(ws:List Str)(k:Nat),(∀j w,w∈ws->e [Za (.int (j:Nat)),Za (.str w)] s=.ok (.str (g j w)) s)->nW og e [] (sX k (ws.map .str)) s=.ok (((bo ws.length).map λi=>g (k+i) ((ws[i]?).getD ci)).map .str) s
 |[],k,_=>rfl
 |w::r,k,h=>by have ih:=AG g r (k+1) λj w hw=>h j w (af _ hw);show nW og e [] (.tup [.int k,.str w]::sX (k+1) (r.map .str)) s=_;rw[yX];have h0:=h k w al;simp only[ED,og,h0,ih];simp[kU,Function.comp_def,kI,Nat.add_comm 1]
def Mg{f g:XS}{Z Y':En}{s s':N'}(h:f Z s=.nx Y' s'):Y3 f g Z s=g Y' s':=by unfold Y3;rw[h]
def vJ{α β:Type}(v:α)(s:N')(f:α->N'->Out β):(Out.ok v s).bind f=f v s:=rfl
def Ãe(n:Nat):-(2^62)<=(n:Int):=by grind
def Ãm{n:Nat}(hn:n<1000000):(n:Int)<2^62:=by grind
def NI{fa:XA}{Z:En}{s s1:N'}{j:Int}(h:fa Z s=.ok [.int j] s1):Ø fa Z s=if -(2^62)<=j/\j<2^62 then Out.ok (vV 0 j.toNat) s1 else Out.bad:=by unfold Ø;rw[h,vJ]
def vW{fa:XA}{Z:En}{s s1:N'}{n:Nat}(h:fa Z s=.ok [.int n] s1)(hn:n<1000000):Ø fa Z s=.ok (vV 0 n) s1:=by rw[NI h,Zc ⟨Ãe n,Ãm hn⟩,Int.toNat_natCast]
def sC{fi:XA}{y:XG}{body:XS}{Z Y':En}{s s1 s':N'}{l:List PV}(h1:fi Z s=.ok l s1)(h2:nR (nj y body) l Z s1=.nx Y' s'):Ċ fi y body Z s=.nx Y' s':=by unfold Ċ;rw[h1];simp[Out.so];rw[h2];rfl
def qk{fi:XA}{ix:List Nat}{c:XT}{e:XE}{Z:En}{s s1 s2:N'}{l vs:List PV}(h1:fi Z s=.ok l s1)(hl:l.length<=100000)(h2:oH c e (nM ix Z) l s1=.ok vs s2):pW fi ix c e Z s=.ok (.lst vs) s2:=by unfold pW;rw[h1];simp[Out.bind,hl,if_true];rw[h2]
def EA{f g:XS}{Z:En}{s s':N'}{v:PV}(h:f Z s=.rt v s'):Y3 f g Z s=.rt v s':=by unfold Y3;rw[h]
def mY{f:XE}{i:Nat}{Z:En}{s s':N'}{v:PV}(h:f Z s=.ok v s'):Y8 i f Z s=.nx (Z.set i (Za v)) s':=by unfold Y8;rw[h];rfl
def mT{f g:XE}{F:PV->PV->N'->Out PV}{Z:En}{s s1 s2:N'}{v w:PV}(h1:f Z s=.ok v s1)(h2:g Z s1=.ok w s2):x2 f g F Z s=F v w s2:=by unfold x2;rw[h1];simp[Out.bind];rw[h2]
def mE{f:XE}{fa:XA}{Z:En}{s s1 s2:N'}{v:PV}{vs:List PV}(h1:f Z s=.ok v s1)(h2:fa Z s1=.ok vs s2):F' f fa Z s=.ok (v::vs) s2:=by unfold F';rw[h1];simp[Out.bind];rw[h2]
def qT{fa:XA}{Z:En}{s s1:N'}{vs:List PV}(h1:fa Z s=.ok vs s1)(hl:vs.length<=100000:=by exact fO rfl):Ö fa Z s=.ok (.tup vs) s1:=by unfold Ö;rw[h1];exact Zc hl
def qW{c:XT}{A B:XS}{Z:En}{s s1:N'}(h:c Z s=.ok false s1):ÿ c A B Z s=B Z s1:=by unfold ÿ;rw[h];rfl
def uK{f:XE}{fa:XA}{Z:En}{s s1 s2:N'}{k m:Nat}{D:XF}{pp:List Str}{L:List Ent}{vs:List PV}(h1:f Z s=.ok (.ref k) s1)(h2:s1.get k=Za (.book pp L))(h3:fa Z s1=.ok vs s2)(h4:vs.length+1=m):ł m D f fa Z s=D (.ref k::vs) s2:=by
 unfold ł;rw[h1];simp[Out.bind,h2]
 simp_all
def xf{fa:XA}{Z:En}{s s1:N'}{vs:List PV}(h1:fa Z s=.ok vs s1)(hl:vs.length<=100000:=by exact fO rfl):ę fa Z s=.ok (.lst vs) s1:=by unfold ę;rw[h1];exact Zc hl
def mS{D:XF}{fa:XA}{Z:En}{s s1:N'}{vs:List PV}{n:Nat}{o:Out PV}(h1:fa Z s=.ok vs s1)(hn:vs.length=n)(h2:D vs s1=o):V' n D fa Z s=o:=by
 unfold V';rw[h1];simp[Out.bind]
 grind
def pB{i:Nat}{u:XS}{q:PV}{Z:En}{s:N'}:nj (Y4 i) u q Z s=u (Z.set i (Za q)) s:=rfl
def xA{c:XT}{A B:XS}{Z:En}{s s1:N'}(h:c Z s=.ok true s1):ÿ c A B Z s=A Z s1:=by unfold ÿ;rw[h];rfl
def zk{f:XE}{Z:En}{s s':N'}{v:PV}(h:f Z s=.ok v s'):Ť f Z s=.nx Z s':=by unfold Ť;rw[h];rfl
def oh{f:XE}{Z:En}{s s':N'}{v:PV}(h:f Z s=.ok v s'):ZE f Z s=.rt v s':=by unfold ZE;rw[h];rfl
def AM{fa:XA}{F:List PV->N'->Out PV}{Z:En}{s s1:N'}{vs:List PV}(h1:fa Z s=.ok vs s1):xB fa F Z s=F vs s1:=by unfold xB;rw[h1];rfl
def abc:Str:="abcdefghijklmnopqrstuvwxyz"
def FA(n:Nat):vV 0 n=(bo n).map λk=>PV.int (k:Nat):=by
 unfold vV
 grind
abbrev nE(p m:Nat)(vs:List Int)(d x:Nat)(u v:Option PV):En:=[Za (.ref p),Za (.int (m:Nat)),Za (.str abc),Za (.int (vs.length:Nat)),Za (.lst (vs.map .int)),Za (.int (d:Nat)),Za (.ref x),u,v]
def Jo(a:Y9)(T:N')(p m:Nat)(vs:List Int)(h0:0<vs.length)(h7:vs.length<=7)(d:Nat)(hd:d<vs.length)(ws:List Str)(hw:ws.length<100)(k:Nat)(hk:k<100)(u v:Option PV) :
  nj (Y4 7) (o5 a) (.int (k:Nat)) (nE p m vs d T.nx u v) (T.add (.lst (ws.map .str))) =
   .nx (nE p m vs d T.nx (Za (.int (k:Nat))) (Za (.lst (((bo vs.length).map (qm vs d k)).map .int)))) (T.add (.lst ((ws++[mkW (ŗ vs d k)]).map .str))):=by
 have Wl:(-4611686018427387904:Int)<=(vs.length:Int):=by lia
 have hr2:(vs.length:Int)<(4611686018427387904:Int):=by lia
 have R5:(vV 0 vs.length).length<=100000:=by rw[xu];lia
 have m1:qN 5 (k:Int):=.inr (.inl ⟨Zf rfl,Zf rfl⟩);have m2:∀z:Int,qN z 0:=λz=>.inr (.inr ⟨Zf rfl,Zf rfl⟩);have m3:∀z:Int,qN z 1:=λz=>.inr (.inr ⟨Zf rfl,Zf rfl⟩);have c1:oH og (x2 (x2 (j' 1) (j' 0) Zk) (x2 (x2 (xC (.int 5)) (j' 2) Zy) (xB (F' (x2 (j' 0) (j' 3) Ĕ) J') Ż) Zy) ZS) [Za (.lst (vs.map .int)),Za (.int (k:Nat)),Za (.int (d:Nat))] (vV 0 vs.length) (T.add (.lst (ws.map .str)))=.ok (((bo vs.length).map (qm vs d k)).map .int) (T.add (.lst (ws.map .str))):=by
  have:=qG (c:=og) (e:=x2 (x2 (j' 1) (j' 0) Zk) (x2 (x2 (xC (.int 5)) (j' 2) Zy) (xB (F' (x2 (j' 0) (j' 3) Ĕ) J') Ż) Zy) ZS) (cap:=[Za (.lst (vs.map .int)),Za (.int (k:Nat)),Za (.int (d:Nat))]) (s:=T.add (.lst (ws.map .str))) (λ_=>true) (λq=>match q with|.int j=>.int (qm vs d k j.toNat)|_=>.Zn) (vV 0 vs.length) (λ_ _=>rfl) λq hq _=>by
   rw[FA] at hq;let⟨j,hj,rfl⟩:=ar.mp hq;have hj:j<vs.length:=dg.mp hj;have e1:ü (vs.map PV.int) (j:Nat)=Za (.int (Ey vs j)):=nT (by unfold Ey;rw[aG,ay hj];rfl);by_cases hz:j=d
   .subst hz;simp[Ŧ,rc,ny,uw,e1,m1,m3,pM,sS,qm]
   .have X9:((j:Int)==(d:Int))=false:=by simp;lia
    simp[Ŧ,rc,ny,uw,e1,m1,m2,pM,sS,qm,hz,X9]
  rw[this]
  congr 1
  rw[iY.mpr (λ_ _=>rfl),FA,aH,aH];rfl
 have c2:oH og (x2 (j' 1) (x2 (j' 0) (xC (.int 26)) ö) Zk) [Za (.str abc)] (((bo vs.length).map (qm vs d k)).map .int) (T.add (.lst (ws.map .str)))=.ok (((ŗ vs d k).map λc=>(⟨#[c]⟩:Str)).map .str) (T.add (.lst (ws.map .str))):=by
  have:=qG (c:=og) (e:=x2 (j' 1) (x2 (j' 0) (xC (.int 26)) ö) Zk) (cap:=[Za (.str abc)]) (s:=T.add (.lst (ws.map .str))) (λ_=>true) (λq=>match q with|.int j=>.str ⟨#[97+(j%26).toNat]⟩|_=>.Zn) (((bo vs.length).map (qm vs d k)).map .int) (λ_ _=>rfl) λq hq _=>by let⟨z,_,rfl⟩:=ar.mp hq;have e1:=Re (fj z (show(26:Int)≠0 by decide)) (dU z (show(0:Int)<26 by decide));simp[Ŧ,rc,ny,uw,abc,e1,Fb]
  rw[this]
  congr 1
  rw[iY.mpr (λ_ _=>rfl),aH,aH,aH];unfold ŗ;rw[aH];rfl
 have hj:((((ŗ vs d k).map λc=>(⟨#[c]⟩:Str)).map (·.length)).sum+((ŗ vs d k).map λc=>(⟨#[c]⟩:Str)).length*(b5 "").length)<=16777216:=by
  have e:(b5 "").length=0:=rfl;have:=Kl (ys:=(ŗ vs d k).map λc=>(⟨#[c]⟩:Str)) λz hz=>by let⟨c,_,rfl⟩:=ar.mp hz;exact ak _
  rw[ac,xN] at this;rw[e];lia
 have Wp:(((bo vs.length).map (qm vs d k)).map PV.int).length<=100000:=by simp;lia
 have hg:(T.add (.lst (ws.map .str))).get T.nx=Za (.lst (ws.map .str)):=by rw[nr,Zc rfl]
 have Yc:∀c,(T.add (.lst (ws.map .str))).set T.nx c=T.add c:=λc=>zY T _ _;have s1:pW (Ø (F' (j' 3) J')) [4,7,5] og (x2 (x2 (j' 1) (j' 0) Zk) (x2 (x2 (xC (.int 5)) (j' 2) Zy) (xB (F' (x2 (j' 0) (j' 3) Ĕ) J') Ż) Zy) ZS) (nE p m vs d T.nx (Za (.int (k:Nat))) (v)) (T.add (.lst (ws.map .str)))=.ok (.lst (((bo vs.length).map (qm vs d k)).map .int)) (T.add (.lst (ws.map .str))):=by
  have er:Ø (F' (j' 3) J') (nE p m vs d T.nx (Za (.int (k:Nat))) (v)) (T.add (.lst (ws.map .str)))=.ok (vV 0 vs.length) (T.add (.lst (ws.map .str))):=by exact vW rfl `l
  exact qk er R5 c1
 apply(pB (i:=7)).trans;unfold o5;apply(Mg (mY s1)).trans;have e2:pW (ZL (j' 8)) [2] og (x2 (j' 1) (x2 (j' 0) (xC (.int 26)) ö) Zk) (nE p m vs d T.nx (Za (.int (k:Nat))) (Za (.lst (((bo vs.length).map (qm vs d k)).map .int)))) (T.add (.lst (ws.map .str)))=.ok (.lst (((ŗ vs d k).map λc=>(⟨#[c]⟩:Str)).map .str)) (T.add (.lst (ws.map .str))):=qk rfl Wp c2;show Ť (Á (j' 6) (F' (ţ (xC (.str "")) (F' (pW (ZL (j' 8)) [2] og (x2 (j' 1) (x2 (j' 0) (xC (.int 26)) ö) Zk)) J')) J')) (nE p m vs d T.nx (Za (.int (k:Nat))) (Za (.lst (((bo vs.length).map (qm vs d k)).map .int)))) (T.add (.lst (ws.map .str)))=_;have e3:ţ (xC (.str "")) (F' (pW (ZL (j' 8)) [2] og (x2 (j' 1) (x2 (j' 0) (xC (.int 26)) ö) Zk)) J') (nE p m vs d T.nx (Za (.int (k:Nat))) (Za (.lst (((bo vs.length).map (qm vs d k)).map .int)))) (T.add (.lst (ws.map .str)))=.ok (.str (mkW (ŗ vs d k))) (T.add (.lst (ws.map .str))):=by unfold ţ;have e4:=mE (fa:=J') e2 rfl;simp only[xC,Out.bind,e4,ZH,wy];rw[Zc hj,GZ]
 apply zk (v:=.Zn);have e4:=mE (fa:=J') e3 rfl;unfold Á;simp only[j',Out.bind,gX,gW,hg,e4,Yc,ac];rw[Zc (show ws.length<100000 by lia)];simp
def mD(h:Z[i]?=Za (Za v)):j' i Z s=.ok v s:=by unfold j';rw[h]
def xT(s)(p)(x y x' y'):(ZF s p x y).set p (.lst [.int x',.int y'])=ZF s p x' y':=sM _ _ _ _
def vH(a)(hP:Zz s p)(x y)(h0:0<n)(h1:Bt 9000 n):∃r x' y',0<=r/\r<n/\mV a [.ref p,.int n] (ZF s p x y)=.ok (.int r) (ZF s p x' y'):=by let⟨r,x',y',r0,r1,e⟩:=uB a (ZF s p x y) p n (hP.ZF x y) h0 h1;rw[xT] at e;exact⟨r,x',y',r0,r1,e⟩
def vA(hP:Zz s p):∃x y,s=ZF s p x y:=by let⟨x,y,h⟩:=hP;exact⟨x,y,(AV s p _ h).symm⟩
def mP(h:f Z s=.nx Y' s')(k:g Y' s'=o):Y3 f g Z s=o:=(Mg h).trans k
def m8(h:g (vs.map Za++aQ (N-vs.length) Zb) s=.rt v s'):à N g vs s=.ok v s':=by unfold à;rw[h]
def Bf(h:g (vs.map Za++aQ (N-vs.length) Zb) s=.nx Z s'):à N g vs s=.ok .Zn s':=by unfold à;rw[h]
def se(vs:List Int)(d k:Nat):List Str:=(bo k).map λi=>mkW (ŗ vs d i)
def K2(a)(s)(p)(hp:p<s.nx)(hP:Zz s p)(m)(hm:m<=10):∃x y vs d fl,0<vs.length/\vs.length<=7/\d<vs.length/\uk a [.ref p,.int (m:Nat)] s=.ok (.lst (((bo m).map (ť vs d fl)).map .str)) (N'.bump (ZF s p x y)):=by
 let⟨xa,y0,es⟩:=vA hP;let⟨r,xb,y1,r0,r1,e1⟩:=vH a hP xa y0 (n:=7) `d (qf `d `d);rw[<-es] at e1;obtain⟨n,hn,rfl⟩:∃n:Nat,1<=n/\r=(n:Int)-1:=⟨r.toNat+1,by lia,by lia⟩;have Xi:n<=7:=by lia
 let⟨pv,t2,hc,vs,xc,y2,rfl,rfl,hvl⟩:=Pd (c:=og) (e:=V' 2 (mV a) (F' (j' 1) (F' (xC (.int 26)) J'))) (cap:=[Za (.ref p)]) (vV 0 n)
  (λi pv t=>∃(vs:List Int)(x y:Int),pv=vs.map PV.int/\t=ZF s p x y/\vs.length=i)
  (λi q pv t hq hI=>by let⟨vs,x,y,rfl,rfl,hl⟩:=hI;let⟨b,x',y',_,_,e⟩:=vH a hP x y (n:=26) `d (qf `d `d);exact .inr ⟨_,.int b,_,rfl,mS (mE `m (mE rfl rfl)) rfl e,vs++[b],x',y',by simp,rfl,by simp[hl]⟩)
  (s:=ZF s p xb y1) ⟨[],xb,y1,rfl,rfl,rfl⟩
 rw[xu] at hvl;subst hvl;let⟨d',xd,y3,d0,d1,e3⟩:=vH a hP xc y2 (n:=(vs.length:Int)) `l (qf `l `l);obtain⟨d,rfl⟩:∃d:Nat,d'=d:=⟨d'.toNat,by lia⟩;have hd:d<vs.length:=by lia
 have lp:∃u v,nR (nj (Y4 7) (o5 a)) (vV 0 m) (nE p m vs d s.nx Zb Zb) ((ZF s p xd y3).add (.lst []))=.nx (nE p m vs d s.nx u v) ((ZF s p xd y3).add (.lst ((se vs d m).map .str))):=by
  let⟨Y',s',hl,u,v,rfl,rfl⟩:=vE (body:=nj (Y4 7) (o5 a)) m
   (λk Z t=>∃u v,Z=(nE p m vs d s.nx u v)/\t=(ZF s p xd y3).add (.lst ((se vs d k).map .str)))
   (λk Z t hk hI=>by
    let⟨u,v,rfl,rfl⟩:=hI;have:=Jo a (ZF s p xd y3) p m vs `l Xi d hd (se vs d k) (by simp[se];lia) k `l u v;refine⟨_,_,this,_,_,rfl,?_⟩;have:se vs d (k+1)=se vs d k++[mkW (ŗ vs d k)]:=by unfold se;rw[List.range_succ,aD];rfl
    rw[this]) (Z:=(nE p m vs d s.nx Zb Zb)) (s:=(ZF s p xd y3).add (.lst [])) ⟨Zb,Zb,rfl,rfl⟩
  exact⟨u,v,hl⟩
 let⟨u,v,lp⟩:=lp;have hq:Zz ((ZF s p xd y3).add (.lst ((se vs d m).map .str))) p:=(hP.ZF xd y3).add _ hp;let⟨f,xe,y4,_,_,e4⟩:=uB a _ p 4 hq `d (qf `d `d);rw[NO _ _ _ _ _ _ _ hp] at e4;have hg:((ZF s p xe y4).add (.lst ((se vs d m).map .str))).get s.nx=Za (.lst ((se vs d m).map .str)):=by have:(ZF s p xe y4).nx=s.nx:=rfl;rw[nr,Zc this]
 have UW:((ZF s p xe y4).add (.lst ((se vs d m).map .str))).del s.nx=N'.bump (ZF s p xe y4):=OV (ZF s p xe y4) _;have head:∀(o:SO),Y3 (ÿ (ZI (x2 (V' 2 (mV a) (F' (j' 0) (F' (xC (.int 4)) J'))) (xC (.int 0)) Ĕ)) (Y8 6 (p8 (xn (F' (ϓ (j' 6)) J')) [] og (x2 (j' 1) (x2 (xC (.str "x")) (x2 (j' 0) (xC (.int 2)) ö) Aq) ZS))) Z6) (ZE (F8 (j' 6))) (nE p m vs d s.nx u v) ((ZF s p xd y3).add (.lst ((se vs d m).map .str)))=o->tZ a [Za (.ref p),Za (.int (m:Nat)),Zb,Zb,Zb,Zb,Zb,Zb,Zb] s=o:=λo ho=>by
  unfold tZ;apply mP (mY rfl);refine mP (mY (v:=.int (vs.length:Nat)) (s':=ZF s p xb y1) ((mT rfl (mS (mE `m (mE rfl rfl)) rfl e1)).trans ?_)) ?_
  .show Out.ok (PV.int (1+((vs.length:Int)-1))) _=_;rw[show(1:Int)+((vs.length:Int)-1)=(vs.length:Nat) by lia]
  refine mP (mY (qk (vW (n:=vs.length) rfl `l) (by rw[xu];lia) hc)) ?_;apply mP (mY (mS (mE `m (mE `m rfl)) rfl e3));apply mP (mY (v:=.ref s.nx) (s':=(ZF s p xd y3).add (.lst [])) rfl);apply mP (sC (vW (n:=m) rfl `l) lp);exact ho
 have c1:x2 (V' 2 (mV a) (F' (j' 0) (F' (xC (.int 4)) J'))) (xC (.int 0)) Ĕ (nE p m vs d s.nx u v) ((ZF s p xd y3).add (.lst ((se vs d m).map .str)))=.ok (.bl (f==0)) ((ZF s p xe y4).add (.lst ((se vs d m).map .str))):=by apply(mT (mS (mE `m (mE rfl rfl)) rfl e4) rfl).trans;show Î false _ _ _=_;unfold Î;rw[pM,pM];simp[sS,F5]
 by_cases hf:f=0
 .refine⟨xe,y4,vs,d,true,by lia,Xi,hd,m8 (head _ ?_)⟩;refine mP ((xA (s1:=(ZF s p xe y4).add (.lst ((se vs d m).map .str))) (by unfold ZI;rw[c1,hf];rfl)).trans (mY (v:=.lst (((bo m).map (ť vs d true)).map .str)) (s':=N'.bump (ZF s p xe y4)) ?_)) ?_
  .unfold p8 xn;have ef:F' (ϓ (j' 6)) J' (nE p m vs d s.nx u v) ((ZF s p xe y4).add (.lst ((se vs d m).map .str)))=.ok [.lst ((se vs d m).map .str)] (N'.bump (ZF s p xe y4)):=by refine mE ?_ rfl;unfold ϓ;rw[mD (v:=.ref s.nx) rfl];simp[Out.bind,ġ,hg,UW]
   rw[ef];simp only[Out.bind];rw[Zc (by rw[tj,ac];simp[se];lia)];have cp:=AG (e:=x2 (j' 1) (x2 (xC (.str "x")) (x2 (j' 0) (xC (.int 2)) ö) Aq) ZS) (s:=N'.bump (ZF s p xe y4)) (λj w=>w++if j%2=1 then b5 "x" else ci) (se vs d m) 0 λj w hw=>by
    let⟨k,_,rfl⟩:=ar.mp hw;have hl:(mkW (ŗ vs d k)).length<=7:=by rw[Ih,xN];exact Xi
    have Wq:(mkW (ŗ vs d k)).length+1<=100000:=by lia
    have Vh:(mkW (ŗ vs d k)).length<=100000:=by lia
    have lx:(b5 "x").length=1:=rfl;have l0:ci.length=0:=rfl;obtain z|z:=Nat.mod_two_eq_zero_or_one j
    .have z':(j:Int)%2=0:=by lia
     simp[Ŧ,rc,ny,uw,Aq,z,z',l0,Vh]
    .have z':(j:Int)%2=1:=by lia
     simp[Ŧ,rc,ny,uw,Aq,z,z',lx,Wq]
   have el:((bo (se vs d m).length).map λi=>(((se vs d m)[i]?).getD ci)++if(0+i)%2=1 then b5 "x" else ci)=(bo m).map (ť vs d true):=by
    have:(se vs d m).length=m:=by simp[se]
    rw[this];refine aX λk hk=>?_;have hk:=dg.mp hk;have:(se vs d m)[k]?=Za (mkW (ŗ vs d k)):=by unfold se;rw[aG,lU hk];rfl
    rw[this,fG];apply D8;unfold ť;rw[Bj,rR];simp only[Option.getD_some,rR];by_cases hk2:k%2=1
    .rw[Zc hk2,Zc ⟨trivial,hk2⟩];rfl
    .rw[Zd hk2,Zd (λz=>hk2 z.2)];rfl
   rw[el] at cp;show((nW og _ [] _ _).bind _)=_;rw[cp];rfl
  .apply oh;unfold F8;rw[mD (v:=.lst (((bo m).map (ť vs d true)).map .str)) rfl];rfl
 .refine⟨xe,y4,vs,d,false,by lia,Xi,hd,m8 (head _ ?_)⟩;refine mP ((qW (s1:=(ZF s p xe y4).add (.lst ((se vs d m).map .str))) (by unfold ZI;rw[c1,beq_eq_false_iff_ne.mpr hf];rfl)).trans rfl) ?_;apply oh;unfold F8;rw[mD (v:=.ref s.nx) rfl];simp only[Out.bind,RX,ġ,hg,UW];have:(bo m).map (ť vs d false)=se vs d m:=aX λk _=>by unfold ť;simp
  rw[this]
def ze(l:Hl)(o1 o2:Str)(q:Int×Int):Hl :=
 let r:=oS (mU l o1) (-q.1,q.2);let l1:=if 0<r.1 then oR (oB l o1) o1 r else oB l o1
 oR l1 o2 (oS (mU l1 o2) q)
structure HM(c:Nat)(hl hm:Hl):Prop where
 r:∃hz,HR c hl hz
 nd:(hm.map (·.1)).Nodup
 q:∀n,mU hm n=mU hl n
 mem:∀n,n∈hm.map (·.1)↔n∈hl.map (·.1)
def Ro(c)(ho:Sm o):HM c [(o,1,1)] [(o,1,1)]:=⟨⟨_,Rn c ho⟩,by simp,λ_=>rfl,λ_=>Iff.rfl⟩
def we:n∈(oR l o q).map (·.1)↔n=o\/n∈l.map (·.1):=by
 rw[oC]
 grind
def ă:n∈(oB l o).map (·.1)↔n≠o/\n∈l.map (·.1):=by
 unfold oB;simp[ar,aU]
 grind
theorem HM.Àp{c:Nat}{hl hm:Hl}(h:HM c hl hm){o1 o2:Str}{q:Int×Int}(hq:ϲ q)(so:Sm o2)(nt:¬pS hl o1 q):HM (c+1) (ï hl o1 o2 q) (ze hm o1 o2 q):=by
 let⟨hz,R⟩:=h.r;have q0:0<q.1:=by by_cases z:0<q.1;exact z;exact absurd (.inl z) nt
 have Te:q.1*(mU hl o1).2<=(mU hl o1).1*q.2:=by
  by_cases z:q.1*(mU hl o1).2>(mU hl o1).1*q.2
  .exact absurd (.inr z) nt
  .lia
 have B:=zS (R.fr o1) hq.low q0 Te hq.bb;have eq1:=h.q o1;generalize hr:oS (mU hl o1) (-q.1,q.2)=r at B;have e1:∀n,mU (if 0<r.1 then oR (oB hm o1) o1 r else oB hm o1) n=mU (if r=(0,1) then oB hl o1 else oR hl o1 r) n:=λn=>by
  by_cases z:0<r.1
  .have z':r≠(0,1):=λe=>by rw[e] at z;exact absurd z `d
   rw[Zc z,Zd z',n8,n8,qE];by_cases e:n=o1
   .simp_all
   .rw[Zd e,Zd e,Zd e,h.q]
  .have z':=Bb B.low (by have:=B.nn;lia);rw[Zd z,Zc z',qE,qE];by_cases e:n=o1
   .simp_all
   .rw[Zd e,Zd e,h.q]
 have Ug:o1∈hl.map (·.1):=by
  apply(R.nm o1).mpr;by_cases z:0<(mU hl o1).1
  .exact z
  .exfalso;have b0:=(R.fr o1).low.1;have b1:=hq.low.1;have n0:=(R.fr o1).nn;have:(mU hl o1).1=0:=by lia
   rw[this,Int.zero_mul] at Te;have:=br q0 b0;lia
 have m1:∀n,n∈(if 0<r.1 then oR (oB hm o1) o1 r else oB hm o1).map (·.1)↔n∈(if r=(0,1) then oB hl o1 else oR hl o1 r).map (·.1):=λn=>by
  by_cases z:0<r.1
  .have z':r≠(0,1):=λe=>by rw[e] at z;exact absurd z `d
   rw[Zc z,Zd z',we,we,ă,h.mem]
   grind
  .have z':=Bb B.low (by have:=B.nn;lia);rw[Zd z,Zc z',ă,ă,h.mem]
 have em:ze hm o1 o2 q=oR (if 0<r.1 then oR (oB hm o1) o1 r else oB hm o1) o2 (oS (mU (if 0<r.1 then oR (oB hm o1) o1 r else oB hm o1) o2) q):=by unfold ze;simp[eq1,hr]
 have es:ï hl o1 o2 q=oR (if r=(0,1) then oB hl o1 else oR hl o1 r) o2 (oS (mU (if r=(0,1) then oB hl o1 else oR hl o1 r) o2) q):=by unfold ï;simp[hr]
 refine⟨⟨_,R.Àp hq so nt⟩,?_,λn=>?_,λn=>?_⟩
 .rw[em];apply w6 _ _;split
  .exact w6 _ _ (Ef _ h.nd)
  .exact Ef _ h.nd
 .rw[em,es,n8,n8,e1 o2,e1 n]
 .rw[em,es,we,we,m1]
theorem HM.ZR(h:HM c hl hm):ZR (hm.map (·.1))=ZR (hl.map (·.1)):=by let⟨hz,R⟩:=h.r;refine qp ?_ (ql _) (ql _);refine(jZ ((mW _).nodup_iff.mpr h.nd) ((mW _).nodup_iff.mpr R.n1)).mpr λn=>?_;rw[(mW _).mem_iff,(mW _).mem_iff,h.mem]
def HM.len(h:HM c hl hm):hm.length=hl.length:=by have:=congrArg cC h.ZR;rw[(mW _).length_eq,(mW _).length_eq,ac,ac] at this;exact this
def yj(h:k∉l.map (·.1)):qV l k=none:=by
 unfold qV
 grind
def hP(l:Hl):List (Key×PV):=l.map λq=>(aq q.1,ß q.2)
def Cc(l)(n)(h:n∈l.map (·.1)):qV (hP l) (aq n)=Za (ß (mU l n)):=by
 unfold qV hP mU nI;rw[gD,Option.map_map];have e:((λkv:Key×PV=>decide (kv.1=aq n))∘λq:Str×Int×Int=>((aq q.1:Key),ß q.2))=λq=>decide (q.1=n):=by
  funext q
  simp_all
 rw[e];cases hf:l.find? (λq=>decide (q.1=n)) with
 |none =>
  grind
 |some q=>rfl
def Ej(l):(hP l).map (·.1)=l.map λq=>aq q.1:=by unfold hP;rw[aH];rfl
def Rq(l)(n):(qV (hP l) (aq n)).getD (.tup [.int 0,.int 1])=ß (mU l n):=by
 by_cases h:n∈l.map (·.1)
 .rw[Cc l n h];rfl
 .rw[yj,wj h]
  .rfl
  .rw[Ej]
   grind
def ME(l)(n)(q):z5 (hP l) (aq n) (ß q)=hP (oR l n q):=by
 unfold z5 oR hP;rw[ig];have e:((λkv:Key×PV=>decide (kv.1=aq n))∘λq:Str×Int×Int=>((aq q.1:Key),ß q.2))=λq=>decide (q.1=n):=by
  funext q
  simp_all
 rw[e];split
 .rw[aH,aH];refine aX λz _=>?_
  grind
 .simp
def Bc(pp)(w):qj pp w=true↔w∈pp:=by
 unfold qj
 grind
def qD(L)(w):nK L w=true↔w∈L.map (·.nm):=by
 unfold nK oA
 grind
def CV(a)(h1:yN w=true)(h2:w∉pp)(h3:w∉L.map (·.nm)):sQ a pp L w=none:=by
 unfold sQ;have e1:qj pp w=false:=by rw[gO];exact λz=>h2 ((Bc _ _).mp z)
 have e2:nK L w=false:=by rw[gO];exact λz=>h3 ((qD _ _).mp z)
 grind
def LV{ws:List Str}{r:Int}(h0:0<=r)(h1:r<ws.length):∃w∈ws,ü (ws.map PV.str) r=Za (.str w):=by
 obtain⟨j,rfl⟩:∃j:Nat,r=j:=⟨r.toNat,by lia⟩;have hj:j<ws.length:=by lia
 exact⟨ws[j],cZ hj,nT (by simp[hj])⟩
def xD(hn:e.nm∉A.map (·.nm)):oA (A++e::B) e.nm=Za e:=by
 unfold oA;rw[jh,gE.mpr]
 .simp
 .grind
def IQ(g)(h1:e.nm∉A.map (·.nm))(h2:e.nm∉B.map (·.nm)):GB (A++e::B) e.nm g=A++g e::B:=by
 have no:∀{l:List Ent},e.nm∉l.map (·.nm)->l.map (λx=>if x.nm=e.nm then g x else x)=l:=λ{l} h=>by
  conv=>rhs;rw[<-iM l]
  refine aX λx hx=>?_
  grind
 unfold GB
 grind
def Oz(l)(n):EK (hP l) (aq n)=hP (oB l n):=by
 unfold EK hP oB;rw[dX]
 congr 1
 refine List.filter_congr λx _=>?_
 simp_all
def Rp(l):(hP l).length=l.length:=by unfold hP;grind
theorem Eg:∀(l:List (Key×PV))(ss:List Str),l.map (·.1)=ss.map aq->keysOf l=Za ss
 |[],[],_=>rfl
 |(k,v)::r,s::ss,h=>by have h1:k=aq s:=(iz h).1;have h2:=Eg r ss (iz h).2;subst h1;simp[keysOf,h2]
def Oq(l):keysOf (hP l)=Za (l.map (·.1)):=Eg _ _ (by rw[Ej,aH];rfl)
structure Md where
 nm:Str
 cell:Nat
 hl:Hl
 th:Int
 mr:Int
 ls:Int
def ķ(e:Md):Key×PV:=(aq e.nm,.lst [.ref e.cell,.tup [.int e.th,.int e.mr,.int e.ls]])
def Eh(M:List Md):keysOf (M.map ķ)=Za (M.map (·.nm)):=Eg _ _ (by rw[aH,aH];rfl)
structure ÀC(N:List Str)(c:Nat)(e:Ent)(m:Md):Prop where
 nm:e.nm=m.nm
 th:e.th=m.th
 mr:e.mr=m.mr
 ls:e.ls=m.ls
 hm:HM c e.held m.hl
 ow:∀n∈m.hl.map (·.1),n∈N
 tb:Bt 100 e.th/\Bt 100 e.mr/\Bt 100 e.ls
inductive Ę (N:List Str):Nat->List Ent->List Md->Prop
 |nil {c:Nat}:Ę N c [] []
 |cons {c1 c2 c:Nat}{e:Ent}{m:Md}{L:List Ent}{M:List Md}:ÀC N c1 e m->Ę N c2 L M->c1+c2<=c->Ę N c (e::L) (m::M)
def Ę.mono(hc:c<=d):∀{L:List Ent}{M:List Md},Ę N c L M->Ę N d L M
 |_,_,.nil=>.nil
 |_,_,.cons h r k=>.cons h r (aC k hc)
theorem Ę.names:∀{c:Nat}{L:List Ent}{M:List Md},Ę N c L M->L.map (·.nm)=M.map (·.nm)
 |_,_,_,.nil=>rfl
 |_,_,_,.cons h r _=>by rw[am,am,h.nm,r.names]
theorem Ę.app:∀{c:Nat}{L L':List Ent}{M M':List Md},Ę N c L M->Ę N d L' M'->Ę N (c+d) (L++L') (M++M')
 |_,_,_,_,_,.nil,k=>k.mono (Nat.le_add_left _ _)
 |_,_,_,_,_,.cons h r q,k=>.cons h (r.app k) `l
theorem Ę.cut:∀{c:Nat}{L:List Ent}{M:List Md},Ę N c L M->∀{h:Str},h∈M.map (·.nm)->∃A e B A' m B' k1 k2 k3,L=A++e::B/\M=A'++m::B'/\m.nm=h/\h∉A'.map (·.nm)/\Ę N k1 A A'/\ÀC N k2 e m/\Ę N k3 B B'/\k1+k2+k3<=c
 |_,_,_,.nil,_,hh=>nomatch hh
 |c,e::L,m::M,.cons (c1:=c1) (c2:=c2) k r q,h,hh=>by
  by_cases z:m.nm=h
  .exact⟨[],e,L,[],m,M,0,c1,c2,rfl,rfl,z,by simp,.nil,k,r,by lia⟩
  .have Vl:h∈M.map (·.nm):=(ap.mp hh).elim (λq=>absurd q.symm z) id;let⟨A,e',B,A',m',B',k1,k2,k3,e1,e2,e3,e4,e5,e6,e7,e8⟩:=r.cut Vl;refine⟨e::A,e',B,m::A',m',B',c1+k1,k2,k3,by rw[e1];rfl,by rw[e2];rfl,e3,λq=>?_,.cons k e5 (ak _),e6,e7,by lia⟩
   grind
structure ϱ(t:N')(p nb nd:Nat)(N:List Str)(c:Nat)(pp:List Str)(L:List Ent)(M:List Md):Prop where
 pu:Zz t p
 bk:t.get nb=Za (.book pp L)
 md:t.get nd=Za (.Zv (M.map ķ))
 sh:∀m∈M,t.get m.cell=Za (.Zv (hP m.hl))
 i1:p≠nb
 i2:p≠nd
 i3:nb≠nd
 i4:∀m∈M,m.cell≠p/\m.cell≠nb/\m.cell≠nd
 i5:(M.map (·.cell)).Nodup
 lt:p<t.nx/\nb<t.nx/\nd<t.nx/\∀m∈M,m.cell<t.nx
 pr:Ę N c L M
theorem ϱ.ZF(W:ϱ t p nb nd N c pp L M)(x y):ϱ (ZF t p x y) p nb nd N c pp L M :=
 ⟨W.pu.ZF x y,by rw[<-W.bk];exact mM _ _ (bV W.i1),by rw[<-W.md];exact mM _ _ (bV W.i2),λm hm=>by rw[<-W.sh m hm];exact mM _ _ (W.i4 m hm).1,W.i1,W.i2,W.i3,W.i4,W.i5,W.lt,W.pr⟩
theorem ϱ.mono(W:ϱ t p nb nd N c pp L M)(hc:c<=d):ϱ t p nb nd N d pp L M :=
 ⟨W.pu,W.bk,W.md,W.sh,W.i1,W.i2,W.i3,W.i4,W.i5,W.lt,W.pr.mono hc⟩
def ϱ.Àp(W:ϱ t p nb nd N c pp (A++e::B) (A'++m::B'))(c1:Ę N k1 A A')(c2:ÀC N k2 e m)(c3:Ę N k3 B B')(ck:k1+k2+k3<=c)(h:HM (k2+1) Vi UT)(ow:∀n∈UT.map (·.1),n∈N):ϱ ((t.set nb (.book pp (A++{ e with held:=Vi }::B))).set m.cell (.Zv (hP UT))) p nb nd N (c+1) pp (A++{ e with held:=Vi }::B) (A'++{ m with hl:=UT }::B'):=by
 have hm:=W.i4 m (aL _ al);have X0:=W.i5;rw[aD,am] at X0;let⟨nA,nB,nX⟩:=bZ.mp X0;let⟨nm,nB⟩:=aK.mp nB;have Uf:∀m'∈A'++B',m'.cell≠m.cell/\m'∈A'++m::B':=λm' h'=>by
  grind
 have g1:(t.set nb (.book pp (A++{ e with held:=Vi }::B))).get m.cell=Za (.Zv (hP m.hl)):=by rw[mM _ _ hm.2.1];exact W.sh m (aL _ al)
 refine⟨?_,?_,?_,λm' h'=>?_,W.i1,W.i2,W.i3,λm' h'=>?_,?_,⟨W.lt.1,W.lt.2.1,W.lt.2.2.1,λm' h'=>?_⟩,Ę.mono (c:=k1+(k2+1+k3)) `l (c1.app (.cons (c1:=k2+1) ⟨c2.nm,c2.th,c2.mr,c2.ls,h,ow,c2.tb⟩ c3 (ak _)))⟩
 .let⟨x,y,e⟩:=W.pu;exact⟨x,y,by rw[mM _ _ (bV hm.1),mM _ _ W.i1];exact e⟩
 .rw[mM _ _ (bV hm.2.1)];exact nZ W.bk
 .rw[mM _ _ (bV hm.2.2),mM _ _ (bV W.i3),W.md];simp[ķ]
 .obtain z|z:=a7.mp h'
  .let⟨q1,q2⟩:=Uf m' (cN _ z);rw[mM _ _ q1,mM _ _ (W.i4 m' q2).2.1];exact W.sh m' q2
  .obtain z|z:=ap.mp z
   .subst z;exact nZ g1
   .let⟨q1,q2⟩:=Uf m' (aL _ z);rw[mM _ _ q1,mM _ _ (W.i4 m' q2).2.1];exact W.sh m' q2
 .obtain z|z:=a7.mp h'
  .exact W.i4 m' (cN _ z)
  .obtain z|z:=ap.mp z
   .subst z;exact hm
   .exact W.i4 m' (aL _ (af _ z))
 .rw[aD,am];exact X0
 .obtain z|z:=a7.mp h'
  .exact W.lt.2.2.2 m' (cN _ z)
  .obtain z|z:=ap.mp z
   .subst z;exact W.lt.2.2.2 m (aL _ al)
   .exact W.lt.2.2.2 m' (aL _ (af _ z))
def NF(a)(hb:t.get nb=Za (.book pp (A++e::B)))(nd:((A++e::B).map (·.nm)).Nodup)(hn:Nm e.nm/\Nm o1/\Nm o2)(hz:Sz q)(ok:ό e.held o1 q)(h1:(qj pp o1||nK (A++e::B) o1)=true)(h2:(qj pp o2||nK (A++e::B) o2)=true)(nt:¬pS e.held o1 q) :
  xm a [.ref nb,.str e.nm,.str o1,.str o2,ß q] t=.ok .Zn (t.set nb (.book pp (A++{ e with held:=ï e.held o1 o2 q }::B))):=by
 rw[aD,am] at nd;have n1:=λz=>(bZ.mp nd).2.2 _ z _ al rfl;have n2:=(aK.mp (bZ.mp nd).2.1).1;have hS:ÀA (A++e::B) e.nm o1 o2 q:=⟨by rw[aD,am];exact nd,hn,hz,λe' he=>by rw[xD n1] at he;grind⟩;simp[xm,oF,hb,hS,xD n1,nt,ß,IQ _ n1 n2]
 grind
def um(h:t.get n=Za (.Zv l))(hk:keysOf l=Za ss)(hl:ss.length<64):ny [.ref n] t=.ok (.lst ((ZR ss).map .str)) t:=by simp[ny,ZH,Ú,h,hk,hl]
def Ca{t:N'}{ws:List Str}{r:Int}{w:Str}(h:ü (ws.map PV.str) r=Za (.str w)):Zk (.lst (ws.map .str)) (.int r) t=.ok (.str w) t:=by simp[Zk,ZH,h]
def Om:å [.lst l] t=.ok (.int (l.length:Nat)) t:=by simp[å,ZH]
def Hw(h:t.get n=Za (.Zv l))(hv:qV l (aq w)=Za v):Zk (.ref n) (.str w) t=.ok v t:=by simp[Zk,ZH,Ú,h,ó,hv]
def Mx(h:m.nm∉A'.map (·.nm)):qV ((A'++m::B').map ķ) (aq m.nm)=Za (.lst [.ref m.cell,.tup [.int m.th,.int m.mr,.int m.ls]]):=by
 unfold qV;rw[aD,jh];have:(A'.map ķ).find? (λkv=>decide (kv.1=aq m.nm))=none:=by
  rw[gE];intro x hx;let⟨m',h',rfl⟩:=ar.mp hx;intro z;have z:(aq m'.nm:Key)=aq m.nm:=Zf z
  grind
 rw[this];simp[ķ]
theorem HM.fr(h:HM c hl hm)(n):ϣ c (mU hm n):=by let⟨z,R⟩:=h.r;rw[h.q];exact R.fr n
def HM.pos(h:HM c hl hm)(hn:n∈hm.map (·.1)):0<(mU hm n).1:=by let⟨z,R⟩:=h.r;rw[h.q];exact(R.nm n).mp ((h.mem n).mp hn)
def NZ(hc:c<=40)(hg:ϣ c g)(h:ϳ g q)(hb:q.2<10^29):ϲ q:=by
 have b0:=h.low.1;have hq:=Ic hg h.low h.le;have b97:Bt 97 q.2:=by
  show q.2.natAbs<2^97
  grind
 refine⟨h.low,?_,b97⟩;have h2:Bt 200 (((2^c:Nat):Int)*q.2):=((show Bt (c+1) ((2^c:Nat):Int) from by show((2^c:Nat):Int).natAbs<2^(c+1);exact lR (Zf rfl) `l).mul b97).mono `l
 show q.1.natAbs<2^200;have h3:(((2^c:Nat):Int)*q.2).natAbs<2^200:=h2;have:=h.pos
 grind
def ϱ.Àw(W:ϱ t p nb nd N c pp L M)(a)(x y)(h0:0<n)(h1:Bt 9000 n):∃r x' y',0<=r/\r<n/\mV a [.ref p,.int n] (My.ZF t p x y)=.ok (.int r) (My.ZF t p x' y'):=by let⟨r,x',y',r0,r1,e⟩:=uB a (My.ZF t p x y) p n (W.ZF x y).pu h0 h1;rw[xT] at e;exact⟨r,x',y',r0,r1,e⟩
def Pi(h:f Z s=.ok (.tup [v,w]) s'):ě f (Ô 2 (Zp (Y4 i) (Zp (Y4 j) Õ))) Z s=.nx ((Z.set i (Za v)).set j (Za w)) s':=by unfold ě;rw[h];rfl
def Eb(h1:fv Z s=.ok v s1)(h2:fo Z s1=.ok (.ref n) s1)(h3:fi Z s1=.ok (.str w) s1)(hg:s1.get n=Za (.Zv l))(hl:l.length<100000):Ł fo fi fv Z s=.nx Z (s1.set n (.Zv (z5 l (aq w) v))):=by unfold Ł;rw[h1];simp[Out.so];rw[h2];simp only;rw[h3];simp[uw,hg,ó,hl]
def K6(a)(s)(hg:ħ g)(hq:ħ q)(bg:Bt 8800 g.2)(bq:Bt 100 q.2):nO a [.int (g.1*q.2-q.1*g.2),.int (g.2*q.2)] s=.ok (ß (oS g (-q.1,q.2))) s:=by
 have e:=xX a s (g.1*q.2-q.1*g.2) (g.2*q.2) (br hg.1 hq.1) ((bg.mul bq).mono (Zf rfl));rw[e];unfold oS
 grind
def K7(a)(s)(hg:ħ g)(hq:ħ q)(bg:Bt 8800 g.2)(bq:Bt 100 q.2):nO a [.int (g.1*q.2+q.1*g.2),.int (g.2*q.2)] s=.ok (ß (oS g q)) s :=
 xX a s (g.1*q.2+q.1*g.2) (g.2*q.2) (br hg.1 hq.1) ((bg.mul bq).mono (Zf rfl))
def ix0:Zk (ß q) (.int 0) t=.ok (.int q.1) t:=by simp[Zk,ß,ü,Ϥ]
def ix1:Zk (ß q) (.int 1) t=.ok (.int q.2) t:=by simp[Zk,ß,ü,Ϥ]
def pP(h1:f Z s=.ok (.int i) s1)(h2:g Z s1=.ok (.int j) s2)(hm:qN i j):x2 f g Zy Z s=.ok (.int (i*j)) s2:=by rw[mT h1 h2];simp[Zy,hm]
def Qs(h1:f Z s=.ok (.int i) s1)(h2:g Z s1=.ok (.int j) s2):x2 f g ē Z s=.ok (.int (i-j)) s2:=by rw[mT h1 h2];rfl
def xl(h1:f Z s=.ok (.int i) s1)(h2:g Z s1=.ok (.int j) s2):x2 f g ZS Z s=.ok (.int (i+j)) s2:=by rw[mT h1 h2];rfl
def Rr(h1:f Z s=.ok (.ref n) s)(hg:s.get n=Za (.Zv l))(h2:g Z s=.ok (.str w) s)(h3:h Z s=.ok z s):Ě f g h Z s=.ok ((qV l (aq w)).getD z) s:=by unfold Ě;rw[h1];simp[Out.bind,Ú,hg,h2,h3,ó]
def OT(h1:f Z s=.ok (.ref n) s)(hg:s.get n=Za (.Zv l))(h2:g Z s=.ok (.str w) s)(hv:qV l (aq w)=Za v):Gn f g Z s=.ok v (s.set n (.Zv (EK l (aq w)))):=by unfold Gn;rw[h1];simp[Out.bind,hg,h2,ó,hv]
def Jp(h1:o1∈l.map (·.1))(h:n∈(ze l o1 o2 q).map (·.1)):n∈l.map (·.1)\/n=o2:=by
 unfold ze at h;rw[we] at h;obtain h|h:=h
 .exact .inr h
 .refine .inl ?_;split at h
  .rw[we] at h;obtain h|h:=h
   .rw[h];exact h1
   .exact(ă.mp h).2
  .exact(ă.mp h).2
def Mb(h:l≠[]):0<(ZR l).length:=by rw[(mW l).length_eq];exact iX.mpr h
def RV(a:Y9){t:N'}{p nb nd:Nat}{N:List Str}{c:Nat}{pp:List Str}{L:List Ent}{M:List Md}(W:ϱ t p nb nd N c pp L M)(x y:Int){ws:List Str}(h0:0<ws.length)(hl:ws.length<1000){i:Nat}{Z:En}(hp:Z[0]?=Za (Za (.ref p)))(hi:Z[i]?=Za (Za (.lst (ws.map .str)))) :
  ∃w x' y',w∈ws/\x2 (j' i) (V' 2 (mV a) (F' (j' 0) (F' (xB (F' (j' i) J') å) J'))) Zk Z (ZF t p x y)=.ok (.str w) (ZF t p x' y'):=by
 let⟨r,x',y',r0,r1,e⟩:=W.Àw a x y (n:=ws.length) `l (qf `l `l);let⟨w,hw,SY⟩:=LV r0 r1;refine⟨w,x',y',hw,?_⟩;have e2:xB (F' (j' i) J') å Z (ZF t p x y)=.ok (.int ws.length) (ZF t p x y):=by rw[AM (mE (mD hi) rfl),Om,ac]
 exact(mT (mD hi) (mS (mE (mD hp) (mE e2 rfl)) rfl e)).trans (Ca SY)
abbrev sE(p nd:Nat)(N:List Str)(nb:Nat)(r:En):En:=Za (.ref p)::Za (.ref nd)::Za (.lst (N.map .str))::Za (.ref nb)::r
def NA(a:Y9){t:N'}{p nb nd:Nat}{N:List Str}{c:Nat}{pp:List Str}{L:List Ent}{M:List Md}(W:ϱ t p nb nd N c pp L M)(hc:c<=40)(hM:M≠[])(õ:(L.map (·.nm)).Nodup)(Xp:∀n∈N,Sm n)(hLN:∀n∈L.map (·.nm),n∈N)(hN1:∀n∈N,(qj pp n||nK L n)=true)(hN0:N≠[])(hNl:N.length<64)(hL8:L.length<=8) :
  ∃t' L' M',rZ a [.ref p,.ref nd,.lst (N.map .str),.ref nb] t=.ok .Zn t'/\ϱ t' p nb nd N (c+1) pp L' M'/\L'.map (·.nm)=L.map (·.nm)/\M'.map (·.cell)=M.map (·.cell)/\t'.nx=t.nx/\∀k,k≠p->k≠nb->k∉M.map (·.cell)->t'.get k=t.get k:=by
 have hml:M.length=L.length:=by have:=congrArg cC W.pr.names;simpa using this.symm
 let⟨x0,y0,et⟩:=vA W.pu;have s1:ny [.ref nd] t=.ok (.lst ((ZR (M.map (·.nm))).map .str)) t:=um W.md (Eh M) (by rw[ac];lia);let⟨h,xa,ya,hh,eh⟩:=RV a W x0 y0 (ws:=ZR (M.map (·.nm))) (Mb (by simpa using hM)) (by rw[(mW _).length_eq,ac];lia) (i:=4) (Z:=(sE p nd N nb [Za (.lst ((ZR (M.map (·.nm))).map .str)),Zb,Zb,Zb,Zb,Zb,Zb,Zb,Zb,Zb])) rfl rfl;rw[<-et] at eh;have hh:=(mW _).mem_iff.mp hh;let⟨A,e,B,A',m,B',k1,kk,k3,rfl,rfl,rfl,hA,c1,c2,c3,ck⟩:=W.pr.cut hh;have hck:kk<=40:=by lia
 have Yl:m∈A'++m::B':=aL _ al;let⟨i4a,i4b,i4c⟩:=W.i4 m Yl;have g0:∀x y,(ZF t p x y).get m.cell=Za (.Zv (hP m.hl)):=λx y=>(W.ZF x y).sh m Yl;have gd:∀x y,(ZF t p x y).get nd=Za (.Zv ((A'++m::B').map ķ)):=λx y=>(W.ZF x y).md;have gb:∀x y,(ZF t p x y).get nb=Za (.book pp (A++e::B)):=λx y=>(W.ZF x y).bk;let⟨hz,R⟩:=c2.hm.r;have R5:m.hl.length<=45:=by rw[c2.hm.len];exact aC R.l1 `l
 have Su:m.hl.map (·.1)≠[]:=by let⟨n,hn⟩:=R.ex;exact mv ((c2.hm.mem n).mpr ((R.nm n).mpr hn))
 have s2:∀x y,ny [.ref m.cell] (ZF t p x y)=.ok (.lst ((ZR (m.hl.map (·.1))).map .str)) (ZF t p x y):=λx y=>um (g0 x y) (Oq m.hl) (by rw[ac];lia);let⟨o1,xb,yb,ho,eo⟩:=RV a W xa ya (ws:=ZR (m.hl.map (·.1))) (Mb Su) (by rw[(mW _).length_eq,ac];lia) (i:=7) (Z:=(sE p nd N nb [Za (.lst ((ZR ((A'++m::B').map (·.nm))).map .str)),Za (.str m.nm),Za (.ref m.cell),Za (.lst ((ZR (m.hl.map (·.1))).map .str)),Zb,Zb,Zb,Zb,Zb,Zb])) rfl rfl;have ho:=(mW _).mem_iff.mp ho;let⟨o2,xc,yc,UH,eo2⟩:=RV a W xb yb (ws:=N) (iX.mpr hN0) `l (i:=2) (Z:=(sE p nd N nb [Za (.lst ((ZR ((A'++m::B').map (·.nm))).map .str)),Za (.str m.nm),Za (.ref m.cell),Za (.lst ((ZR (m.hl.map (·.1))).map .str)),Za (.str o1),Zb,Zb,Zb,Zb,Zb])) rfl rfl;have F1:=c2.hm.fr o1;have p0:=c2.hm.pos ho;let⟨q,xd,yd,hq,ep⟩:=N0 a (ZF t p xc yc) p (W.ZF xc yc).pu (mU m.hl o1) F1.low p0 (F1.bb.mono `l);rw[xT] at ep;have v1:∀x y,Zk (.ref m.cell) (.str o1) (ZF t p x y)=.ok (ß (mU m.hl o1)) (ZF t p x y):=λx y=>Hw (g0 x y) (Cc m.hl o1 ho);have v0:∀x y,Zk (.ref nd) (.str m.nm) (ZF t p x y)=.ok (.lst [.ref m.cell,.tup [.int m.th,.int m.mr,.int m.ls]]) (ZF t p x y):=λx y=>Hw (gd x y) (Mx hA);have head:∀(o:SO),Y3 (ÿ (ZI (x2 (x2 (j' 10) (xC (.int 1)) Zk) (x2 (xC (.int 10)) (xC (.int 29)) Ģ) fGe)) ϸ Z6) (Y3 (Ť (ł 5 (xm a) (j' 3) (F' (j' 5) (F' (j' 8) (F' (j' 9) (F' (j' 10) J')))))) (Y3 (ě (Gn (j' 6) (j' 8)) (Ô 2 (Zp (Y4 11) (Zp (Y4 12) Õ)))) (Y3 (Y8 13 (V' 2 (nO a) (F' (x2 (x2 (j' 11) (x2 (j' 10) (xC (.int 1)) Zk) Zy) (x2 (x2 (j' 10) (xC (.int 0)) Zk) (j' 12) Zy) ē) (F' (x2 (j' 12) (x2 (j' 10) (xC (.int 1)) Zk) Zy) J')))) (Y3 (ÿ (ZI (x2 (x2 (j' 13) (xC (.int 0)) Zk) (xC (.int 0)) fGt)) (Ł (j' 6) (j' 8) (j' 13)) Z6) (Y3 (ě (Ě (j' 6) (j' 9) (Ö (F' (xC (.int 0)) (F' (xC (.int 1)) J')))) (Ô 2 (Zp (Y4 11) (Zp (Y4 12) Õ)))) (Ł (j' 6) (j' 9) (V' 2 (nO a) (F' (x2 (x2 (j' 11) (x2 (j' 10) (xC (.int 1)) Zk) Zy) (x2 (x2 (j' 10) (xC (.int 0)) Zk) (j' 12) Zy) ZS) (F' (x2 (j' 12) (x2 (j' 10) (xC (.int 1)) Zk) Zy) J')))))))))
   (sE p nd N nb [Za (.lst ((ZR ((A'++m::B').map (·.nm))).map .str)),Za (.str m.nm),Za (.ref m.cell),Za (.lst ((ZR (m.hl.map (·.1))).map .str)),Za (.str o1),Za (.str o2),Za (ß q),Zb,Zb,Zb]) (ZF t p xd yd)=o ->
   vi a (sE p nd N nb [Zb,Zb,Zb,Zb,Zb,Zb,Zb,Zb,Zb,Zb]) t=o:=λo ho=>by
  unfold vi;refine mP (mY ((AM (mE `m rfl)).trans s1)) ?_;refine mP (mY eh) ?_;refine mP (mY (v:=.ref m.cell) (s':=ZF t p xa ya) ((mT ((mT `m `m).trans (v0 xa ya)) rfl).trans rfl)) ?_;refine mP (mY ((AM (mE `m rfl)).trans (s2 xa ya))) ?_;refine mP (mY eo) ?_;refine mP (mY eo2) ?_;refine mP (mY (mS (mE `m (mE ((mT `m `m).trans (v1 xc yc)) rfl)) rfl ep)) ?_;exact ho
 have pw:∀(Z:En)(s:N'),x2 (xC (.int 10)) (xC (.int 29)) Ģ Z s=.ok (.int (10^29)) s:=λZ s=>by simp[x2,xC,Ģ,Out.bind]
 generalize ŧ:(sE p nd N nb [Za (.lst ((ZR ((A'++m::B').map (·.nm))).map .str)),Za (.str m.nm),Za (.ref m.cell),Za (.lst ((ZR (m.hl.map (·.1))).map .str)),Za (.str o1),Za (.str o2),Za (ß q)])=Ĺ at *;have UR:∀u v w,(sE p nd N nb [Za (.lst ((ZR ((A'++m::B').map (·.nm))).map .str)),Za (.str m.nm),Za (.ref m.cell),Za (.lst ((ZR (m.hl.map (·.1))).map .str)),Za (.str o1),Za (.str o2),Za (ß q),u,v,w])=Ĺ++[u,v,w]:=λu v w=>by rw[<-ŧ];rfl
 rw[UR] at head;have r3:∀u v w,(Ĺ++[u,v,w])[3]?=Za (Za (.ref nb)):=λu v w=>by rw[<-ŧ];rfl
 have r5:∀u v w,(Ĺ++[u,v,w])[5]?=Za (Za (.str m.nm)):=λu v w=>by rw[<-ŧ];rfl
 have r6:∀u v w,(Ĺ++[u,v,w])[6]?=Za (Za (.ref m.cell)):=λu v w=>by rw[<-ŧ];rfl
 have r8:∀u v w,(Ĺ++[u,v,w])[8]?=Za (Za (.str o1)):=λu v w=>by rw[<-ŧ];rfl
 have r9:∀u v w,(Ĺ++[u,v,w])[9]?=Za (Za (.str o2)):=λu v w=>by rw[<-ŧ];rfl
 have U7:∀u v w,(Ĺ++[u,v,w])[10]?=Za (Za (ß q)):=λu v w=>by rw[<-ŧ];rfl
 have V3:∀u v w,(Ĺ++[u,v,w])[11]?=Za u:=λu v w=>by rw[<-ŧ];rfl
 have VE:∀u v w,(Ĺ++[u,v,w])[12]?=Za v:=λu v w=>by rw[<-ŧ];rfl
 have W5:∀u v w,(Ĺ++[u,v,w])[13]?=Za w:=λu v w=>by rw[<-ŧ];rfl
 have st:∀u v w u' v',((Ĺ++[u,v,w]).set 11 u').set 12 v'=Ĺ++[u',v',w]:=λu v w u' v'=>by rw[<-ŧ];rfl
 have XM:∀u v w w',(Ĺ++[u,v,w]).set 13 w'=Ĺ++[u,v,w']:=λu v w w'=>by rw[<-ŧ];rfl
 clear UR;have cond:∀s,x2 (x2 (j' 10) (xC (.int 1)) Zk) (x2 (xC (.int 10)) (xC (.int 29)) Ģ) fGe (Ĺ++[Zb,Zb,Zb]) s=.ok (.bl (decide ((10:Int)^29<=q.2))) s:=λs=>(mT ((mT (mD (U7 _ _ _)) rfl).trans ix1) (pw _ _)).trans rfl;by_cases hb:(10:Int)^29<=q.2
 .refine⟨ZF t p xd yd,_,_,m8 (head _ (EA ((xA (s1:=ZF t p xd yd) (by unfold ZI;rw[cond,Zg hb];rfl)).trans rfl))),(W.ZF xd yd).mono (dD _),rfl,rfl,rfl,λk k1 _ _=>mM _ _ k1⟩
 have Tu:ϲ q:=NZ hck F1 hq `l;have nt:¬pS e.held o1 q:=λz=>by
  unfold pS at z;rw[<-c2.hm.q] at z;obtain z|z:=z
  .exact z hq.pos
  .have:=hq.le;lia
 have oN1:=c2.ow o1 ho;have hnm:m.nm∈N:=hLN _ (by rw[<-c2.nm];exact ar.mpr ⟨e,aL _ al,rfl⟩);have sl:=NF a (gb xd yd) õ ⟨by rw[c2.nm];exact(Xp _ hnm).nm,(Xp _ oN1).nm,(Xp _ UH).nm⟩ Tu.sz (R.À0 `l Tu) (hN1 _ oN1) (hN1 _ UH) nt;have sl:xm a [.ref nb,.str m.nm,.str o1,.str o2,ß q] (ZF t p xd yd)=.ok .Zn ((ZF t p xd yd).set nb (.book pp (A++{ e with held:=ï e.held o1 o2 q }::B))):=by have h:=sl;rw[show PV.str m.nm=PV.str e.nm by rw[c2.nm]];exact h
 have B1:=zS (R.fr o1) Tu.low hq.pos (by rw[<-c2.hm.q];exact hq.le) Tu.bb;rw[<-c2.hm.q] at B1;generalize hr:oS (mU m.hl o1) (-q.1,q.2)=r at B1;have Fr:ϣ (kk+1) r:=⟨B1.low,B1.nn,ir B1.le (aS (iq.mpr (b6 `d `l)) (bx B1.low.1)),B1.bb.mono `l⟩;have T:∀{d:Nat}{g:Int×Int},d<=41->ϣ d g->Bt 9000 g.1/\Bt 8800 g.2/\ħ g:=λhd h=>⟨h.top.mono `l,h.bb.mono `l,h.low⟩;let⟨g1,g2,g3⟩:=T `l F1;have qa:Bt 9000 q.1:=Tu.bt.mono `d;have qb:Bt 9000 q.2:=Tu.bb.mono `d;have qc:Bt 100 q.2:=Tu.bb.mono `d;have b9:∀{x:Int},Bt 8800 x->Bt 9000 x:=λh=>h.mono `d;generalize hT:(ZF t p xd yd).set nb (.book pp (A++{ e with held:=ï e.held o1 o2 q }::B))=T6 at sl;have g6:T6.get m.cell=Za (.Zv (hP m.hl)):=by rw[<-hT,mM _ _ i4b];exact g0 xd yd
 have c6:∀l l',(T6.set m.cell (.Zv (hP l))).set m.cell (.Zv (hP l'))=T6.set m.cell (.Zv (hP l')):=λl l'=>sM _ _ _ _;have gl:∀l,(T6.set m.cell (.Zv (hP l))).get m.cell=Za (.Zv (hP l)):=λl=>nZ g6;have UP:∀l:Hl,l.length<=46->(hP l).length<100000:=λl h=>by rw[Rp];lia
 have YX:(oB m.hl o1).length<=45:=aC (cG _ _) R5;have XV:∀(l:Hl) o q,l.length<=45->(oR l o q).length<=46:=λl o q h=>by
  have:=congrArg cC (oC l o q);rw[ac] at this;rw[this];split
  .rw[ac];lia
  .rw[aY,ac];simp;lia
 generalize UU:(if 0<r.1 then oR (oB m.hl o1) o1 r else oB m.hl o1)=l1;have em:ze m.hl o1 o2 q=oR l1 o2 (oS (mU l1 o2) q):=by unfold ze;simp only[hr,UU]
 have F2:ϣ (kk+1) (mU l1 o2):=by
  rw[<-UU];split
  .rw[n8,qE];split
   .exact Fr
   .exact(c2.hm.fr o2).mono `l
  .rw[qE];split
   .exact Âl _
   .exact(c2.hm.fr o2).mono `l
 let⟨k1,k2,k3⟩:=T `l F2;have l1l:l1.length<=46:=by
  rw[<-UU];split
  .exact XV _ _ _ YX
  .lia
 refine⟨T6.set m.cell (.Zv (hP (ze m.hl o1 o2 q))),A++{ e with held:=ï e.held o1 o2 q }::B,A'++{ m with hl:=ze m.hl o1 o2 q }::B',Bf (Z:=Ĺ++[Za (.int (mU l1 o2).1),Za (.int (mU l1 o2).2),Za (ß r)]) (head _ ?_),?_,?_,?_,?_,λk h1 h2 h3=>?_⟩
 .refine mP ((qW (s1:=ZF t p xd yd) (by unfold ZI;rw[cond,Zh hb];rfl)).trans rfl) ?_;refine mP (zk ((uK (mD (r3 _ _ _)) (gb xd yd) (mE (mD (r5 _ _ _)) (mE (mD (r8 _ _ _)) (mE (mD (r9 _ _ _)) (mE (mD (U7 _ _ _)) rfl)))) rfl).trans sl)) ?_;refine mP (Pi (v:=.int (mU m.hl o1).1) (w:=.int (mU m.hl o1).2) (s':=T6.set m.cell (.Zv (hP (oB m.hl o1)))) ((OT (mD (r6 _ _ _)) g6 (mD (r8 _ _ _)) (Cc m.hl o1 ho)).trans (by rw[Oz];exact rfl))) ?_;rw[st];have Tg:∀u v w s,x2 (j' 10) (xC (.int 1)) Zk (Ĺ++[u,v,w]) s=.ok (.int q.2) s:=λu v w s=>(mT (mD (U7 _ _ _)) rfl).trans ix1;have x0':∀u v w s,x2 (j' 10) (xC (.int 0)) Zk (Ĺ++[u,v,w]) s=.ok (.int q.1) s:=λu v w s=>(mT (mD (U7 _ _ _)) rfl).trans ix0;refine mP (mY (mS (mE (Qs (pP (mD (V3 _ _ _)) (Tg _ _ _ _) (sR g1 qb)) (pP (x0' _ _ _ _) (mD (VE _ _ _)) (sR qa (b9 g2)))) (mE (pP (mD (VE _ _ _)) (Tg _ _ _ _) (sR (b9 g2) qb)) rfl)) rfl (K6 a _ g3 Tu.low g2 qc))) ?_;rw[XM,hr];have cr:∀u v s,x2 (x2 (j' 13) (xC (.int 0)) Zk) (xC (.int 0)) fGt (Ĺ++[u,v,Za (ß r)]) s=.ok (.bl (decide (0<r.1))) s:=λu v s=>(mT ((mT (mD (W5 _ _ _)) rfl).trans ix0) rfl).trans rfl;refine mP (Y':=Ĺ++[Za (.int (mU m.hl o1).1),Za (.int (mU m.hl o1).2),Za (ß r)]) (s':=T6.set m.cell (.Zv (hP l1))) ?_ ?_
  .rw[<-UU];by_cases z:0<r.1
   .rw[Zc z];refine(xA (s1:=T6.set m.cell (.Zv (hP (oB m.hl o1)))) (by unfold ZI;rw[cr,Zg z];rfl)).trans ?_;refine(Eb (mD (W5 _ _ _)) (mD (r6 _ _ _)) (mD (r8 _ _ _)) (gl _) (UP _ `l)).trans ?_;rw[ME,c6]
   .rw[Zd z];exact(qW (s1:=T6.set m.cell (.Zv (hP (oB m.hl o1)))) (by unfold ZI;rw[cr,Zh z];rfl)).trans rfl
  refine mP (Pi (v:=.int (mU l1 o2).1) (w:=.int (mU l1 o2).2) (s':=T6.set m.cell (.Zv (hP l1))) ((Rr (mD (r6 _ _ _)) (gl l1) (mD (r9 _ _ _)) (qT (mE rfl (mE rfl rfl)))).trans (by rw[Rq];rfl))) ?_;rw[st];refine(Eb (mS (mE (xl (pP (mD (V3 _ _ _)) (Tg _ _ _ _) (sR k1 qb)) (pP (x0' _ _ _ _) (mD (VE _ _ _)) (sR qa (b9 k2)))) (mE (pP (mD (VE _ _ _)) (Tg _ _ _ _) (sR (b9 k2) qb)) rfl)) rfl (K7 a _ k3 Tu.low k2 qc)) (mD (r6 _ _ _)) (mD (r9 _ _ _)) (gl l1) (UP _ l1l)).trans ?_;rw[ME,c6,em]
 .rw[<-hT];exact(W.ZF xd yd).Àp c1 c2 c3 ck (c2.hm.Àp Tu (Xp _ UH) nt) λn hn=>(Jp ho hn).elim (c2.ow n) λz=>z▸UH
 .rw[aD,aD];rfl
 .rw[aD,aD];rfl
 .rw[<-hT];rfl
 .have hk:k≠m.cell:=λz=>h3 (z▸ar.mpr ⟨m,Yl,rfl⟩);rw[mM _ _ hk,<-hT,mM _ _ h2];exact mM _ _ h1
def Ja(a)(hb:t.get nb=Za (.book pp L))(h1:yN w=true)(hs:Sm w)(h2:w∉pp)(h3:w∉L.map (·.nm))(h6:pp.length<6):vK a [.ref nb,.str w] t=.ok .Zn (t.set nb (.book (pp++[w]) L)):=by
 have e:xU a pp L w=none:=by unfold xU;rw[CV a h1 h2 h3];exact Zd `l
 simp[vK,oF,hb,hs.nm,e]
def Le(a)(hb:t.get nb=Za (.book pp L))(h1:yN w=true)(hs:Sm w)(so:Sm o)(h2:w∉pp)(h3:w∉L.map (·.nm))(ho:(qj pp o||nK L o)=true)(hl:0<=ls)(h8:L.length<8):yg a [.ref nb,.str w,.str o,.int th,.int mr,.int ls] t=.ok .Zn (t.set nb (.book pp (L++[⟨w,th,mr,ls,[(o,1,1)]⟩]))):=by
 have e:xZ a pp L w o ls=none:=by
  unfold xZ;rw[CV a h1 h2 h3]
  grind
 simp[yg,oF,hb,hs.nm,so.nm,e]
structure İ(s t:N')(p nb nd:Nat)(N:List Str)(c:Nat)(pp:List Str)(L:List Ent)(M:List Md):Prop where
 w:ϱ t p nb nd N c pp L M
 nx:s.nx<=t.nx
 fr:∀j,j<s.nx->j≠p->t.get j=s.get j
 lo:s.nx<=nb/\s.nx<=nd/\∀m∈M,s.nx<=m.cell
section
variable{M:List Md}
theorem İ.ZF(B:İ s t p nb nd N c pp L M)(x y):İ s (My.ZF t p x y) p nb nd N c pp L M:=⟨B.w.ZF x y,B.nx,λj h1 h2=>(mM _ _ h2).trans (B.fr j h1 h2),B.lo⟩
def İ.person(B:İ s t p nb nd N c pp L M)(w):İ s (t.set nb (.book (pp++[w]) L)) p nb nd N c (pp++[w]) L M:=by have W:=B.w;refine⟨⟨?_,nZ W.bk,by rw[mM _ _ (bV W.i3)];exact W.md,λm hm=>by rw[mM _ _ (W.i4 m hm).2.1];exact W.sh m hm,W.i1,W.i2,W.i3,W.i4,W.i5,W.lt,W.pr⟩,B.nx,λj h1 h2=>(mM _ _ (by have:=B.lo.1;lia)).trans (B.fr j h1 h2),B.lo⟩;let⟨x,y,e⟩:=W.pu;exact⟨x,y,by rw[mM _ _ W.i1];exact e⟩
def Rc(h:x∉M.map (·.nm)):z5 (M.map ķ) (aq x) v=M.map ķ++[(aq x,v)]:=by
 unfold z5;rw[Zd];intro z;let⟨kv,h1,h2⟩:=gZ.mp z;let⟨m,hm,rfl⟩:=ar.mp h1;have:(aq m.nm:Key)=aq x:=Zf h2
 grind
def İ.Âf(B:İ s t p nb nd N c pp L M){w o:Str}{th mr ls:Int}(hw:w∉M.map (·.nm))(so:Sm o)(oN:o∈N)(tb:Bt 100 th/\Bt 100 mr/\Bt 100 ls) :
  İ s (((t.set nb (.book pp (L++[⟨w,th,mr,ls,[(o,1,1)]⟩]))).add (.Zv [(aq o,ß (1,1))])).set nd (.Zv (z5 (M.map ķ) (aq w) (.lst [.ref t.nx,.tup [.int th,.int mr,.int ls]])))) p nb nd N c pp (L++[⟨w,th,mr,ls,[(o,1,1)]⟩]) (M++[⟨w,t.nx,[(o,1,1)],th,mr,ls⟩]):=by
 have W:=B.w;let⟨l1,l2,l3,l4⟩:=W.lt;have g:∀k,k≠nd->k≠nb->k≠t.nx->(((t.set nb (.book pp (L++[⟨w,th,mr,ls,[(o,1,1)]⟩]))).add (.Zv [(aq o,ß (1,1))])).set nd (.Zv (z5 (M.map ķ) (aq w) (.lst [.ref t.nx,.tup [.int th,.int mr,.int ls]])))).get k=t.get k:=λk h1 h2 h3=>by rw[mM _ _ h1,nr,Zd (show(t.set nb _).nx≠k from λz=>h3 z.symm),mM _ _ h2]
 have onl:∀n∈[(o,(1:Int),(1:Int))].map (·.1),n∈N:=λn hn=>by
  grind
 have gnd:((t.set nb (.book pp (L++[⟨w,th,mr,ls,[(o,1,1)]⟩]))).add (.Zv [(aq o,ß (1,1))])).get nd=Za (.Zv (M.map ķ)):=by rw[nr,Zd (show(t.set nb _).nx≠nd from λz=>by have:t.nx=nd:=z;lia),mM _ _ (bV W.i3)];exact W.md
 refine⟨⟨?_,?_,?_,λm hm=>?_,W.i1,W.i2,W.i3,λm hm=>?_,?_,⟨bK l1,bK l2,bK l3,λm hm=>?_⟩,W.pr.app (d:=0) (.cons (c1:=0) (c2:=0) ⟨rfl,rfl,rfl,rfl,Ro 0 so,onl,tb⟩ .nil (ak _))⟩,Nat.le_succ_of_le B.nx,λj h1 h2=>?_,B.lo.1,B.lo.2.1,λm hm=>?_⟩
 .let⟨x,y,e⟩:=W.pu;exact⟨x,y,by rw[g p W.i2 W.i1 `l];exact e⟩
 .rw[mM _ _ W.i3,nr,Zd (show(t.set nb _).nx≠nb from λz=>by have:t.nx=nb:=z;lia)];exact nZ W.bk
 .rw[nZ gnd,Rc hw,aD];rfl
 .obtain z|z:=a7.mp hm
  .let⟨a1,a2,a3⟩:=W.i4 m z;rw[g _ a3 a2 (by have:=l4 m z;lia)];exact W.sh m z
  .rw[ax.mp z];show((_:N').set nd _).get t.nx=_;rw[mM _ _ `l,nr,Zc (show(t.set nb _).nx=t.nx from rfl)];rfl
 .obtain z|z:=a7.mp hm
  .exact W.i4 m z
  .rw[ax.mp z];exact⟨by show t.nx≠p;lia,by show t.nx≠nb;lia,by show t.nx≠nd;lia⟩
 .rw[aD,bZ];refine⟨W.i5,by simp,λx hx y hy z=>?_⟩
  grind
 .obtain z|z:=a7.mp hm
  .exact bK (l4 m z)
  .rw[ax.mp z];exact bv _
 .have:=B.lo;rw[g j `l `l (by have:=B.nx;lia)];exact B.fr j h1 h2
 .obtain z|z:=a7.mp hm
  .exact B.lo.2.2 m z
  .rw[ax.mp z];exact B.nx
end
structure Wds(N:List Str):Prop where
 nd:N.Nodup
 sm:∀n∈N,Sm n
 nm:∀n∈N,yN n=true
def Ke(h0:0<vs.length)(h7:vs.length<=7)(hd:d<vs.length)(hm:m<=10):Wds ((bo m).map (ť vs d fl)):=by
 refine⟨?_,λn hn=>?_,λn hn=>?_⟩
 .show List.Pairwise _ _;rw[List.pairwise_map];exact List.Pairwise.imp_of_mem (λ{i j} hi hj Ww e=>Ww (Nk hd (by have:=dg.mp hi;lia) (by have:=dg.mp hj;lia) e)) List.nodup_range
 .let⟨k,_,rfl⟩:=ar.mp hn;exact(LZ h0 h7 d fl k).1
 .let⟨k,_,rfl⟩:=ar.mp hn;exact(LZ h0 h7 d fl k).2
def Jr(h:body q Z s=.nx Y' s'):nR body (q::l) Z s=nR body l Y' s':=by
 conv=>lhs;unfold nR
 rw[h]
def bE(p nb nd:Nat)(mo my cn:PV)(N:List Str)(u7 u8 u9 Si:Option PV):En:=[Za (.ref p),Za mo,Za my,Za cn,Za (.lst (N.map .str)),Za (.ref nb),Za (.ref nd),u7,u8,u9,Si]
theorem wU(a)(WN:Wds N)(mo my cn)(u8 u9 Si):∀(r done:List Str)(u:Option PV)(t:N'),İ s t p nb nd N 0 done [] []->(∀n∈done++r,n∈N)->(done++r).Nodup->(done++r).length<=6->∃u' t',nR (nj (Y4 7) (uP a)) (r.map .str) (bE p nb nd mo my cn N u u8 u9 Si) t=.nx (bE p nb nd mo my cn N u' u8 u9 Si) t'/\İ s t' p nb nd N 0 (done++r) [] []
 |[],done,u,t,B,_,_,_=>⟨u,t,rfl,by rw[bQ];exact B⟩
 |w::r,done,u,t,B,hN,nd',hl=>by
  have hw:=hN w (aL _ al);have n1:=λz=>(bZ.mp nd').2.2 _ z _ al rfl;have e1:=Ja a B.w.bk (WN.nm w hw) (WN.sm w hw) n1 (by simp) `g;have e2:done++w::r=done++[w]++r:=by simp
  let⟨u',t',h1,h2⟩:=wU a WN mo my cn u8 u9 Si r (done++[w]) (Za (.str w)) _ (B.person w) (by rw[<-e2];exact hN) (by rw[<-e2];exact nd') (by rw[<-e2];exact hl);refine⟨u',t',?_,by rw[e2];exact h2⟩;rw[<-h1];refine Jr ((pB).trans ?_);exact zk ((uK `m B.w.bk (mE `m rfl) rfl).trans e1)
def Kk{N:List Str}{k:Nat}{r:Int}(h0:0<=r)(h1:r<(k:Nat))(hk:k<=N.length):∃w∈N.take k,ü (N.map PV.str) r=Za (.str w):=by
 obtain⟨j,rfl⟩:∃j:Nat,r=j:=⟨r.toNat,by lia⟩;have hj:j<N.length:=by lia
 refine⟨N[j],?_,nT (by simp[hj])⟩;rw[bY];exact⟨j,by rw[List.getElem?_take,Zc `l,ay hj]⟩
def wF(a)(hP:Zz t p)(x y):∃v x' y',oG a [.ref p] (ZF t p x y)=.ok (.int v) (ZF t p x' y')/\Bt 100 v:=by let⟨v,x',y',e,b⟩:=Jn a (ZF t p x y) p (hP.ZF x y);rw[xT] at e;exact⟨v,x',y',e,b⟩
def GW(a:Y9){s t:N'}{p nb nd:Nat}{pp hs:List Str}(WN:Wds (pp++hs))(hp6:pp.length<=6)(TY:1<=pp.length)(hh:hs.length<=8){L:List Ent}{M:List Md}(mo cn:PV)(u7 u8 u9 Si:Option PV)(k:Nat)(hk:k<hs.length)(B:İ s t p nb nd (pp++hs) 0 pp L M)(hL:L.map (·.nm)=hs.take k) :
  ∃VA u9' XB t' L' M',nj (Y4 8) (pZ a) (.int (k:Nat)) (bE p nb nd mo (.int (pp.length:Nat)) cn (pp++hs) u7 u8 u9 Si) t=.nx (bE p nb nd mo (.int (pp.length:Nat)) cn (pp++hs) u7 VA u9' XB) t'/\İ s t' p nb nd (pp++hs) 0 pp L' M'/\L'.map (·.nm)=hs.take (k+1):=by
 let⟨x0,y0,et⟩:=vA B.w.pu;have ek:((pp.length:Int)+(k:Int))=((pp.length+k:Nat):Int):=by lia
 let⟨r,xa,ya,r0,r1,e1⟩:=B.w.Àw a x0 y0 (n:=((pp.length+k:Nat):Int)) `l (qf `l `l);rw[<-et] at e1;let⟨o,ho,SY⟩:=Kk (N:=pp++hs) r0 r1 (by rw[aY];lia);let⟨v1,xb,yb,f1,b1⟩:=wF a B.w.pu xa ya;let⟨v2,xc,yc,f2,b2⟩:=wF a B.w.pu xb yb;let⟨v3,xd,yd,f3,b3⟩:=wF a B.w.pu xc yc;have oN:o∈pp++hs:=lC ho;have UH:(qj pp o||nK L o)=true:=by rw[fc,Bc,qD,hL];rw[List.take_length_add_append] at ho;exact a7.mp ho
 obtain⟨w,hw⟩:∃w,hs[k]?=Za w:=⟨hs[k],ay hk⟩;have wh:w∈hs:=dA hw;have wN:w∈pp++hs:=aL _ wh;have wpp:w∉pp:=λz=>(bZ.mp WN.nd).2.2 _ z _ wh rfl;have tk:hs.take (k+1)=hs.take k++[w]:=by rw[ei,hw];rfl
 have wL:w∉L.map (·.nm):=λz=>by rw[hL] at z;have:=(bZ.mp WN.nd).2.1;have h2:(hs.take (k+1)).Nodup:=this.sublist (List.take_sublist _ _);rw[tk] at h2;exact(bZ.mp h2).2.2 _ z _ (by simp) rfl
 have wat:ü ((pp++hs).map PV.str) ((pp.length+k:Nat):Int)=Za (.str w):=nT (by rw[aG,di `l,kS,hw];rfl);have L8:L.length<8:=by have:=congrArg cC hL;rw[ac,eM] at this;lia
 have nn:(0:Int)<=if v3<0 then -v3 else v3:=by split<;>lia
 have bz:Bt 100 (if v3<0 then -v3 else v3):=by
  split
  .exact by unfold Bt at *;lia
  .exact b3
 generalize hz:(if v3<0 then -v3 else v3)=z at nn bz;have B4:=B.ZF xd yd;have eh:=Le a (th:=v1) (mr:=v2) (ls:=z) B4.w.bk (WN.nm w wN) (WN.sm w wN) (WN.sm o oN) wpp wL UH nn L8;have B5:=B4.Âf (w:=w) (o:=o) (th:=v1) (mr:=v2) (ls:=z) (by rw[<-B.w.pr.names];exact wL) (WN.sm o oN) oN ⟨b1,b2,bz⟩;refine⟨Za (.int (k:Nat)),Za (.str o),Za (.tup [.int v1,.int v2,.int z]),_,_,_,?_,B5,by rw[aD,hL,tk];rfl⟩;apply(pB (i:=8)).trans;unfold pZ;have ad:∀u9 Si s,x2 (j' 2) (j' 8) ZS (bE p nb nd mo (.int (pp.length:Nat)) cn (pp++hs) u7 (Za (.int (k:Nat))) u9 Si) s=.ok (.int ((pp.length+k:Nat):Int)) s:=λu9 Si s=>(xl (i:=(pp.length:Nat)) (j:=(k:Nat)) `m `m).trans (by rw[ek]);have nw:∀u9 Si s,x2 (j' 4) (x2 (j' 2) (j' 8) ZS) Zk (bE p nb nd mo (.int (pp.length:Nat)) cn (pp++hs) u7 (Za (.int (k:Nat))) u9 Si) s=.ok (.str w) s:=λu9 Si s=>(mT `m (ad _ _ _)).trans (Ca wat);apply mP (mY (v:=.str o) (s':=ZF t p xa ya) ((mT `m (mS (mE `m (mE (ad _ _ _) rfl)) rfl e1)).trans (Ca SY)));refine mP (mY (v:=.tup [.int v1,.int v2,.int z]) (s':=ZF t p xd yd) (qT (mE (mS (mE `m rfl) rfl f1) (mE (mS (mE `m rfl) rfl f2) (mE ((AM (mE (mS (mE `m rfl) rfl f3) rfl)).trans (show ş [.int v3] (ZF t p xd yd)=.ok (.int z) (ZF t p xd yd) by rw[<-hz];rfl)) rfl))))) ?_;apply mP (zk ((uK `m B4.w.bk (mE (nw _ _ _) (mE `m (mE ((mT `m rfl).trans rfl) (mE ((mT `m rfl).trans rfl) (mE ((mT `m rfl).trans rfl) rfl))))) rfl).trans eh));have l4:=B4.w.lt.2.2.1;refine(Eb (xf (mE (v:=.ref t.nx) (s1:=((ZF t p xd yd).set nb (.book pp (L++[⟨w,v1,v2,z,[(o,1,1)]⟩]))).add (.Zv [(aq o,ß (1,1))])) ?_ (mE `m rfl))) `m (nw _ _ _) (l:=M.map ķ) ?_ ?_).trans rfl
 .rfl
 .rw[nr,Zd (show((ZF t p xd yd).set nb _).nx≠nd from λq=>by have:t.nx=nd:=q;have:nd<t.nx:=l4;lia),mM _ _ (bV B4.w.i3)];exact B4.w.md
 .rw[ac];have:=congrArg cC B.w.pr.names;rw[ac,ac] at this;lia
def LF(ws:List PV)(k:Nat)(hk:k<=ws.length):Er ws Zb (Za (k:Int))=ws.take k:=by
 unfold Er;have e1:HT.À ws.length 0 Zb=0:=rfl;have e2:HT.À ws.length ws.length (Za k)=k:=by
  simp[HT.À]
  grind
 simp_all
def oy(h:f Z s=.ok (.lst l) s1):ZL f Z s=.ok l s1:=by unfold ZL;rw[h];rfl
def İ.start(hp:p<s.nx)(hP:Zz s p)(x y)(N):İ s (((N'.bump (My.ZF s p x y)).add (.book [] [])).add (.Zv [])) p (s.nx+1) (s.nx+2) N 0 [] [] []:=by
 have n1:(N'.bump (My.ZF s p x y)).nx=s.nx+1:=rfl;have n2:((N'.bump (My.ZF s p x y)).add (.book [] [])).nx=s.nx+2:=rfl;have g:∀k,k<s.nx+1->(((N'.bump (My.ZF s p x y)).add (.book [] [])).add (.Zv [])).get k=(My.ZF s p x y).get k:=λk hk=>by rw[nr,Zd `l,nr,Zd `l,Lk]
 refine⟨⟨?_,?_,?_,(λm hm=>nomatch hm),by lia,by lia,by lia,(λm hm=>nomatch hm),by simp,⟨?_,?_,?_,(λm hm=>nomatch hm)⟩,.nil⟩,?_,λj h1 h2=>?_,by lia,by lia,(λm hm=>nomatch hm)⟩
 .let⟨u,v,e⟩:=hP.ZF x y;exact⟨u,v,by rw[g p `l];exact e⟩
 .rw[nr,Zd `l,nr,Zc n1]
 .rw[nr,Zc n2];rfl
 .show p<s.nx+3;lia
 .show s.nx+1<s.nx+3;lia
 .show s.nx+2<s.nx+3;lia
 .show s.nx<=s.nx+3;lia
 .rw[g j `l];exact mM _ _ h2
def İ.ï(B:İ s t p nb nd (pp++hs) c pp L M)(a)(WN:Wds (pp++hs))(hL:L.map (·.nm)=hs)(hh:hs≠[])(h8:hs.length<=8)(hp6:pp.length<=6)(hc:c<=40) :
  ∃t' L' M',rZ a [.ref p,.ref nd,.lst ((pp++hs).map .str),.ref nb] t=.ok .Zn t'/\İ s t' p nb nd (pp++hs) (c+1) pp L' M'/\L'.map (·.nm)=hs:=by
 have l8:L.length<=8:=by grind
 have hM:M≠[]:=λz=>by
  have:=B.w.pr.names
  grind
 let⟨t',L',M',e,W,n1,n2,nx,fr⟩:=NA a B.w hc hM (by rw[hL];exact(bZ.mp WN.nd).2.1) WN.sm (λn hn=>aL _ (hL▸hn)) (λn hn=>by rw[fc,Bc,qD,hL];exact a7.mp hn) (λz=>hh (List.append_eq_nil_iff.mp z).2) `g l8
 refine⟨t',L',M',e,⟨W,by rw[nx];exact B.nx,λj h1 h2=>?_,B.lo.1,B.lo.2.1,λm hm=>?_⟩,n1.trans hL⟩
 .rw[fr j h2 (by have:=B.lo.1;lia) λz=>?_]
  .exact B.fr j h1 h2
  .let⟨m,hm,z⟩:=ar.mp z;have:=B.lo.2.2 m hm;lia
 .have:=n2▸ar.mpr ⟨m,hm,rfl⟩;let⟨m',h',z⟩:=ar.mp this;rw[<-z];exact B.lo.2.2 m' h'
def LU(a:Y9)(s:N')(p:Nat)(hp:p<s.nx)(hP:Zz s p)(mx:Nat)(hm:mx<=7):∃t nb nd pp hs c L M,rb a [.ref p,.int (mx:Nat)] s=.ok (.tup [.ref nb,.lst ((ZR pp).map .str),.ref nd]) t/\İ s t p nb nd (pp++hs) c pp L M/\L.map (·.nm)=hs/\Wds (pp++hs)/\1<=pp.length/\pp.length<=3/\hs.length<=mx/\c<=28:=by
 let⟨x0,y0,et⟩:=vA hP;let⟨r,xa,ya,r0,r1,e1⟩:=vH a hP x0 y0 (n:=3) `d (qf `d (Zf rfl));rw[<-et] at e1;obtain⟨my,hmy,rfl⟩:∃my:Nat,1<=my/\r=(my:Int)-1:=⟨r.toNat+1,by lia,by lia⟩;let⟨cn',xb,yb,c0,cn1,e2⟩:=vH a hP xa ya (n:=((mx+1:Nat):Int)) `l (qf `l `l);obtain⟨cn,rfl⟩:∃cn:Nat,cn'=cn:=⟨cn'.toNat,by lia⟩;let⟨xc,yc,vs,d,fl,v0,v7,hd,e3⟩:=K2 a (ZF s p xb yb) p hp (hP.ZF xb yb) (my+cn) `l;have WN:=Ke (fl:=fl) (m:=my+cn) v0 v7 hd `l;have pq:ZF (ZF s p xb yb) p xc yc=ZF s p xc yc:=xT _ _ _ _ _ _;rw[pq] at e3;generalize hN:(bo (my+cn)).map (ť vs d fl)=N at *;have hNl:N.length=my+cn:=by rw[<-hN];simp
 obtain⟨pp,hs,rfl,rfl⟩:∃pp hs:List Str,N=pp++hs/\pp.length=my:=⟨N.take my,N.drop my,(li my N).symm,by rw[eM];lia⟩;have hsl:hs.length=cn:=by rw[aY] at hNl;lia
 subst hsl;have B0:=İ.start hp hP xc yc (pp++hs);let⟨u7,t1,lp1,B1⟩:=wU a WN (.int (mx:Nat)) (.int (pp.length:Nat)) (.int (hs.length:Nat)) Zb Zb Zb pp [] Zb _ B0 (λn hn=>cN _ hn) ((bZ.mp WN.nd).1) (by rw[fb];lia);rw[fb] at B1;let⟨ĸ,t2,lp2,u8,u9,Si,L2,M2,rfl,B2,YL⟩:=vE (body:=nj (Y4 8) (pZ a)) hs.length
  (λk Z t=>∃u8 u9 Si L M,Z=bE p (s.nx+1) (s.nx+2) (.int (mx:Nat)) (.int (pp.length:Nat)) (.int (hs.length:Nat)) (pp++hs) u7 u8 u9 Si/\İ s t p (s.nx+1) (s.nx+2) (pp++hs) 0 pp L M/\L.map (·.nm)=hs.take k)
  (λk Z t hk hI=>by let⟨u8,u9,Si,L,M,rfl,B,hL⟩:=hI;let⟨a8,a9,a10,t',L',M',q1,q2,q3⟩:=GW a WN `l hmy `l (.int (mx:Nat)) (.int (hs.length:Nat)) u7 u8 u9 Si k hk B hL;exact⟨_,_,q1,_,_,_,_,_,rfl,q2,q3⟩) (Z:=bE p (s.nx+1) (s.nx+2) (.int (mx:Nat)) (.int (pp.length:Nat)) (.int (hs.length:Nat)) (pp++hs) u7 Zb Zb Zb) (s:=t1) ⟨Zb,Zb,Zb,[],[],rfl,B1,by simp⟩
 rw[jp] at YL;have sl:∃VA t3 c L3 M3,ÿ (ZI (x2 (j' 3) (xC (.int 0)) fGt)) (Ċ (Ø (F' (V' 2 (mV a) (F' (j' 0) (F' (x2 (x2 (xC (.int 4)) (j' 3) Zy) (xC (.int 1)) ZS) J'))) J')) (Y4 8) (pY a)) Z6 (bE p (s.nx+1) (s.nx+2) (.int (mx:Nat)) (.int (pp.length:Nat)) (.int (hs.length:Nat)) (pp++hs) u7 u8 u9 Si) t2=.nx (bE p (s.nx+1) (s.nx+2) (.int (mx:Nat)) (.int (pp.length:Nat)) (.int (hs.length:Nat)) (pp++hs) u7 VA u9 Si) t3/\İ s t3 p (s.nx+1) (s.nx+2) (pp++hs) c pp L3 M3/\L3.map (·.nm)=hs/\c<=28:=by
  by_cases hc0:hs=[]
  .refine⟨u8,t2,0,L2,M2,(qW (s1:=t2) ?_).trans rfl,B2,YL,by lia⟩;unfold ZI;rw[mT `m rfl,hc0];rfl
  .have Vd:0<hs.length:=iX.mpr hc0;let⟨Tc,y2',et2⟩:=vA B2.w.pu;let⟨n',xe,ye,n0,n1,e5⟩:=B2.w.Àw a Tc y2' (n:=((4*hs.length+1:Nat):Int)) `l (qf `l `l);rw[<-et2] at e5;obtain⟨n,rfl⟩:∃n:Nat,n'=n:=⟨n'.toNat,by lia⟩;let⟨ρ3,t3,lp3,VA,L3,M3,rfl,B3,YK⟩:=vE (body:=nj (Y4 8) (pY a)) n
    (λk Z t=>∃u8 L M,Z=bE p (s.nx+1) (s.nx+2) (.int (mx:Nat)) (.int (pp.length:Nat)) (.int (hs.length:Nat)) (pp++hs) u7 u8 u9 Si/\İ s t p (s.nx+1) (s.nx+2) (pp++hs) k pp L M/\L.map (·.nm)=hs)
    (λk Z t hk hI=>by let⟨u8,L,M,rfl,B,hL⟩:=hI;let⟨t',L',M',q1,q2,q3⟩:=B.ï a WN hL hc0 `l `l `l;refine⟨_,t',(pB (i:=8)).trans ?_,Za (.int (k:Nat)),L',M',rfl,q2,q3⟩;unfold pY;exact zk (mS (mE `m (mE `m (mE `m (mE `m rfl)))) rfl q1)) (Z:=bE p (s.nx+1) (s.nx+2) (.int (mx:Nat)) (.int (pp.length:Nat)) (.int (hs.length:Nat)) (pp++hs) u7 u8 u9 Si) (s:=ZF t2 p xe ye) ⟨u8,L2,M2,rfl,B2.ZF xe ye,YL⟩
   refine⟨VA,t3,n,L3,M3,(xA (s1:=t2) ?_).trans (sC (vW (n:=n) (mE (mS (mE `m (mE ((xl (pP (i:=4) (j:=(hs.length:Nat)) rfl `m (.inr (.inl ⟨Zf rfl,Zf rfl⟩))) rfl).trans ?_) rfl)) rfl e5) rfl) `l) lp3),B3,YK,by lia⟩
   .unfold ZI;rw[mT `m rfl];show Out.bind (Out.ok (PV.bl (decide ((0:Int)<(hs.length:Nat)))) _) _=_;rw[Zg `l];rfl
   .rw[show(4:Int)*(hs.length:Nat)+1=((4*hs.length+1:Nat):Int) by lia]
 let⟨VA,t3,c,L3,M3,e6,B3,YK,hc⟩:=sl;refine⟨t3,s.nx+1,s.nx+2,pp,hs,c,L3,M3,m8 ?_,B3,YK,WN,hmy,by lia,by lia,hc⟩;have WV:∀u7 u8 u9 Si nb nd s',xSl (j' 4) Ś (Č (j' 2)) (bE p nb nd (.int (mx:Nat)) (.int (pp.length:Nat)) (.int (hs.length:Nat)) (pp++hs) u7 u8 u9 Si) s'=.ok (.lst (pp.map .str)) s':=λu7 u8 u9 Si nb nd s'=>by
  have:Er ((pp++hs).map PV.str) Zb (Za ((pp.length:Nat):Int))=pp.map PV.str:=by rw[LF _ _ (by simp),<-List.map_take,List.take_left'];rfl
  simp only[xSl,j',bE,gX,gW,Out.bind,Ś,Č,fSl,ZH,this]
 unfold wY;apply mP (mY (v:=.int (pp.length:Nat)) (s':=ZF s p xa ya) ((xl (i:=1) rfl (mS (mE `m (mE rfl rfl)) rfl e1)).trans (by rw[show(1:Int)+((pp.length:Int)-1)=(pp.length:Nat) by lia])));apply mP (mY (mS (mE `m (mE ((xl (i:=(mx:Nat)) (j:=1) `m rfl).trans (by rw[show((mx:Nat):Int)+1=((mx+1:Nat):Int) by lia])) rfl)) rfl e2));apply mP (mY (mS (mE `m (mE ((xl (i:=(pp.length:Nat)) (j:=(hs.length:Nat)) `m `m).trans (by rw[show((pp.length:Nat):Int)+(hs.length:Nat)=((pp.length+hs.length:Nat):Int) by lia])) rfl)) rfl e3));apply mP (mY (v:=.ref (s.nx+1)) (s':=(N'.bump (ZF s p xc yc)).add (.book [] [])) rfl);apply mP (mY (v:=.ref (s.nx+2)) (s':=((N'.bump (ZF s p xc yc)).add (.book [] [])).add (.Zv [])) rfl);refine mP (sC (l:=pp.map .str) (s1:=((N'.bump (ZF s p xc yc)).add (.book [] [])).add (.Zv [])) ?_ lp1) ?_
 .exact oy (WV Zb Zb Zb Zb (s.nx+1) (s.nx+2) _)
 apply mP (sC (vW (n:=hs.length) (mE `m rfl) `l) lp2);apply mP e6;refine oh (qT (mE `m (mE ((AM (mE (WV _ _ _ _ _ _ _) rfl)).trans ?_) (mE `m rfl))));simp[ny,ZH,wy,show pp.length<64 by lia]
def own(L:List Ent)(n:Str):List Str:=match oA L n with
 |some e=>ZR (e.held.map (·.1))
 |none=>[]
def Cl(L:List Ent)(h:Str)(S:Str->Prop):Prop:=(∀x∈own L h,S x)/\∀y,S y->∀x∈own L y,S x
structure Rch(L:List Ent)(h:Str)(F:List Str):Prop where
 nd:F.Nodup
 cl:Cl L h (·∈F)
 mn:∀S,Cl L h S->∀x∈F,S x
def ÀL(L:List Ent)(q:List Str×List Str)(n:Str):List Str×List Str:=if n∈q.1 then q else(q.1++[n],if nK L n=true then q.2++[n] else q.2)
structure Inv1(L:List Ent)(N:List Str)(h:Str)(F W:List Str):Prop where
 nd:F.Nodup
 sub:∀x∈F,x∈N
 wt:∀x∈W,nK L x=true
 mn:∀S,Cl L h S->∀x∈F,S x
 wr:∀x∈W,x=h\/x∈F
def Ms(h:nK L n=false):own L n=[]:=by
 unfold nK at h;unfold own
 grind
theorem M9:∀{F N:List Str},F.Nodup->(∀x∈F,x∈N)->F.length<=N.length
 |[],_,_,_=>aV _
 |x::F,N,h,k=>by
  have hx:=k x al;have h:=aK.mp h;have:=M9 h.2 λy z=>(List.mem_erase_of_ne (λe:y=x=>h.1 (e▸z))).mpr (k y (af _ z))
  grind
abbrev LS(U:List Str):PV:=.lst (U.map .str)
def Kg(h:m7 c b n Z s=.nx Y' s'):tG c b Z s=.nx Y' s':=(yi h `g).trans rfl
theorem CY(s)(k):∀(U:List Str),(∀x∈U,ba x=true)->xW (PV.data s (k+1)) (U.map PV.str)=Za (U.map jC)
 |[],_=>rfl
 |x::r,h=>by
  rw[am];unfold xW;rw[CY s k r λy hy=>h y (af _ hy)];have e:PV.data s (k+1) (.str x)=Za (.str x):=by unfold PV.data;rw[Zc (h x al)]
  rw[e];rfl
def x8(s)(k)(h:∀x∈U,ba x=true):PV.data s (k+2) (LS U)=Za (.list (U.map jC)):=by unfold PV.data;rw[CY s k U h];rfl
def wA(h:Sm x):ba x=true:=by unfold ba;rw[<-Array.all_toList,dM];exact λc hc=>Zg (ip (h.2 c hc) (Zf rfl))
def oa(h:f Z s=.ok (.bl b) s1):ZI f Z s=.ok b s1:=by unfold ZI;rw[h];rfl
def GX(l)(n):(nI l n).1=n:=by
 unfold nI;cases e:l.find? λq=>decide (q.1=n) with
 |none=>rfl
 |some q=>grind
structure Ho(L:List Ent)(N:List Str):Prop where
 ow:∀n e,oA L n=Za e->e.held.length<64/\∀x∈e.held.map (·.1),x∈N
 sm:∀n∈N,Sm n
 le:N.length<64
 hn:∀n,nK L n=true->n∈N
abbrev LI(l:List Int):PV:=.lst (l.map .int)
theorem Dg(g):∀(l k:List Int),(∀x∈l,∀y∈k,e (Za (.int x)::Za (.int y)::cap) s=.ok (.int (g x y)) s)->nW og e cap (vS (l.map .int) (k.map .int)) s=.ok ((kT g l k).map .int) s
 |[],_,_=>rfl
 |_::_,[],_=>rfl
 |x::l,y::k,h=>by
  have ih:=Dg g l k λx' hx y' hy=>h x' (af _ hx) y' (af _ hy);have h0:=h x al y al;show(match og (Za (.int x)::Za (.int y)::cap) s with
   |.ok true s1=>match e (Za (.int x)::Za (.int y)::cap) s1 with
    |.ok v s2=>match nW og e cap (vS (l.map .int) (k.map .int)) s2 with
     |.ok vs s3=>Out.ok (v::vs) s3
     |_=>.bad
    |_=>.bad
   |.ok false s1=>nW og e cap (vS (l.map .int) (k.map .int)) s1
   |_=>.bad)=_
  simp only[og,h0,ih];rfl
def EG(h:l[i]?=Za x):Zk (LI l) (.int (i:Nat)) t=.ok (.int x) t:=by have:ü (l.map PV.int) i=Za (.int x):=nT (by rw[aG,h];rfl);simp[Zk,ZH,this]
def clr(p r d:Int)(row SD:List Int):List Int:=kT (λx y=>(p*x-r*y)/d) row SD
def Ci(h1:f Z s=.ok (.int i) s1)(h2:g Z s1=.ok (.int j) s2)(hd:Au j):x2 f g Ą Z s=.ok (.int (i/j)) s2:=by rw[mT h1 h2];exact Zc hd
def Mw(h1:f Z s=.ok (.int i) s1)(h2:g Z s1=.ok (.int j) s2)(hm:qN i j):x2 f g Zy Z s=.ok (.int (i*j)) s2:=by rw[mT h1 h2];exact Zc hm
def Qr(h1:f Z s=.ok (.int i) s1)(h2:g Z s1=.ok (.int j) s2):x2 f g ē Z s=.ok (.int (i-j)) s2:=by rw[mT h1 h2];rfl
def Hf(a)(s)(hl:row.length<=1000)(hb:SD.length<=1000)(hp:SD[t]?=Za p)(hr:row[t]?=Za r)(hd:Au d)(m1:∀x∈row,qN p x)(m2:∀y∈SD,qN r y) :
  tF a [LI row,LI SD,.int (t:Nat),.int d] s=.ok (LI (clr p r d row SD)) s:=by
 apply m8;apply oh;have c:=Dg (s:=s) (cap:=[Za (.int d),Za (LI SD),Za (.int t),Za (LI row)]) (e:=x2 (x2 (x2 (x2 (j' 3) (j' 4) Zk) (j' 0) Zy) (x2 (x2 (j' 5) (j' 4) Zk) (j' 1) Zy) ē) (j' 2) Ą) (λx y=>(p*x-r*y)/d) row SD λx hx y hy =>
  Ci (Qr (Mw ((mT `m `m).trans (EG hp)) `m (m1 x hx)) (Mw ((mT `m `m).trans (EG hr)) `m (m2 y hy))) `m hd
 have z:LX (F' (j' 0) (F' (j' 1) J')) ([LI row,LI SD,PV.int t,.int d].map Za++aQ (4-4) Zb) s=.ok (vS (row.map .int) (SD.map .int)) s:=by rfl
 show((LX (F' (j' 0) (F' (j' 1) J')) ([LI row,LI SD,PV.int t,.int d].map Za++aQ (4-4) Zb) s).bind _)=_;show(if(vS (row.map PV.int) (SD.map PV.int)).length<=100000 then _ else _)=_;rw[Zc (by rw[AQ,ac,ac];lia)];show(nW og _ [Za (.int d),Za (LI SD),Za (.int t),Za (LI row)] (vS (row.map PV.int) (SD.map PV.int)) s).bind _=_;rw[c];rfl
theorem AF(g:Nat->List Int->List Int):∀(M:List (List Int))(k:Nat),(∀i row,M[i]?=Za row->e (Za (.int ((k+i:Nat):Int))::Za (LI row)::cap) s=.ok (LI (g (k+i) row)) s)->nW og e cap (sX k (M.map LI)) s=.ok ((M.mapIdx λi row=>g (k+i) row).map LI) s
 |[],_,_=>rfl
 |row::M,k,h=>by
  have ih:=AF g M (k+1) λi q' hq=>by have:=h (i+1) q' hq;rw[show k+(i+1)=k+1+i by lia] at this;exact this
  have h0:=h 0 row rfl;rw[Nat.add_zero] at h0;show(match og (Za (.int k)::Za (LI row)::cap) s with
   |.ok true s1=>match e (Za (.int k)::Za (LI row)::cap) s1 with
    |.ok v s2=>match nW og e cap (sX (k+1) (M.map LI)) s2 with
     |.ok vs s3=>Out.ok (v::vs) s3
     |_=>.bad
    |_=>.bad
   |.ok false s1=>nW og e cap (sX (k+1) (M.map LI)) s1
   |_=>.bad)=_
  simp[og,h0,ih]
  grind
abbrev LL(M:List (List Int)):PV:=.lst (M.map LI)
def at2(M:List (List Int))(i j:Nat):Int:=(((M[i]?).getD [])[j]?).getD 0
def nxt(t:Nat)(d:Int)(M:List (List Int)):List (List Int):=M.mapIdx λi row=>if i=t then row else clr (at2 M t t) ((row[t]?).getD 0) d row ((M[t]?).getD [])
def è(M:List (List Int)):Nat->Int×List (List Int)
 |0=>(1,M)
 |t+1=>(at2 (è M t).2 t t,nxt t (è M t).1 (è M t).2)
structure Rows(n w:Nat)(q:Int×List (List Int)):Prop where
 n:q.2.length=n
 w:∀row∈q.2,row.length=w
 b:∀row∈q.2,∀x∈row,Bt 20000 x
 d:Au q.1
def Nr(a:Y9)(s:N')(R:Rows n w q)(hn:n<=1000)(hw:w<=1000)(ht:t<n)(Xh:n<=w)(rows:PV)(u4:Option PV) :
  wP a [Za rows,Za (.int q.1),Za (LL q.2),Za (.int (t:Nat)),u4] s=.nx [Za rows,Za (.int (at2 q.2 t t)),Za (LL (nxt t q.1 q.2)),Za (.int (t:Nat)),Za (LI ((q.2[t]?).getD []))] s:=by
 obtain⟨SD,hM⟩:∃r,q.2[t]?=Za r:=⟨_,ay (by rw[R.n];exact ht)⟩;have YE:=bY.mpr ⟨t,hM⟩;have hbl:=R.w SD YE;have hp:SD[t]?=Za (at2 q.2 t t):=by unfold at2;rw[hM];show SD[t]?=Za ((SD[t]?).getD 0);rw[ay `l];rfl
 unfold wP;refine mP (mY (v:=LI SD) (s':=s) ((mT `m `m).trans ?_)) ?_
 .have:ü (q.2.map LI) (t:Int)=Za (LI SD):=nT (by rw[aG,hM];rfl);simp[Zk,ZH,this]
 have lt:∀{row:List Int},row∈q.2->row[t]?=Za ((row[t]?).getD 0):=λ{row} hr=>by have:=R.w row hr;rw[ay `l];rfl
 have c:=AF (s:=s) (cap:=[Za (.int (t:Nat)),Za (LI SD),Za (.int q.1)]) (e:=ś (ZI (x2 (j' 0) (j' 2) Ĕ)) (j' 1) (V' 4 (tF a) (F' (j' 1) (F' (j' 3) (F' (j' 2) (F' (j' 4) J'))))))
  (λi row=>if i=t then row else clr (at2 q.2 t t) ((row[t]?).getD 0) q.1 row SD) q.2 0 λi row Ye=>by
   have hm:row∈q.2:=bY.mpr ⟨i,Ye⟩;have eq:ZI (x2 (j' 0) (j' 2) Ĕ) [Za (.int ((0+i:Nat):Int)),Za (LI row),Za (.int (t:Nat)),Za (LI SD),Za (.int q.1)] s=.ok (decide (i=t)) s:=by
    unfold ZI;rw[mT `m `m,fG];show(Î false _ _ _).bind _=_;unfold Î;rw[pM,pM];show(Out.ok (PV.bl (cR (.int (i:Int)) (.int (t:Int)))) s).bind _=_;rw[sS];show Out.ok (((i:Int)==(t:Int))) s=_
    congr 1
    rw[cj,beq_iff_eq,decide_eq_true_iff];lia
   unfold ś;rw[eq,fG];by_cases z:i=t
   .rw[Zg z,Zc z];rfl
   .rw[Zh z,Zd z];have hl:=R.w row hm;show V' 4 (tF a) (F' (j' 1) (F' (j' 3) (F' (j' 2) (F' (j' 4) J')))) [Za (.int (i:Int)),Za (LI row),Za (.int (t:Nat)),Za (LI SD),Za (.int q.1)] s=_;exact mS (mE `m (mE `m (mE `m (mE `m rfl)))) rfl (Hf a s `l `l hp (lt hm) R.d (λx hx=>.inl ⟨R.b SD YE _ (bY.mpr ⟨t,hp⟩),R.b row hm x hx⟩) (λy hy=>.inl ⟨R.b row hm _ (bY.mpr ⟨t,lt hm⟩),R.b SD YE y hy⟩))
 have nx:nxt t q.1 q.2=q.2.mapIdx λi row=>if 0+i=t then row else clr (at2 q.2 t t) ((row[t]?).getD 0) q.1 row SD:=by
  unfold nxt;rw[hM]
  congr 1
  funext i row
  rw[fG];rfl
 rw[<-nx] at c;refine mP (mY (v:=LL (nxt t q.1 q.2)) (s':=s) ?_) ((mY ((mT `m `m).trans (EG hp))).trans (by rw[hM];rfl));unfold p8;have z:xn (F' (j' 2) J') [Za rows,Za (.int q.1),Za (LL q.2),Za (.int (t:Nat)),Za (LI SD)] s=.ok (sX 0 (q.2.map LI)) s:=by unfold xn;rw[mE (mD (v:=LL q.2) rfl) rfl];rfl
 show((xn (F' (j' 2) J') [Za rows,Za (.int q.1),Za (LL q.2),Za (.int (t:Nat)),Za (LI SD)] s).bind _)=_;rw[z];show(if(sX 0 (q.2.map LI)).length<=100000 then _ else _)=_;rw[Zc (by rw[tj,ac,R.n];lia)];show(nW og _ [Za (.int (t:Nat)),Za (LI SD),Za (.int q.1)] (sX 0 (q.2.map LI)) s).bind _=_;rw[c];rfl
def LG(ws:List PV)(k:Nat)(hk:k<=ws.length):Er ws (Za (k:Int)) Zb=ws.drop k:=by
 unfold Er;have e1:HT.À ws.length 0 (Za k)=k:=by
  simp[HT.À]
  grind
 have e2:HT.À ws.length ws.length Zb=ws.length:=rfl;rw[e1,e2];exact ib (by rw[gT];omega)
def Jv(h:f Z s=.ok (.lst l) s1):ZL f Z s=.ok l s1:=by unfold ZL;rw[h];rfl
def IN(a:Y9)(s:N')(hn:n<=1000)(hw:w<=1000)(Xh:n<=w)(R:∀t,t<=n->Rows n w (è rows t)):xL a [LL rows] s=.ok (.tup [LL ((è rows n).2.map (·.drop n)),.int (è rows n).1]) s:=by
 have len:rows.length=n:=(R 0 (aV _)).n;let⟨Y',s',lp,u3,u4,rfl,rfl⟩:=vE n
  (λk Z s'=>∃u3 u4,Z=[Za (LL rows),Za (.int (è rows k).1),Za (LL (è rows k).2),u3,u4]/\s'=s)
  (λk Z s' hk hI=>by let⟨u3,u4,rfl,rfl⟩:=hI;exact⟨_,_,(pB (i:=3)).trans (Nr a s' (R k (fI hk)) hn hw hk Xh (LL rows) u4),_,_,rfl,rfl⟩) ⟨Zb,Zb,rfl,rfl⟩
 apply m8;have ln:∀(Z:En) s i,Z[i]?=Za (Za (LL rows))->xB (F' (j' i) J') å Z s=.ok (.int n) s:=λZ s i h=>by rw[AM (mE (mD h) rfl)];simp[å,ZH,len]
 apply mP (mY rfl);apply mP (mY `m);apply mP (sC (vW (mE (ln _ _ 0 rfl) rfl) (by omega)) lp);have c:=qG (s:=s') (cap:=[Za (LL rows)]) (c:=og) (e:=xSl (j' 0) (Č (xB (F' (j' 1) J') å)) Ś) (λ_=>true) (λp=>match p with|.lst l=>.lst (l.drop n)|p=>p) ((è rows n).2.map LI) (λq _=>rfl) (λq hq _=>by let⟨row,hr,rfl⟩:=ar.mp hq;have hl:=(R n (ak _)).w row hr;have cd:=LG (row.map PV.int) n `g;have l1:=ln [Za (LI row),Za (LL rows)] s' 1 rfl;simp only[xSl,j',gW,Out.bind,Č,l1,Ś,fSl,ZH,cd])
 have e1:((((è rows n).2.map LI).filter λ_=>true).map λp=>match p with|.lst l=>PV.lst (l.drop n)|p=>p)=((è rows n).2.map (·.drop n)).map LI:=by
  rw[iY.mpr (λ_ _=>rfl),aH,aH];exact aX λrow _=>by show PV.lst ((row.map PV.int).drop n)=PV.lst ((row.drop n).map PV.int);rw[List.map_drop]
 rw[e1] at c;exact oh (qT (mE (qk (Jv `m) (by rw[ac,(R n (ak _)).n];omega) c) (mE `m rfl)))
end My
namespace El
def sm(f:Nat->Rat):Nat->Rat
 |0=>0
 |n+1=>sm f n+f n
theorem Zr:∀{n:Nat},(∀k,k<n->f k=g k)->sm f n=sm g n
 |0,_=>rfl
 |n+1,h=>by unfold sm;rw[Zr λk hk=>h k `l,h n `l]
theorem ð(a c)(f g):∀n:Nat,sm (λk=>a*f k+c*g k) n=a*sm f n+c*sm g n
 |0=>by unfold sm;grind
 |n+1=>by unfold sm;rw[ð a c f g n];grind
theorem ā(a)(f):∀n:Nat,sm (λk=>a*f k) n=a*sm f n
 |0=>by unfold sm;grind
 |n+1=>by unfold sm;rw[ā a f n];grind
theorem ű:∀{n:Nat},(∀k,k<n->f k=0)->sm f n=0
 |0,_=>rfl
 |n+1,h=>by unfold sm;rw[ű λk hk=>h k `l,h n `l];grind
theorem ã:∀{n:Nat},p<n->(∀k,k<n->k≠p->f k=0)->sm f n=f p
 |0,hp,_=>absurd hp `l
 |n+1,hp,h=>by
  unfold sm;by_cases c:p=n
  .subst c;rw[ű λk hk=>h k `l `l];grind
  .rw[ã (p:=p) `l λk hk=>h k `l,h n `l `l];grind
theorem Mf(hpq:p<q):∀{n:Nat},q<n->(∀k,k<n->k≠p->k≠q->f k=0)->sm f n=f p+f q
 |0,hp,_=>absurd hp `l
 |n+1,hp,h=>by
  unfold sm;by_cases c:q=n
  .subst c;rw[ã hpq λk hk z=>h k `l z `l]
  .rw[Mf hpq `l λk hk=>h k `l,h n `l `l `l];grind
def skip(j k:Nat):Nat:=if k<j then k else k+1
def sg(j:Nat):Rat:=if j%2=0 then 1 else -1
def NC(j):sg (j+1)=- sg j:=by
 unfold sg
 grind
def dt:Nat->(Nat->Nat->Rat)->Rat
 |0,_=>1
 |n+1,M=>sm (λj=>sg j*M 0 j*dt n (λi k=>M (i+1) (skip j k))) (n+1)
def upd(M:Nat->Nat->Rat)(p:Nat)(b:Nat->Rat):Nat->Nat->Rat:=λi k=>if k=p then b i else M i k
theorem xF:∀{n:Nat}{M N:Nat->Nat->Rat},(∀i,i<n->∀k,k<n->M i k=N i k)->dt n M=dt n N
 |0,_,_,_=>rfl
 |n+1,M,N,h=>by unfold dt;refine Zr λj hj=>?_;rw[h 0 `l j hj,xF (n:=n) λi hi k hk=>h (i+1) `l (skip j k) (by unfold skip;split<;>lia)]
theorem Ĭ:∀{n:Nat}{M:Nat->Nat->Rat}{p:Nat}(a c:Rat)(u v:Nat->Rat),p<n->dt n (upd M p λi=>a*u i+c*v i)=a*dt n (upd M p u)+c*dt n (upd M p v)
 |0,_,_,_,_,_,_,hp=>absurd hp `l
 |n+1,M,p,a,c,u,v,hp=>by
  unfold dt;rw[<-ð];refine Zr λj hj=>?_;by_cases e:j=p
  .subst e;have mi:∀w:Nat->Rat,(λi k=>upd M j w (i+1) (skip j k))=λi k=>M (i+1) (skip j k):=λw=>by
    funext i k
    unfold upd;rw[Zd (by unfold skip;split<;>lia)]
   rw[mi,mi,mi];unfold upd
   grind
  .have mi:∀w:Nat->Rat,(λi k=>upd M p w (i+1) (skip j k))=upd (λi k=>M (i+1) (skip j k)) (if p<j then p else p-1) λi=>w (i+1):=λw=>by
    funext i k
    unfold upd;have:skip j k=p↔k=if p<j then p else p-1:=by unfold skip;grind
    grind
   rw[mi,mi,mi,Ĭ a c (λi=>u (i+1)) (λi=>v (i+1)) `g];unfold upd;rw[Zd e,Zd e,Zd e]
   grind
theorem HC:∀{n:Nat}{M:Nat->Nat->Rat}{p:Nat},p+1<n->(∀i,M i p=M i (p+1))->dt n M=0
 |0,_,_,hp,_=>absurd hp `l
 |n+1,M,p,hp,h=>by
  unfold dt;rw[Mf (p:=p) (q:=p+1) `l hp]
  .have mi:(λi k=>M (i+1) (skip p k))=λi k=>M (i+1) (skip (p+1) k):=by
    funext i k
    by_cases c:k=p
    .subst c;have e1:skip k k=k+1:=by unfold skip;grind
     have e2:skip (k+1) k=k:=by unfold skip;grind
     rw[e1,e2,h]
    .have:skip p k=skip (p+1) k:=by unfold skip;grind
     rw[this]
   rw[mi,NC,h 0]
   grind
  .intro j hj h1 h2;rw[HC (p:=if p<j then p else p-1) `g]
   .grind
   .intro i;have e1:skip j (if p<j then p else p-1)=p:=by unfold skip;grind
    have e2:skip j ((if p<j then p else p-1)+1)=p+1:=by unfold skip;grind
    simp_all
def xO(M)(h:p≠q)(u v):upd (upd M p u) q v=upd (upd M q v) p u:=by
 funext i k
 unfold upd
 grind
def OL(hp:p+1<n):dt n (upd (upd M p λi=>M i (p+1)) (p+1) λi=>M i p)=- dt n M:=by
 let F:=λu v:Nat->Rat=>dt n (upd (upd M p u) (p+1) v);have hF:∀u,F u u=0:=λu=>HC hp λi=>by unfold upd;rw[Zd `l,Zc rfl,Zc rfl]
 have l2:∀u v w,F u (λi=>1*v i+1*w i)=1*F u v+1*F u w:=λu v w=>Ĭ 1 1 v w hp;have l1:∀u v w,F (λi=>1*v i+1*w i) u=1*F v u+1*F w u:=λu v w=>by show dt n _=1*dt n _+1*dt n _;rw[xO M (show p≠p+1 by lia) _ u,xO M (show p≠p+1 by lia) v u,xO M (show p≠p+1 by lia) w u];exact Ĭ 1 1 v w `l
 have e:=hF λi=>1*M i p+1*M i (p+1);rw[l1,l2,l2,hF,hF] at e;have e1:F (λi=>M i p) (λi=>M i (p+1))=dt n M:=by
  show dt n _=_
  congr 1
  funext i k
  unfold upd;split
  .rename_i z;rw[z]
  .simp_all
 grind
theorem Nf:∀(d:Nat){M:Nat->Nat->Rat}{p:Nat},p+d+1<n->(∀i,M i p=M i (p+d+1))->dt n M=0
 |0,_,_,hp,h=>HC hp h
 |d+1,M,p,hp,h=>by
  have e:=OL (M:=M) (p:=p+d+1) hp;have z:=Nf (n:=n) d (M:=upd (upd M (p+d+1) λi=>M i (p+d+1+1)) (p+d+1+1) λi=>M i (p+d+1)) (p:=p) `l λi=>by
   unfold upd
   grind
  rw[z] at e
  grind
def OM(hp:p<n)(hq:q<n)(h:p≠q)(e:∀i,M i p=M i q):dt n M=0:=by
 obtain c|c:=Nat.lt_or_gt_of_ne h
 .obtain⟨d,rfl⟩:∃d,q=p+d+1:=⟨q-p-1,by lia⟩;exact Nf d hq e
 .obtain⟨d,rfl⟩:∃d,p=q+d+1:=⟨p-q-1,by lia⟩;exact Nf d hp λi=>(e i).symm
theorem ML(hp:p<n)(x:Nat->Rat)(C:Nat->Nat->Rat):∀m:Nat,dt n (upd M p λi=>sm (λl=>x l*C i l) m)=sm (λl=>x l*dt n (upd M p λi=>C i l)) m
 |0=>by
  have:=Ĭ (M:=M) 0 0 (λ_=>0) (λ_=>0) hp;unfold sm
  grind
 |m+1=>by
  have:=Ĭ (M:=M) 1 (x m) (λi=>sm (λl=>x l*C i l) m) (λi=>C i m) hp;unfold sm;rw[ML hp x C m] at this
  grind
def ż(hp:p<n)(x b:Nat->Rat)(h:∀i,i<n->b i=sm (λl=>x l*M i l) n):dt n (upd M p b)=x p*dt n M:=by
 have e1:dt n (upd M p b)=dt n (upd M p λi=>sm (λl=>x l*M i l) n):=xF λi hi k hk=>by
  unfold upd
  simp_all
 rw[e1,ML hp x M n,ã hp]
 .congr 2
  funext i k
  unfold upd
  grind
 .intro k hk z;rw[OM hp hk `l]
  .grind
  .intro i;unfold upd;grind
def Is(x:Nat->Rat):dt (n+1) (upd M n λi=>M i n-sm (λl=>x l*M i l) n)=dt (n+1) M:=by
 have e:=ż (n:=n+1) (p:=n) `l (λl=>if l=n then 1 else-x l) (λi=>M i n-sm (λl=>x l*M i l) n) λi _=>by
  show M i n-sm (λl=>x l*M i l) n=sm (λl=>(if l=n then 1 else-x l)*M i l) n+(if n=n then 1 else-x n)*M i n;have:sm (λl=>(if l=n then 1 else-x l)*M i l) n=(-1)*sm (λl=>x l*M i l) n:=by rw[<-ā];exact Zr λk hk=>by rw[Zd `l];grind
  rw[this]
  grind
 grind
theorem Ek:∀{n:Nat}{M:Nat->Nat->Rat},(∀i,i<n->M i n=0)->dt (n+1) M=M n n*dt n M
 |0,M,_=>by
  show sm (λj=>sg j*M 0 j*1) 1=M 0 0*1;unfold sm sm sg;simp
  grind
 |n+1,M,h=>by
  have e:dt (n+2) M=sm (λj=>sg j*M 0 j*dt (n+1) (λi k=>M (i+1) (skip j k))) (n+2):=rfl;have e2:dt (n+1) M=sm (λj=>sg j*M 0 j*dt n (λi k=>M (i+1) (skip j k))) (n+1):=rfl;rw[e,e2,<-ā];show sm _ (n+1)+sg (n+1)*M 0 (n+1)*_=_;rw[h 0 `l,Zr (g:=λj=>M (n+1) (n+1)*(sg j*M 0 j*dt n (λi k=>M (i+1) (skip j k)))) λj hj=>?_]
  .grind
  .have sk:skip j n=n+1:=by unfold skip;grind
   rw[Ek λi hi=>by rw[sk];exact h (i+1) `l,sk]
   grind
def Ř(q:Rat):Prop:=∃z:Int,q=(z:Rat)
def Ř.add:Ř a->Ř b->Ř (a+b):=λ⟨x,h⟩ ⟨y,k⟩=>⟨x+y,by rw[h,k];grind⟩
def Ř.mul:Ř a->Ř b->Ř (a*b):=λ⟨x,h⟩ ⟨y,k⟩=>⟨x*y,by rw[h,k];grind⟩
def Ř.sub:Ř a->Ř b->Ř (a-b):=λ⟨x,h⟩ ⟨y,k⟩=>⟨x-y,by rw[h,k];exact(jK x y).symm⟩
theorem Hy:∀{n:Nat},(∀k,k<n->Ř (f k))->Ř (sm f n)
 |0,_=>⟨0,rfl⟩
 |n+1,h=>(Hy λk hk=>h k `l).add (h n `l)
def Rm(j):Ř (sg j):=by
 unfold sg;split
 .exact⟨1,rfl⟩
 .exact⟨-1,rfl⟩
theorem Hz:∀{n:Nat}{M:Nat->Nat->Rat},(∀i k,Ř (M i k))->Ř (dt n M)
 |0,_,_=>⟨1,rfl⟩
 |n+1,M,h=>Hy λj _=>((Rm j).mul (h 0 j)).mul (Hz λi k=>h _ _)
structure Cl(A:Nat->Nat->Rat)(t:Nat)(d:Rat)(M X:Nat->Nat->Rat):Prop where
 d0:d≠0
 dt:d=dt t A
 so:∀i,i<t->∀j,sm (λl=>X l j*A i l) t=A i j
 up:∀i,i<t->∀j,M i j=d*X i j
 lo:∀i,t<=i->∀j,M i j=d*(A i j-sm (λl=>X l j*A i l) t)
def nextM(t:Nat)(d:Rat)(M:Nat->Nat->Rat):Nat->Nat->Rat:=λi j=>if i=t then M t j else(M t t*M i j-M i t*M t j)/d
def Cl.zero(A):Cl A 0 1 A λ_ _=>0:=⟨Zf rfl,rfl,λi h=>absurd h `l,λi h=>absurd h `l,λi _ j=>by show A i j=1*(A i j-0);grind⟩
def Cl.next(C:Cl A t d M X)(hp:M t t≠0):∃X',Cl A (t+1) (M t t) (nextM t d M) X':=by
 have d0:=C.d0;have hs:M t t=d*(A t t-sm (λl=>X l t*A t l) t):=C.lo t (ak _) t;generalize hsd:A t t-sm (λl=>X l t*A t l) t=s at hs;have s0:s≠0:=λz=>hp (by rw[hs,z];grind);let y:=λj=>(A t j-sm (λl=>X l j*A t l) t)/s;have hy:∀j,s*y j=A t j-sm (λl=>X l j*A t l) t:=λj=>by show s*(_/s)=_;grind
 let X':Nat->Nat->Rat:=λi j=>if i=t then y j else X i j-X i t*y j
 have hX:∀(c:Nat->Rat)(j:Nat),sm (λl=>X' l j*c l) (t+1)=sm (λl=>X l j*c l) t-y j*sm (λl=>X l t*c l) t+y j*c t:=λc j=>by
  show sm (λl=>X' l j*c l) t+X' t j*c t=_;have e:sm (λl=>X' l j*c l) t=sm (λl=>1*(X l j*c l)+(- y j)*(X l t*c l)) t:=Zr λk hk=>by
   show(if k=t then y j else X k j-X k t*y j)*c k=_;rw[Zd `l]
   grind
  rw[e,ð];show _+(if t=t then y j else _)*c t=_;rw[Zc rfl]
  grind
 refine⟨X',hp,?_,λi hi j=>?_,λi hi j=>?_,λi hi j=>?_⟩
 .rw[<-Is (n:=t) (M:=A) λl=>X l t,Ek]
  .have e:El.dt t (upd A t λi=>A i t-sm (λl=>X l t*A i l) t)=El.dt t A:=xF λi hi k hk=>by unfold upd;rw[Zd `l]
   rw[e,<-C.dt];unfold upd;rw[Zc rfl];show M t t=(A t t-sm (λl=>X l t*A t l) t)*d;rw[hsd,hs]
   grind
  .intro i hi;unfold upd;rw[Zc rfl];show A i t-sm (λl=>X l t*A i l) t=0;rw[C.so i hi t]
   grind
 .rw[hX];by_cases c:i=t
  .subst c;have:=hy j
   grind
  .rw[C.so i `l j,C.so i `l t]
   grind
 .show nextM t d M i j=_*(if i=t then y j else X i j-X i t*y j);unfold nextM;have hj:=C.lo t (ak _) j;have:=hy j;by_cases c:i=t
  .rw[Zc c,Zc c,hj,hs]
   grind
  .rw[Zd c,Zd c,C.up i `l j,C.up i `l t,hj,hs]
   grind
 .rw[hX];unfold nextM;have hj:=C.lo t (ak _) j;have:=hy j;rw[Zd `l,C.lo i `l j,C.lo i `l t,hj,hs]
  grind
def Cl.whole(C:Cl A t d M X)(hA:∀i j,Ř (A i j)):Ř d/\∀i j,Ř (M i j):=by
 have hd:Ř d:=by rw[C.dt];exact Hz hA
 have up:∀i,i<t->∀j,Ř (d*X i j):=λi hi j=>by
  have e:=ż hi (λl=>X l j) (λk=>A k j) λk hk=>(C.so k hk j).symm;rw[<-C.dt] at e;have:d*X i j=El.dt t (upd A i λk=>A k j):=by rw[e];grind
  rw[this];refine Hz λk l=>?_;unfold upd
  grind
 refine⟨hd,λi j=>?_⟩;by_cases c:i<t
 .rw[C.up i c j];exact up i c j
 .rw[C.lo i `l j];have e:d*(A i j-sm (λl=>X l j*A i l) t)=d*A i j-sm (λl=>(d*X l j)*A i l) t:=by
   have:sm (λl=>(d*X l j)*A i l) t=d*sm (λl=>X l j*A i l) t:=by
    rw[<-ā]
    grind
   rw[this]
   grind
  rw[e];exact(hd.mul (hA i j)).sub (Hy λk hk=>(up k hk j).mul (hA i k))
def gs(n:Nat)(G:Nat->Bool)(S:Nat->Nat->Rat)(j:Nat):Rat:=sm (λi=>if G i=true then S i j else 0) n
structure Zm(n t:Nat)(S:Nat->Nat->Rat):Prop where
 off:∀i j,t<=i->i<n->t<=j->j<n->i≠j->S i j<=0
 col:∀G:Nat->Bool,(∀i,G i=true->t<=i)->∀j,j<n->G j=true->0<=gs n G S j
 grp:∀G:Nat->Bool,(∀i,G i=true->t<=i/\i<n)->(∃j,G j=true)->∃j,G j=true/\0<gs n G S j
def FL(h:∀i,i<n->G i=true->S i j=T i j):gs n G S j=gs n G T j:=Zr λi hi=>by
 grind
def Zm.congr(h:Zm n t S)(e:∀i j,t<=i->i<n->T i j=S i j):Zm n t T:=by
 refine⟨λi j a b c d f=>by rw[e i j a b];exact h.off i j a b c d f,λG hG j hj gj=>?_,λG hG hx=>?_⟩
 .rw[FL λi hi gi=>e i j (hG i gi) hi];exact h.col G hG j hj gj
 .let⟨j,gj,p⟩:=h.grp G hG hx;exact⟨j,gj,by rw[FL λi hi gi=>e i j (hG i gi).1 hi];exact p⟩
def Zm.piv(h:Zm n t S)(ht:t<n):0<S t t:=by
 let⟨j,gj,p⟩:=h.grp (λi=>decide (i=t)) (λi z=>by lia) ⟨t,Zg rfl⟩;have:=Zf gj;subst this;have e:gs n (λi=>decide (i=j)) S j=S j j:=by
  unfold gs;rw[ã ht]
  .simp
  .simp_all
 simp_all
def z9(t:Nat)(S:Nat->Nat->Rat):Nat->Nat->Rat:=λi j=>S i j-S i t*(S t j/S t t)
def MF(ht:t<n)(hG:G t=false)(j):gs n (λi=>G i||decide (i=t)) S j=gs n G S j+S t j:=by
 unfold gs;have e:sm (λi=>if decide (i=t)=true then S t j else 0) n=S t j:=by
  rw[ã ht]
  .simp
  .simp_all
 rw[show sm (λi=>if G i=true then S i j else 0) n+S t j=1*sm (λi=>if G i=true then S i j else 0) n+1*sm (λi=>if decide (i=t)=true then S t j else 0) n by rw[e];grind,<-ð];refine Zr λi _=>?_;by_cases c:i=t
 .subst c;simp[hG];grind
 .simp[c];grind
def Io(j):gs n G (z9 t S) j=gs n G S j-gs n G S t*(S t j/S t t):=by unfold gs;generalize hq:S t j/S t t=q;rw[show sm (λi=>if G i=true then S i j else 0) n-sm (λi=>if G i=true then S i t else 0) n*q=1*sm (λi=>if G i=true then S i j else 0) n+(-q)*sm (λi=>if G i=true then S i t else 0) n by grind,<-ð];refine Zr λi _=>?_;unfold z9;rw[hq];split<;>grind
def np{a b:Rat}(ha:a<=0)(hb:b<=0):0<=a*b:=by
 have:=bH (a:=-a) (b:=-b) `g `g
 grind
def Rz{a b:Rat}(ha:a<=0)(hb:0<b):a/b<=0:=by
 have h1:=kZ (Rat.inv_pos.mpr hb);have:=bH (a:=-a) `g h1
 grind
def Lv{a b:Rat}(ha:a<0)(hb:0<b):a/b<0:=by
 have:=iO (a:=-a) `g (Rat.inv_pos.mpr hb)
 grind
def Zm.next{n t:Nat}{S:Nat->Nat->Rat}(h:Zm n t S)(ht:t<n):Zm n (t+1) (z9 t S):=by
 have pv:=h.piv ht;have q0:∀j,t+1<=j->j<n->S t j/S t t<=0:=λj h1 h2=>Rz (h.off t j (ak _) ht `l h2 `l) pv;have main:∀G:Nat->Bool,(∀i,G i=true->t+1<=i)->∀j,gs n G (z9 t S) j=gs n (λi=>G i||decide (i=t)) S j-gs n (λi=>G i||decide (i=t)) S t*(S t j/S t t):=λG hG j=>by
  have gt:G t=false:=by
   cases c:G t with
   |false=>rfl
   |true=>have:=hG t c;lia
  rw[Io,MF ht gt,MF ht gt];have:S t t*(S t j/S t t)=S t j:=by grind
  grind
 have È:∀G:Nat->Bool,(∀i,G i=true->t+1<=i)->∀i,(G i||decide (i=t))=true->t<=i:=λG hG i z=>by
  rcases(fc _ _).mp z with z|z
  .have:=hG i z;lia
  .have:=Zf z;lia
 have sg0:∀G:Nat->Bool,(∀i,G i=true->t+1<=i)->0<=gs n (λi=>G i||decide (i=t)) S t:=λG hG=>h.col _ (È G hG) t ht (by simp);have ge:∀G:Nat->Bool,(∀i,G i=true->t+1<=i)->∀j,j<n->G j=true->gs n (λi=>G i||decide (i=t)) S j<=gs n G (z9 t S) j:=λG hG j hj gj=>by
  rw[main G hG];have:=bH (a:=gs n (λi=>G i||decide (i=t)) S t) (b:=-(S t j/S t t)) (sg0 G hG) (by have:=q0 j (hG j gj) hj;grind)
  grind
 refine⟨λi j a b c d f=>?_,λG hG j hj gj=>?_,λG hG hx=>?_⟩
 .have h1:=h.off i j `l b `l d f;have h2:=np (h.off i t `l b (ak _) ht `l) (q0 j c d);unfold z9
  grind
 .have h1:=h.col (λi=>G i||decide (i=t)) (È G hG) j hj (by simp[gj]);have h2:=ge G hG j hj gj
  grind
 .have Vu:=λi z=>(hG i z).1;let⟨j,gj,p⟩:=h.grp (λi=>G i||decide (i=t)) (λi z=>⟨È G Vu i z,by
   rcases(fc _ _).mp z with z|z
   .exact(hG i z).2
   .have:=Zf z;lia⟩) (by let⟨j,gj⟩:=hx;exact⟨j,by simp[gj]⟩)
  rcases(fc _ _).mp gj with gj|gj
  .refine⟨j,gj,?_⟩;have:=ge G Vu j (hG j gj).2 gj
   grind
  .have:=Zf gj;subst this;by_cases c:∃k,G k=true/\S j k<0
   .let⟨k,gk,nk⟩:=c;refine⟨k,gk,?_⟩;rw[main G Vu];have h1:=h.col (λi=>G i||decide (i=j)) (È G Vu) k (hG k gk).2 (by simp[gk]);have h2:=iO (a:=gs n (λi=>G i||decide (i=j)) S j) (b:=-(S j k/S j j)) p (by have:=Lv nk pv;grind)
    grind
   .let⟨k,gk,pk⟩:=h.grp G (λi z=>⟨by have:=Vu i z;lia,(hG i z).2⟩) hx;refine⟨k,gk,?_⟩;have h0:S j k=0:=by
     have h1:=h.off j k (ak _) ht (by have:=Vu k gk;lia) (hG k gk).2 (by have:=Vu k gk;lia);have h2:¬S j k<0:=λz=>c ⟨k,gk,z⟩
     grind
    rw[Io,h0];have:(0:Rat)/S j j=0:=by grind
    rw[this]
    grind
def bm(A:Nat->Nat->Rat):Nat->Rat×(Nat->Nat->Rat)
 |0=>(1,A)
 |t+1=>((bm A t).2 t t,nextM t (bm A t).1 (bm A t).2)
theorem run(h:Zm n 0 A):∀t,t<=n->(∃X,Cl A t (bm A t).1 (bm A t).2 X)/\0<(bm A t).1/\Zm n t λi j=>(bm A t).2 i j/(bm A t).1
 |0,_=>⟨⟨_,Cl.zero A⟩,(by decide:(0:Rat)<1),h.congr λi j _ _=>by show A i j/1=A i j;grind⟩
 |t+1,ht=>by
  let⟨⟨X,C⟩,dp,Zj⟩:=run h t `l;have pv:=Zj.piv `l;have d0:(bm A t).1≠0:=λz=>by rw[z] at dp;grind
  have pp:0<(bm A t).2 t t:=by
   have:=iO dp pv;have e:(bm A t).1*((bm A t).2 t t/(bm A t).1)=(bm A t).2 t t:=by grind
   simp_all
  have p0:(bm A t).2 t t≠0:=λz=>by rw[z] at pp;grind
  refine⟨C.next p0,pp,(Zj.next `l).congr λi j hi _=>?_⟩;show nextM t (bm A t).1 (bm A t).2 i j/(bm A t).2 t t=z9 t _ i j;unfold nextM z9;rw[Zd `l]
  grind
end El
namespace My
open PySem L2 Fra
def rN(h:M[i]?=Za row)(k:row[j]?=Za x):at2 M i j=x:=by
 unfold at2
 simp_all
def Ph(hn:M.length=n)(hw:∀row∈M,row.length=w)(ht:t<n)(htw:t<w)(hi:i<n)(hj:j<w):at2 (nxt t d M) i j=if i=t then at2 M t j else(at2 M t t*at2 M i j-at2 M i t*at2 M t j)/d:=by
 have get:∀k,k<n->∃row,M[k]?=Za row/\row.length=w:=λk hk=>by
  simp_all
 let⟨row,hr,rl⟩:=get i hi;let⟨SD,hb,bl⟩:=get t ht;obtain⟨x,hx⟩:∃x,row[j]?=Za x:=⟨_,ay `l⟩;obtain⟨r,hrt⟩:∃r,row[t]?=Za r:=⟨_,ay `l⟩;obtain⟨y,hy⟩:∃y,SD[j]?=Za y:=⟨_,ay `l⟩;rw[rN hb hy,rN hr hx,rN hr hrt];have e:(nxt t d M)[i]?=Za (if i=t then row else clr (at2 M t t) ((row[t]?).getD 0) d row ((M[t]?).getD [])):=by unfold nxt;rw[List.getElem?_mapIdx,hr];rfl
 by_cases c:i=t
 .rw[Zc c] at e ⊢;subst c;rw[hr] at hb;cases hb;rw[hx] at hy;cases hy;exact rN e hx
 .rw[Zd c] at e ⊢;rw[hb,hrt] at e;apply rN e;show(kT (λx y=>(at2 M t t*x-r*y)/d) row SD)[j]?=_
  simp_all
def Od(t)(d)(M):(nxt t d M).length=M.length:=by unfold nxt;grind
def ÁV(hw:∀row∈M,row.length=w)(ht:t<M.length):∀row∈nxt t d M,row.length=w:=by
 intro row hr;let⟨i,hi,e⟩:=List.mem_mapIdx.mp hr;have h1:=hw _ (cZ hi);have e2:=ay ht;rw[<-e];split
 .exact h1
 .rw[e2];unfold clr
  grind
theorem MW(hn:rows.length=n)(hw:∀row∈rows,row.length=w)(Xh:n<=w)(Zj:El.Zm n 0 λi j=>((at2 rows i j:Int):Rat)):∀t,t<=n->(è rows t).2.length=n/\(∀row∈(è rows t).2,row.length=w)/\(((è rows t).1:Int):Rat)=(El.bm (λi j=>((at2 rows i j:Int):Rat)) t).1/\∀i j,i<n->j<w->((at2 (è rows t).2 i j:Int):Rat)=(El.bm (λi j=>((at2 rows i j:Int):Rat)) t).2 i j
 |0,_=>⟨hn,hw,rfl,λ_ _ _ _=>rfl⟩
 |t+1,ht=>by
  let⟨h1,h2,h3,h4⟩:=MW hn hw Xh Zj t `l;let⟨⟨X,C⟩,dp,_⟩:=El.run Zj t `l;let⟨⟨X',C'⟩,_,_⟩:=El.run Zj (t+1) ht;refine⟨(Od _ _ _).trans h1,ÁV h2 `l,h4 t t `l `l,λi j hi hj=>?_⟩;show((at2 (nxt t (è rows t).1 (è rows t).2) i j:Int):Rat)=El.nextM t _ _ i j;rw[Ph h1 h2 `l `l hi hj];let⟨z,hz⟩:=(C'.whole λi j=>⟨_,rfl⟩).2 i j;have hz:El.nextM t _ _ i j=z:=hz;unfold El.nextM at hz ⊢;by_cases c:i=t
  .simp_all
  .rw[Zd c] at hz ⊢;rw[Zd c,hz];rw[<-h4 t t `l `l,<-h4 i j hi hj,<-h4 i t hi `l,<-h4 t j `l hj,<-h3] at hz;rw[<-h3] at dp;have d0:(((è rows t).1:Int):Rat)≠0:=λq=>by rw[q] at dp;grind
   generalize (è rows t).1=d at *;generalize at2 (è rows t).2 t t=p at *;generalize at2 (è rows t).2 i j=x at *;generalize at2 (è rows t).2 i t=r at *;generalize at2 (è rows t).2 t j=y at *;have e:((p*x-r*y:Int):Rat)=((d*z:Int):Rat):=by
    grind
   have e:=Rat.intCast_inj.mp e;have dz:d≠0:=λq=>d0 (by rw[q];rfl)
   simp_all
theorem vm(hl)(g):∀(ns:List Str),(∀n∈ns,e (Za (.str n)::Za (ß (nI hl n).2)::cap) s=.ok (g n) s)->nW og e cap (ns.map λn=>uE (nI hl n)) s=.ok (ns.map g) s
 |[],_=>rfl
 |n::ns,h=>by
  have ih:=vm hl g ns λm hm=>h m (af _ hm);have h0:=h n al;rw[am];have ep:uE (nI hl n)=.tup [.str n,ß (nI hl n).2]:=by unfold uE;rw[GX]
  rw[ep];show(match og (Za (.str n)::Za (ß (nI hl n).2)::cap) s with
   |.ok true s1=>match e (Za (.str n)::Za (ß (nI hl n).2)::cap) s1 with
    |.ok v s2=>match nW og e cap (ns.map λn=>uE (nI hl n)) s2 with
     |.ok vs s3=>Out.ok (v::vs) s3
     |_=>.bad
    |_=>.bad
   |.ok false s1=>nW og e cap (ns.map λn=>uE (nI hl n)) s1
   |_=>.bad)=_
  simp only[og,h0,ih];rfl
theorem ul:∀U:List Str,toVs (U.map PV.str)=Za (U.map V.str)
 |[]=>rfl
 |x::r=>by rw[am];unfold toVs;rw[ul r];rfl
def yA(n:Str)(U:List Str):inV (.str n) (U.map V.str)=decide (n∈U):=by
 unfold inV;rw[ig,cj,gZ,decide_eq_true_iff];constructor
 .rintro⟨x,hx,e⟩
  have e:(x==n)=true:=e
  grind
 .exact λh=>⟨n,h,beq_self_eq_true n⟩
def Á9(n:Str)(V:List Str)(s:N'):fIn (.str n) (LS V) s=.ok (.bl (decide (n∈V))) s:=by simp[fIn,rc,Ú,toV,ZH,ul,F5,yA]
theorem IC(g):∀ns:List Str,AL (ns.map λn=>PV.bl (g n))=Za (ns.map g)
 |[]=>rfl
 |n::ns=>by rw[am];unfold AL;rw[IC g ns];rfl
def È(L:List Ent)(G:List Str)(h:Str):Bool:=(own L h).all λn=>decide (n∈G)
def FJ(a)(H:Ho L N)(hb:T.get nb=Za (.book pp L))(hh:nK L h=true)(hv:∀n,fIn (.str n) v T=.ok (.bl (decide (n∈G))) T):nL a [.ref nb,.str h,v] T=.ok (.bl (È L G h)) T:=by
 obtain⟨e,fe,oe⟩:∃e,oA L h=Za e/\own L h=ZR (e.held.map (·.1)):=by have:=hh;let⟨e,he⟩:=eQ.mp this;exact⟨e,he,by unfold own;rw[he]⟩
 have hl:=(H.ow h e fe).1;have sh:pA a [.ref nb,.str h] T=.ok (rG e.held) T:=by
  simp[pA,oF,hb];rw[Zc (H.sm h (H.hn h hh)).nm,fe]
  simp_all
 apply m8;have c:=vm (cap:=[Za (v)]) (e:=x2 (j' 0) (j' 2) fIn) e.held (λn=>.bl (decide (n∈G))) (ZR (e.held.map (·.1))) λn _=>(mT `m `m).trans (hv n);have it:ZL (ł 2 (pA a) (j' 0) (F' (j' 1) J')) [Za (.ref nb),Za (.str h),Za (v)] T=.ok ((ZR (e.held.map (·.1))).map λn=>uE (nI e.held n)) T:=oy ((uK `m hb (mE `m rfl) rfl).trans sh);have cc:p8 (ZL (ł 2 (pA a) (j' 0) (F' (j' 1) J'))) [2] og (x2 (j' 0) (j' 2) fIn) [Za (.ref nb),Za (.str h),Za (v)] T=.ok (.lst ((ZR (e.held.map (·.1))).map λn=>PV.bl (decide (n∈G)))) T:=by unfold p8;rw[it];show(if((ZR (e.held.map (·.1))).map λn=>uE (nI e.held n)).length<=100000 then _ else _)=_;rw[Zc (by rw[ac,(mW _).length_eq,ac];lia)];show(nW og _ [Za (v)] _ T).bind _=_;rw[c];rfl
 refine oh ((AM (mE cc rfl)).trans ?_);show(match AL ((ZR (e.held.map (·.1))).map λn=>PV.bl (decide (n∈G))) with
  |some bs=>Out.ok (PV.bl (bs.all id)) T
  |none=>.bad)=_
 rw[IC (λn=>decide (n∈G))];unfold È
 simp_all
def Oy(a)(H:Ho L N)(hb:T.get nb=Za (.book pp L))(hh:nK L h=true):nL a [.ref nb,.str h,LS G] T=.ok (.bl (È L G h)) T:=FJ a H hb hh λn=>Á9 n G T
end My
namespace El
def ab(x:Rat):Rat:=if x<0 then -x else x
def č(x):0<=ab x:=by unfold ab;split<;>grind
def RL(x y):ab (x+y)<=ab x+ab y:=by unfold ab;split<;>split<;>split<;>grind
def ϰ(x y):ab (x*y)=ab x*ab y:=by
 unfold ab;by_cases hx:x<0<;>by_cases hy:y<0
 .have:=iO (a:=-x) (b:=-y) `g `g;rw[Zd `g,Zc hx,Zc hy];grind
 .have:=bH (a:=-x) (b:=y) `g `g;rw[Zc hx,Zd hy]
  grind
 .have:=bH (a:=x) (b:=-y) `g `g;rw[Zd hx,Zc hy]
  grind
 .have:=bH (a:=x) (b:=y) `g `g
  grind
def ÂA(j):ab (sg j)=1:=by unfold sg;split<;>decide
def pr(f:Nat->Rat):Nat->Rat
 |0=>1
 |n+1=>pr f n*f n
theorem M5:∀{n:Nat},(∀k,k<n->0<=f k)->0<=pr f n
 |0,_=>by show(0:Rat)<=1;decide
 |n+1,h=>bH (M5 λk hk=>h k `l) (h n `l)
theorem Ğ:∀{n:Nat},(∀k,k<n->f k=g k)->pr f n=pr g n
 |0,_=>rfl
 |n+1,h=>by unfold pr;rw[Ğ λk hk=>h k `l,h n `l]
def Na{a b c d:Rat}(ha:0<=a)(hd:0<=d)(h1:a<=b)(h2:c<=d):a*c<=b*d:=by
 have e1:=bH (b:=d-c) ha `g;have e2:=bH (a:=b-a) `g hd
 grind
theorem ĝ{f g:Nat->Rat}:∀{n:Nat},(∀k,k<n->0<=f k/\f k<=g k)->pr f n<=pr g n
 |0,_=>by show(1:Rat)<=1;grind
 |n+1,h=>by have ih:=ĝ (n:=n) λk hk=>h k `l;have hn:=h n `l;have p0:0<=pr f n:=M5 λk hk=>(h k `l).1;exact Na p0 `g ih hn.2
theorem Ų:∀{n:Nat},(∀k,k<n->f k<=g k)->sm f n<=sm g n
 |0,_=>by show(0:Rat)<=0;grind
 |n+1,h=>by
  have ih:=Ų (n:=n) λk hk=>h k `l;have:=h n `l;unfold sm
  grind
theorem Qc(f):∀n:Nat,ab (sm f n)<=sm (λk=>ab (f k)) n
 |0=>by show ab 0<=0;decide
 |n+1=>by
  have ih:=Qc f n;have:=RL (sm f n) (f n);show ab (sm f n+f n)<=sm (λk=>ab (f k)) n+ab (f n)
  grind
theorem Fm{a b:Nat->Rat}(ha:∀k,0<=a k)(hb:∀k,0<=b k):∀n:Nat,sm (λj=>a j*pr (λk=>b (skip j k)) n) (n+1)<=pr (λk=>a k+b k) (n+1)
 |0=>by
  show(0:Rat)+a 0*1<=1*(a 0+b 0);have:=hb 0
  grind
 |n+1=>by
  have ih:=Fm ha hb n;show sm (λj=>a j*pr (λk=>b (skip j k)) (n+1)) (n+1)+a (n+1)*pr (λk=>b (skip (n+1) k)) (n+1)<=pr (λk=>a k+b k) (n+1)*(a (n+1)+b (n+1));have e1:sm (λj=>a j*pr (λk=>b (skip j k)) (n+1)) (n+1)=b (n+1)*sm (λj=>a j*pr (λk=>b (skip j k)) n) (n+1):=by
   rw[<-ā];refine Zr λj hj=>?_;show a j*(pr (λk=>b (skip j k)) n*b (skip j n))=_;rw[show skip j n=n+1 by unfold skip;grind]
   grind
  have e2:pr (λk=>b (skip (n+1) k)) (n+1)=pr b (n+1):=Ğ λk hk=>by rw[show skip (n+1) k=k by unfold skip;split<;>lia]
  have e3:pr b (n+1)<=pr (λk=>a k+b k) (n+1):=ĝ λk _=>⟨hb k,by grind⟩;rw[e1,e2];have f1:=bH (a:=b (n+1)) (b:=pr (λk=>a k+b k) (n+1)-sm (λj=>a j*pr (λk=>b (skip j k)) n) (n+1)) (hb _) `g;have f2:=bH (a:=a (n+1)) (b:=pr (λk=>a k+b k) (n+1)-pr b (n+1)) (ha _) `g
  grind
theorem Àb:∀(n:Nat)(M:Nat->Nat->Rat),ab (dt n M)<=pr (λj=>sm (λi=>ab (M i j)) n) n
 |0,M=>by show ab 1<=1;decide
 |n+1,M=>by
  have h1:ab (dt (n+1) M)<=sm (λj=>ab (M 0 j)*pr (λk=>sm (λi=>ab (M (i+1) (skip j k))) n) n) (n+1):=by
   have:=Qc (λj=>sg j*M 0 j*dt n (λi k=>M (i+1) (skip j k))) (n+1);refine cK this (Ų λj _=>?_);rw[ϰ,ϰ,ÂA];have ih:=Àb n λi k=>M (i+1) (skip j k);have f:=bH (a:=ab (M 0 j)) (b:=pr (λk=>sm (λi=>ab (M (i+1) (skip j k))) n) n-ab (dt n λi k=>M (i+1) (skip j k))) (č _) `g
   grind
  have sn:∀f n,(∀k,0<=f k)->0<=sm f n:=λf n h=>by
   induction n with
   |zero=>show(0:Rat)<=0;grind
   |succ n ih=>show 0<=sm f n+f n;grind
  have h2:=Fm (a:=λj=>ab (M 0 j)) (b:=λj=>sm (λi=>ab (M (i+1) j)) n) (λ_=>č _) (λj=>sn _ _ λ_=>č _) n;have sh:∀f n,sm f (n+1)=f 0+sm (λi=>f (i+1)) n:=λf n=>by
   induction n with
   |zero=>show 0+f 0=f 0+0;grind
   |succ n ih=>show sm f (n+1)+f (n+1)=f 0+(sm (λi=>f (i+1)) n+f (n+1));rw[ih];grind
  grind
def Cl.low(C:Cl A t d M X)(hi:t<=i):M i j=El.dt (t+1) λr c=>A (if r=t then i else r) (if c=t then j else c):=by
 have lt:∀r,r<t->(if r=t then i else r)=r:=λr h=>Zd `l;have lj:∀c,c<t->(if c=t then j else c)=c:=λc h=>Zd `l;rw[<-Is λl=>X l j];have es:∀r,sm (λl=>X l j*A (if r=t then i else r) (if l=t then j else l)) t=sm (λl=>X l j*A (if r=t then i else r) l) t:=λr=>Zr λl hl=>by rw[lj l hl]
 rw[Ek]
 .have e1:El.dt t (upd (λr c=>A (if r=t then i else r) (if c=t then j else c)) t λr=>A (if r=t then i else r) (if t=t then j else t)-sm (λl=>X l j*A (if r=t then i else r) (if l=t then j else l)) t)=El.dt t A:=xF λr hr c hc=>by
   unfold upd;rw[Zd `l]
   grind
  rw[e1,<-C.dt];unfold upd;rw[Zc rfl];show _=(A (if t=t then i else t) (if t=t then j else t)-sm (λl=>X l j*A (if t=t then i else t) (if l=t then j else l)) t)*d;rw[es,Zc rfl,Zc rfl,C.lo i hi j]
  grind
 .intro r hr;unfold upd;rw[Zc rfl];show A (if r=t then i else r) (if t=t then j else t)-sm (λl=>X l j*A (if r=t then i else r) (if l=t then j else l)) t=0;rw[es,lt r hr,Zc rfl,C.so r hr j]
  grind
def Cl.upp(C:Cl A t d M X)(hi:i<t):M i j=El.dt t (upd A i λk=>A k j):=by
 have e:=ż hi (λl=>X l j) (λk=>A k j) λk hk=>(C.so k hk j).symm;rw[e,<-C.dt,C.up i hi j]
 grind
theorem ϗ(h:∀k,0<=f k):∀n,0<=sm f n
 |0=>by show(0:Rat)<=0;grind
 |n+1=>by have:=ϗ h n;show 0<=sm f n+f n;grind
theorem JZ(h:∀k,0<=f k):∀{n:Nat},t<=n->sm f t<=sm f n
 |0,ht=>by
  have:t=0:=by lia
  grind
 |n+1,ht=>by
  by_cases c:t=n+1
  .grind
  .have:=JZ h (t:=t) (n:=n) `l;show sm f t<=sm f n+f n
   grind
theorem yK(h:∀k,0<=f k)(hi:t<=i):∀{n:Nat},i<n->sm f t+f i<=sm f n
 |0,hn=>absurd hn `l
 |n+1,hn=>by
  show sm f t+f i<=sm f n+f n;by_cases c:i=n
  .subst c;have:=JZ h hi
   grind
  .have:=yK h hi (n:=n) `l
   grind
theorem HV(h:∀c,1<=B c):∀t,1<=pr B t
 |0=>by show(1:Rat)<=1;grind
 |t+1=>by
  have h1:=HV h t;have h2:=h t;have:=Na (Zf rfl) `g h1 h2;show 1<=pr B t*B t
  grind
theorem HU(h:∀c,1<=B c)(i j):∀t,pr (λc=>if c=i then B j else B c) t<=pr B t*B j
 |0=>by have:=h j;show(1:Rat)<=1*B j;grind
 |t+1=>by
  show pr (λc=>if c=i then B j else B c) t*(if t=i then B j else B t)<=pr B t*B t*B j;by_cases c:t=i
  .have e:pr (λc=>if c=i then B j else B c) t=pr B t:=Ğ λk hk=>Zd `l;have h1:=HV h t;have h3:=h j;have h4:0<=pr B t*B j:=bH `g `g;have:=bH (b:=B t-1) h4 `g
   grind
  .rw[Zd c];have:=HU h i j t;have h2:=h t;have:=bH (a:=B t) (b:=pr B t*B j-pr (λc=>if c=i then B j else B c) t) `g `g
   grind
def Cl.le(C:Cl A t d M X)(ht:t<=n)(h1:∀c,1<=B c)(hB:∀c,sm (λr=>ab (A r c)) n<=B c)(hi:i<n)(j):ab (M i j)<=pr B t*B j:=by
 by_cases c:i<t
 .rw[C.upp c];refine cK (Àb _ _) (cK (ĝ λk _=>⟨ϗ (λ_=>č _) _,?_⟩) (HU h1 i j t));show sm (λr=>ab (if k=i then A r j else A r k)) t<=if k=i then B j else B k
  split
  .exact cK (JZ (λ_=>č _) ht) (hB j)
  .exact cK (JZ (λ_=>č _) ht) (hB k)
 .rw[C.low `l];apply cK (Àb _ _);have col:∀k,sm (λr=>ab (A (if r=t then i else r) k)) (t+1)<=B k:=λk=>by show sm (λr=>ab (A (if r=t then i else r) k)) t+ab (A (if t=t then i else t) k)<=B k;rw[Zr λr hr=>by rw[Zd `l],Zc rfl];exact cK (yK (λ_=>č _) `l hi) (hB k)
  refine Na (M5 λk _=>ϗ (λ_=>č _) _) `g (ĝ λk hk=>⟨ϗ (λ_=>č _) _,?_⟩) ?_
  .rw[Zd (show ¬k=t by lia)];exact col k
  .simp_all
end El
namespace My
open PySem L2 Fra
def CL(h:l.Perm m):nG l=nG m:=by
 induction h with
 |nil=>rfl
 |cons x _ ih=>show x+_=x+_;rw[ih]
 |swap x y l=>show y+(x+nG l)=x+(y+nG l);grind
 |trans _ _ a b=>exact a.trans b
def om(x)(l):nG (x::l)=x+nG l:=rfl
theorem rT:∀{l:List α},(∀x∈l,p x=false->f x=0)->nG ((l.filter p).map f)=nG (l.map f)
 |[],_=>rfl
 |x::l,h=>by
  have ih:=rT λy hy=>h y (af _ hy);rw[am,om,<-ih];cases c:p x with
  |true=>rw[List.filter_cons_of_pos c,am,om]
  |false =>
   rw[List.filter_cons_of_neg `g,h x al c,kY]
def n9{α:Type}{f g:α->Rat}{l:List α}(h:∀x∈l,f x=g x):nG (l.map f)=nG (l.map g):=by rw[aX h]
def xr{U W:List Str}{g:Str->Rat}(hU:U.Nodup)(hW:W.Nodup)(h:∀x∈U,x∉W->g x=0):nG (U.map g)=nG (W.map λx=>if x∈U then g x else 0):=by
 have e1:=rT λx hx c=>h x hx (of_decide_eq_false c);have e2:nG ((W.filter λx=>decide (x∈U)).map λx=>if x∈U then g x else 0)=nG (W.map λx=>if x∈U then g x else 0):=rT λx hx c=>Zd (of_decide_eq_false c);rw[<-e1,<-e2];have e3:nG ((W.filter λx=>decide (x∈U)).map λx=>if x∈U then g x else 0)=nG ((W.filter λx=>decide (x∈U)).map g):=n9 λx hx=>Zc (Zf (aU.mp hx).2);rw[e3];refine CL (mB _ ((jZ (hU.filter _) (hW.filter _)).mpr λx=>?_))
 grind
theorem zR:∀{l:List α},(∀x∈l,f x<=g x)->nG (l.map f)<=nG (l.map g)
 |[],_=>lI
 |x::l,h=>by
  have:=zR λy hy=>h y (af _ hy);rw[am,am,om,om]
  grind
theorem HL:∀{l:List α},(∀x∈l,f x<=g x)->(∃x∈l,f x<g x)->nG (l.map f)<nG (l.map g)
 |[],_,⟨_,z,_⟩=>nomatch z
 |x::l,h,⟨y,hy,k⟩=>by
  have a1:=zR λy hy=>h y (af _ hy);rw[am,am,om,om];obtain e|hy:=ap.mp hy
  .subst e;grind
  .have a3:=HL (λy hy=>h y (af _ hy)) ⟨y,hy,k⟩
   grind
theorem rP(c)(f:α->Rat):∀l:List α,nG (l.map λx=>c*f x)=c*nG (l.map f)
 |[]=>(Rat.mul_zero c).symm
 |x::l=>by rw[am,am,om,om,rP c f l];grind
theorem xt(f g:α->Rat):∀l:List α,nG (l.map λx=>f x+g x)=nG (l.map f)+nG (l.map g)
 |[]=>(ii 0).symm
 |x::l=>by rw[am,am,am,om,om,om,xt f g l];grind
def CK{α:Type}{f:α->Rat}{l:List α}(h:∀x∈l,f x=0):nG (l.map f)=0:=by
 induction l with
 |nil=>rfl
 |cons x l ih =>
  rw[am,om,h x al,ih λy hy=>h y (af _ hy)];exact ii 0
def NB(f:α->Rat)(l:List α):El.sm (λi=>((l[i]?).map f).getD 0) l.length=nG (l.map f):=by
 have:∀k,k<=l.length->El.sm (λi=>((l[i]?).map f).getD 0) k=nG ((l.take k).map f):=λk=>by
  induction k with
  |zero=>intro _;rfl
  |succ k ih =>
   intro hk;show El.sm _ k+_=_;rw[ih `l,ei,aD,AU];have e:l[k]?=Za l[k]:=ay `l;show _+((l[k]?).map f).getD 0=_;rw[e];show _+f l[k]=_+(f l[k]+0);rw[ii]
 grind
theorem CM{α β:Type}(f:α->β->Rat)(l:List α):∀m:List β,nG (l.map λx=>nG (m.map λy=>f x y))=nG (m.map λy=>nG (l.map λx=>f x y))
 |[]=>CK λ_ _=>rfl
 |y::m=>by show nG (l.map λx=>f x y+nG (m.map λy=>f x y))=nG (l.map λx=>f x y)+nG (m.map λy=>nG (l.map λx=>f x y));rw[xt,CM f l m]
inductive Cts:Nat->List Ent->Prop
 |nil {c:Nat}:Cts c []
 |cons {c1 c2 c:Nat}{e:Ent}{L:List Ent}:(∃hz,HR c1 e.held hz)->Cts c2 L->c1+c2<=c->Cts c (e::L)
theorem Ę.cts:∀{c:Nat}{L:List Ent}{M:List Md},Ę N c L M->Cts c L
 |_,_,_,.nil=>.nil
 |_,_,_,.cons h r q=>.cons h.hm.r r.cts q
theorem Ę.tb:∀{c:Nat}{L:List Ent}{M:List Md},Ę N c L M->∀e∈L,Bt 100 e.th
 |_,_,_,.nil,_,z=>nomatch z
 |_,_,_,.cons h r q,e,z=>(ap.mp z).elim (λz=>z▸h.tb.1) (r.tb e)
theorem Cts.mem:∀{c:Nat}{L:List Ent},Cts c L->∀e∈L,∃k hz,HR k e.held hz/\k<=c
 |_,_,.nil,_,z=>nomatch z
 |_,_,.cons (c1:=c1) ⟨hz,h⟩ r q,e,z=>by
  obtain z|z:=ap.mp z
  .subst z;exact⟨c1,hz,h,by lia⟩
  .let⟨k,hz,h,b⟩:=r.mem e z;exact⟨k,hz,h,by lia⟩
structure Gd(L:List Ent)(N:List Str)(c:Nat):Prop where
 ho:Ho L N
 nd:(L.map (·.nm)).Nodup
 ct:Cts c L
 tb:∀e∈L,Bt 200 e.th
 l8:L.length<=8
 c40:c<=41
def xE(h:oA L n=Za e):e∈L/\e.nm=n:=by
 unfold oA at h
 grind
def shr(L:List Ent)(h x:Str):Rat:=match oA L h with
 |some e=>rv (mU e.held x)
 |none=>0
def Pw(h1:0<=q.1)(h2:0<q.2):0<=rv q:=by
 unfold rv
 simp_all
def Qy(h1:0<q.1)(h2:0<q.2):0<rv q:=by
 have:=Pw (bx h1) h2;have z:rv q≠0:=λz=>by
  have k:=Mh q;have n:0<=rv (-q.1,q.2):=by rw[k];grind
  unfold rv at n;rw[Rat.divInt_nonneg_iff_of_pos_right h2] at n
  grind
 grind
def Gd.hr(g:Gd L N c)(f:oA L h=Za e):∃k hz,HR k e.held hz/\k<=c:=g.ct.mem e (xE f).1
def Gd.ent(g:Gd L N c)(hh:nK L h=true):∃e,oA L h=Za e/\own L h=ZR (e.held.map (·.1))/\∀x,shr L h x=rv (mU e.held x):=by have:=hh;let⟨e,he⟩:=eQ.mp this;exact⟨e,he,by unfold own;rw[he],λx=>by unfold shr;rw[he]⟩
theorem Gd.nn(g:Gd L N c)(h x):0<=shr L h x:=by
 by_cases hh:nK L h=true
 .let⟨e,f,_,s⟩:=g.ent hh;let⟨k,hz,R,_⟩:=g.hr f;rw[s];exact Pw (R.fr x).nn (R.fr x).low.1
 .have:oA L h=none:=by
   unfold nK at hh
   simp_all
  unfold shr
  simp_all
def Gd.pos(g:Gd L N c)(hx:x∈own L h):0<shr L h x:=by
 by_cases hh:nK L h=true
 .let⟨e,f,o,s⟩:=g.ent hh;let⟨k,hz,R,_⟩:=g.hr f;rw[o,(mW _).mem_iff] at hx;rw[s];exact Qy ((R.nm x).mp hx) (R.fr x).low.1
 .rw[Ms `g] at hx;cases hx
def Gd.zero(g:Gd L N c)(hx:x∉own L h):shr L h x=0:=by
 by_cases hh:nK L h=true
 .let⟨e,f,o,s⟩:=g.ent hh;rw[o,(mW _).mem_iff] at hx;rw[s,wj hx];exact iu 1
 .unfold shr;have:oA L h=none:=by
   unfold nK at hh
   simp_all
  rw[this]
def Gd.ond(g:Gd L N c)(h):(own L h).Nodup:=by
 by_cases hh:nK L h=true
 .let⟨e,f,o,s⟩:=g.ent hh;let⟨k,hz,R,_⟩:=g.hr f;rw[o];exact(mW _).nodup_iff.mpr R.n1
 .rw[Ms `g];exact .nil
theorem Gd.one(g:Gd L N c)(hh:nK L h=true):nG ((own L h).map (shr L h))=1:=by
 let⟨e,f,o,s⟩:=g.ent hh;let⟨k,hz,R,_⟩:=g.hr f;have e1:=R.one;unfold J9 at e1;have e2:nG ((hz.map (·.1)).map λn=>rv (mU hz n))=nG ((hz.map (·.1)).map (shr L h)):=n9 λx _=>by rw[s,R.q]
 rw[e2,xr R.n2 (g.ond h) (λx _ z=>g.zero z)] at e1;rw[<-e1];refine n9 λx hx=>?_;rw[Zc];apply R.had;rw[<-R.q,<-R.nm];rw[o,(mW _).mem_iff] at hx;exact hx
def ώ(L:List Ent):Prop:=∀G:List Str,G≠[]->(∀h∈G,nK L h=true)->∃h∈G,∃x∈own L h,x∉G
def Ä(U:List Str)(i:Nat):Str:=(U[i]?).getD ci
def oY(h:i<U.length):U[i]?=Za (Ä U i)/\Ä U i∈U:=by
 unfold Ä
 simp_all
def z8(nd:U.Nodup)(hi:i<U.length)(hj:j<U.length)(h:Ä U i=Ä U j):i=j:=by have e1:=(oY hi).1;have e2:=(oY hj).1;rw[<-h] at e2;exact(List.getElem?_inj hi nd).mp (e1.trans e2.symm)
def mA(L:List Ent)(U:List Str)(i j:Nat):Rat:=(if i=j then 1 else 0)-shr L (Ä U j) (Ä U i)
def Ez(f:Str->Rat):El.sm (λi=>f (Ä U i)) U.length=nG (U.map f):=by rw[<-NB];refine El.Zr λi hi=>?_;rw[(oY hi).1];rfl
abbrev gl(U:List Str)(G:Nat->Bool):List Str:=((bo U.length).filter G).map (Ä U)
theorem Gd.gs(g:Gd L N c)(nd:U.Nodup)(hj:j<U.length)(Gj:G j=true):El.gs U.length G (mA L U) j=1-nG (U.map λx=>if x∈gl U G then shr L (Ä U j) x else 0):=by
 unfold El.gs;have mem:∀i,i<U.length->(Ä U i∈gl U G↔G i=true):=λi hi=>by
  constructor
  .intro z;let⟨k,hk,e⟩:=ar.mp z;let⟨k1,k2⟩:=aU.mp hk;rw[<-z8 nd (dg.mp k1) hi e];exact k2
  .grind
 have e:El.sm (λi=>if G i=true then mA L U i j else 0) U.length=El.sm (λi=>1*(if i=j then 1 else 0)+(-1)*(if Ä U i∈gl U G then shr L (Ä U j) (Ä U i) else 0)) U.length:=by
  refine El.Zr λi hi=>?_;have m:=mem i hi;by_cases q:G i=true
  .rw[Zc q,Zc (m.mpr q)];unfold mA
   grind
  .rw[Zd q,Zd (λz=>q (m.mp z)),Zd (λz=>q (by rw[z];exact Gj))]
   grind
 rw[e,El.ð,El.ã hj (λk _ hk=>Zd hk),Zc rfl,Ez (λx=>if x∈gl U G then shr L (Ä U j) x else 0)]
 grind
def Gd.zm(g:Gd L N c)(ng:ώ L)(nd:U.Nodup)(hU:∀x∈U,nK L x=true):El.Zm U.length 0 (mA L U):=by
 have key:∀G j,j<U.length->G j=true->(0<=El.gs U.length G (mA L U) j/\((∃x∈own L (Ä U j),x∉gl U G)->0<El.gs U.length G (mA L U) j)):=λG j hj Gj=>by
  rw[g.gs nd hj Gj];generalize gl U G=V;have hh:=hU _ (oY hj).2;have o:=g.one hh;generalize Ä U j=h at *;have sw:=xr (g:=λx=>if x∈V then shr L h x else 0) nd (g.ond h) (λx _ z=>by rw[g.zero z];split<;>rfl);rw[sw];have le:∀x∈own L h,(if x∈U then(if x∈V then shr L h x else 0) else 0)<=shr L h x:=λx _=>by
   have:=g.nn h x
   grind
  refine⟨?_,λ⟨x,hx,hV⟩=>?_⟩
  .have:=zR le
   grind
  .have:=HL le ⟨x,hx,by rw[Zd hV];have:=g.pos hx;split<;>exact this⟩
   grind
 refine⟨λi j _ hi _ hj Su=>?_,λG _ j hj Gj=>(key G j hj Gj).1,λG hG hx=>?_⟩
 .unfold mA;rw[Zd Su];have:=g.nn (Ä U j) (Ä U i)
  grind
 .let⟨j0,hj0⟩:=hx;have hm:∀x∈gl U G,∃j,j<U.length/\G j=true/\Ä U j=x:=λx hx=>by
   grind
  let⟨h,hh,x,hx,hxV⟩:=ng (gl U G) (mv (ar.mpr ⟨j0,aU.mpr ⟨dg.mpr (hG j0 hj0).2,hj0⟩,rfl⟩)) (λh hh=>by let⟨j,hj,_,e⟩:=hm h hh;rw[<-e];exact hU _ (oY hj).2)
  let⟨j,hj,Gj,e⟩:=hm h hh;exact⟨j,Gj,(key G j hj Gj).2 ⟨x,by rw[e];exact hx,hxV⟩⟩
def Ru(hp:p<n):El.dt n (El.upd M p λ_=>0)=0:=by
 have:=El.Ĭ (M:=M) 0 0 (λ_=>0) (λ_=>0) hp
 grind
def Gd.uniq(g:Gd L N c)(ng:ώ L){U:List Str}(nd:U.Nodup)(hU:∀x∈U,nK L x=true){v:Str->Rat}(h:∀x∈U,v x=nG (U.map λl=>shr L l x*v l)):∀x∈U,v x=0:=by
 let⟨⟨X,C⟩,dp,_⟩:=El.run (g.zm ng nd hU) U.length (ak _);rw[C.dt] at dp;intro x hx;let⟨p,hp⟩:=bY.mp hx;have Sf:=(aR.mp hp).1;have cr:=El.ż Sf (λl=>v (Ä U l)) (λ_=>0) λi hi=>by
  have hxi:=h (Ä U i) (oY hi).2;have e:El.sm (λl=>v (Ä U l)*mA L U i l) U.length=El.sm (λl=>1*(if l=i then v (Ä U l) else 0)+(-1)*(λy=>shr L y (Ä U i)*v y) (Ä U l)) U.length:=El.Zr λl hl=>by
   unfold mA
   grind
  rw[e,El.ð,El.ã hi (λk _ hk=>Zd hk),Zc rfl,Ez (λy=>shr L y (Ä U i)*v y),<-hxi]
  grind
 rw[Ru Sf] at cr;have e:Ä U p=x:=by unfold Ä;rw[hp];rfl
 grind
theorem yC:∀U V:List Str,fM (U.map jC) (V.map jC)=decide (U=V)
 |[],[]=>by simp[fM]
 |[],y::V=>by simp[fM]
 |x::U,[]=>by simp[fM]
 |x::U,y::V=>by
  rw[am,am];unfold fM cR;rw[yC U V,cj,cJ,decide_eq_true_iff,decide_eq_true_iff];constructor
  .intro⟨h1,h2⟩;rw[eq_of_beq h1,h2]
  .intro h;cases h;exact⟨beq_self_eq_true _,rfl⟩
def J4{U V:List Str}{s:N'}(hU:∀x∈U,ba x=true)(hV:∀x∈V,ba x=true):Ĕ (LS U) (LS V) s=.ok (.bl (decide (U=V))) s:=by have e1:=x8 s 10 hU;have e2:=x8 s 10 hV;show Î false _ _ _=_;unfold Î;rw[e1,e2];show Out.ok (PV.bl (cR (.list _) (.list _))) s=_;unfold cR;rw[yC]
def Ct{U V:List Str}{s:N'}(hU:∀x∈U,ba x=true)(hV:∀x∈V,ba x=true):Ş (LS U) (LS V) s=.ok (.bl (!decide (U=V))) s:=by have e1:=x8 s 10 hU;have e2:=x8 s 10 hV;show Î true _ _ _=_;unfold Î;rw[e1,e2];show Out.ok (PV.bl !(cR (.list _) (.list _))) s=_;unfold cR;rw[yC]
theorem tw{e:XE}{cap:En}{s:N'}(g:Str->PV):∀(X:List Str),(∀x∈X,e (Za (.str x)::cap) s=.ok (g x) s)->oH og e cap (X.map .str) s=.ok (X.map g) s
 |[],_=>rfl
 |x::X,h=>by rw[am,pO];simp only[og,h x al,tw g X λy hy=>h y (af _ hy),am]
def yE{e:XE}{cap:En}{s:N'}(g:Str->Int)(X:List Str)(h:∀x∈X,e (Za (.str x)::cap) s=.ok (.int (g x)) s):oH og e cap (X.map .str) s=.ok ((X.map g).map .int) s:=(tw (λx=>.int (g x)) X h).trans (by rw[aH];rfl)
structure WG(L:List Ent)(G0 G:List Str):Prop where
 sl:G.Sublist G0
 cl:∀h∈G,∀x∈own L h,x∈G
 mx:∀V:List Str,(∀h∈V,h∈G0)->(∀h∈V,∀x∈own L h,x∈V)->∀h∈V,h∈G
def ô:È L G h=true↔∀x∈own L h,x∈G:=by
 unfold È
 grind
def Cz(h:m7 c b n Z s=.rt v s'):tG c b Z s=.rt v s':=(yi h `g).trans rfl
def Áh(a:Y9)(H:Ho L N)(hb:T.get nb=Za (.book pp L)):∀(k:Nat)(G:List Str)(u2:Option PV),G.length<=k->k<=100->(∀h∈G,nK L h=true)->∃G',m7 (ZI (xC (.bl true))) (nF a) (k+1) [Za (.ref nb),Za (LS G),u2] T=.rt (LS G') T/\WG L G G':=by
 intro k;induction k with
 |zero =>
  intro G u2 hk _ hG;have:G=[]:=fm.mp (by omega);subst this;refine⟨[],rfl,⟨eT _,(λ_ z=>nomatch z),λV hV _ h hh=>hV h hh⟩⟩
 |succ k ih =>
  intro G u2 hk hk1 hG;have so:∀x∈G,ba x=true:=λx hx=>wA (H.sm x (H.hn x (hG x hx)));have c1:=qG (s:=T) (cap:=[Za (.ref nb),Za (LS G)]) (c:=ZI (V' 3 (nL a) (F' (j' 1) (F' (j' 0) (F' (j' 2) J'))))) (e:=j' 0) (λq=>match q with|.str x=>È L G x|_=>false) (λq=>q) (G.map .str) (λq hq=>by let⟨x,hx,rfl⟩:=ar.mp hq;exact oa (mS (mE `m (mE `m (mE `m rfl))) rfl (Oy a H hb (hG x hx)))) (λq hq _=>mD rfl)
  have e1:(((G.map PV.str).filter λq=>match q with|.str x=>È L G x|_=>false).map λq=>q)=(G.filter (È L G)).map PV.str:=by rw[List.map_id',dX];rfl
  rw[e1] at c1;have hl:(G.map PV.str).length<=100000:=by rw[ac];omega
  have bd:∀o:SO,Y3 (ÿ (ZI (x2 (j' 2) (j' 1) Ĕ)) (ZE (j' 1)) Z6) (Y8 1 (j' 2)) [Za (.ref nb),Za (LS G),Za (LS (G.filter (È L G)))] T=o->nF a [Za (.ref nb),Za (LS G),u2] T=o:=λo ho=>by unfold nF;exact mP (mY (qk (l:=G.map .str) (s1:=T) (oy `m) hl c1)) ho
  have eq:=J4 (s:=T) (U:=G.filter (È L G)) (V:=G) (λx hx=>so x (aU.mp hx).1) so;by_cases z:G.filter (È L G)=G
  .rw[Zg z] at eq;refine⟨G,?_,⟨eT _,λh hh=>?_,λV hV _ h hh=>hV h hh⟩⟩
   .unfold m7;show(match nF a [Za (.ref nb),Za (LS G),u2] T with
     |.nx Y' s'=>m7 (ZI (xC (.bl true))) (nF a) (k+1) Y' s'
     |.ct Y' s'=>m7 (ZI (xC (.bl true))) (nF a) (k+1) Y' s'
     |.bk Y' s'=>.nx Y' s'
     |o=>o)=_
    rw[bd (.rt (LS G) T) (EA ((xA (s1:=T) (oa ((mT `m `m).trans eq))).trans (oh `m)))]
   .rw[<-z] at hh;exact ô.mp (aU.mp hh).2
  .rw[Zh z] at eq;have lt:(G.filter (È L G)).length<G.length:=by
    have:=cG (È L G) G;by_cases q:(G.filter (È L G)).length=G.length
    .exact absurd (jc eS q) z
    .omega
   let⟨G',e,W⟩:=ih (G.filter (È L G)) (Za (LS (G.filter (È L G)))) (by omega) (by omega) (λh hh=>hG h (aU.mp hh).1);refine⟨G',?_,⟨W.sl.trans eS,W.cl,λV hV cV h hh=>W.mx V (λy hy=>aU.mpr ⟨hV y hy,ô.mpr λx hx=>hV x (cV y hy x hx)⟩) cV h hh⟩⟩;rw[m7];show(match nF a [Za (.ref nb),Za (LS G),u2] T with
    |.nx Y' s'=>m7 (ZI (xC (.bl true))) (nF a) (k+1) Y' s'
    |.ct Y' s'=>m7 (ZI (xC (.bl true))) (nF a) (k+1) Y' s'
    |.bk Y' s'=>.nx Y' s'
    |o=>o)=_
   rw[bd (.nx [Za (.ref nb),Za (LS (G.filter (È L G))),Za (LS (G.filter (È L G)))] T) (mP ((qW (s1:=T) (oa ((mT `m `m).trans eq))).trans rfl) (mY `m))];exact e
abbrev U'(L:List Ent):List Str:=ZR (L.map (·.nm))
def Ze:h∈U' L↔nK L h=true:=by rw[(mW _).mem_iff,qD]
def ot:(U' L).length=L.length:=by rw[(mW _).length_eq,ac]
def Fi(a)(H:Ho L N)(hl:L.length<=64)(hb:T.get nb=Za (.book pp L)):∃G,sJ a [.ref nb] T=.ok (LS G) T/\WG L (U' L) G:=by let⟨G,e,W⟩:=Áh a H hb (U' L).length (U' L) Zb (ak _) (by rw[ot];omega) (λh hh=>Ze.mp hh);refine⟨G,m8 ?_,W⟩;refine mP (mY ((uK (vs:=[]) `m hb rfl rfl).trans ?_)) (Cz e);unfold oI oF;simp[hb]
def WG.noG(W:WG L (U' L) []):ώ L:=by
 refine λG hG hh=>gu λz=>?_;cases G with
 |nil=>exact hG rfl
 |cons g G =>
  have:=W.mx (g::G) (λh Vl=>Ze.mpr (hh h Vl)) (λh h1 x hx=>gu λq=>z ⟨h,h1,x,hx,q⟩) g al;cases this
def WG.nil(W:WG L (U' L) G)(ng:ώ L):G=[]:=by refine gu λz=>?_;let⟨h,h1,x,h2,h3⟩:=ng G z λh hh=>Ze.mp (W.sl.subset hh);exact h3 (W.cl h h1 x h2)
def Oe(a:Y9)(H:Ho L N)(hl:L.length<=64)(ng:ώ L)(hb:T.get nb=Za (.book pp L)):oj a [.ref nb] T=.ok .Zn T:=by let⟨G,e,W⟩:=Fi a H hl hb;have:=W.nil ng;subst this;apply Bf (Z:=[Za (.ref nb),Za (LS [])]);refine mP (mY (mS (mE `m rfl) rfl e)) ((qW (oa ((mT `m (xf rfl)).trans ?_))).trans rfl);exact Ct (V:=[]) (λ_ z=>nomatch z) (λ_ z=>nomatch z)
def Ŷ(ns:List Str)(g:Str->PV):List (Key×PV):=ns.map λn=>(aq n,g n)
def Ie(h:x∈ns):qV (Ŷ ns g) (aq x)=Za (g x):=by
 unfold qV Ŷ;induction ns with
 |nil=>cases h
 |cons n ns ih =>
  grind
def Q9(h:x∉ns):qV (Ŷ ns g) (aq x)=none:=by
 refine yj λz=>h ?_;let⟨kv,hk,e⟩:=ar.mp z;let⟨n,hn,rfl⟩:=ar.mp hk
 grind
theorem Da:∀(ns:List Str)(Sl:List (Key×PV)),ns.Nodup->(∀n∈ns,(aq n:Key)∉Sl.map (·.1))->Av Sl (ns.map λn=>.tup [.str n,g n])=Za (Sl++Ŷ ns g)
 |[],Sl,_,_=>by simp[Av,Ŷ]
 |n::ns,Sl,nd,h=>by
  let⟨n1,n2⟩:=aK.mp nd;have e:z5 Sl (aq n) (g n)=Sl++[(aq n,g n)]:=by
   unfold z5
   grind
  have ih:=Da (g:=g) ns (Sl++[(aq n,g n)]) n2 λm hm z=>by
   grind
  show Av (z5 Sl (aq n) (g n)) (ns.map λn=>.tup [.str n,g n])=_;rw[e,ih,List.append_assoc];rfl
def EM(nd:ns.Nodup):zh [.lst (ns.map λn=>.tup [.str n,g n])] s=.ok (.Zv (Ŷ ns g)) s:=by have:=Da (g:=g) ns [] nd (λ_ _ z=>nomatch z);simp[zh,ZH,this,fb]
def GU(h:x∈ns):Zk (.Zv (Ŷ ns g)) (.str x) s=.ok (g x) s:=by simp[Zk,ZH,Ú,ó,Ie h]
def í(l:Hl):Nat:=((ZR (l.map (·.1))).map λn=>(mU l n).2.toNat).foldl f6 1
def pc(l:Hl)(x:Str):Int:=(mU l x).1*((í l:Int)/(mU l x).2)
theorem FP{D:Nat}:∀(bs:List Nat)(p:Nat),0<p->p∣D->(∀b∈bs,0<b/\b∣D)->0<bs.foldl f6 p/\p∣bs.foldl f6 p/\bs.foldl f6 p∣D/\∀b∈bs,b∣bs.foldl f6 p
 |[],p,h0,hd,_=>⟨h0,Nat.dvd_refl _,hd,λ_ z=>nomatch z⟩
 |b::bs,p,h0,hd,hb=>by
  let⟨b0,bd⟩:=hb b al;let⟨a1,a2,a3,a4⟩:=FP bs (f6 p b) (Nat.lcm_pos h0 b0) (Nat.lcm_dvd hd bd) λx hx=>hb x (af _ hx);refine⟨a1,Nat.dvd_trans (Nat.dvd_lcm_left p b) a2,a3,λx hx=>?_⟩;obtain e|hx:=ap.mp hx
  .subst e;exact Nat.dvd_trans (Nat.dvd_lcm_right p x) a2
  .exact a4 x hx
def La(p b:Nat):(p:Int)*((b:Int)/((aI (p:Int) (b:Int):Nat):Int))=(f6 p b:Nat):=by rw[show aI p b=Nat.gcd p b from rfl,<-Int.natCast_ediv,<-Int.natCast_mul];unfold f6;rw[Nat.mul_div_assoc _ (Nat.gcd_dvd_right p b)]
def HR.den(R:HR k l hz):∃D:Nat,0<D/\Bt (97*k+1) (D:Int)/\∀x,(mU l x).2.toNat∣D:=by
 let⟨D,U,d0,db,on⟩:=R.dv;refine⟨D.toNat,by lia,by rw[eW `l];exact db,λx=>?_⟩;have h:=(on x).dvd;rw[<-R.q] at h;have b0:=(R.fr x).low.1;have:(((mU l x).2.toNat:Nat):Int)∣D.toNat:=by rw[eW `l,eW `l];exact h
 exact fz.mp this
def HR.pieces(R:HR k l hz):0<í l/\Bt (97*k+1) (í l:Int)/\∀x,(mU l x).2∣(í l:Int):=by
 let⟨D,d0,db,dv⟩:=R.den;let⟨a1,a2,a3,a4⟩:=FP ((ZR (l.map (·.1))).map λn=>(mU l n).2.toNat) 1 (Zf rfl) (Nat.one_dvd _) λb hb=>by let⟨n,hn,rfl⟩:=ar.mp hb;exact⟨by have:=(R.fr n).low.1;lia,dv n⟩
 refine⟨a1,db.dvd `l (fz.mpr a3),λx=>?_⟩;by_cases hx:x∈l.map (·.1)
 .have:=a4 (mU l x).2.toNat (ar.mpr ⟨x,(mW _).mem_iff.mpr hx,rfl⟩);have:=fz.mpr this;rw[eW (bx (R.fr x).low.1)] at this;exact this
 .rw[wj hx];grind
def HR.ŵ(R:HR k l hz)(x):((pc l x:Int):Rat)=(í l:Int)*rv (mU l x):=by
 let⟨a1,a2,a3⟩:=R.pieces;let⟨m,hm⟩:=a3 x;unfold pc rv;rw[hm,cL _ `l,cB,fg,fg];have:(((mU l x).2:Int):Rat)≠0:=λz=>by
  simp_all
 grind
def HR.ÁH(R:HR k l hz)(x):0<=pc l x:=by exact iV (R.fr x).nn (Int.ediv_nonneg `l (bx (R.fr x).low.1))
def RH(a)(s)(R:HR k l hz)(hk:k<=41)(hl:l.length<64):J7 a [rG l] s=.ok (.Zv (Ŷ (ZR (l.map (·.1))) λx=>.int (pc l x))) s:=by
 let⟨D,d0,db,dv⟩:=R.den;have sh:∀x,Bt 9000 (mU l x).2/\0<(mU l x).2/\Bt 9000 (mU l x).1:=λx=>⟨(R.fr x).bb.mono `l,(R.fr x).low.1,(R.fr x).top.mono `l⟩;have bD:∀p:Nat,0<p->p∣D->Bt 9000 (p:Int):=λp h0 hp=>(db.dvd `l (fz.mpr hp)).mono `l;have lp:∀(ns:List Str)(p:Nat)(u2 u3:Option PV),0<p->p∣D->∃v2 v3,nR (nj (Ô 2 (Zp (Y4 2) (Zp (Y4 3) Õ))) (x9 a)) (ns.map λn=>uE (nI l n)) [Za (rG l),Za (.int (p:Nat)),u2,u3] s=.nx [Za (rG l),Za (.int (((ns.map λn=>(mU l n).2.toNat).foldl f6 p:Nat):Int)),v2,v3] s:=by
  intro ns;induction ns with
  |nil=>exact λp u2 u3 _ _=>⟨u2,u3,rfl⟩
  |cons n ns ih =>
   intro p u2 u3 p0 pd;let⟨s1,s2,s3⟩:=sh n;have eb:((mU l n).2.toNat:Int)=(mU l n).2:=eW `l;have ld:=Nat.lcm_dvd pd (dv n);have l0:0<f6 p (mU l n).2.toNat:=Nat.lcm_pos p0 `l;let⟨v2,v3,e⟩:=ih (f6 p (mU l n).2.toNat) (Za (.str n)) (Za (ß (mU l n))) l0 ld;refine⟨v2,v3,?_⟩;rw[am,am,List.foldl_cons];unfold nR;have gp:0<aI (p:Int) (mU l n).2:=bw _ `l;have gb:Bt 9000 ((aI (p:Int) (mU l n).2:Nat):Int):=s1.dvd `l (b8 ..);have bd:nj (Ô 2 (Zp (Y4 2) (Zp (Y4 3) Õ))) (x9 a) (uE (nI l n)) [Za (rG l),Za (.int (p:Nat)),u2,u3] s=.nx [Za (rG l),Za (.int ((f6 p (mU l n).2.toNat:Nat):Int)),Za (.str n),Za (ß (mU l n))] s:=by rw[JA];show x9 a [Za (rG l),Za (.int (p:Nat)),Za (.str n),Za (ß (mU l n))] s=_;unfold x9;have st:=La p (mU l n).2.toNat;rw[eb] at st;rw[<-st];refine mY (pP `m (Ci ((mT `m rfl).trans ix1) (mS (mE `m (mE ((mT `m rfl).trans ix1) rfl)) rfl (show oi a [.int (p:Nat),.int (mU l n).2] s=.ok (.int ((aI (p:Int) (mU l n).2:Nat):Int)) s from Zc s2)) ⟨by lia,gb⟩) (sR (bD p p0 pd) s1.div))
   rw[bd];exact e
 let⟨v2,v3,e⟩:=lp (ZR (l.map (·.1))) 1 Zb Zb (Zf rfl) (Nat.one_dvd _);let⟨a1,a2,a3⟩:=R.pieces;apply m8;unfold PZ;apply mP (mY (v:=.int 1) (s':=s) rfl);apply mP (sC (oy `m) e);have c:=vm (s:=s) (cap:=[Za (.int (í l:Nat))]) (e:=Ö (F' (j' 0) (F' (x2 (x2 (j' 1) (xC (.int 0)) Zk) (x2 (j' 2) (x2 (j' 1) (xC (.int 1)) Zk) Ą) Zy) J'))) l (λn=>.tup [.str n,.int (pc l n)]) (ZR (l.map (·.1))) λn _=>by let⟨s1,s2,s3⟩:=sh n;rw[show(nI l n).2=mU l n from rfl];exact qT (mE `m (mE (pP ((mT `m rfl).trans ix0) (Ci `m ((mT `m rfl).trans ix1) ⟨s2,s1⟩) (sR s3 (a2.mono `l).div)) rfl))
 refine oh ((AM (mE (v:=.lst ((ZR (l.map (·.1))).map λn=>.tup [.str n,.int (pc l n)])) (s1:=s) ?_ rfl)).trans (EM ((mW _).nodup_iff.mpr R.n1)));unfold p8;rw[oy (l:=(ZR (l.map (·.1))).map λn=>uE (nI l n)) (s1:=s) `m];show(if((ZR (l.map (·.1))).map λn=>uE (nI l n)).length<=100000 then _ else _)=_;rw[Zc (by rw[ac,(mW _).length_eq,ac];lia)];show(nW og _ [Za (.int (í l:Nat))] _ s).bind _=_;rw[c];rfl
structure Gr(T T':N'):Prop where
 nx:T.nx<=T'.nx
 fr:∀k,k<T.nx->T'.get k=T.get k
def Gr.refl(T):Gr T T:=⟨ak _,λ_ _=>rfl⟩
theorem Gr.trans(h:Gr A B)(k:Gr B C):Gr A C:=⟨aC h.nx k.nx,λj hj=>(k.fr j (aA hj h.nx)).trans (h.fr j hj)⟩
theorem Gr.add(T)(c):Gr T (T.add c):=⟨dD _,λk hk=>by rw[nr,Zd `l]⟩
theorem Dd(f):∀(l:List PV),(∀q∈l,∀s,Gr T s->∃s',e (Za q::cap) s=.ok (f q) s'/\Gr T s')->∀s,Gr T s->∃s',oH og e cap l s=.ok (l.map f) s'/\Gr T s'
 |[],_,s,g=>⟨s,rfl,g⟩
 |q::l,h,s,g=>by let⟨s1,e1,g1⟩:=h q al s g;let⟨s2,e2,g2⟩:=Dd f l (λq hq=>h q (af _ hq)) s1 g1;refine⟨s2,?_,g2⟩;rw[pO];simp[og,e1,e2,am]
def pl(L:List Ent)(h:Str):Hl:=match oA L h with
 |some e=>e.held
 |none=>[]
def cv(L:List Ent)(h:Str):PV:=.Zv (Ŷ (own L h) λx=>.int (pc (pl L h) x))
def av(L:List Ent):PV:=.Zv (Ŷ (U' L) (cv L))
theorem qB(f:α->Int):∀l:List α,(((l.map f).sum:Int):Rat)=nG (l.map λx=>((f x:Int):Rat))
 |[]=>rfl
 |x::l=>by rw[am,fY,iy,qB f l];rfl
def MJ(hx:ba x=true)(hy:ba y=true):Ĕ (.str x) (.str y) s=.ok (.bl (decide (x=y))) s:=by
 have e:∀x,ba x=true->PV.data s 12 (.str x)=Za (.str x):=λx h=>by unfold PV.data;rw[Zc h]
 show Î false _ _ _=_;unfold Î;rw[e x hx,e y hy]
 congr 2
def Ip(h1:f Z s=.ok (.Zv l) s)(h2:g Z s=.ok (.str w) s)(h3:h Z s=.ok z s):Ě f g h Z s=.ok ((qV l (aq w)).getD z) s:=by unfold Ě;rw[h1];simp[Out.bind,Ú];rw[h2];simp[h3,ó]
theorem Gd.held(g:Gd L N c)(hh:nK L h=true):∃e k hz,oA L h=Za e/\pl L h=e.held/\own L h=ZR ((pl L h).map (·.1))/\HR k (My.pl L h) hz/\k<=c/\(∀x,shr L h x=rv (mU (My.pl L h) x))/\e∈L/\e.nm=h:=by
 let⟨e,f,o,s⟩:=g.ent hh;let⟨k,hz,R,kc⟩:=g.hr f;have ep:My.pl L h=e.held:=by unfold My.pl;rw[f]
 exact⟨e,k,hz,f,ep,by rw[ep];exact o,by rw[ep];exact R,kc,λx=>by rw[ep];exact s x,(xE f).1,(xE f).2⟩
def Gd.õ(g:Gd L N c):(U' L).Nodup:=(mW _).nodup_iff.mpr g.nd
def Gd.Zl(g:Gd L N c)(hh:h∈U' L):ba h=true:=wA (g.ho.sm h (g.ho.hn h (Ze.mp hh)))
def MQ(g:Gd L N c)(h x):(qV (Ŷ (own L h) λx=>.int (pc (pl L h) x)) (aq x)).getD (.int 0)=.int (pc (pl L h) x):=by
 by_cases hx:x∈own L h
 .rw[Ie hx];rfl
 .rw[Q9 hx];have:x∉(pl L h).map (·.1):=λz=>hx (by
   unfold own;unfold pl at z;cases e:oA L h with
   |none=>rw[e] at z;cases z
   |some e'=>rw[e] at z;exact(mW _).mem_iff.mpr z)
  unfold pc;rw[wj this]
  grind
def Gd.À4(g:Gd L N c)(hh:nK L h=true):((own L h).map (pc (My.pl L h))).sum=(í (My.pl L h):Int):=by
 let⟨e,k,hz,f,ep,o,R,kc,sv,_⟩:=g.held hh;apply Rat.intCast_inj.mp;rw[qB];have:nG ((own L h).map λx=>((pc (My.pl L h) x:Int):Rat))=nG ((own L h).map λx=>((í (My.pl L h):Int):Rat)*shr L h x):=n9 λx _=>by rw[R.ŵ,sv]
 rw[this,rP,g.one hh,Rat.mul_one]
def Hh(a)(g:Gd L N c)(hb:T.get nb=Za (.book pp L)):yJ a [.ref nb] T=.ok (av L) T:=by
 apply m8;have c1:=tw (cap:=[Za (.ref nb)]) (e:=Ö (F' (j' 0) (F' (V' 1 (J7 a) (F' (ł 2 (pA a) (j' 1) (F' (j' 0) J')) J')) J'))) (λh=>.tup [.str h,cv L h]) (U' L) (λh hh=>by
  have hh:=Ze.mp hh;let⟨e,k,hz,f,ep,o,R,kc,sv,_⟩:=g.held hh;have hl:=(g.ho.ow h e f).1;have sh:pA a [.ref nb,.str h] T=.ok (rG (pl L h)) T:=by
   simp[pA,oF,hb];rw[Zc (g.ho.sm h (g.ho.hn h hh)).nm,f,ep]
   simp_all
  have ct:=RH a T R (by have:=g.c40;lia) (by rw[ep];exact hl);rw[<-o] at ct;exact qT (mE `m (mE (mS (mE ((uK `m hb (mE `m rfl) rfl).trans sh) rfl) rfl ct) rfl)))
 refine oh ((AM (mE (qk (oy ((uK (vs:=[]) `m hb rfl rfl).trans ?_)) (by rw[ac,ot];have:=g.l8;lia) c1) rfl)).trans (EM g.õ));unfold oI oF;simp[hb]
def ŉ(L:List Ent)(h:Str):List Int:=(U' L).map λo=>(if o=h then(í (pl L h):Int) else 0)-pc (pl L o) h
def unr(L:List Ent)(h:Str):List Int:=(U' L).map λo=>if o=h then 1 else 0
def Jc(a)(g:Gd L N c)(hh:h∈U' L)(T):Bn a [.str h,LS (U' L),av L] T=.ok (.ref T.nx) (T.add (.lst ((ŉ L h).map .int))):=by
 apply m8;unfold FO;have l8:(U' L).length<=8:=by rw[ot];exact g.l8
 have c1:=yE (s:=T) (cap:=[Za (.str h),Za (av L)]) (e:=x1 (Ě (x2 (j' 2) (j' 0) Zk) (j' 1) (xC (.int 0))) Ϙ) (λo=>-pc (pl L o) h) (U' L) (λo ho=>by
  have e1:Ě (x2 (j' 2) (j' 0) Zk) (j' 1) (xC (.int 0)) [Za (.str o),Za (.str h),Za (av L)] T=.ok (.int (pc (pl L o) h)) T:=by rw[Ip ((mT `m `m).trans (GU ho)) `m rfl,MQ g]
  unfold x1;rw[e1];rfl)
 have cc:tH (ZL (j' 1)) [0,2] og (x1 (Ě (x2 (j' 2) (j' 0) Zk) (j' 1) (xC (.int 0))) Ϙ) [Za (.str h),Za (LS (U' L)),Za (av L),Zb] T=.ok (.ref T.nx) (T.add (.lst (((U' L).map λo=>-pc (pl L o) h).map PV.int))):=by unfold tH;rw[oy (l:=(U' L).map .str) (s1:=T) `m];show(if((U' L).map PV.str).length<=100000 then _ else _)=_;rw[Zc (by rw[ac];lia)];show(oH og _ [Za (.str h),Za (av L)] _ T).bind _=_;rw[c1];rfl
 apply mP (mY cc);generalize hT:T.add (.lst (((U' L).map λo=>-pc (pl L o) h).map PV.int))=T1;have g1:T1.get T.nx=Za (.lst (((U' L).map λo=>-pc (pl L o) h).map PV.int)):=by rw[<-hT,nr,Zc rfl]
 obtain⟨i,hi⟩:∃i,(U' L).findIdx? (λz=>decide (z=h))=Za i:=by
  cases e:(U' L).findIdx? (λz=>decide (z=h)) with
  |some i=>exact⟨i,rfl⟩
  |none=>exact absurd (Zg rfl) (by rw[List.findIdx?_eq_none_iff] at e;rw[e h hh];decide)
 let⟨il,ie,_⟩:=jb.mp hi;have ie:(U' L)[i]=h:=Zf ie;have ix:Bo (j' 1) (F' (j' 0) J') [Za (.str h),Za (LS (U' L)),Za (av L),Za (.ref T.nx)] T1=.ok (.int (i:Nat)) T1:=by unfold Bo;rw[mD (i:=1) (v:=LS (U' L)) rfl,vJ];have ca:F' (j' 0) J' [Za (.str h),Za (LS (U' L)),Za (av L),Za (.ref T.nx)] T1=.ok [.str h] T1:=mE (mD (i:=0) (v:=.str h) rfl) rfl;simp only[ca,vJ,wy,hi];rw[Zc `l]
 have sv:F6 (x2 (j' 2) (j' 0) Zk) [Za (.str h),Za (LS (U' L)),Za (av L),Za (.ref T.nx)] T1=.ok (.int (í (pl L h):Nat)) T1:=by
  unfold F6;have e2:(Ŷ (own L h) λx=>PV.int (pc (pl L h) x)).map (λkv:Key×PV=>kv.2)=((own L h).map (pc (pl L h))).map PV.int:=by unfold Ŷ;rw[aH,aH];rfl
  rw[(mT (mD (i:=2) (v:=av L) rfl) (mD (i:=0) (v:=.str h) rfl)).trans (GU hh),vJ];show(match uF ((Ŷ (own L h) λx=>PV.int (pc (pl L h) x)).map λkv:Key×PV=>kv.2) with
    |some is=>Out.ok (PV.int is.sum) T1
    |none=>.bad)=_
  rw[e2,wI];simp[g.À4 (Ze.mp hh)]
 refine mP (Y':=[Za (.str h),Za (LS (U' L)),Za (av L),Za (.ref T.nx)]) (s':=T.add (.lst ((ŉ L h).map .int))) ?_ (oh `m);show JT (j' 3) (Bo (j' 1) (F' (j' 0) J')) (F6 (x2 (j' 2) (j' 0) Zk)) [Za (.str h),Za (LS (U' L)),Za (av L),Za (.ref T.nx)] T1=_;unfold JT;rw[mD (i:=3) (v:=.ref T.nx) rfl];simp[Out.so];rw[ix];simp only[Out.so,g1,Int.toNat_natCast];rw[Zc `l];have gi:(((U' L).map λo=>-pc (pl L o) h).map PV.int)[i]?=Za (.int (-pc (pl L h) h)):=by rw[aG,aG,ay il,ie];rfl
 rw[gi];simp only[sv,g1];rw[Zc (by rw[ac,ac];exact il)];have row:(((U' L).map λo=>-pc (pl L o) h).map PV.int).set i (.int (-pc (pl L h) h+(í (pl L h):Nat)))=(ŉ L h).map .int:=by
  refine ji λj=>?_;rw[gM];unfold ŉ;by_cases q:i=j
  .subst q;rw[Zc rfl,Zc (by rw[ac,ac];exact il),aG,aG,ay il,ie];show Za (PV.int (-pc (pl L h) h+(í (pl L h):Nat)))=Za (PV.int ((if h=h then(í (pl L h):Int) else 0)-pc (pl L h) h));rw[Zc rfl]
   congr 2
   lia
  .rw[Zd q,aG,aG,aG,aG];cases e:(U' L)[j]? with
   |none=>rfl
   |some o =>
    have:o≠h:=λz=>q ((List.getElem?_inj il g.õ).mp (by rw[e,z,ay il,ie]));show Za (PV.int (-pc (pl L o) h))=Za (PV.int ((if o=h then(í (pl L h):Int) else 0)-pc (pl L o) h));rw[Zd this]
    congr 2
    lia
 rw[row,<-hT,zY]
def LW(a)(g:Gd L N c)(hh:h∈U' L)(T):rY a [.str h,LS (U' L),av L] T=.ok (LI (ŉ L h++unr L h)) (T.add (.lst ((ŉ L h).map .int))):=by
 have l8:(U' L).length<=8:=by rw[ot];exact g.l8
 apply m8;generalize hT:T.add (.lst ((ŉ L h).map .int))=T1;have g1:T1.get T.nx=Za (.lst ((ŉ L h).map .int)):=by rw[<-hT,nr,Zc rfl]
 have ow:=Jc a g hh T;rw[hT] at ow;have c1:=yE (e:=ś (ZI (x2 (j' 0) (j' 1) Ĕ)) (xC (.int 1)) (xC (.int 0))) (λo=>if o=h then 1 else 0) (U' L) (λo ho=>by
  have e1:ZI (x2 (j' 0) (j' 1) Ĕ) [Za (.str o),Za (.str h)] T1=.ok (decide (o=h)) T1:=oa ((mT `m `m).trans (MJ (g.Zl ho) (g.Zl hh)));unfold ś;rw[e1];by_cases z:o=h
  .rw[Zg z];show Out.ok (PV.int 1) T1=Out.ok (PV.int (if o=h then 1 else 0)) T1;rw[Zc z]
  .rw[Zh z];show Out.ok (PV.int 0) T1=Out.ok (PV.int (if o=h then 1 else 0)) T1;rw[Zd z])
 change oH _ _ _ _ _=.ok ((unr L h).map .int) T1 at c1
 refine oh ((mT (mS (mE `m (mE `m (mE `m rfl))) rfl ow) (qk (oy `m) (by rw[ac];lia) c1)).trans ?_);have lo:(ŉ L h).length<=8:=by unfold ŉ;rw[ac];exact l8
 have lu:(unr L h).length<=8:=by unfold unr;rw[ac];exact l8
 simp[ZS,ZH,g1]
 grind
end My
namespace El
def Zm.scale(h:Zm n 0 S)(q:Nat->Rat)(hq:∀j,j<n->0<q j)(e:∀i j,i<n->j<n->T i j=q j*S i j):Zm n 0 T:=by
 have gse:∀G j,j<n->gs n G T j=q j*gs n G S j:=λG j hj=>by
  unfold gs;rw[<-ā];refine Zr λi hi=>?_;split
  .exact e i j hi hj
  .grind
 refine⟨λi j _ hi _ hj Su=>?_,λG hG j hj Gj=>?_,λG hG hx=>?_⟩
 .rw[e i j hi hj];have:=h.off i j (aV _) hi (aV _) hj Su;have:=bH (b:=-S i j) (kZ (hq j hj)) `g
  grind
 .rw[gse G j hj];exact bH (kZ (hq j hj)) (h.col G hG j hj Gj)
 .let⟨j,Gj,p⟩:=h.grp G hG hx;have hj:=(hG j Gj).2;exact⟨j,Gj,by rw[gse G j hj];exact iO (hq j hj) p⟩
def Àz(z:Int):ab (z:Rat)=((z.natAbs:Nat):Rat):=by
 unfold ab;split
 .rename_i h;have:=fE.mp h;rw[<-Rat.intCast_neg,<-cU]
  congr 1
  lia
 .rename_i h;have:=λq=>h (fE.mpr q);rw[<-cU]
  grind
end El
namespace My
open PySem L2 Fra
def qd:List Nat->Nat
 |[]=>1
 |x::l=>x*qd l
theorem yt:∀l m:List Nat,qd (l++m)=qd l*qd m
 |[],m=>(Nat.one_mul _).symm
 |x::l,m=>by show x*qd (l++m)=x*qd l*qd m;rw[yt l m,Nat.mul_assoc]
def GI(h:l.Perm m):qd l=qd m:=by
 induction h with
 |nil=>rfl
 |cons x _ ih=>show x*_=x*_;rw[ih]
 |swap x y l=>show y*(x*qd l)=x*(y*qd l);grind
 |trans _ _ a b=>exact a.trans b
theorem HW(f:Str->Nat):∀k,k<=U.length->El.pr (λi=>((f (Ä U i):Nat):Rat)) k=((qd ((U.take k).map f):Nat):Rat)
 |0,_=>rfl
 |k+1,hk=>by show El.pr _ k*_=_;rw[HW f k `l,ei,(oY (U:=U) (i:=k) `l).1,aD,yt,jJ];show _*((f (Ä U k):Nat):Rat)=_*(((f (Ä U k))*1:Nat):Rat);rw[Nat.mul_one]
theorem Cts.prod:∀{c:Nat}{L:List Ent},Cts c L->qd (L.map λe=>2*í e.held)<=2^(97*c+2*L.length)
 |_,_,.nil=>Nat.one_le_two_pow
 |_,_,.cons (c1:=c1) (c2:=c2) (c:=c) (e:=e) (L:=L) ⟨hz,R⟩ r q=>by
  have ih:=r.prod;let⟨_,b,_⟩:=R.pieces;have b:í e.held<2^(97*c1+1):=b;have h1:2*í e.held<=2^(97*c1+2):=by
   grind
  apply aC (Nat.mul_le_mul h1 ih);rw[<-lS];apply b6 `d;rw[bu];lia
abbrev oo(L:List Ent):List (List Int):=(U' L).map λh=>ŉ L h++unr L h
def qn(L:List Ent)(j:Nat):Nat:=í (pl L (Ä (U' L) j))
def Fz(hi:i<(U' L).length):(oo L)[i]?=Za (ŉ L (Ä (U' L) i)++unr L (Ä (U' L) i)):=by rw[aG,(oY hi).1];rfl
def HQ(hi:i<(U' L).length)(hj:j<(U' L).length):at2 (oo L) i j=(if Ä (U' L) j=Ä (U' L) i then(í (pl L (Ä (U' L) i)):Int) else 0)-pc (pl L (Ä (U' L) j)) (Ä (U' L) i):=by
 apply rN (Fz hi);have hl:(ŉ L (Ä (U' L) i)).length=(U' L).length:=by unfold ŉ;rw[ac]
 rw[du `l];unfold ŉ;rw[aG,(oY hj).1];rfl
def HS(hi:i<(U' L).length)(hj:j<(U' L).length):at2 (oo L) i ((U' L).length+j)=if Ä (U' L) j=Ä (U' L) i then 1 else 0:=by
 apply rN (Fz hi);have hl:(ŉ L (Ä (U' L) i)).length=(U' L).length:=by unfold ŉ;rw[ac]
 rw[di `l,hl,kS];unfold unr;rw[aG,(oY hj).1];rfl
def Kv(hj:2*(U' L).length<=j):at2 (oo L) i j=0:=by
 unfold at2;rw[aG];cases e:(U' L)[i]? with
 |none=>rfl
 |some h =>
  show((ŉ L h++unr L h)[j]?).getD 0=0;rw[d9]
  .rfl
  .rw[aY];unfold ŉ unr;rw[ac,ac];lia
def Gd.mul(g:Gd L N c)(hi:i<(U' L).length)(hj:j<(U' L).length):((at2 (oo L) i j:Int):Rat)=(qn L j:Rat)*mA L (U' L) i j:=by
 rw[HQ hi hj];let⟨e,k,hz,f,ep,o,R,kc,sv,_⟩:=g.held (Ze.mp (oY hj).2);have pv:=R.ŵ (Ä (U' L) i);rw[<-sv] at pv;unfold mA qn;rw[jK,pv,cU];by_cases q:i=j
 .subst q;rw[Zc rfl,Zc rfl,cU]
  grind
 .rw[Zd q,Zd λz=>q (z8 g.õ hj hi z).symm]
  grind
def Gd.ÁC(g:Gd L N c)(hj:j<(U' L).length):1<=qn L j:=by let⟨e,k,hz,f,ep,o,R,kc,sv,_⟩:=g.held (Ze.mp (oY hj).2);exact R.pieces.1
def Gd.zmr(g:Gd L N c)(ng:ώ L):El.Zm (U' L).length 0 λi j=>((at2 (oo L) i j:Int):Rat) :=
 (g.zm ng g.õ λx hx=>Ze.mp hx).scale (λj=>(qn L j:Rat)) (λj hj=>by
  have:=g.ÁC hj;have h:((0:Nat):Rat)<((qn L j:Nat):Rat):=by exact fE.mpr `l
  exact h) λi j hi hj=>g.mul hi hj
def bC(L:List Ent)(j:Nat):Nat:=if j<(U' L).length then 2*qn L j else 1
def Gd.ÂY(g:Gd L N c)(hh:nK L h=true):nG ((U' L).map (shr L h))<=1:=by
 rw[xr g.õ (g.ond h) (λx _ z=>g.zero z),<-g.one hh];refine zR λx _=>?_;have:=g.nn h x;split
 .exact lI
 .exact this
def Gd.col(g:Gd L N c)(j):El.sm (λr=>El.ab ((at2 (oo L) r j:Int):Rat)) (U' L).length<=(bC L j:Rat):=by
 unfold bC;by_cases hj:j<(U' L).length
 .rw[Zc hj];have hh:=Ze.mp (oY hj).2;have q0:(0:Rat)<=(qn L j:Rat):=by
   grind
  have e:El.sm (λr=>El.ab ((at2 (oo L) r j:Int):Rat)) (U' L).length<=El.sm (λr=>(qn L j:Rat)*(1*(if r=j then 1 else 0)+1*shr L (Ä (U' L) j) (Ä (U' L) r))) (U' L).length:=El.Ų λr hr=>by
   rw[g.mul hr hj,El.ϰ];have a1:El.ab (qn L j:Rat)=(qn L j:Rat):=by unfold El.ab;rw[Zd];grind
   rw[a1];refine dR ?_ q0;unfold mA;have:=g.nn (Ä (U' L) j) (Ä (U' L) r);unfold El.ab;split<;>grind
  apply cK e;rw[El.ā,El.ð,El.ã hj (λk _ hk=>Zd hk),Zc rfl,Ez (λx=>shr L (Ä (U' L) j) x)];have s1:=g.ÂY hh;have:(((2*qn L j:Nat):Nat):Rat)=(qn L j:Rat)*2:=by rw[Nat.mul_comm,jJ];rfl
  rw[this];refine dR ?_ q0
  grind
 .rw[Zd hj];by_cases h2:j<2*(U' L).length
  .obtain⟨k,rfl⟩:∃k,j=(U' L).length+k:=⟨j-(U' L).length,by lia⟩;have hk:k<(U' L).length:=by lia
   have e:El.sm (λr=>El.ab ((at2 (oo L) r ((U' L).length+k):Int):Rat)) (U' L).length=El.sm (λr=>if r=k then 1 else 0) (U' L).length:=El.Zr λr hr=>by
    rw[HS hr hk];by_cases q:r=k
    .subst q;rw[Zc rfl,Zc rfl];rfl
    .rw[Zd q,Zd λz=>q (z8 g.õ hk hr z).symm];rfl
   rw[e,El.ã hk (λk _ hk=>Zd hk),Zc rfl];exact lI
  .rw[El.ű λr hr=>by rw[Kv `l];rfl];decide
def Gd.bC1(g:Gd L N c)(j):1<=bC L j:=by
 unfold bC;split
 .rename_i h;have:=g.ÁC h;lia
 .grind
def Gd.Ãv(g:Gd L N c)(j):bC L j<=2^3980:=by
 unfold bC;split
 .rename_i h;let⟨e,k,hz,f,ep,o,R,kc,sv,_⟩:=g.held (Ze.mp (oY h).2);have b:í (pl L (Ä (U' L) j))<2^(97*k+1):=R.pieces.2.1;have c4:=g.c40;have:2^(97*k+1)<=2^3979:=b6 (Zf rfl) `l;unfold qn
  grind
 .exact Nat.one_le_two_pow
theorem Gd.prod(g:Gd L N c)(ht:t<=(U' L).length):El.pr (λj=>(bC L j:Rat)) t<=((2^3993:Nat):Rat):=by
 have e0:∀k,k<=(U' L).length->El.pr (λj=>(bC L j:Rat)) k=((qd (((U' L).take k).map λh=>2*í (pl L h)):Nat):Rat):=λk hk=>by rw[<-HW (λh=>2*í (pl L h)) k hk];refine El.Ğ λj hj=>?_;unfold bC qn;rw[Zc `l]
 have YR:qd ((U' L).map λh=>2*í (pl L h))<=2^3993:=by
  have p1:qd ((U' L).map λh=>2*í (pl L h))=qd ((L.map (·.nm)).map λh=>2*í (pl L h)):=GI ((mW _).map _);have p2:(L.map (·.nm)).map (λh=>2*í (pl L h))=L.map λe=>2*í e.held:=by
   rw[aH];refine aX λe he=>?_;show 2*í (pl L e.nm)=_;let⟨A,B,rfl⟩:=List.append_of_mem he;have hn:e.nm∉A.map (·.nm):=λz=>by
    have:=g.nd
    grind
   unfold pl;rw[xD hn]
  rw[p1,p2];refine aC g.ct.prod (b6 (Zf rfl) ?_);have:=g.c40;have:=g.l8;lia
 rw[e0 t ht];refine dS.mpr (aC ?_ YR);have sp:qd ((U' L).map λh=>2*í (pl L h))=qd (((U' L).take t).map λh=>2*í (pl L h))*qd (((U' L).drop t).map λh=>2*í (pl L h)):=by rw[<-yt,<-aD,li]
 rw[sp];apply Nat.le_mul_of_pos_right _;have pos:∀l:List Str,(∀h∈l,h∈U' L)->0<qd (l.map λh=>2*í (pl L h)):=λl=>by
  induction l with
  |nil=>exact λ_=>Nat.one_pos
  |cons h l ih =>
   intro hl;let⟨e,k,hz,f,ep,o,R,kc,sv,_⟩:=g.held (Ze.mp (hl h al));have p:=R.pieces.1;have i:=ih λy hy=>hl y (af _ hy);exact lT (lT (Zf rfl) p) i
 exact pos _ λh hh=>lE hh
def NH:(ŉ L h++unr L h).length=2*(U' L).length:=by rw[aY];unfold ŉ unr;rw[ac,ac];lia
def Gd.bm(g:Gd L N c)(ng:ώ L):=MW (rows:=oo L) (n:=(U' L).length) (w:=2*(U' L).length) (by rw[ac]) (λrow hr=>by let⟨h,_,rfl⟩:=ar.mp hr;exact NH) `l (g.zmr ng)
def Gd.big(g:Gd L N c)(ng:ώ L)(ht:t<=(U' L).length)(hi:i<(U' L).length)(hj:j<2*(U' L).length):Bt 7980 (at2 (è (oo L) t).2 i j):=by
 let⟨h1,h2,h3,h4⟩:=g.bm ng t ht;let⟨⟨X,C⟩,dp,_⟩:=El.run (g.zmr ng) t ht;have le:=C.le ht (λj=>by have:=dS.mpr (g.bC1 j);exact this) (λj=>g.col j) hi j
 rw[<-h4 i j hi hj,El.Àz] at le;have nn:(0:Rat)<=(bC L j:Rat):=by
  grind
 have p1:=g.prod ht;have p2:=dS.mpr (g.Ãv j);have p0:(0:Rat)<=((2^3993:Nat):Rat):=by
  grind
 have X4:El.pr (λj=>(bC L j:Rat)) t*(bC L j:Rat)<=((2^3993:Nat):Rat)*((2^3980:Nat):Rat):=by have a1:=dR p1 nn;have a2:=dR p2 p0;refine cK ?_ a2;rw[Rat.mul_comm,Rat.mul_comm (((2^3993:Nat):Rat))];exact a1
 have V9:=cK le X4;rw[<-jJ] at V9;have V9:=dS.mp V9;unfold Bt
 grind
def Gd.rows(g:Gd L N c)(ng:ώ L):∀t,t<=(U' L).length->Rows (U' L).length (2*(U' L).length) (è (oo L) t):=by
 intro t ht;let⟨h1,h2,h3,h4⟩:=g.bm ng t ht;let⟨⟨X,C⟩,dp,_⟩:=El.run (g.zmr ng) t ht;refine⟨h1,h2,λrow hr x hx=>?_,?_,?_⟩
 .let⟨i,hi⟩:=bY.mp hr;let⟨j,hj⟩:=bY.mp hx;have il:=(aR.mp hi).1;have jl:=(aR.mp hj).1;rw[h2 row hr] at jl;rw[h1] at il;rw[<-rN hi hj];exact(g.big ng ht il jl).mono (Zf rfl)
 .rw[<-h3] at dp;exact fE.mp dp
 .cases t with
  |zero=>exact bt1 (Zf rfl)
  |succ t=>exact(g.big ng `l `l `l).mono (Zf rfl)
def Gd.dle(g:Gd L N c)(ng:ώ L):Bt 3994 (è (oo L) (U' L).length).1:=by let⟨h1,h2,h3,h4⟩:=g.bm ng (U' L).length (ak _);let⟨⟨X,C⟩,dp,_⟩:=El.run (g.zmr ng) (U' L).length (ak _);have le:=El.Àb (U' L).length λi j=>((at2 (oo L) i j:Int):Rat);rw[<-C.dt,<-h3,El.Àz] at le;have X4:=cK le (cK (El.ĝ λj _=>⟨El.ϗ (λ_=>El.č _) _,g.col j⟩) (g.prod (ak _)));have V9:=dS.mp X4;exact aW V9 (lR (Zf rfl) (Zf rfl))
def Ľ(L:List Ent)(h:Str):Nat:=(U' L).idxOf h
def xh(hh:h∈U' L):Ľ L h<(U' L).length:=List.idxOf_lt_length_iff.mpr hh
def xV(hh:h∈U' L):Ä (U' L) (Ľ L h)=h:=by have e:=(oY (xh hh)).1;rw[ay (xh hh)] at e;exact(bL e).symm.trans (List.getElem_idxOf _)
def Aj(g:Gd L N c)(hi:i<(U' L).length):Ľ L (Ä (U' L) i)=i:=z8 g.õ (xh (oY hi).2) hi (xV (oY hi).2)
structure ϋ(L:List Ent)(d:Int)(z:Str->Str->Int):Prop where
 d0:0<d
 db:Bt 9000 d
 dd:Bt 3994 d
 zb:∀l∈U' L,∀k∈U' L,Bt 7980 (z l k)
 eq:∀h∈U' L,∀k∈U' L,((í (pl L h):Nat):Rat)*((z h k:Int):Rat)=(if h=k then(d:Rat) else 0)+nG ((U' L).map λl=>((pc (pl L l) h:Int):Rat)*((z l k:Int):Rat))
def Gd.solve(g:Gd L N c)(ng:ώ L)(a):∃d z,ϋ L d z/\∀s,xL a [LL (oo L)] s=.ok (.tup [LL ((U' L).map λl=>(U' L).map λk=>z l k),.int d]) s:=by
 have R:=g.rows ng;have l8:(U' L).length<=8:=by rw[ot];exact g.l8
 let⟨h1,h2,h3,h4⟩:=g.bm ng (U' L).length (ak _);let⟨⟨X,C⟩,dp,_⟩:=El.run (g.zmr ng) (U' L).length (ak _);have RN:=R (U' L).length (ak _);refine⟨(è (oo L) (U' L).length).1,λl k=>at2 (è (oo L) (U' L).length).2 (Ľ L l) ((U' L).length+Ľ L k),⟨RN.d.1,RN.d.2,g.dle ng,λl hl k hk=>g.big ng (ak _) (xh hl) (by have:=xh hk;lia),λh hh k hk=>?_⟩,λs=>?_⟩
 .have ih:=xh hh;have ik:=xh hk;have so:=C.so _ ih ((U' L).length+Ľ L k);have up:∀l,l<(U' L).length->((at2 (è (oo L) (U' L).length).2 l ((U' L).length+Ľ L k):Int):Rat)=(((è (oo L) (U' L).length).1:Int):Rat)*X l ((U' L).length+Ľ L k):=λl hl=>by rw[h4 l _ hl `l,C.up l hl,h3]
  generalize (è (oo L) (U' L).length).1=d at *;have rhs:((at2 (oo L) (Ľ L h) ((U' L).length+Ľ L k):Int):Rat)=if h=k then 1 else 0:=by
   rw[HS ih ik,xV hh,xV hk];by_cases q:h=k
   .rw[Zc q,Zc q.symm];rfl
   .rw[Zd q,Zd λz=>q z.symm];rfl
  rw[rhs] at so;have e1:El.sm (λl=>((at2 (è (oo L) (U' L).length).2 l ((U' L).length+Ľ L k):Int):Rat)*((at2 (oo L) (Ľ L h) l:Int):Rat)) (U' L).length=(d:Rat)*if h=k then 1 else 0:=by
   rw[<-so,<-El.ā];refine El.Zr λl hl=>?_;rw[up l hl]
   grind
  have e2:El.sm (λl=>((at2 (è (oo L) (U' L).length).2 l ((U' L).length+Ľ L k):Int):Rat)*((at2 (oo L) (Ľ L h) l:Int):Rat)) (U' L).length=El.sm (λl=>1*(if l=Ľ L h then((í (pl L h):Nat):Rat)*((at2 (è (oo L) (U' L).length).2 l ((U' L).length+Ľ L k):Int):Rat) else 0)+(-1)*(λy=>((pc (pl L y) h:Int):Rat)*((at2 (è (oo L) (U' L).length).2 (Ľ L y) ((U' L).length+Ľ L k):Int):Rat)) (Ä (U' L) l)) (U' L).length:=El.Zr λl hl=>by
   rw[HQ ih hl,xV hh];simp only[Aj g hl];by_cases q:l=Ľ L h
   .subst q;rw[Zc rfl,xV hh,Zc rfl,jK,cU]
    grind
   .rw[Zd q,Zd λz=>q (by rw[<-z,Aj g hl])];have:((0-pc (pl L (Ä (U' L) l)) h:Int):Rat)=-((pc (pl L (Ä (U' L) l)) h:Int):Rat):=by rw[<-Rat.intCast_neg];congr 1;lia
    rw[this]
    grind
  rw[e2,El.ð,El.ã ih (λk _ hk=>Zd hk),Zc rfl,Ez (λy=>((pc (pl L y) h:Int):Rat)*((at2 (è (oo L) (U' L).length).2 (Ľ L y) ((U' L).length+Ľ L k):Int):Rat))] at e1;have:(d:Rat)*(if h=k then 1 else 0)=if h=k then(d:Rat) else 0:=by split<;>grind
  rw[this] at e1
  grind
 .rw[IN a s (n:=(U' L).length) (w:=2*(U' L).length) `l `l `l R]
  congr 4
  have row:∀i,i<(U' L).length->((è (oo L) (U' L).length).2[i]?).map (·.drop (U' L).length)=Za ((U' L).map λk=>at2 (è (oo L) (U' L).length).2 i ((U' L).length+Ľ L k)):=λi hi=>by
   have e:(è (oo L) (U' L).length).2[i]?=Za ((è (oo L) (U' L).length).2[i]'(by lia)):=ay `l;have rl:=h2 _ (cZ (show i<(è (oo L) (U' L).length).2.length by lia));generalize (è (oo L) (U' L).length).2[i]'(by lia)=row at e rl;rw[e];show Za (row.drop (U' L).length)=_
   congr 1
   refine ji λj=>?_;rw[List.getElem?_drop,aG];by_cases hj:j<(U' L).length
   .rw[(oY hj).1];obtain⟨x,hx⟩:∃x,row[(U' L).length+j]?=Za x:=⟨_,ay `l⟩;rw[hx];show Za x=Za (at2 _ i ((U' L).length+Ľ L (Ä (U' L) j)));rw[Aj g hj,rN e hx]
   .rw[d9 `l,d9 `l];rfl
  refine ji λi=>?_;rw[aG,aG];by_cases hi:i<(U' L).length
  .rw[row i hi,(oY hi).1];show Za _=Za ((U' L).map λk=>at2 _ (Ľ L (Ä (U' L) i)) _);rw[Aj g hi]
  .rw[d9 `l,d9 `l];rfl
section
variable[DecidableEq κ]
def Fk(l)(k k':κ)(p):uM (Ec l k p) k'=if k'=k then Za p else uM l k':=by
 have vc:∀kv (l:List (κ×PV)),uM (kv::l) k'=if kv.1=k' then Za kv.2 else uM l k':=λkv l=>by
  unfold uM
  grind
 unfold Ec;by_cases an:(l.any λkv=>decide (kv.1=k))=true
 .rw[Zc an];induction l with
  |nil=>cases an
  |cons kv l ih =>
   rw[am,vc,vc];by_cases e:kv.1=k
   .rw[Zc e];by_cases q:k'=k
    .simp_all
    .rw[Zd (show ¬kv.1=k' by rw[e];grind),Zd q,Zd (show ¬kv.1=k' by rw[e];grind)];by_cases an2:(l.any λkv=>decide (kv.1=k))=true
     .rw[ih an2,Zd q]
     .have:l.map (λkv=>if kv.1=k then(kv.1,p) else kv)=l:=by
       conv=>rhs;rw[<-iM l]
       refine aX λx hx=>?_
       grind
      rw[this]
   .grind
 .rw[Zd an];induction l with
  |nil =>
   grind
  |cons kv l ih =>
   grind
def KA(l)(k:κ)(p):(Ec l k p).length<=l.length+1:=by
 unfold Ec;split
 .simp_all
 .simp_all
end
theorem HG(f g:α->PV):∀l:List α,vS (l.map f) (l.map g)=l.map λx=>.tup [f x,g x]
 |[]=>rfl
 |x::l=>by rw[am,am,am];show PV.tup [f x,g x]::vS (l.map f) (l.map g)=_;rw[HG f g l]
def tp(L:List Ent)(d:Int)(z:Str->Str->Int)(x h:Str):Int:=(if x=h then d else 0)+((U' L).map λl=>pc (pl L l) x*z l h).sum
abbrev zL(L:List Ent)(z:Str->Str->Int):PV:=LL ((U' L).map λl=>(U' L).map λk=>z l k)
def wE(L:List Ent)(d:Int)(z:Str->Str->Int)(k nb:Nat)(u5 u6 u7 u8 u9 Si:Option PV):En:=[Za (.ref k),Za (.ref nb),Za (LS (U' L)),Za (av L),Za (.tup [zL L z,.int d]),u5,u6,u7,u8,u9,Si]
def Gd.pcb(g:Gd L N c)(hh:h∈U' L)(x):Bt 12000 (pc (pl L h) x):=by let⟨e,k,hz,f,ep,o,R,kc,sv,_⟩:=g.held (Ze.mp hh);have:=((R.fr x).top).mul ((R.pieces.2.1).div (d:=(mU (pl L h) x).2));have c4:=g.c40;exact this.mono `l
theorem HJ(a)(g:Gd L N c)(S:ϋ L d z)(hi:(U' L)[i]?=Za h)(s):∀(ns:List Str)(t:Int)(u9 Si:Option PV),(∀l∈ns,l∈U' L)->∃v9 TX,nR (nj (Ô 2 (Zp (Y4 9) (Zp (Y4 10) Õ))) (pF a)) (ns.map λl=>.tup [.str l,LI ((U' L).map λk=>z l k)]) (wE L d z k nb (Za (.int (i:Nat))) (Za (.str h)) (Za (.str x)) (Za (.int t)) u9 Si) s=.nx (wE L d z k nb (Za (.int (i:Nat))) (Za (.str h)) (Za (.str x)) (Za (.int (t+(ns.map λl=>pc (pl L l) x*z l h).sum))) v9 TX) s
 |[],t,u9,Si,_=>⟨u9,Si,by rw[cX,cX,List.sum_nil,Int.add_zero];rfl⟩
 |l::ns,t,u9,Si,hn=>by
  have hl:=hn l al;have hh:=dA hi;let⟨v9,TX,e⟩:=HJ a g S hi s ns (t+pc (pl L l) x*z l h) (Za (.str l)) (Za (LI ((U' L).map λk=>z l k))) λy hy=>hn y (af _ hy);refine⟨v9,TX,?_⟩;rw[am,am,fY,<-Int.add_assoc];unfold nR;have bd:nj (Ô 2 (Zp (Y4 9) (Zp (Y4 10) Õ))) (pF a) (.tup [.str l,LI ((U' L).map λk=>z l k)]) (wE L d z k nb (Za (.int i)) (Za (.str h)) (Za (.str x)) (Za (.int t)) u9 Si) s=.nx (wE L d z k nb (Za (.int i)) (Za (.str h)) (Za (.str x)) (Za (.int (t+pc (pl L l) x*z l h))) (Za (.str l)) (Za (LI ((U' L).map λk=>z l k)))) s:=by
   show pF a (wE L d z k nb (Za (.int i)) (Za (.str h)) (Za (.str x)) (Za (.int t)) (Za (.str l)) (Za (LI ((U' L).map λk=>z l k)))) s=_;unfold pF;have e1:Ě (x2 (j' 3) (j' 9) Zk) (j' 7) (xC (.int 0)) (wE L d z k nb (Za (.int i)) (Za (.str h)) (Za (.str x)) (Za (.int t)) (Za (.str l)) (Za (LI ((U' L).map λk=>z l k)))) s=.ok (.int (pc (pl L l) x)) s:=by rw[Ip ((mT `m `m).trans (GU hl)) `m rfl,MQ g]
   have e2:=pP e1 ((mT (mD (i:=10) rfl) (mD (i:=5) rfl)).trans (EG (by rw[aG,hi];rfl))) (.inl ⟨(g.pcb hl x).mono (Zf rfl),(S.zb l hl h hh).mono (Zf rfl)⟩);unfold Pq;rw[e2];rfl
  rw[bd];exact e
structure Wob(a:Y9)(T:N')(k j:Nat)(L:List Ent)(X:List Str)(d:Int)(z:Str->Str->Int):Prop where
 ob:T.get k=Za (.obj a.ZJ [("bottom",.int d),("top_of",.ref j)])
 dc:∃D,T.get j=Za (.û D)/\∀x∈X,∀h∈U' L,uM D [aq x,aq h]=Za (.int (tp L d z x h))
def EI(h:f Z s=.ok (.ref n) s1)(hg:s1.get n=Za (.obj C fs))(hv:uM fs nm=Za p):Gh C nm f Z s=.ok p s1:=by unfold Gh;rw[h];simp[Out.bind,hg,if_true,hv]
def NN(h1:v Z s=.ok q s)(h2:f Z s=.ok (.ref n) s)(h3:fa Z s=.ok vs s)(hg:s.get n=Za (.û l))(hk:Cu vs=Za ks)(hv:vs.length<=100000)(hl:l.length<100000):JS f fa v Z s=.nx Z (s.set n (.û (Ec l ks q))):=by
 unfold JS;simp[Out.so]
 simp_all
def Np(a:Y9)(g:Gd L N c)(S:ϋ L d z){h x:Str}{i j:Nat}(hi:(U' L)[i]?=Za h)(hx:ba x=true){s:N'}{D:List (List Key×PV)}(ob:s.get k=Za (.obj a.ZJ [("bottom",.int d),("top_of",.ref j)]))(hd:s.get j=Za (.û D))(hl:D.length<100000)(u7 u8 u9 Si:Option PV) :
  ∃v8 v9 TX,nj (Y4 7) (pE a) (.str x) (wE L d z k nb (Za (.int (i:Nat))) (Za (.str h)) u7 u8 u9 Si) s=.nx (wE L d z k nb (Za (.int (i:Nat))) (Za (.str h)) (Za (.str x)) v8 v9 TX) (s.set j (.û (Ec D [aq x,aq h] (.int (tp L d z x h))))):=by
 have hh:=dA hi;let⟨v9,TX,e⟩:=HJ a g S hi s (U' L) (if x=h then d else 0) u9 Si λ_ z=>z;refine⟨Za (.int (tp L d z x h)),v9,TX,(pB).trans ?_⟩;show pE a (wE L d z k nb (Za (.int i)) (Za (.str h)) (Za (.str x)) u8 u9 Si) s=_;refine mP (mY (v:=.int (if x=h then d else 0)) (s':=s) ?_) ?_
 .have e1:ZI (x2 (j' 7) (j' 6) Ĕ) (wE L d z k nb (Za (.int i)) (Za (.str h)) (Za (.str x)) u8 u9 Si) s=.ok (decide (x=h)) s:=oa ((mT `m `m).trans (MJ hx (g.Zl hh)));unfold ś;rw[e1,vJ];by_cases q:x=h
  .rw[Zg q,Zc q,Zc rfl];exact EI `m ob rfl
  .rw[Zh q,Zd q,Zd (Zf rfl)];rfl
 .refine mP (sC ?_ e) ?_
  .unfold LX;show Out.ok (vS ((U' L).map .str) (((U' L).map λl=>(U' L).map λk=>z l k).map LI)) s=_;rw[aH,HG];rfl
  .apply(NN `m (EI `m ob rfl) (mE `m (mE `m rfl)) hd rfl (fO rfl) hl).trans;rfl
theorem HI(a)(g:Gd L N c)(S:ϋ L d z)(hi:(U' L)[i]?=Za h)(VM:k≠j):∀(xs:List Str)(s:N')(D:List (List Key×PV))(u7 u8 u9 Si:Option PV),(∀x∈xs,ba x=true)->s.get k=Za (.obj a.ZJ [("bottom",.int d),("top_of",.ref j)])->s.get j=Za (.û D)->D.length+xs.length<100000 ->
  ∃D' v7 v8 v9 TX,nR (nj (Y4 7) (pE a)) (xs.map .str) (wE L d z k nb (Za (.int (i:Nat))) (Za (.str h)) u7 u8 u9 Si) s=.nx (wE L d z k nb (Za (.int (i:Nat))) (Za (.str h)) v7 v8 v9 TX) (s.set j (.û D'))/\D'.length<=D.length+xs.length/\(∀x∈xs,uM D' [aq x,aq h]=Za (.int (tp L d z x h)))/\∀x h',uM D [aq x,aq h']=Za (.int (tp L d z x h'))->uM D' [aq x,aq h']=Za (.int (tp L d z x h'))
 |[],s,D,u7,u8,u9,Si,_,_,hd,_=>⟨D,u7,u8,u9,Si,by
   rw[AV _ _ _ hd];rfl,ak _,(λ_ z=>nomatch z),λ_ _ h=>h⟩
 |x::xs,s,D,u7,u8,u9,Si,hx,ob,hd,hl=>by
  rw[bu] at hl;let⟨v8,v9,TX,e1⟩:=Np a g S hi (hx x al) ob hd `l u7 u8 u9 Si;have len:=KA D [aq x,aq h] (.int (tp L d z x h));let⟨D',w7,w8,w9,w10,e2,l2,a2,k2⟩:=HI a g S hi VM xs (s.set j (.û (Ec D [aq x,aq h] (.int (tp L d z x h))))) _ (Za (.str x)) v8 v9 TX (λy hy=>hx y (af _ hy)) (by rw[mM _ _ VM];exact ob) (nZ hd) `l;have old:∀y h',uM D [aq y,aq h']=Za (.int (tp L d z y h'))->uM (Ec D [aq x,aq h] (.int (tp L d z x h))) [aq y,aq h']=Za (.int (tp L d z y h')):=λy h' hy=>by
   rw[Fk]
   grind
  refine⟨D',w7,w8,w9,w10,?_,by rw[bu];lia,λy hy=>?_,λy h' hy=>k2 y h' (old y h' hy)⟩
  .rw[am];unfold nR;rw[e1];show nR (nj (Y4 7) (pE a)) (xs.map .str) _ _=_;rw[e2,sM]
  .obtain q|hy:=ap.mp hy
   .rw[q];exact k2 x h (by rw[Fk,Zc rfl])
   .exact a2 y hy
def HP(h1:v Z s=.ok p s1)(h2:f Z s1=.ok (.ref n) s1)(hg:s1.get n=Za (.obj C fs))(hl:fs.length<1000):F7 C nm f v Z s=.nx Z (s1.set n (.obj C (Cp nm p fs))):=by
 unfold F7;simp[Out.so]
 simp_all
structure Pp(pp N:List Str):Prop where
 sub:∀x∈pp,x∈N
 le:pp.length<=64
def No(a)(g:Gd L N c)(ng:ώ L)(P:Pp pp N)(hb:T.get nb=Za (.book pp L))(TK:nb<T.nx)(hk:T.get k=Za (.obj a.ZJ []))(hkT:k<T.nx)(hkb:nb≠k) :
  ∃d z j T',ϋ L d z/\sd a [.ref k,.ref nb] T=.ok .Zn T'/\Wob a T' k j L (ZR pp++U' L) d z/\T.nx<=T'.nx/\T.nx<=j/\∀i,i<T.nx->i≠k->T'.get i=T.get i:=by
 let⟨d,z,S,es⟩:=g.solve ng a;have l8:(U' L).length<=8:=by rw[ot];exact g.l8
 have hso:oI a [.ref nb] T=.ok (LS (U' L)) T:=by unfold oI oF;simp only[hb]
 let⟨s1,c1,G1⟩:=Dd (T:=T) (cap:=[Za (LS (U' L)),Za (av L)]) (e:=V' 3 (rY a) (F' (j' 0) (F' (j' 1) (F' (j' 2) J')))) (λq=>match q with|.str h=>LI (ŉ L h++unr L h)|q=>q) ((U' L).map .str) (λq hq s gs=>by let⟨h,hh,rfl⟩:=ar.mp hq;exact⟨_,mS (mE `m (mE `m (mE `m rfl))) rfl (LW a g hh s),gs.trans (Gr.add _ _)⟩) T (Gr.refl T)
 have e1:(((U' L).map PV.str).map λq=>match q with|.str h=>LI (ŉ L h++unr L h)|q=>q)=(oo L).map LI:=by rw[aH,aH];rfl
 rw[e1] at c1;have ob1:s1.get k=Za (.obj a.ZJ []):=(G1.fr k hkT).trans hk;have n1:=G1.nx;generalize UE:s1.set k (.obj a.ZJ (Cp "bottom" (.int d) []))=s2;have Tc:s2.nx=s1.nx:=by rw[<-UE];rfl
 have ob2:s2.get k=Za (.obj a.ZJ [("bottom",.int d)]):=by rw[<-UE];exact nZ ob1
 have fr2:∀i,i<T.nx->i≠k->s2.get i=T.get i:=λi h1 h2=>by rw[<-UE,mM _ _ h2];exact G1.fr i h1
 generalize hs3:(s2.add (.û [])).set k (.obj a.ZJ (Cp "top_of" (.ref s2.nx) [("bottom",.int d)]))=s3;have gk:(s2.add (.û [])).get k=Za (.obj a.ZJ [("bottom",.int d)]):=by rw[nr,Zd `l];exact ob2
 have ob3:s3.get k=Za (.obj a.ZJ [("bottom",.int d),("top_of",.ref s2.nx)]):=by rw[<-hs3];exact nZ gk
 have YW:s3.get s2.nx=Za (.û []):=by rw[<-hs3,mM _ _ `l,nr,Zc rfl]
 have nx3:s3.nx=s2.nx+1:=by rw[<-hs3];rfl
 have WQ:∀i,i<T.nx->i≠k->s3.get i=T.get i:=λi h1 h2=>by rw[<-hs3,mM _ _ h2,nr,Zd `l];exact fr2 i h1 h2
 have VM:k≠s2.nx:=by lia
 have hX:∀x∈ZR pp++U' L,ba x=true:=λx hx=>by
  obtain hx|hx:=a7.mp hx
  .exact wA (g.ho.sm x (P.sub x ((mW _).mem_iff.mp hx)))
  .exact g.Zl hx
 have lX:(ZR pp++U' L).length<=72:=by rw[aY,(mW _).length_eq];have:=P.le;lia
 let⟨ρ4,s4,lp,D4,u5,u6,u7,u8,u9,Si,rfl,rfl,l4,v4⟩:=Ij (body:=nj (Ô 2 (Zp (Y4 5) (Zp (Y4 6) Õ))) (qy a)) (sX 0 ((U' L).map .str))
  (λi Z s=>∃D u5 u6 u7 u8 u9 Si,Z=wE L d z k nb u5 u6 u7 u8 u9 Si/\s=s3.set s2.nx (.û D)/\D.length<=72*i/\∀x∈ZR pp++U' L,∀i',i'<i->∀h,(U' L)[i']?=Za h->uM D [aq x,aq h]=Za (.int (tp L d z x h)))
  (λi q Z s hq hI=>by
   let⟨D,u5,u6,u7,u8,u9,Si,rfl,rfl,lD,vD⟩:=hI;rw[yD,aG,fG] at hq;obtain⟨h,hi⟩:∃h,(U' L)[i]?=Za h:=by
    cases e:(U' L)[i]? with
    |none=>rw[e] at hq;cases hq
    |some h=>exact⟨h,rfl⟩
   rw[hi] at hq;cases hq;have il:i<(U' L).length:=(aR.mp hi).1;have obk:(s3.set s2.nx (.û D)).get k=Za (.obj a.ZJ [("bottom",.int d),("top_of",.ref s2.nx)]):=by rw[mM _ _ VM];exact ob3
   let⟨D',v7,v8,v9,TX,e,lD',a1,a2⟩:=HI (k:=k) (nb:=nb) a g S hi VM (ZR pp++U' L) (s3.set s2.nx (.û D)) D u7 u8 u9 Si hX obk (nZ YW) `l;refine⟨_,_,?_,D',Za (.int (i:Nat)),Za (.str h),v7,v8,v9,TX,rfl,rfl,by lia,λx hx i' Wx h' Vl=>?_⟩
   .show qy a (wE L d z k nb (Za (.int (i:Nat))) (Za (.str h)) u7 u8 u9 Si) (s3.set s2.nx (.û D))=_;unfold qy;rw[sM] at e;have bk:(s3.set s2.nx (.û D)).get nb=Za (.book pp L):=by rw[mM _ _ `l];exact(WQ nb TK hkb).trans hb
    refine sC (l:=(ZR pp++U' L).map .str) (s1:=s3.set s2.nx (.û D)) (oy ((mT ((uK (vs:=[]) (s2:=s3.set s2.nx (.û D)) `m bk rfl rfl).trans (show tD a [.ref nb] (s3.set s2.nx (.û D))=.ok (LS (ZR pp)) (s3.set s2.nx (.û D)) by unfold tD oF;simp only[bk])) `m).trans ?_)) e;simp only[ZS,ZH];rw[Zc (by rw[ac,ac,<-aY];lia),<-aD]
   .by_cases q:i'=i
    .subst q;rw[hi] at Vl;cases Vl;exact a1 x hx
    .exact a2 x h' (vD x hx i' `l h' Vl)) (Z:=wE L d z k nb Zb Zb Zb Zb Zb Zb) (s:=s3.set s2.nx (.û [])) ⟨[],Zb,Zb,Zb,Zb,Zb,Zb,rfl,rfl,aV _,λ_ _ _ h=>absurd h `l⟩
 rw[AV _ _ _ YW] at lp;refine⟨d,z,s2.nx,s3.set s2.nx (.û D4),S,Bf (Z:=wE L d z k nb u5 u6 u7 u8 u9 Si) ?_,⟨by rw[mM _ _ VM];exact ob3,D4,nZ YW,λx hx h hh=>?_⟩,by show T.nx<=s3.nx;lia,by lia,λi h1 h2=>?_⟩
 .unfold yS;refine mP (zk (mS (mE `m rfl) rfl (Oe a g.ho (by have:=g.l8;lia) ng hb))) ?_;apply mP (mY ((uK (vs:=[]) (s2:=T) `m hb rfl rfl).trans hso));apply mP (mY (mS (mE `m rfl) rfl (Hh a g hb)));refine mP (mY (mS (mE (qk (l:=(U' L).map .str) (s1:=T) (oy `m) (by rw[ac];lia) c1) rfl) rfl (es s1))) ?_;apply mP (s':=s2) ((HP (s1:=s1) (p:=.int d) ((mT (mD (v:=.tup [zL L z,.int d]) rfl) rfl).trans rfl) `m ob1 `d).trans (by rw[UE]));apply mP (s':=s3) ((HP (s1:=s2.add (.û [])) (p:=.ref s2.nx) rfl `m gk (Nat.lt_of_sub_eq_succ rfl)).trans (by rw[hs3]));refine sC (l:=sX 0 ((U' L).map .str)) (s1:=s3) ?_ lp;unfold xn;rw[mE (mD (i:=2) (v:=LS (U' L)) rfl) rfl];rfl
 .let⟨i,hi⟩:=bY.mp hh;refine v4 x hx i ?_ h hi;rw[tj,ac];exact(aR.mp hi).1
 .rw[mM _ _ `l];exact WQ i h1 h2
def Ë(q:Rat):PV:=ß (q.num,(q.den:Int))
def Oi(q:Rat):ħ (q.num,(q.den:Int)):=⟨by have:=q.den_pos;lia,by exact q.reduced⟩
def z3(hb:0<b):red (t,b)=((aN t b).num,((aN t b).den:Int)):=by
 let⟨l,e⟩:=uA (q:=(t,b)) hb;apply Ae l (Oi _);have h:=gF (aN t b);have d0:=(aN t b).den_pos;have h:=(kC `l `l).mp h;apply eJ (a:=b) `l
 grind
def Jq(a)(s)(hb:0<b)(bb:Bt 9000 b):xM a [.int t,.int b] s=.ok (Ë (aN t b)) s:=by apply m8;have gp:0<aI t b:=bw _ `l;have gb:Bt 9000 ((aI t b:Nat):Int):=bb.dvd `l (b8 ..);refine mP (mY (mS (mE `m (mE `m rfl)) rfl (Zc hb))) ?_;apply(oh (qT (mE (Ci `m `m ⟨by lia,gb⟩) (mE (Ci `m `m ⟨by lia,gb⟩) rfl)))).trans;unfold Ë;rw[<-z3 hb];rfl
def qH(L:List Ent)(h:Str):Int:=match oA L h with
 |some e=>e.th
 |none=>0
def thV(L:List Ent):PV:=.Zv (Ŷ (U' L) λh=>.int (qH L h))
def BN(a)(g:Gd L N c)(hb:T.get nb=Za (.book pp L)):uh a [.ref nb] T=.ok (thV L) T:=by
 apply m8;have c1:=tw (cap:=[Za (.ref nb)]) (e:=Ö (F' (j' 0) (F' (x2 (ł 2 (MX a) (j' 1) (F' (j' 0) J')) (xC (.int 0)) Zk) J'))) (λh=>.tup [.str h,.int (qH L h)]) (U' L) (λh hh=>by
  have hh:=Ze.mp hh;let⟨e,f,_⟩:=g.ent hh;have of:MX a [.ref nb,.str h] T=.ok (.tup [.int e.th,.int e.mr,.int e.ls]) T:=by simp[MX,oF,hb];rw[Zc (g.ho.sm h (g.ho.hn h hh)).nm,f]
  have et:qH L h=e.th:=by unfold qH;rw[f]
  rw[et];exact qT (mE `m (mE ((mT ((uK `m hb (mE `m rfl) rfl).trans of) rfl).trans rfl) rfl)))
 refine oh ((AM (mE (qk (oy ((uK (vs:=[]) `m hb rfl rfl).trans ?_)) (by rw[ac,ot];have:=g.l8;lia) c1) rfl)).trans (EM g.õ));unfold oI oF;simp[hb]
theorem zn:∀(l:List Int),(∀x∈l,Bt k x)->Bt (k+l.length) l.sum
 |[],_=>by
  show(0:Int).natAbs<2^_;exact b7 _
 |x::l,h=>by rw[fY,bu,<-kI];exact((h x al).mono `l).add (zn l λy hy=>h y (af _ hy))
def Áj(g:Gd L N c)(S:ϋ L d z)(x)(hh:h∈U' L):Bt 19995 (tp L d z x h):=by
 have l8:(U' L).length<=8:=by rw[ot];exact g.l8
 have h1:=zn ((U' L).map λl=>pc (pl L l) x*z l h) λy hy=>by let⟨l,hl,rfl⟩:=ar.mp hy;exact(g.pcb hl x).mul (S.zb l hl h hh)
 rw[ac] at h1;refine Bt.mono (k:=19990+1) (Bt.add ?_ (h1.mono `l)) (Zf rfl);split
 .exact S.db.mono (Zf rfl)
 .exact b7 _
def tpb(L:List Ent)(d:Int)(z:Str->Str->Int)(x:Str):Int:=((U' L).map λh=>tp L d z x h*qH L h).sum
def Rl(h2:f Z s=.ok (.ref n) s)(h3:fa Z s=.ok vs s)(hg:s.get n=Za (.û l))(hk:Cu vs=Za ks)(hv:vs.length<=100000)(hq:uM l ks=Za q):Nj f fa Z s=.ok q s:=by
 unfold Nj;rw[h2];simp[Out.bind]
 simp_all
def Gd.thb(g:Gd L N c)(h):Bt 200 (qH L h):=by
 unfold qH;cases e:oA L h with
 |none=>exact b7 _
 |some e'=>exact g.tb e' (xE e).1
def IL(a)(g:Gd L N c)(S:ϋ L d z)(W:Wob a T k j L X d z)(hx:x∈X):qA a [.ref k,.str x,thV L] T=.ok (.int (tpb L d z x)) T:=by
 let⟨D,hD,vD⟩:=W.dc;apply m8;have c1:=yE (cap:=[Za (thV L),Za (.ref k),Za (.str x)]) (e:=x2 (Nj (Gh a.ZJ "top_of" (j' 2)) (F' (j' 3) (F' (j' 0) J'))) (x2 (j' 1) (j' 0) Zk) Zy) (λh=>tp L d z x h*qH L h) (U' L) (λh hh=>by exact pP (Rl (EI `m W.ob rfl) (mE `m (mE `m rfl)) hD rfl (fO rfl) (vD x hx h hh)) ((mT `m `m).trans (GU hh)) (.inl ⟨(Áj g S x hh).mono (Zf rfl),(g.thb h).mono (Zf rfl)⟩))
 refine oh ((AM (mE (qk ?_ (by rw[ac,ot];have:=g.l8;lia) c1) rfl)).trans ?_)
 .unfold ů;show Out.ok ((Ŷ (U' L) λh=>.int (qH L h)).map λkv:Key×PV=>wG kv.1) T=_;unfold Ŷ;rw[aH];rfl
 .simp only[P4,ZH,wI];rfl
def wv(L:List Ent)(d:Int)(z:Str->Str->Int)(x:Str):Rat:=aN (tpb L d z x) d
def PM{C:ag}{nm:Str}{n:Nat}{D:XF}{f:XE}{fa:XA}{Z:En}{s s1 s2:N'}{k:Nat}{fs:List (Str×PV)}{vs:List PV}{o:Out PV}(h1:f Z s=.ok (.ref k) s1)(hg:s1.get k=Za (.obj C fs))(hv:uM fs nm=Zb)(h2:fa Z s1=.ok vs s2)(hn:vs.length+1=n)(h3:D (.ref k::vs) s2=o):xOM C nm n D f fa Z s=o:=by
 unfold xOM;rw[h1];simp[Out.bind,hg]
 simp_all
def LK(h1:fi Z s=.ok l s1)(hl:l.length<=100000)(h2:oH c e (nM ix Z) l s1=.ok vs s2):tH fi ix c e Z s=.ok (.ref s2.nx) (s2.add (.lst vs)):=by unfold tH;rw[h1];show(if l.length<=100000 then _ else _)=_;rw[Zc hl,h2];rfl
def sV(X:List Str)(w:Str->Rat):List PV:=X.map λx=>.tup [.str x,Ë (w x)]
def JQ(a)(g:Gd L N c)(S:ϋ L d z)(W:Wob a T k j L X d z)(hY:∀y∈Y,y∈X)(hl:Y.length<=1000):sK a [.ref k,LS Y,thV L] T=.ok (.ref T.nx) (T.add (.lst (sV Y (wv L d z)))):=by
 refine m8 ?_;unfold wl;have c1:=tw (s:=T) (cap:=[Za (thV L),Za (.ref k)]) (e:=Ö (F' (j' 0) (F' (V' 2 (xM a) (F' (xOM a.ZJ "top_by" 3 (qA a) (j' 2) (F' (j' 0) (F' (j' 1) J'))) (F' (Gh a.ZJ "bottom" (j' 2)) J'))) J'))) (λx=>.tup [.str x,Ë (wv L d z x)]) Y (λx hx=>by exact qT (mE `m (mE (mS (mE (PM `m W.ob rfl (mE `m (mE `m rfl)) rfl (IL a g S W (hY x hx))) (mE (EI `m W.ob rfl) rfl)) rfl (Jq a T S.d0 S.db)) rfl)))
 exact oh (LK (l:=Y.map .str) (s1:=T) (oy `m) (by rw[ac];lia) c1)
def Sol(L:List Ent)(t:Str->Rat)(w:Str->Rat):Prop:=∀x,w x=t x+nG ((U' L).map λl=>shr L l x*w l)
theorem Sol.uniq(g:Gd L N c)(ng:ώ L)(h:Sol L t w)(h':Sol L t w')(x):w x=w' x:=by
 have hs:=g.uniq ng g.õ (λx hx=>Ze.mp hx) λy _=>by
  have e:nG ((U' L).map λl=>shr L l y*(w l-w' l))=nG ((U' L).map λl=>shr L l y*w l+(-1)*(shr L l y*w' l)):=n9 λl _=>by grind
  rw[e,xt,rP];have a1:=h y;have a2:=h' y
  grind
 have e:nG ((U' L).map λl=>shr L l x*w l)=nG ((U' L).map λl=>shr L l x*w' l):=n9 λl hl=>by grind
 rw[h x,h' x,e]
def ϋ.ϔ(g:Gd L N c)(S:ϋ L d z)(hh:h∈U' L)(hk:k∈U' L):((tp L d z h k:Int):Rat)=((í (pl L h):Nat):Rat)*((z h k:Int):Rat):=by
 rw[S.eq h hh k hk];unfold tp;rw[iy,qB]
 congr 1
 .split<;>rfl
 .grind
def ϋ.Ái(g:Gd L N c)(S:ϋ L d z)(x)(hk:k∈U' L):((tp L d z x k:Int):Rat)=(if x=k then(d:Rat) else 0)+nG ((U' L).map λl=>shr L l x*((tp L d z l k:Int):Rat)):=by
 have e:nG ((U' L).map λl=>shr L l x*((tp L d z l k:Int):Rat))=nG ((U' L).map λl=>((pc (pl L l) x*z l k:Int):Rat)):=n9 λl hl=>by
  let⟨e,m,hz,f,ep,o,R,kc,sv,_⟩:=g.held (Ze.mp hl);rw[S.ϔ g hl hk,fg,R.ŵ,sv,cU]
  grind
 rw[e];unfold tp;rw[iy,qB];split<;>rfl
def Nt(hh:h∉U' L):qH L h=0:=by
 unfold qH;cases e:oA L h with
 |none=>rfl
 |some e'=>exact absurd (Ze.mpr (by unfold nK;rw[e];rfl)) hh
def ϋ.sol(g:Gd L N c)(S:ϋ L d z):Sol L (λx=>((qH L x:Int):Rat)) (wv L d z):=by
 intro x;have d0:((d:Int):Rat)≠0:=λq=>by have:=Rat.intCast_eq_zero_iff.mp q;have:=S.d0;lia
 have wd:∀y,wv L d z y*(d:Rat)=nG ((U' L).map λh=>((tp L d z y h:Int):Rat)*((qH L h:Int):Rat)):=λy=>by
  unfold wv tpb;rw[cB,qB]
  grind
 have e1:nG ((U' L).map λh=>((tp L d z x h:Int):Rat)*((qH L h:Int):Rat))=nG ((U' L).map λh=>(if x=h then(d:Rat)*((qH L h:Int):Rat) else 0)+nG ((U' L).map λl=>shr L l x*(((tp L d z l h:Int):Rat)*((qH L h:Int):Rat)))):=n9 λh hh=>by
  rw[S.Ái g x hh];have:nG ((U' L).map λl=>shr L l x*(((tp L d z l h:Int):Rat)*((qH L h:Int):Rat)))=nG ((U' L).map λl=>((qH L h:Int):Rat)*(shr L l x*((tp L d z l h:Int):Rat))):=n9 λl _=>by grind
  rw[this,rP];split<;>grind
 have e2:nG ((U' L).map λh=>if x=h then(d:Rat)*((qH L h:Int):Rat) else 0)=(d:Rat)*((qH L x:Int):Rat):=by
  by_cases hx:x∈U' L
  .rw[xr (g:=λh=>if x=h then(d:Rat)*((qH L h:Int):Rat) else 0) g.õ (W:=[x]) (by simp) (λy _ hy=>Zd λz=>hy (by rw[z];simp))];show(if x∈U' L then(if x=x then(d:Rat)*((qH L x:Int):Rat) else 0) else 0)+0=_;rw[Zc hx,Zc rfl,ii]
  .rw[CK λy hy=>Zd λq:x=y=>hx (by rw[q];exact hy),Nt hx]
   grind
 have e3:nG ((U' L).map λh=>nG ((U' L).map λl=>shr L l x*(((tp L d z l h:Int):Rat)*((qH L h:Int):Rat))))=(d:Rat)*nG ((U' L).map λl=>shr L l x*wv L d z l):=by
  rw[CM,<-rP];refine n9 λl _=>?_;rw[rP,<-wd l]
  grind
 have e4:=wd x;rw[e1,xt,e2,e3] at e4
 grind
def Á0{C:ag}{n:Nat}{D:XF}{fa:XA}{Z:En}{s s1 s2:N'}{vs:List PV}(h1:fa Z s=.ok vs s1)(hn:vs.length+1=n)(h2:D (.ref s1.nx::vs) (s1.add (.obj C []))=.ok .Zn s2):xMk C n D fa Z s=.ok (.ref s1.nx) s2:=by unfold xMk;rw[h1];simp[Out.bind,hn,h2]
def Og(a)(g:Gd L N c)(ng:ώ L)(P:Pp pp N)(hb:T.get nb=Za (.book pp L))(TK:nb<T.nx):∃d z j T',ϋ L d z/\sd a [.ref T.nx,.ref nb] (T.add (.obj a.ZJ []))=.ok .Zn T'/\Wob a T' T.nx j L (ZR pp++U' L) d z/\Gr T T':=by
 have WL:(T.add (.obj a.ZJ [])).get nb=Za (.book pp L):=by rw[nr,Zd `l];exact hb
 let⟨d,z,j,T',S,e,W,n1,n2,fr⟩:=No a g ng P WL (bK TK) (by rw[nr,Zc rfl]) (bv _) `l;have n1:T.nx+1<=T'.nx:=n1;refine⟨d,z,j,T',S,e,W,by lia,λi hi=>?_⟩;rw[fr i (bK hi) `l,nr,Zd `l]
def IJ(a:Y9)(g:Gd L N c)(ng:ώ L)(P:Pp pp N)(hb:T.get nb=Za (.book pp L))(TK:nb<T.nx):∃w T',rS a [.ref nb] T=.ok (.ref T'.nx) (T'.add (.lst (sV (U' L) w)))/\Sol L (λx=>((qH L x:Int):Rat)) w/\Gr T T':=by let⟨d,z,j,T',S,e,W,G⟩:=Og a g ng P hb TK;have YF:=(G.fr nb TK).trans hb;refine⟨wv L d z,T',m8 ?_,S.sol g,G⟩;refine oh (PM (Á0 (mE `m rfl) rfl e) W.ob rfl (mE ((uK `m YF rfl rfl).trans (show oI a [.ref nb] T'=.ok (LS (U' L)) T' by unfold oI oF;simp[YF])) (mE (mS (mE `m rfl) rfl (BN a g YF)) rfl)) rfl (JQ a g S W (λy hy=>aL _ hy) (by rw[ot];have:=g.l8;lia)))
def GH(hb:0<b)(ht:Bt k t)(hB:Bt m b):Bt k (aN t b).num/\Bt m ((aN t b).den:Int):=by have e:=z3 (t:=t) hb;have e1:=congrArg Prod.fst e;have e2:=congrArg Prod.snd e;simp only at e1 e2;rw[<-e1,<-e2];exact⟨ht.div,hB.div⟩
def MO(q:Rat):(0:Int)<q.den:=by have:=q.den_pos;omega
def B8(h:Bt k i)(g:Bt m j)(hk:k<=20000)(hm:m<=20000):qN i j:=.inl ⟨h.mono hk,g.mono hm⟩
def Á4:Zk (.tup [u,v]) (.int 0) s=.ok u s:=rfl
def Á3:Zk (.tup [u,v]) (.int 1) s=.ok v s:=rfl
def Ãu:Bt k 0:=b7 k
def NK(p q:Rat):aN (p.num*(q.den:Int)+q.num*(p.den:Int)) ((p.den:Int)*(q.den:Int))=p+q:=by have d1:=MO p;have d2:=MO q;rw[<-lw _ _ (by omega) (by omega),gF,gF]
def AT(a:Y9)(s:N')(p1:Bt 13000 p.num)(p2:Bt 4500 (p.den:Int))(q1:Bt 13000 q.num)(q2:Bt 4500 (q.den:Int))(u0 u3:Option PV):nj (Y4 3) (t4 a) (Ë q) [u0,Za (.int p.num),Za (.int (p.den:Int)),u3] s=.nx [u0,Za (.int (p+q).num),Za (.int ((p+q).den:Int)),Za (Ë q)] s:=by have pq:=br (MO p) (MO q);have m:=xX a s (p.num*q.den+q.num*p.den) (p.den*q.den) pq (p2.mul q2);rw[z3 pq,NK] at m;have b1:=B8 p1 q2 `d `d;have b2:=B8 q1 p2 `d `d;have b3:=B8 p2 q2 `d `d;exact Pi (mS (vs:=[.int (p.num*q.den+q.num*p.den),.int (p.den*q.den)]) (mE (xl (pP `m ((mT `m rfl).trans ix1) b1) (pP ((mT `m rfl).trans ix0) `m b2)) (mE (pP `m ((mT `m rfl).trans ix1) b3) rfl)) rfl m)
def Qq(a)(s)(p1:Bt 13000 p.num)(p2:Bt 4500 (p.den:Int))(q1:Bt 13000 q.num)(q2:Bt 4500 (q.den:Int)):rO a [.lst [Ë p,Ë q]] s=.ok (Ë (p+q)) s:=by
 apply m8;have z0:=kY p;have s1:=AT a s (p:=0) Ãu (bt1 (Zf rfl)) p1 p2 (Za (.lst [Ë p,Ë q])) Zb;rw[z0] at s1;have s2:=AT a s p1 p2 q1 q2 (Za (.lst [Ë p,Ë q])) (Za (Ë p));apply mP (Y':=[Za (.lst [Ë p,Ë q]),Za (.int (0:Rat).num),Za (.int ((0:Rat).den:Int)),Zb]) (Pi (qT (mE rfl (mE rfl rfl))));refine mP (sC (oy `m) (Y':=[Za (.lst [Ë p,Ë q]),Za (.int (p+q).num),Za (.int ((p+q).den:Int)),Za (Ë q)]) (s':=s) ?_) ?_
 .unfold nR;rw[s1];show nR _ [Ë q] _ s=_;unfold nR;rw[s2];rfl
 .rfl
def Gd.ÁG(g:Gd L N c)(hh:h∈U' L)(x):Bt 4030 (pc (pl L h) x):=by
 let⟨e,k,hz,f,ep,o,R,kc,sv,_⟩:=g.held (Ze.mp hh);let⟨p0,pb,pd⟩:=R.pieces;let⟨m,hm⟩:=pd x;have F:=R.fr x;have c4:=g.c40;have m0:0<=m:=by
  by_cases z:0<=m
  .exact z
  .have:=Int.mul_neg_of_pos_of_neg F.low.1 (show m<0 by omega);omega
 have pc0:pc (pl L h) x=(mU (pl L h) x).1*m:=by unfold pc;rw[hm,cL _ `g]
 have le:pc (pl L h) x<=((2^k:Nat):Int)*(í (pl L h):Int):=by rw[pc0,hm,<-bc];exact aS F.le m0
 have nn:=R.ÁH x;have b2:Bt (k+1) ((2^k:Nat):Int):=by
  unfold Bt;rw[jd,lh]
  grind
 have bb:Bt 4030 (((2^k:Nat):Int)*(í (pl L h):Int)):=(b2.mul pb).mono (by omega);unfold Bt at *;omega
def Qi(g:Gd L N c)(S:ϋ L d z)(x)(hh:h∈U' L):Bt 12030 (tp L d z x h):=by
 have l8:(U' L).length<=8:=by rw[ot];exact g.l8
 have h1:=zn ((U' L).map λl=>pc (pl L l) x*z l h) λy hy=>by let⟨l,hl,rfl⟩:=ar.mp hy;exact(g.ÁG hl x).mul (S.zb l hl h hh)
 rw[ac] at h1;refine Bt.mono (k:=12020+1) (Bt.add ?_ (h1.mono (by omega))) (Zf rfl);split
 .exact S.db.mono (Zf rfl)
 .exact b7 _
def ÂI(g:Gd L N c)(S:ϋ L d z)(x):Bt 12300 (wv L d z x).num/\Bt 4000 ((wv L d z x).den:Int):=by
 have l8:(U' L).length<=8:=by rw[ot];exact g.l8
 have h1:=zn (k:=12230) ((U' L).map λh=>tp L d z x h*qH L h) λy hy=>by let⟨h,hh,rfl⟩:=ar.mp hy;exact(Qi g S x hh).mul (g.thb h)
 rw[ac] at h1;exact GH S.d0 (h1.mono (by omega)) (S.dd.mono `d)
def Cr(h1:f Z s=.ok false s1)(h2:g Z s1=.ok b s2):xOr f g Z s=.ok b s2:=by unfold xOr;rw[h1];exact h2
def wa(h:f Z s=.ok b s1):Ĩ f Z s=.ok (!b) s1:=by unfold Ĩ;rw[h];rfl
def Eu(h1:f Z s=.ok (.bl true) s1)(h2:g Z s1=o):ı f g Z s=o:=by unfold ı;rw[h1];exact h2
def Ãw(h:f Z s=.ok (.tup [u,v,w]) s'):ě f (Ô 3 (Zp (Y4 i) (Zp (Y4 j) (Zp (Y4 k) Õ)))) Z s=.nx (((Z.set i (Za u)).set j (Za v)).set k (Za w)) s':=by unfold ě;rw[h];rfl
def dtR(q:Rat):lc:=.tuple [.int q.num,.int (q.den:Int)]
def OI(q):cR (dtR q) (dtR q)=true:=by unfold dtR;simp[cR,fM]
def KZ{s:N'}{v:PV}{x:Str}{S:List Str}(hd:Ú s v=Zb)(ht:∀l,v≠.tup l)(hl:ZH s v=Za (S.map .str)):zw (.str x) v s=.ok (.bl (!decide (x∈S))) s:=by
 show rc true _ _ _=_;unfold rc;rw[hd];cases v with
 |tup l=>exact absurd rfl (ht l)
 |_=>simp[toV,hl,ul,F5,yA]
structure Ls(T:N')(p nb:Nat)(pp:List Str)(L:List Ent)(Zj:List (Nat×Cell)):Prop where
 pu:Zz T p
 bk:T.get nb=Za (.book pp L)
 ne:p≠nb
 lp:p<T.nx
 lb:nb<T.nx
 zz:∀z∈Zj,T.get z.1=Za z.2/\z.1≠p/\z.1≠nb/\z.1<T.nx
def Ę.at_(P:Ę N c L M)(h:n∈L.map (·.nm)):∃e m k,oA L n=Za e/\m∈M/\qV (M.map ķ) (aq n)=Za (.lst [.ref m.cell,.tup [.int m.th,.int m.mr,.int m.ls]])/\ÀC N k e m:=by let⟨A,e,B,A',m,B',k1,k2,k3,e1,e2,rfl,e4,e5,e6,e7,_⟩:=P.cut (P.names▸h);refine⟨e,m,k2,?_,by rw[e2];simp,by rw[e2];exact Mx e4,e6⟩;rw[e1,<-e6.nm];exact xD (by rw[e5.names,e6.nm];exact e4)
def İ.ho(B:İ s t p nb nd N c pp L M)(WN:Wds N)(hn:∀n∈L.map (·.nm),n∈N)(hl:N.length<64):Ho L N:=by refine⟨λn e fe=>?_,WN.sm,hl,λn h=>hn n ((qD _ _).mp h)⟩;have hn:=(qD _ _).mp (by unfold nK;rw[fe];rfl);let⟨e',m,k,f,hm,_,R⟩:=B.w.pr.at_ hn;rw[fe] at f;cases f;have:=R.hm.len.symm;have l2:=M9 R.hm.nd R.ow;rw[ac] at l2;exact⟨by lia,λx hx=>R.ow x ((R.hm.mem x).mpr hx)⟩
def İ.gd(B:İ s t p nb nd (pp++hs) c pp L M)(WN:Wds (pp++hs))(hL:L.map (·.nm)=hs)(hp:pp.length<=6)(hh:hs.length<=8)(hc:c<=40):Gd L (pp++hs) c/\Pp pp (pp++hs):=by
 have Nl:(pp++hs).length<64:=by rw[aY];lia
 refine⟨⟨B.ho WN (λn hn=>aL _ (hL▸hn)) Nl,by rw[hL];exact(bZ.mp WN.nd).2.1,B.w.pr.cts,λe he=>(B.w.pr.tb e he).mono (Zf rfl),?_,by lia⟩,λx hx=>cN _ hx,by lia⟩
 grind
theorem yo:∀{l:List (Nat×Cell)},qK l n=Za c->pT n c l=l
 |(k,d)::r,h=>by
  by_cases e:k=n
  .subst e;have h:(if k=k then Za d else qK r k)=Za c:=h;show(if k=k then(k,c)::r else _)=(k,d)::r
   grind
  .have h:(if k=n then Za d else qK r n)=Za c:=h;rw[Zd e] at h;show(if k=n then(n,c)::r else(k,d)::pT n c r)=_;rw[Zd e,yo h]
theorem AW:∀{l:List (Nat×Cell)},pT n c (pT n d l)=pT n c l
 |[]=>rfl
 |(k,e)::r=>by
  show pT n c (if k=n then(n,d)::r else(k,e)::pT n d r)=(if k=n then(n,c)::r else(k,e)::pT n c r);by_cases h:k=n
  .rw[Zc h,Zc h];show(if n=n then(n,c)::r else _)=_;rw[Zc rfl]
  .rw[Zd h,Zd h];show(if k=n then _ else(k,e)::pT n c (pT n d r))=_;rw[Zd h,AW]
def Ko{T:N'}{n:Nat}{c d:Cell}(h:T.get n=Za c):(T.set n d).set n c=T:=by let⟨x,l⟩:=T;show N'.mk x (pT n c (pT n d l))=_;rw[AW,yo h]
def LJ{g:XE}{ix:List Nat}{c:XT}{e:XE}{Z:En}{T:N'}{n:Nat}{l:List (Key×PV)}{vs:List PV}(h1:g Z T=.ok (.ref n) T)(hg:T.get n=Za (.Zv l))(hl:l.length<=100000)(h2:oH c e (nM ix Z) (l.map λkv=>wG kv.1) (T.set n (.Ì l))=.ok vs (T.set n (.Ì l))):w4 g ix c e Z T=.ok (.lst vs) T:=by
 unfold w4;simp[h1,hg];rw[Zc hl,h2];simp[Out.bind,thw,nZ hg,Ko hg]
structure Mz(s:N')(nd:Nat)(M:List Md)(L:List Ent)(N:List Str)(c:Nat):Prop where
 d:Ú s (.ref nd)=Za (M.map ķ)
 l:ZH s (.ref nd)=Zb
 sh:∀m∈M,s.get m.cell=Za (.Zv (hP m.hl))
 pr:Ę N c L M
theorem Mz.at_(Zj:Mz T nd M L N c)(h:nK L n=true):∃e m k,oA L n=Za e/\m∈M/\Zk (.ref nd) (.str n) T=.ok (.lst [.ref m.cell,.tup [.int m.th,.int m.mr,.int m.ls]]) T/\T.get m.cell=Za (.Zv (hP m.hl))/\ÀC N k e m:=by let⟨e,m,k,f,hm,v,R⟩:=Zj.pr.at_ ((qD _ _).mp h);exact⟨e,m,k,f,hm,by simp[Zk,Zj.d,Zj.l,ó,v],Zj.sh m hm,R⟩
def RW:Zk (.lst [u,v]) (.int 0) s=.ok u s:=by simp[Zk,ZH,ü,Ϥ]
def Mz.ins(Zj:Mz T nd M L N c)(H:Ho L N){G}{x}(hx:nK L x=true) :
  ZI (x2 (w4 (x2 (x2 (j' 2) (j' 0) Zk) (xC (.int 0)) Zk) [1] (ZI (x2 (j' 0) (j' 1) zw)) (j' 0)) (ę J') Ĕ) [Za (.str x),Za (LS G),Za (.ref nd)] T=.ok (È L G x) T:=by
 let⟨e,m,k,f,hm,i1,g1,R⟩:=Zj.at_ hx;have hl:=H.le;have ml:m.hl.length<=N.length:=by
  have:=M9 R.hm.nd R.ow
  simp_all
 have cp:=qG (s:=T.set m.cell (.Ì (hP m.hl))) (cap:=[Za (LS G)]) (c:=ZI (x2 (j' 0) (j' 1) zw)) (e:=j' 0) (λq=>match q with|.str n=>!decide (n∈G)|_=>false) id ((m.hl.map (·.1)).map .str) (λq hq=>by let⟨n,hn,rfl⟩:=ar.mp hq;exact oa ((mT `m `m).trans (KZ rfl `g rfl))) (λq hq _=>rfl)
 rw[iM,dX] at cp;have hk:((hP m.hl).map λkv=>wG kv.1)=(m.hl.map (·.1)).map .str:=by unfold hP;rw[aH,aH];rfl
 have so:=λy hy=>wA (H.sm y (R.ow y hy));have ce:=LJ (g:=x2 (x2 (j' 2) (j' 0) Zk) (xC (.int 0)) Zk) (ix:=[1]) (Z:=[Za (.str x),Za (LS G),Za (.ref nd)]) ((mT ((mT `m `m).trans i1) rfl).trans RW) g1 (by rw[<-ac,hk,ac,ac];lia) (by rw[hk];exact cp);refine oa ((mT ce (xf rfl)).trans ((J4 (V:=[]) (λy hy=>so y (aU.mp hy).1) (λy hy=>nomatch hy)).trans ?_))
 congr 2
 rw[cj,decide_eq_true_iff,ô];have ow:∀y,y∈own L x↔y∈m.hl.map (·.1):=λy=>by unfold own;rw[f];rw[(mW _).mem_iff];exact(R.hm.mem y).symm
 simp_all
def Mz.comp(Zj:Mz T nd M L N c)(H:Ho L N)(hG:∀h∈G,nK L h=true)(hl:G.length<=100)(u2) :
  Y8 2 (pW (ZL (j' 1)) [1,0] (ZI (x2 (w4 (x2 (x2 (j' 2) (j' 0) Zk) (xC (.int 0)) Zk) [1] (ZI (x2 (j' 0) (j' 1) zw)) (j' 0)) (ę J') Ĕ)) (j' 0)) [Za (.ref nd),Za (LS G),u2] T=.nx [Za (.ref nd),Za (LS G),Za (LS (G.filter (È L G)))] T:=by
 have c1:=qG (e:=j' 0) (λq=>match q with|.str x=>È L G x|_=>false) (λq=>q) (G.map .str) (λq hq=>by let⟨x,hx,rfl⟩:=ar.mp hq;exact Zj.ins H (hG x hx)) (λq hq _=>mD rfl)
 rw[List.map_id',dX] at c1;exact mY (qk (oy `m) (by rw[ac];lia) c1)
def Mz.walk(Zj:Mz T nd M L N c)(a)(H:Ho L N):∀(k:Nat)(G:List Str),G.length<=k->k<=100->(∀h∈G,nK L h=true)->∃G',m7 (ZI (x2 (j' 2) (j' 1) Ş)) (nJ a) (k+1) [Za (.ref nd),Za (LS G),Za (LS (G.filter (È L G)))] T=.nx [Za (.ref nd),Za (LS G'),Za (LS G')] T/\WG L G G':=by
 intro k;induction k with
 |zero =>
  intro G hk _ hG;have:G=[]:=fm.mp `l;subst this;refine⟨[],?_,⟨eT _,(λ_ z=>nomatch z),λV hV _ h hh=>hV h hh⟩⟩;unfold m7;rw[oa ((mT `m `m).trans (Ct (U:=[]) (V:=[]) (λy hy=>nomatch hy) (λy hy=>nomatch hy)))];rfl
 |succ k ih =>
  intro G hk hk1 hG;have so:=λx hx=>wA (H.sm x (H.hn x (hG x hx)));have ne:=Ct (s:=T) (U:=G.filter (È L G)) (λx hx=>so x (aU.mp hx).1) so;by_cases z:G.filter (È L G)=G
  .rw[Zg z] at ne;refine⟨G,?_,⟨eT _,λh hh=>?_,λV hV _ h hh=>hV h hh⟩⟩
   .unfold m7;rw[oa ((mT `m `m).trans ne)];show SO.nx _ _=_;rw[z]
   .rw[<-z] at hh;exact ô.mp (aU.mp hh).2
  .rw[Zh z] at ne;have lt:(G.filter (È L G)).length<G.length:=by
    have:=cG (È L G) G;by_cases q:(G.filter (È L G)).length=G.length
    .simp_all
    .lia
   have hF:∀h∈G.filter (È L G),nK L h=true:=λh hh=>hG h (aU.mp hh).1;let⟨G',e,W⟩:=ih (G.filter (È L G)) `l `l hF;refine⟨G',?_,⟨W.sl.trans eS,W.cl,λV hV cV h hh=>W.mx V (λy hy=>aU.mpr ⟨hV y hy,ô.mpr λx hx=>hV x (cV y hy x hx)⟩) cV h hh⟩⟩;have bd:nJ a [Za (.ref nd),Za (LS G),Za (LS (G.filter (È L G)))] T=.nx [Za (.ref nd),Za (LS (G.filter (È L G))),Za (LS ((G.filter (È L G)).filter (È L (G.filter (È L G)))))] T:=by exact mP ((xA (oa ((mT `m rfl).trans rfl))).trans (mY `m)) (Zj.comp H hF `l _)
   rw[m7,oa ((mT `m `m).trans ne)];show(match nJ a [Za (.ref nd),Za (LS G),Za (LS (G.filter (È L G)))] T with
    |.nx Y' s'=>m7 (ZI (x2 (j' 2) (j' 1) Ş)) (nJ a) (k+1) Y' s'
    |.ct Y' s'=>m7 (ZI (x2 (j' 2) (j' 1) Ş)) (nJ a) (k+1) Y' s'
    |.bk Y' s'=>.nx Y' s'
    |o=>o)=_
   rw[bd];exact e
def Q7(hU:∀x∈U,ba x=true):Ş .Zn (LS U) s=.ok (.bl true) s:=by have e1:=x8 s 10 hU;show Î true _ _ _=_;unfold Î;rw[e1];rfl
def Lh(a)(Zj:Mz T nd M L N c)(hd:T.get nd=Za (.Zv (M.map ķ)))(H:Ho L N)(hl:L.length<=8):∃G,ra a [.ref nd] T=.ok (LS G) T/\WG L (U' L) G:=by
 have nm:=Zj.pr.names;have hs:∀h∈U' L,nK L h=true:=λh hh=>Ze.mp hh;let⟨G,e,W⟩:=Zj.walk a H (U' L).length (U' L) (ak _) (by rw[ot];lia) hs;refine⟨G,m8 ?_,W⟩;refine mP (mY (v:=LS (U' L)) (s':=T) ((AM (mE `m rfl)).trans ?_)) ?_
 .rw[um hd (Eh M) `g,<-nm]
 .apply mP (mY rfl);refine mP (Y':=[Za (.ref nd),Za (LS G),Za (LS G)]) (Kg (n:=(U' L).length+1+1) ?_) (oh `m);rw[m7,oa ((mT `m `m).trans (Q7 λx hx=>wA (H.sm x (H.hn x (hs x hx)))))];have bd:nJ a [Za (.ref nd),Za (LS (U' L)),Za .Zn] T=.nx [Za (.ref nd),Za (LS (U' L)),Za (LS ((U' L).filter (È L (U' L))))] T:=by exact mP ((qW (oa ((mT `m rfl).trans rfl))).trans rfl) (Zj.comp H hs (by rw[ot];lia) _)
  show(match nJ a [Za (.ref nd),Za (LS (U' L)),Za .Zn] T with
   |.nx Y' s'=>m7 (ZI (x2 (j' 2) (j' 1) Ş)) (nJ a) ((U' L).length+1) Y' s'
   |.ct Y' s'=>m7 (ZI (x2 (j' 2) (j' 1) Ş)) (nJ a) ((U' L).length+1) Y' s'
   |.bk Y' s'=>.nx Y' s'
   |o=>o)=_
  simp_all
def yG(h1:f Z s=.ok (.ref n) s)(hg:s.get n=Za (.lst l'))(h2:fa Z s=.ok [w] s2)(Uc:s2.get n=Za (.lst l))(hl:l.length<100000):Á f fa Z s=.ok .Zn (s2.set n (.lst (l++[w]))):=by
 unfold Á;rw[h1];simp[Out.bind]
 simp_all
def Iv(a b d)(hd:0<d):aN a d+aN b d=aN (a+b) d:=by
 have h:(d:Rat)≠0:=λq=>by
  simp_all
 rw[cB,cB,cB,iy]
 grind
theorem Fo(a)(s)(d0:0<d)(db:Bt 4000 d)(u0):∀(ns:List Int)(j:Nat)(n0:Int)(u3:Option PV),Bt (12500+j) n0->j+ns.length<=100->(∀n∈ns,Bt 12500 n) ->
  ∃u,nR (nj (Y4 3) (t4 a)) (ns.map λn=>Ë (aN n d)) [u0,Za (.int (aN n0 d).num),Za (.int ((aN n0 d).den:Int)),u3] s=.nx [u0,Za (.int (aN (n0+ns.sum) d).num),Za (.int ((aN (n0+ns.sum) d).den:Int)),u] s
 |[],j,n0,u3,_,_,_=>⟨u3,by rw[List.sum_nil,Int.add_zero];rfl⟩
 |n::ns,j,n0,u3,h0,hj,hn=>by
  rw[bu] at hj;have Yj:=hn n al;let⟨p1,p2⟩:=GH d0 h0 db;let⟨q1,q2⟩:=GH d0 Yj db;have st:=AT a s (p1.mono `l) (p2.mono `d) (q1.mono (Zf rfl)) (q2.mono `d) u0 u3;rw[Iv n0 n d d0] at st;let⟨u,e⟩:=Fo a s d0 db u0 ns (j+1) (n0+n) (Za (Ë (aN n d))) (by have:=h0.add (Yj.mono `l);exact this.mono `l) `l λm hm=>hn m (af _ hm)
  refine⟨u,?_⟩;rw[am,fY,<-Int.add_assoc];unfold nR
  simp_all
def Qp(a:Y9)(s:N'){d:Int}(d0:0<d)(db:Bt 4000 d){ns:List Int}(hl:ns.length<=100)(hn:∀n∈ns,Bt 12500 n):rO a [.lst (ns.map λn=>Ë (aN n d))] s=.ok (Ë (aN ns.sum d)) s:=by apply m8;have z:=iu d;let⟨u,e⟩:=Fo a s d0 db (Za (.lst (ns.map λn=>Ë (aN n d)))) ns 0 0 Zb (b7 _) `l hn;rw[z,Int.zero_add] at e;apply mP (Pi (qT (mE rfl (mE rfl rfl))));apply mP (sC (oy `m) e);exact oh (qT (mE `m (mE `m rfl)))
def Kj(a)(s)(q0:0<q.2)(qt:Bt 9000 q.1)(qb:Bt 4400 q.2)(h1:Bt 13000 w.num)(h2:Bt 4500 (w.den:Int)):uj a [ß q,Ë w] s=.ok (Ë (rv q*w)) s:=by
 have pq:=br q0 (MO w);have m:=xX a s (q.1*w.num) (q.2*w.den) pq ((qb.mul h2).mono (Zf rfl));have e:aN (q.1*w.num) (q.2*w.den)=rv q*w:=by unfold rv;rw[<-Rat.divInt_mul_divInt,gF]
 rw[z3 pq,e] at m;have b1:=B8 qt h1 (Zf rfl) (Zf rfl);have b2:=B8 qb h2 (Zf rfl) (Zf rfl);apply m8;exact oh (mS (vs:=[.int (q.1*w.num),.int (q.2*w.den)]) (mE (pP ((mT `m rfl).trans Á4) ((mT `m rfl).trans ix0) b1) (mE (pP ((mT `m rfl).trans Á3) ((mT `m rfl).trans ix1) b2) rfl)) rfl m)
structure Wt(L:List Ent)(d:Int)(w:Str->Rat)(y:Str->Int):Prop where
 d0:0<d
 dd:Bt 4000 d
 te:∀h∈U' L,∀x,shr L h x*w h=aN (pc (pl L h) x*y h) d
 tb:∀h∈U' L,∀x,Bt 12500 (pc (pl L h) x*y h)
 wb:∀h∈U' L,Bt 12300 (w h).num/\Bt 4000 ((w h).den:Int)
def zt(L:List Ent)(z:Str->Str->Int)(h:Str):Int:=((U' L).map λk=>z h k*qH L k).sum
def ϋ.wt(g:Gd L N c)(S:ϋ L d z):Wt L d (wv L d z) (zt L z):=by
 refine⟨S.d0,S.dd.mono (Zf rfl),λh hh x=>?_,λh hh x=>?_,λh _=>ÂI g S h⟩
 .have e:((tpb L d z h:Int):Rat)=((í (pl L h):Nat):Rat)*((zt L z h:Int):Rat):=by
   unfold tpb zt;rw[qB,qB,<-rP];exact n9 λk hk=>by rw[fg,fg,S.ϔ g hh hk];grind
  let⟨e',m,hz,f,ep,o,R,kc,sv,_⟩:=g.held (Ze.mp hh);have t:shr L h x*((tpb L d z h:Int):Rat)=((pc (pl L h) x*zt L z h:Int):Rat):=by
   rw[e,fg,R.ŵ,sv,cU]
   grind
  unfold wv;rw[cB,cB,<-t]
  grind
 .have l8:(U' L).length<=8:=by rw[ot];exact g.l8
  have h1:=zn ((U' L).map λk=>z h k*qH L k) λy hy=>by let⟨k,hk,rfl⟩:=ar.mp hy;exact(S.zb h hh k hk).mul (g.thb k)
  rw[ac] at h1;exact((g.ÁG hh x).mul h1).mono `l
def Pb(h:s'.get n=s.get n):Ú s' (.ref n)=Ú s (.ref n):=by show(match s'.get n with|some (.Zv l)=>Za l|some (.Ì l)=>Za l|_=>Zb)=_;rw[h];rfl
def Oh(h:s'.get n=s.get n):ZH s' (.ref n)=ZH s (.ref n):=by show(match s'.get n with|some (.lst l)=>Za l|_=>Zb)=_;rw[h];rfl
def Mz.of(Zj:Mz s nd M L N c)(h1:s'.get nd=s.get nd)(h2:∀m∈M,s'.get m.cell=s.get m.cell):Mz s' nd M L N c :=
 ⟨(Pb h1).trans Zj.d,(Oh h1).trans Zj.l,λm hm=>(h2 m hm).trans (Zj.sh m hm),Zj.pr⟩
theorem Mz.set(Zj:Mz s nd M L N c)(h1:nd≠j)(h2:∀m∈M,m.cell≠j)(q):Mz (s.set j q) nd M L N c:=Zj.of (mM _ _ h1) λm hm=>mM _ _ (h2 m hm)
def By(vb:PV)(L:List Ent)(w:Str->Rat):Prop:=∀h∈U' L,∀s,Zk vb (.str h) s=.ok (Ë (w h)) s
def Mz.share(Zj:Mz s nd M L N c)(g:Gd L N c)(hh:h∈U' L)(x):∃k' y,Zk (.ref nd) (.str h) s=.ok (.lst [.ref k',y]) s/\fIn (.str x) (.ref k') s=.ok (.bl (decide (x∈own L h))) s /\
  (x∈own L h->Zk (.ref k') (.str x) s=.ok (ß (mU (pl L h) x)) s):=by
 let⟨e,m,kk,f,hm,i1,g1,R⟩:=Zj.at_ (Ze.mp hh);have ep:pl L h=e.held:=by unfold pl;rw[f]
 have ow:x∈own L h↔x∈m.hl.map (·.1):=by unfold own;rw[f];rw[(mW _).mem_iff];exact(R.hm.mem x).symm
 refine⟨m.cell,_,i1,?_,λhx=>?_⟩
 .have e1:(qV (hP m.hl) (aq x)).isSome=decide (x∈own L h):=by
   by_cases q:x∈m.hl.map (·.1)
   .rw[Cc _ _ q,Zg (ow.mpr q)];rfl
   .rw[Zh λz=>q (ow.mp z),yj]
    .rfl
    .rw[Ej]
     grind
  have dc:Ú s (.ref m.cell)=Za (hP m.hl):=by show(match s.get m.cell with|some (.Zv l)=>Za l|some (.Ì l)=>Za l|_=>Zb)=_;rw[g1]
  show rc false _ _ _=_;unfold rc;rw[dc];show Out.ok (PV.bl (F5 false (qV (hP m.hl) (aq x)).isSome)) _=_;rw[e1];rfl
 .rw[ep,<-R.hm.q];exact Hw g1 (Cc _ _ (ow.mp hx))
def Gd.qb(g:Gd L N c)(hh:h∈U' L)(x):0<(mU (pl L h) x).2/\Bt 9000 (mU (pl L h) x).1/\Bt 4400 (mU (pl L h) x).2:=by let⟨e,kk,hz,f,ep,o,R,kc,sv,_⟩:=g.held (Ze.mp hh);let⟨p0,pb,pd⟩:=R.pieces;have c4:=g.c40;have F:=R.fr x;refine⟨F.low.1,F.top.mono `l,?_⟩;have:=Int.le_of_dvd `l (pd x);have l0:=F.low.1;have pb:Bt 4400 (í (pl L h):Int):=pb.mono `l;unfold Bt at *;lia
theorem yB(a)(g:Gd L N c)(W:Wt L d w y)(Zj:Mz s nd M L N c)(Y:By vb L w)(hj:s.get j=Za q0)(j1:nd≠j)(j2:∀m∈M,m.cell≠j)(x):∀(hs:List Str)(ns:List Int)(u4:Option PV),(∀h∈hs,h∈U' L)->ns.length+hs.length<=100 ->
  ∃u,nR (nj (Y4 4) (oV a)) (hs.map .str) [Za (.ref nd),Za (.str x),Za vb,Za (.ref j),u4] (s.set j (.lst (ns.map λn=>Ë (aN n d)))) =
   .nx [Za (.ref nd),Za (.str x),Za vb,Za (.ref j),u] (s.set j (.lst ((ns++(hs.filter λh=>decide (x∈own L h)).map λh=>pc (pl L h) x*y h).map λn=>Ë (aN n d))))
 |[],ns,u4,_,_=>⟨u4,by simp only[List.filter_nil,cX,bQ];rfl⟩
 |h::hs,ns,u4,hh,hl=>by
  rw[bu] at hl;have VN:=hh h al;have Z1:=Zj.set j1 j2 (.lst (ns.map λn=>Ë (aN n d)));let⟨k',y0,i1,i2,i3⟩:=Z1.share g VN x;have in1:x2 (j' 1) (x2 (x2 (j' 0) (j' 4) Zk) (xC (.int 0)) Zk) fIn [Za (.ref nd),Za (.str x),Za vb,Za (.ref j),Za (.str h)] (s.set j (.lst (ns.map λn=>Ë (aN n d))))=.ok (.bl (decide (x∈own L h))) (s.set j (.lst (ns.map λn=>Ë (aN n d)))) :=
   (mT `m ((mT ((mT `m `m).trans i1) rfl).trans RW)).trans i2
  rw[am];unfold nR;rw[pB];by_cases hx:x∈own L h
  .rw[Zg hx] at in1;let⟨w1,w2⟩:=W.wb h VN;let⟨b0,b1,b2⟩:=g.qb VN x;let⟨e,m,hz,f,ep,o,R,kc,sv,_⟩:=g.held (Ze.mp VN);have tm:=Kj a (s.set j (.lst (ns.map λn=>Ë (aN n d)))) b0 b1 b2 (w1.mono (Zf rfl)) (w2.mono (Zf rfl));rw[<-sv x,W.te h VN x] at tm;have bd:oV a [Za (.ref nd),Za (.str x),Za vb,Za (.ref j),Za (.str h)] (s.set j (.lst (ns.map λn=>Ë (aN n d))))=.nx [Za (.ref nd),Za (.str x),Za vb,Za (.ref j),Za (.str h)] (s.set j (.lst ((ns++[pc (pl L h) x*y h]).map λn=>Ë (aN n d)))):=by
    unfold oV;rw[xA (oa in1)];have R5:(ns.map λn=>Ë (aN n d)).length<100000:=by rw[ac];lia
    apply(zk (yG `m (nZ hj) (mE (mS (mE ((mT ((mT ((mT `m `m).trans i1) rfl).trans RW) `m).trans (i3 hx)) (mE ((mT `m `m).trans (Y h VN _)) rfl)) rfl tm) rfl) (nZ hj) R5)).trans
    congr 1
    show N'.mk s.nx (pT j _ (pT j _ s.cs))=_;rw[AW,aD];rfl
   have e0:([Za (.ref nd),Za (.str x),Za vb,Za (.ref j),u4]:En).set 4 (Za (.str h))=[Za (.ref nd),Za (.str x),Za vb,Za (.ref j),Za (.str h)]:=rfl;rw[e0,bd];let⟨u,e⟩:=yB a g W Zj Y hj j1 j2 x hs (ns++[pc (pl L h) x*y h]) (Za (.str h)) (λv hv=>hh v (af _ hv)) (by rw[aY,lr];lia)
   grind
  .rw[Zh hx] at in1;have bd:oV a [Za (.ref nd),Za (.str x),Za vb,Za (.ref j),Za (.str h)] (s.set j (.lst (ns.map λn=>Ë (aN n d))))=.nx [Za (.ref nd),Za (.str x),Za vb,Za (.ref j),Za (.str h)] (s.set j (.lst (ns.map λn=>Ë (aN n d)))):=by unfold oV;rw[qW (oa in1)];rfl
   have e0:([Za (.ref nd),Za (.str x),Za vb,Za (.ref j),u4]:En).set 4 (Za (.str h))=[Za (.ref nd),Za (.str x),Za vb,Za (.ref j),Za (.str h)]:=rfl;rw[e0,bd];let⟨u,e⟩:=yB a g W Zj Y hj j1 j2 x hs ns (Za (.str h)) (λv hv=>hh v (af _ hv)) `l
   grind
theorem Iu(hd:0<d):∀ns:List Int,aN ns.sum d=nG (ns.map λn=>aN n d)
 |[]=>iu d
 |n::ns=>by rw[fY,am,om,<-Iu hd ns,Iv _ _ _ hd]
def OC(h0:Z[i]?=Za (Za (.ref n)))(h1:s.get n=Za (.Ì l))(h2:nR (nj y body) (l.map λkv=>wG kv.1) Z s=.nx Y' s'):F9 i y body Z s=.nx Y' s':=by unfold F9;rw[h0];show(match s.get n with|some (.Ì l)=>(nR (nj y body) (l.map λkv:Key×PV=>wG kv.1) Z s).ê|_=>.bad)=_;rw[h1];show(nR (nj y body) (l.map λkv=>wG kv.1) Z s).ê=_;rw[h2];rfl
def C1(M:List Md):((M.map ķ).map λkv:Key×PV=>wG kv.1)=(M.map (·.nm)).map .str:=by rw[aH,aH];rfl
def hel(L:List Ent)(w:Str->Rat)(x:Str):Rat:=nG ((U' L).map λl=>shr L l x*w l)
def MD(g:Gd L N c)(W:Wt L d w y)(P:Ę N c L M)(x):aN ((((M.map (·.nm)).filter λh=>decide (x∈own L h)).map λh=>pc (pl L h) x*y h).sum) d=hel L w x:=by have hm:∀h∈M.map (·.nm),h∈U' L:=λh hh=>(mW _).mem_iff.mpr (P.names▸hh);rw[Iu W.d0,aH];have e1:nG (((M.map (·.nm)).filter λh=>decide (x∈own L h)).map ((λn=>aN n d)∘λh=>pc (pl L h) x*y h))=nG (((M.map (·.nm)).filter λh=>decide (x∈own L h)).map λh=>shr L h x*w h):=n9 λh hh=>(W.te h (hm h (aU.mp hh).1) x).symm;rw[e1,rT λh _ hf=>by rw[g.zero (of_decide_eq_false hf),Rat.zero_mul]];refine CL ((mB _ ?_).symm);rw[<-P.names];exact mW _
def Lg(a:Y9)(g:Gd L N c)(W:Wt L d w y)(Zj:Mz s nd M L N c)(hd:s.get nd=Za (.Ì (M.map ķ)))(Y:By vb L w)(j1:nd<s.nx)(j2:∀m∈M,m.cell<s.nx)(x:Str) :
  ∃s',vv a [.ref nd,.str x,vb] s=.ok (Ë (hel L w x)) s'/\Gr s s':=by
 have hm:∀h∈M.map (·.nm),h∈U' L:=λh hh=>(mW _).mem_iff.mpr (Zj.pr.names▸hh);have l8:=g.l8;have ml:(M.map (·.nm)).length=L.length:=by rw[<-Zj.pr.names,ac]
 have gn:∀i,i<s.nx->(s.add (.lst [])).get i=s.get i:=λi hi=>by rw[nr,Zd `l]
 have gj:(s.add (.lst [])).get s.nx=Za (.lst []):=by rw[nr,Zc rfl]
 have Z1:=Zj.of (gn nd j1) λm hm=>gn _ (j2 m hm);let⟨u,lp⟩:=yB a g W Z1 Y gj `l (λm hm=>by have:=j2 m hm;lia) x (M.map (·.nm)) [] Zb hm (by rw[ml];show 0+_<=_;lia);rw[cX,fb] at lp;have e0:(s.add (.lst [])).set s.nx (.lst [])=s.add (.lst []):=by show N'.mk _ (pT s.nx _ _)=_;rw[yo gj]
 rw[e0] at lp;generalize TZ:((M.map (·.nm)).filter λh=>decide (x∈own L h)).map (λh=>pc (pl L h) x*y h)=ns at lp;have he:=MD g W Zj.pr x;rw[TZ] at he;have hn:∀n∈ns,Bt 12500 n:=λn Tk=>by rw[<-TZ] at Tk;let⟨h,hh,rfl⟩:=ar.mp Tk;exact W.tb h (hm h (aU.mp hh).1) x
 have hl:ns.length<=100:=by
  grind
 have sm:=Qp a (((s.add (.lst [])).set s.nx (.lst (ns.map λn=>Ë (aN n d)))).del s.nx) W.d0 W.dd hl hn;rw[he] at sm;refine⟨((s.add (.lst [])).set s.nx (.lst (ns.map λn=>Ë (aN n d)))).del s.nx,m8 ?_,⟨by show s.nx<=s.nx+1;lia,λi hi=>?_⟩⟩
 .unfold yR;apply mP (mY rfl);refine mP (OC rfl ((gn nd j1).trans hd) (by rw[C1];exact lp)) ?_;refine oh (mS (mE ?_ rfl) rfl sm);unfold ϓ;rw[mD rfl];show ġ (.ref s.nx) _=_;unfold ġ;simp[nZ gj]
 .have:(((s.add (.lst [])).set s.nx (.lst (ns.map λn=>Ë (aN n d)))).del s.nx).get i=((s.add (.lst [])).set s.nx (.lst (ns.map λn=>Ë (aN n d)))).get i:=vh `l;rw[this,mM _ _ `l,gn i hi]
def Ra:Ş (Ë q) (Ë q) s=.ok (.bl false) s:=by show Out.ok (PV.bl !(cR (dtR q) (dtR q))) s=_;rw[OI];rfl
def CA(a)(s)(i):qY a [.int i] s=.ok (.bl true) s:=rfl
def OB(a)(s)(q):pK a [Ë q] s=.ok (.bl true) s:=by
 have dv:=At a s q.num q.den;have g1:(aI q.num q.den:Int)=1:=by
  have:=q.reduced;unfold aI
  simp_all
 rw[g1] at dv;have d0:=MO q;have c2:V' 2 (oO a) (F' (x2 (j' 0) (xC (.int 0)) Zk) (F' (x2 (j' 0) (xC (.int 1)) Zk) J')) [Za (Ë q)] s=.ok (.int 1) s:=mS (vs:=[.int q.num,.int q.den]) (mE ((mT `m rfl).trans ix0) (mE ((mT `m rfl).trans ix1) rfl)) rfl dv;have e2:=(mT (g:=xC (.int 1)) (F:=Ĕ) c2 rfl).trans rfl;apply m8;apply mP ((qW (Cr (wa (oa (b:=true) rfl)) (Cr (oa rfl) (Cr (wa (oa (mS (mE ((mT `m rfl).trans ix0) rfl) rfl (CA a s _)))) (wa (oa (mS (mE ((mT `m rfl).trans ix1) rfl) rfl (CA a s _)))))))).trans rfl);refine oh (Eu ((mT ((mT `m rfl).trans ix1) rfl).trans ?_) e2);show Out.ok (PV.bl (decide ((q.den:Int)>0))) s=_
 simp_all
def Bg(h:g (vs.map Za++aQ (N-vs.length) Zb) s=.ex c s'):à N g vs s=.ex c s':=by unfold à;rw[h]
def ÁZ{C:ag}{n:Nat}{D:XF}{fa:XA}{Z:En}{s s1 s2:N'}{vs:List PV}{c:Xc}(h1:fa Z s=.ok vs s1)(hn:vs.length+1=n)(h2:D (.ref s1.nx::vs) (s1.add (.obj C []))=.ex c s2):xMk C n D fa Z s=.ex c s2:=by unfold xMk;rw[h1];show(if vs.length+1=n then _ else _)=_;rw[Zc hn,h2];rfl
def ÁK{C:ag}{nm:Str}{n:Nat}{D:XF}{f:XE}{fa:XA}{Z:En}{s s1:N'}{c:Xc}(h1:f Z s=.ex c s1):xOM C nm n D f fa Z s=.ex c s1:=by unfold xOM;rw[h1];rfl
def Qz(h:f Z s=.ex c s'):ZE f Z s=.ex c s':=by unfold ZE;rw[h];rfl
def Áx(h:f Z s=.ex c s'):Y3 f g Z s=.ex c s':=by unfold Y3;rw[h]
def Âu(h:f Z s=.ex c s'):Ť f Z s=.ex c s':=by unfold Ť;rw[h];rfl
def LR{D:XF}{fa:XA}{Z:En}{s s1:N'}{vs:List PV}{n:Nat}{o:Out PV}(h1:fa Z s=.ok vs s1)(hn:vs.length=n)(h2:D vs s1=o):Bq n D fa Z s=o:=by
 unfold Bq
 simp_all
def Qh(h1:u Z s=.ex c s1)(hc:c.1∈cl)(h2:h (Z.set i (Za (.exc c))) s1=.nx Y' s'):Ni i cl u h Z s=.nx (Y'.set i Zb) s':=by
 unfold Ni
 simp_all
def OJ(h:s.get n=Za (.lst (U.map .str)))(hU:∀x∈U,ba x=true):Ĕ (.ref n) (LS U) s=.ok (.bl true) s:=by
 have e:PV.data s 12 (.ref n)=PV.data s 12 (LS U):=by show(match s.get n with|some (.lst l)=>(xW (PV.data s 11) l).map kN|_=>Zb)=_;rw[h];rfl
 have e1:=J4 (s:=s) hU hU;rw[Zg rfl] at e1;rw[<-e1];show Î false _ _ _=Î false _ _ _;unfold Î;rw[e]
def Dr(a:Y9)(H:Ho L N)(hl:L.length<=64)(hb:T.get nb=Za (.book pp L))(TK:nb<T.nx)(ng:¬ώ L):∃G,WG L (U' L) G/\rS a [.ref nb] T=.ex (a.Ñ,Za (T.nx+1)) ((T.add (.obj a.ZJ [])).add (.lst (G.map .str))):=by
 have WL:(T.add (.obj a.ZJ [])).get nb=Za (.book pp L):=by rw[nr,Zd `l];exact hb
 let⟨G,e,W⟩:=Fi a H hl WL;have hG:G≠[]:=λz=>ng (by rw[z] at W;exact W.noG);have so:=λx hx=>wA (H.sm x (H.hn x (Ze.mp (W.sl.mem hx))));have nn:oj a [.ref nb] (T.add (.obj a.ZJ []))=.ex (a.Ñ,Za (T.nx+1)) ((T.add (.obj a.ZJ [])).add (.lst (G.map .str))):=by apply Bg;apply mP (mY (mS (mE `m rfl) rfl e));refine(xA (oa ((mT `m (xf rfl)).trans ((Ct (V:=[]) so (λy hy=>nomatch hy)).trans (by rw[Zh hG];rfl))))).trans ?_;rfl
 refine⟨G,W,Bg ?_⟩;refine Qz (ÁK (ÁZ (mE `m rfl) rfl (Bg ?_)));exact Áx (Âu (mS (mE `m rfl) rfl nn))
theorem Hn:∀{l G G':List Str},l.Nodup->G.Sublist l->G'.Sublist l->(∀x,x∈G↔x∈G')->G=G'
 |[],_,_,_,s1,s2,_=>by rw[List.sublist_nil.mp s1,List.sublist_nil.mp s2]
 |y::l,_,_,nd,s1,s2,h=>by
  let⟨n1,n2⟩:=aK.mp nd;cases s1 with
  |cons _ a=>cases s2 with
   |cons _ b=>exact Hn n2 a b h
   |cons_cons _ b=>grind
  |cons_cons _ a=>cases s2 with
   |cons _ b=>grind
   |cons_cons _ b =>
    refine congrArg _ (Hn n2 a b λx=>?_)
    grind
def WG.uniq(W:WG L (U' L) G)(W':WG L (U' L) G')(nd:(U' L).Nodup):G=G' :=
 Hn nd W.sl W'.sl λh=>⟨λq=>W'.mx G (λy hy=>W.sl.mem hy) W.cl h q,λq=>W.mx G' (λy hy=>W'.sl.mem hy) W'.cl h q⟩
def Ei(h:f Z s=.ok (.exc c) s1)(hc:c.1∈cl):yZ cl tb f Z s=.ok (.bl (tb c.1)) s1:=by unfold yZ;rw[h];show(if c.1∈cl then _ else _)=_;rw[Zc hc]
def GG(a)(g:Gd L N c)(hl:L.length<=64)(hb:T.get nb=Za (.book pp L))(TK:nb<T.nx)(W:WG L (U' L) G)(hG:G≠[]):∃T',rD a [.ref nb,LS G] T=.ok (.bl true) T':=by
 have H:=g.ho;have ng:¬ώ L:=λq=>by let⟨h,hh,x,hx,nx⟩:=q G hG λh hh=>Ze.mp (W.sl.mem hh);exact nx (W.cl h hh x hx)
 let⟨G',W',e⟩:=Dr a H hl hb TK ng;obtain rfl:=W.uniq W' g.õ;have so:=λx hx=>wA (H.sm x (H.hn x (Ze.mp (W.sl.mem hx))));refine⟨(T.add (.obj a.ZJ [])).add (.lst (G.map .str)),m8 ?_⟩;have hc:a.Ñ∈a.cl:=ax.mpr rfl;apply mP (Qh (Âu (LR (mE `m rfl) rfl e)) hc (mY `m));apply mP ((qW (oa (Ei `m hc))).trans rfl);refine oh (Eu ((Ei `m hc).trans (by rw[Zg rfl])) (Eu (Ei `m hc) ((mT ?_ `m).trans (OJ (Zc rfl) so))));exact Zc rfl
def Ov{U:List Str}{s:N'}{n:Nat}(h:s.get n=Za (.lst (U.map .str)))(x:Str):fIn (.str x) (.ref n) s=.ok (.bl (decide (x∈U))) s:=by simp[rc,Ú,toV,ZH,ul,F5,yA,h]
theorem AD(p):∀(X:List Str),(∀x∈X,c (Za (.str x)::cap) s=.ok (p x) s)->uJ c (j' 0) cap s (X.map .str)=Za ((X.filter p).map .str)
 |[],_=>rfl
 |x::X,h=>by
  have ih:=AD p X λy hy=>h y (af _ hy);rw[am];unfold uJ;rw[h x al];dsimp only;cases q:p x with
  |true =>
   rw[mD rfl]
   grind
  |false=>grind
def JI(h1:g Z s=.ok (.ref n) s)(hg:s.get n=Za (.lst l))(hl:l.length<=100000)(h2:uJ c e (nM ix Z) s l=Za vs):vT g ix c e Z s=.ok (.ref s.nx) (s.add (.lst vs)):=by
 unfold vT
 simp_all
def JH(h1:g Z s=.ok (.ref n) s)(hg:s.get n=Za (.lst l))(hl:l.length<=100000)(h2:uJ c e (nM ix Z) s l=Za vs):Bp g ix c e Z s=.ok (.lst vs) s:=by
 unfold Bp
 simp_all
def Lq{U V:List Str}{s:N'}{n k:Nat}(h:s.get n=Za (.lst (U.map .str)))(h':s.get k=Za (.lst (V.map .str)))(hU:∀x∈U,ba x=true)(hV:∀x∈V,ba x=true):Ĕ (.ref n) (.ref k) s=.ok (.bl (decide (U=V))) s:=by
 have e:∀W n,s.get n=Za (.lst (W.map .str))->PV.data s 12 (.ref n)=PV.data s 12 (LS W):=λW n h=>by show(match s.get n with|some (.lst l)=>(xW (PV.data s 11) l).map kN|_=>Zb)=_;rw[h];rfl
 rw[<-J4 hU hV];show Î false _ _ _=Î false _ _ _;unfold Î;rw[e U n h,e V k h']
def Ig{U V:List Str}{s:N'}{n:Nat}(h:s.get n=Za (.lst (U.map .str)))(hU:∀x∈U,ba x=true)(hV:∀x∈V,ba x=true):Ş (.ref n) (LS V) s=.ok (.bl (!decide (U=V))) s:=by
 have e:PV.data s 12 (.ref n)=PV.data s 12 (LS U):=by show(match s.get n with|some (.lst l)=>(xW (PV.data s 11) l).map kN|_=>Zb)=_;rw[h];rfl
 rw[<-Ct hU hV];show Î true _ _ _=Î true _ _ _;unfold Î;rw[e]
def Qf(a)(H:Ho L N):∀(k:Nat)(G:List Str)(n:Nat)(T:N')(u2:Option PV),G.length<k->k<=65->(∀h∈G,nK L h=true)->T.get nb=Za (.book pp L)->nb<T.nx->T.get n=Za (.lst (G.map .str))->n<T.nx ->
  ∃G' n' T',m7 (ZI (xC (.bl true))) (nz a) k [Za (.ref nb),Za (.ref n),u2] T=.rt (.ref n') T'/\T'.get n'=Za (.lst (G'.map .str))/\(n'=n\/T.nx<=n')/\n'<T'.nx/\Gr T T'/\WG L G G':=by
 intro k;induction k with
 |zero=>intro _ _ _ _ h;lia
 |succ k ih =>
  intro G n T u2 hk hk1 hG hb TK hn Tk;have so:∀x∈G,ba x=true:=λx hx=>wA (H.sm x (H.hn x (hG x hx)));have c1:=AD (s:=T) (cap:=[Za (.ref nb),Za (.ref n)]) (c:=ZI (V' 3 (nL a) (F' (j' 1) (F' (j' 0) (F' (j' 2) J'))))) (È L G) G λx hx=>oa (mS (mE `m (mE `m (mE `m rfl))) rfl (FJ a H hb (hG x hx) (Ov hn)));have e0:vT (j' 1) [0,1] (ZI (V' 3 (nL a) (F' (j' 1) (F' (j' 0) (F' (j' 2) J'))))) (j' 0) [Za (.ref nb),Za (.ref n),u2] T=.ok (.ref T.nx) (T.add (.lst ((G.filter (È L G)).map .str))):=JI `m hn (by rw[ac];lia) c1;have g1:(T.add (.lst ((G.filter (È L G)).map .str))).get T.nx=Za (.lst ((G.filter (È L G)).map .str)):=by rw[nr,Zc rfl]
  have g2:(T.add (.lst ((G.filter (È L G)).map .str))).get n=Za (.lst (G.map .str)):=by rw[nr,Zd `l];exact hn
  have eq:=Lq g1 g2 (λx hx=>so x (aU.mp hx).1) so;have G1:Gr T (T.add (.lst ((G.filter (È L G)).map .str))):=⟨dD _,λi hi=>by rw[nr,Zd `l]⟩;by_cases z:G.filter (È L G)=G
  .rw[Zg z] at eq;refine⟨G,n,_,?_,g2,.inl rfl,bK Tk,G1,⟨eT _,λh hh=>?_,λV hV _ h hh=>hV h hh⟩⟩
   .unfold m7;show(match nz a [Za (.ref nb),Za (.ref n),u2] T with
     |.nx Y' s'=>m7 (ZI (xC (.bl true))) (nz a) k Y' s'
     |.ct Y' s'=>m7 (ZI (xC (.bl true))) (nz a) k Y' s'
     |.bk Y' s'=>.nx Y' s'
     |o=>o)=_
    rw[show nz a [Za (.ref nb),Za (.ref n),u2] T=.rt (.ref n) (T.add (.lst ((G.filter (È L G)).map .str))) from mP (mY e0) (EA ((xA (oa ((mT `m `m).trans eq))).trans (oh `m)))]
   .rw[<-z] at hh;exact ô.mp (aU.mp hh).2
  .rw[Zh z] at eq;have lt:(G.filter (È L G)).length<G.length:=by
    have:=cG (È L G) G;by_cases q:(G.filter (È L G)).length=G.length
    .exact absurd (jc eS q) z
    .lia
   let⟨G',n2,T2,e,g3,n3,n4,G2,W⟩:=ih (G.filter (È L G)) T.nx (T.add (.lst ((G.filter (È L G)).map .str))) (Za (.ref T.nx)) `l `l (λh hh=>hG h (aU.mp hh).1) ((G1.fr _ TK).trans hb) (bK TK) g1 (bv _);refine⟨G',n2,T2,?_,g3,?_,n4,G1.trans G2,⟨W.sl.trans eS,W.cl,λV hV cV h hh=>W.mx V (λy hy=>aU.mpr ⟨hV y hy,ô.mpr λx hx=>hV x (cV y hy x hx)⟩) cV h hh⟩⟩
   .rw[m7];show(match nz a [Za (.ref nb),Za (.ref n),u2] T with
     |.nx Y' s'=>m7 (ZI (xC (.bl true))) (nz a) k Y' s'
     |.ct Y' s'=>m7 (ZI (xC (.bl true))) (nz a) k Y' s'
     |.bk Y' s'=>.nx Y' s'
     |o=>o)=_
    rw[show nz a [Za (.ref nb),Za (.ref n),u2] T=.nx [Za (.ref nb),Za (.ref T.nx),Za (.ref T.nx)] (T.add (.lst ((G.filter (È L G)).map .str))) from mP (mY e0) (mP ((qW (oa ((mT `m `m).trans eq))).trans rfl) (mY `m))];exact e
   .right;obtain q|q:=n3
    .lia
    .have:T.nx+1<=n2:=q;lia
def CC(a)(H:Ho L N)(hl:L.length<=64)(hb:T.get nb=Za (.book pp L))(TK:nb<T.nx):∃G n T',oM a [.ref nb] T=.ok (.ref n) T'/\T'.get n=Za (.lst (G.map .str))/\T.nx<=n/\n<T'.nx/\Gr T T'/\WG L (U' L) G:=by
 have g1:(T.add (.lst ((U' L).map .str))).get T.nx=Za (.lst ((U' L).map .str)):=by rw[nr,Zc rfl]
 have G1:Gr T (T.add (.lst ((U' L).map .str))):=⟨dD _,λi hi=>by rw[nr,Zd `l]⟩;let⟨G,n,T',e,g,n1,n2,G2,W⟩:=Qf a H ((U' L).length+1) (U' L) T.nx (T.add (.lst ((U' L).map .str))) Zb (bv _) (by rw[ot];lia) (λh hh=>Ze.mp hh) ((G1.fr _ TK).trans hb) (bK TK) g1 (bv _);refine⟨G,n,T',m8 ?_,g,?_,n2,G1.trans G2,W⟩
 .refine mP (mY ((uK `m hb rfl rfl).trans (show tE a [.ref nb] T=.ok (.ref T.nx) (T.add (.lst ((U' L).map .str))) by unfold tE oF;simp[hb]))) (Cz e)
 .obtain q|q:=n1
  .lia
  .have:T.nx+1<=n:=q;lia
def OE(h0:Z[i]?=Za (Za (.ref n)))(h1:s.get n=Za (.Zv l))(h2:nR (nj y body) (l.map λkv=>wG kv.1) Z (s.set n (.Ì l))=.nx Y' s')(h3:s'.get n=Za (.Ì l')):Gg i y body Z s=.nx Y' (s'.set n (.Zv l')):=by unfold Gg;rw[h0];show(match s.get n with|some (.Zv l)=>(nR (nj y body) (l.map λkv:Key×PV=>wG kv.1) Z (s.set n (.Ì l))).Ń n|_=>.bad)=_;rw[h1];show(nR (nj y body) (l.map λkv=>wG kv.1) Z (s.set n (.Ì l))).Ń n=_;rw[h2];show(match thw n s' with|some s'=>SO.nx _ s'|none=>.bad)=_;unfold thw;rw[h3]
def FI(h:f Z s=.ok (.ref n) s)(hg:s.get n=Za (.lst l)):þ .list f Z s=.ok (.bl true) s:=by unfold þ;rw[h];show(match(match(match s.get n with|some (.lst l)=>Za l|_=>Zb) with|some _=>Za Ty7.list|none=>Zb) with|some k=>Out.ok (PV.bl (PX k .list)) s|none=>.bad)=_;rw[hg];rfl
theorem AB:∀(X:List Str),uJ og (x2 (j' 0) (xC (.int 0)) Zk) [] s (sV X w)=Za (X.map .str)
 |[]=>rfl
 |x::X=>by
  have ih:=AB (s:=s) (w:=w) X;unfold sV at ih ⊢;rw[am];unfold uJ;rw[show og [Za (PV.tup [.str x,Ë (w x)])] s=.ok true s from rfl];dsimp only;rw[Zc rfl,Zc rfl,(mT `m rfl).trans Á4]
  simp_all
def Lw(h:s.get n=Za (.lst (ns.map λn=>.tup [.str n,g n])))(nd:ns.Nodup):zh [.ref n] s=.ok (.Zv (Ŷ ns g)) s:=by rw[<-EM nd];show(match(match s.get n with|some (.lst l)=>Za l|_=>Zb) with|some l=>(match Av [] l with|some d=>Out.ok (PV.Zv d) s|none=>.bad)|none=>.bad)=_;rw[h];rfl
def Rs(n):Ë (aN n 1)=.tup [.int n,.int 1]:=by
 have:aN n 1=n:=by rw[cB];grind
 rw[this];rfl
def Ãi:Zk (.lst [u,v]) (.int 1) s=.ok v s:=by simp[Zk,ZH,ü,Ϥ]
def Âh(g:Gd L N c)(W:Wt L d w y)(P:Ę N c L M)(x):Bt 13000 (hel L w x).num/\Bt 4500 ((hel L w x).den:Int):=by
 have hm:∀h∈M.map (·.nm),h∈U' L:=λh hh=>(mW _).mem_iff.mpr (P.names▸hh);have l8:=g.l8;have ml:(M.map (·.nm)).length=L.length:=by rw[<-P.names,ac]
 rw[<-MD g W P x];have h1:=zn (((M.map (·.nm)).filter λh=>decide (x∈own L h)).map λh=>pc (pl L h) x*y h) λv hy=>by let⟨h,hh,rfl⟩:=ar.mp hy;exact W.tb h (hm h (aU.mp hh).1) x
 have hl:(((M.map (·.nm)).filter λh=>decide (x∈own L h)).map λh=>pc (pl L h) x*y h).length<=L.length:=by rw[ac,<-ml];exact cG _ _
 let⟨q1,q2⟩:=GH W.d0 h1 W.dd;exact⟨q1.mono `l,q2.mono (Zf rfl)⟩
structure Lz(T:N')(nb nd:Nat)(pp:List Str)(L:List Ent)(M:List Md)(N:List Str)(c:Nat):Prop where
 bk:T.get nb=Za (.book pp L)
 md:T.get nd=Za (.Zv (M.map ķ))
 sh:∀m∈M,T.get m.cell=Za (.Zv (hP m.hl))
 pr:Ę N c L M
 lt:nb<T.nx/\nd<T.nx/\∀m∈M,m.cell<T.nx/\m.cell≠nd
def Lz.gr(h:Lz T nb nd pp L M N c)(G:Gr T t):Lz t nb nd pp L M N c:=by let⟨l2,l3,l4⟩:=h.lt;have n:=G.nx;exact⟨(G.fr _ l2).trans h.bk,(G.fr _ l3).trans h.md,λm hm=>(G.fr _ (l4 m hm).1).trans (h.sh m hm),h.pr,by lia,by lia,λm hm=>⟨by have:=(l4 m hm).1;lia,(l4 m hm).2⟩⟩
def Lz.mz(h:Lz T nb nd pp L M N c):Mz T nd M L N c:=⟨by show(match T.get nd with|some (.Zv l)=>Za l|some (.Ì l)=>Za l|_=>Zb)=_;rw[h.md],by show(match T.get nd with|some (.lst l)=>Za l|_=>Zb)=_;rw[h.md],h.sh,h.pr⟩
def Lz.put(h:Lz T nb nd pp L M N c)(h0:Lz s nb nd pp L M N c)(hn:s.nx<=n)(q):Lz (T.set n q) nb nd pp L M N c:=by let⟨l2,l3,l4⟩:=h0.lt;exact⟨(mM _ _ `l).trans h.bk,(mM _ _ `l).trans h.md,λm hm=>(mM _ _ (by have:=(l4 m hm).1;lia)).trans (h.sh m hm),h.pr,h.lt⟩
def Lz.mzf(h:Lz T nb nd pp L M N c):Mz (T.set nd (.Ì (M.map ķ))) nd M L N c:=by
 have g0:=nZ (d:=.Ì (M.map ķ)) h.md;refine⟨?_,?_,λm hm=>?_,h.pr⟩
 .show(match(T.set nd (.Ì (M.map ķ))).get nd with|some (.Zv l)=>Za l|some (.Ì l)=>Za l|_=>Zb)=_;rw[g0]
 .show(match(T.set nd (.Ì (M.map ķ))).get nd with|some (.lst l)=>Za l|_=>Zb)=_;rw[g0]
 .rw[mM _ _ (h.lt.2.2 m hm).2];exact h.sh m hm
def Mz.gr(Zj:Mz s nd M L N c)(G:Gr s t)(h1:nd<s.nx)(h2:∀m∈M,m.cell<s.nx):Mz t nd M L N c:=Zj.of (G.fr _ h1) λm hm=>G.fr _ (h2 m hm)
theorem PU(a)(u0 u1 u3 u4):∀(X:List Str)(u2:Option PV),∃v2,Af (nj (Y4 2) (rn a)) T (sV X w) [u0,u1,u2,u3,u4]=Za [u0,u1,v2,u3,u4]
 |[],u2=>⟨u2,rfl⟩
 |x::X,u2=>by
  let⟨v2,r⟩:=PU a u0 u1 u3 u4 X (Za (.tup [.str x,Ë (w x)]));refine⟨v2,?_⟩;unfold sV at r ⊢;rw[am];unfold Af;rw[pB,show rn a (([u0,u1,u2,u3,u4]:En).set 2 (Za (.tup [.str x,Ë (w x)]))) T=.nx [u0,u1,Za (.tup [.str x,Ë (w x)]),u3,u4] T from
   (qW (Cr (wa (oa (b:=true) rfl)) (Cr (oa rfl) (wa (oa (mS (mE ((mT `m rfl).trans Á3) rfl) rfl (OB a T (w x)))))))).trans rfl]
  dsimp only;rw[Zc rfl];exact r
def OD{f:XE}{y:XG}{body:XS}{Z Y':En}{l:List PV}(h1:f Z s=.ok (.ref n) s)(hg:s.get n=Za (.lst l))(h2:Af (nj y body) s l Z=Za Y'):Ge f y body Z s=.nx Y' s:=by unfold Ge;rw[h1];dsimp only;rw[hg];dsimp only;rw[h2]
theorem PQ(a)(g:Gd L N c)(W:Wt L d w y)(SL:Sol L (λx=>((qH L x:Int):Rat)) w)(Y:By vb L w)(Zj:Mz s nd M L N c)(hd:s.get nd=Za (.Ì (M.map ķ)))(j1:nd<s.nx)(j2:∀m∈M,m.cell<s.nx)(u0 u2):∀(X:List Str)(t:N')(u4:Option PV),Gr s t->(∀h∈X,h∈U' L) ->
  ∃t' v4,nR (nj (Y4 4) (rm a)) (X.map .str) [u0,Za (.ref nd),u2,Za vb,u4] t=.nx [u0,Za (.ref nd),u2,Za vb,v4] t'/\Gr s t'
 |[],t,u4,G,_=>⟨t,u4,rfl,G⟩
 |h::X,t,u4,G,hX=>by
  have hh:=hX h al;have nx:=G.nx;have Zt:=Zj.gr G j1 j2;let⟨t1,e1,G1⟩:=Lg a g W Zt ((G.fr _ j1).trans hd) Y `l (λm hm=>by have:=j2 m hm;lia) h;let⟨t',v4,e,G2⟩:=PQ a g W SL Y Zj hd j1 j2 u0 u2 X t1 (Za (.str h)) (G.trans G1) λv hv=>hX v (af _ hv);refine⟨t',v4,?_,G2⟩;let⟨e',m,kk,f,hm,i1,g1,R⟩:=Zt.at_ (Ze.mp hh);have et:qH L h=m.th:=by unfold qH;rw[f];exact R.th
  let⟨b1,b2⟩:=Âh g W Zj.pr h;let⟨c1,c2⟩:=GH (Zf rfl) ((g.thb h).mono (l:=13000) (Zf rfl)) (bt1 (k:=4500) (Zf rfl));have sm:=Qq a t1 c1 c2 b1 b2;have wh:w h=aN (qH L h) 1+hel L w h:=by
   have:w h=((qH L h:Int):Rat)+hel L w h:=SL h;rw[this,cB]
   grind
  rw[<-wh,Rs,et] at sm;rw[am];unfold nR;rw[pB];have bd:rm a [u0,Za (.ref nd),u2,Za vb,Za (.str h)] t=.nx [u0,Za (.ref nd),u2,Za vb,Za (.str h)] t1:=by refine(qW (oa ((mT ((mT `m `m).trans (Y h hh t)) (mS (mE (xf (mE (qT (mE ((mT ((mT ((mT `m `m).trans i1) rfl).trans Ãi) rfl).trans rfl) (mE rfl rfl))) (mE (mS (mE `m (mE `m (mE `m rfl))) rfl e1) rfl))) rfl) rfl sm)).trans Ra))).trans rfl
  simp_all
def Kx(a)(g:Gd L N c)(W:Wt L d w y)(SL:Sol L (λx=>((qH L x:Int):Rat)) w)(h:Lz T nb nd pp L M N c)(hn:T.get n=Za (.lst (sV (U' L) w))):∃T',p7 a [.ref n,.ref nd] T=.ok (.bl true) T'/\Gr T T':=by
 have l8:=g.l8;have nm:=h.pr.names;have ml:(M.map (·.nm)).length=L.length:=by grind
 have hl:(sV (U' L) w).length<=100000:=by unfold sV;rw[ac,ot];lia
 have so:=λv hv=>wA (g.ho.sm v (g.ho.hn v (Ze.mp hv)));have e2:=um h.md (Eh M) `l;rw[<-nm] at e2;have ne:=Ct (s:=T) so so;rw[Zg rfl] at ne;let⟨v2,e3⟩:=PU a (Za (.ref n)) (Za (.ref nd)) Zb Zb (w:=w) (T:=T) (U' L) Zb;have Y:By (.Zv (Ŷ (U' L) λh=>Ë (w h))) L w:=λh hh s=>GU hh;let⟨t',v4,e4,G4⟩:=PQ a g W SL Y h.mzf (nZ h.md) h.lt.2.1 (λm hm=>(h.lt.2.2 m hm).1) (Za (.ref n)) v2 (M.map (·.nm)) _ Zb (Gr.refl _) (λv hv=>(mW _).mem_iff.mpr (nm▸hv));have gz:=(G4.fr nd h.lt.2.1).trans (nZ h.md);refine⟨t'.set nd (.Zv (M.map ķ)),m8 ?_,⟨G4.nx,λi hi=>?_⟩⟩
 .unfold wW;apply mP ((qW (Cr (wa (oa (FI `m hn))) (oa ((mT (JH `m hn hl (AB _)) ((AM (mE `m rfl)).trans e2)).trans ne)))).trans rfl);apply mP (OD `m hn e3);apply mP (mY ((AM (mE `m rfl)).trans (Lw hn g.õ)));exact mP (OE rfl h.md (by rw[C1];exact e4) gz) (oh rfl)
 .by_cases q:i=nd
  .subst q;rw[nZ gz];exact h.md.symm
  .rw[mM _ _ q,G4.fr i hi,mM _ _ q]
def MG(T)(q):Gr T (T.add q):=⟨dD _,λi hi=>by rw[nr,Zd `l]⟩
def Qb(a)(g:Gd L N c)(ng:ώ L)(P:Pp pp N)(h:Lz T nb nd pp L M N c):∃n T1 T2 l,rS a [.ref nb] T=.ok (.ref n) T1/\p7 a [.ref n,.ref nd] T1=.ok (.bl true) T2/\Gr T T1/\Gr T1 T2/\T.nx<=n/\T2.get n=Za (.lst l)/\l.length<100000:=by
 let⟨d,zz,S,_⟩:=g.solve ng a;let⟨w1,T1,e2,S1,G1⟩:=IJ a g ng P h.bk h.lt.1;have q1:=S1.uniq g ng (S.sol g);have tl:sV (U' L) w1=sV (U' L) (wv L d zz):=by exact aX λx _=>by rw[q1 x]
 rw[tl] at e2;have L1:=(h.gr G1).gr (MG T1 (.lst (sV (U' L) (wv L d zz))));have gn:(T1.add (.lst (sV (U' L) (wv L d zz)))).get T1.nx=Za (.lst (sV (U' L) (wv L d zz))):=by rw[nr,Zc rfl]
 let⟨T2,e3,G3⟩:=Kx a g (S.wt g) (S.sol g) L1 gn;exact⟨T1.nx,_,T2,_,e2,e3,G1.trans (MG _ _),G3,G1.nx,(G3.fr _ (bv _)).trans gn,by unfold sV;rw[ac,ot];have:=g.l8;lia⟩
def Rf(a)(l)(hl:l.length<=63)(hw:Att.Ϟ l):∃s',Cy a [.seq (l.map .int)] ⟨0,[]⟩=.ok (.bl true) s':=by
 let⟨x0,y0,e0⟩:=KB a ⟨0,[]⟩ l hl hw;have hP:Zz ((⟨0,[]⟩:N').add (.lst [.int x0,.int y0])) 0:=⟨x0,y0,rfl⟩;have nx1:((⟨0,[]⟩:N').add (.lst [.int x0,.int y0])).nx=1:=rfl;generalize (⟨0,[]⟩:N').add (.lst [.int x0,.int y0])=s1 at *;let⟨t,nb,nd,pp,hs,c,L,M,e1,B,hL,WN,p1,p3,h6,c28⟩:=LU a s1 0 `l hP 6 (Zf rfl);let⟨g,P⟩:=B.gd WN hL `l `l `l;generalize PV.seq (l.map .int)=u at *;have W:=B.w;have L0:Lz t nb nd pp L M (pp++hs) c:=⟨W.bk,W.md,W.sh,W.pr,W.lt.2.1,W.lt.2.2.1,λm hm=>⟨W.lt.2.2.2 m hm,(W.i4 m hm).2.2⟩⟩;have l8:=g.l8;let⟨G,eG,Vy⟩:=Lh a L0.mz L0.md g.ho l8;have so:∀y∈G,ba y=true:=λy hy=>wA (g.ho.sm y (g.ho.hn y (Ze.mp (Vy.sl.mem hy))));have lG:G.length<=8:=aC Vy.sl.length_le (by rw[ot];exact l8);let⟨Ga,n1,T1,ea,g1,n1a,n1b,G1,Wa⟩:=CC a g.ho `l L0.bk L0.lt.1;obtain rfl:=Vy.uniq Wa g.õ;have L1:=L0.gr G1;have ne1:=Ig g1 so so;rw[Zg rfl] at ne1;have L2:=L1.put L0 n1a (.lst (G.map .str++[.str "zz"]));have Tc:(T1.set n1 (.lst (G.map .str++[.str "zz"]))).nx=T1.nx:=rfl;let⟨Gb,n2,T3,eb,g2,n2a,n2b,G3,Wb⟩:=CC a g.ho `l L2.bk L2.lt.1;obtain rfl:=Vy.uniq Wb g.õ;have L3:=L2.gr G3;have ne2:=Ig g2 so so;rw[Zg rfl] at ne2;have ne:=Ct (s:=T3) (U:=G) (V:=[]) so (λy hy=>nomatch hy);have Sq:∀(s':N')(v:PV),J2 a [Za u,Zb,Zb,Zb,Zb,Zb,Zb,Zb] ⟨0,[]⟩=.rt v s'->Cy a [u] ⟨0,[]⟩=.ok v s':=λs' v h=>m8 h;have head:∀(o:SO)(q:XS),q [Za u,Za (.ref 0),Za (.ref nb),Za (LS (ZR pp)),Za (.ref nd),Za (LS G),Za (.ref n1),Zb] T3=o ->
   Y3 (Y8 1 (V' 1 (pj a) (F' (j' 0) J'))) (Y3 (ě (V' 2 (rb a) (F' (j' 1) (F' (xC (.int 6)) J'))) (Ô 3 (Zp (Y4 2) (Zp (Y4 3) (Zp (Y4 4) Õ))))) (Y3 (Y8 5 (V' 1 (ra a) (F' (j' 4) J'))) (Y3 (Y8 6 (V' 1 (oM a) (F' (j' 2) J'))) (Y3 (ÿ (xOr (Ĩ (ZI (þ .list (j' 6)))) (ZI (x2 (j' 6) (j' 5) Ş))) (ZE (xC (.bl false))) Z6) (Y3 (Ť (Á (j' 6) (F' (xC (.str "zz")) J'))) (Y3 (ÿ (ZI (x2 (V' 1 (oM a) (F' (j' 2) J')) (j' 5) Ş)) (ZE (xC (.bl false))) Z6) q)))))) [Za u,Zb,Zb,Zb,Zb,Zb,Zb,Zb] ⟨0,[]⟩=o:=λo q h=>by
  refine mP (mY (mS (mE `m rfl) rfl e0)) (mP (Ãw (mS (mE `m (mE rfl rfl)) rfl e1)) ?_);apply mP (mY (mS (mE `m rfl) rfl eG));apply mP (mY (mS (mE `m rfl) rfl ea));apply mP ((qW (s1:=T1) (Cr (wa (oa (FI `m g1))) (oa ((mT `m `m).trans ne1)))).trans rfl);apply mP (zk (yG `m g1 (mE rfl rfl) g1 (by rw[ac];lia)));exact mP ((qW (s1:=T3) (oa ((mT (mS (mE `m rfl) rfl eb) `m).trans ne2))).trans rfl) h
 by_cases z:G=[]
 .have ng:ώ L:=by rw[z] at Vy;exact Vy.noG
  let⟨n4,T4,T5,l4,e4,e5,G4,G5,n4a,g4,h4⟩:=Qb a g ng P L3;have L5:=(L3.gr G4).gr G5;have L6:=L5.put L3 n4a (.lst (l4++[.Zn]));let⟨n7,T7,T8,l7,e7,e8,G7,G8,n7a,g7,h7⟩:=Qb a g ng P L6;refine⟨T8,Sq _ _ ?_⟩;unfold J2;apply head _ _;rw[Zg z] at ne;apply mP ((qW (s1:=T3) (oa ((mT `m (xf (vs:=[]) rfl)).trans ne))).trans rfl);apply mP (mY (mS (mE `m rfl) rfl e4));apply mP ((qW (wa (oa (mS (mE `m (mE `m rfl)) rfl e5)))).trans rfl);apply mP (zk (yG `m g4 (mE rfl rfl) g4 h4));exact oh (mS (mE (mS (mE `m rfl) rfl e7) (mE `m rfl)) rfl e8)
 .let⟨T',e5⟩:=GG a g `l L3.bk L3.lt.1 Vy z;refine⟨T',Sq _ _ ?_⟩;unfold J2;apply head _ _;rw[Zh z] at ne;exact EA ((xA (s1:=T3) (oa ((mT `m (xf (vs:=[]) rfl)).trans ne))).trans (oh (mS (mE `m (mE `m rfl)) rfl e5)))
def Oo{K}{a}{H}{c}{ns}{Q}{E}(hl:ns.length<=63)(hw:Att.Ϟ ns)(ht:bF K aT "rules"=Za Zb)(hO:Pn H)(hS:ZU K H c (ns.map V.int))(k:∀v H',v=.bl true->Q v H'):Ķ K a.Zo 1 (Cy a) [.ref c] H Q E:=by
 let⟨s',e⟩:=Rf a ns hl hw;have S0:SR K a.Zo H ⟨λ_=>c,λ_=>[],[]⟩ ⟨0,[]⟩:=by
  refine⟨iL,(by intro n hn;cases hn),`g,`g,`g,(by intro z hz;cases hz),λP q t=>?_⟩;let⟨x,hx,c',h1,h2⟩:=t;simp[F4] at hx;unfold PySem.W.tabIn at h1
  simp_all
 have R0:∀(l:List Int),Y5 K H ⟨λ_=>c,λ_=>[],[]⟩ ⟨0,[]⟩ (l.map V.int) (l.map PV.int):=λl=>by
  induction l with
  |nil=>exact .nil
  |cons x r ih=>exact .cons .int ih
 have pu:Ŀ (⟨λ_=>c,λ_=>[],[]⟩:Mp) ⟨0,[]⟩ c:=⟨`g,by intro n hn;cases hn⟩;have hr:Rep K H ⟨λ_=>c,λ_=>[],[]⟩ ⟨0,[]⟩ (.ref c) (.seq (ns.map .int)):=by
  refine .seq ?_ (R0 ns);rcases hS with(h|h)|h
  .obtain z|⟨o,xs,z⟩:=hO c
   .grind
   .grind
  .exact .inl ⟨h,pu⟩
  .exact .inr h
 refine⟨rfl,[.seq (ns.map .int)],⟨0,[]⟩,_,.cons hr .nil,S0,?_⟩;rw[e]
 rintro u H' m' _ _ ⟨⟩
 exact k _ _ rfl
open PyProof.Rows
structure Gxa(K:aa)(x:Str)(X:ag):Prop where
 n:bF K aT x=Za (Za (.ref X))
 e:Exc K X
def gxa{K:aa}{x:Str}{X:ag}(n:bF K aT x=Za (Za (.ref X)))(a:fL K X bmV "ValueError.__new__"=true)(b:aJ K (.ref X) "__getattribute__"=Za (Za (.builtin "BaseException.__getattribute__")))(c:aJ K (.ref X) "__getattr__"=Za Zb)(d:aJ K (.ref X) "__class__"=Za (Za (.builtin "object.__class__")))(e:cM K (.builtin "object.__class__") "__get__"=Za (Za (.builtin "getset_descriptor.__get__")))(f:fT K (.builtin "object.__class__")=Za true)(g:bJ K X (.type "object")=Za true)(h:bJ K X (.type "BaseException")=Za true):Gxa K x X:=⟨n,⟨Âo a,b,c,d,e,f,g,h⟩,a⟩
structure Gk(K:aa)(o w c1 c2 c3 c4 c5 c6 c7 c8:ag):Prop where
 t1:bJ K w (.ref o)=Za true
 a1:ee K (.ref w) [.ref c1,.ref c2,.ref c3,.ref c4,.ref c5,.ref c6,.ref c7,.ref c8]=Za false
 na:ee K (.type "NoneType") [.ref c1,.ref c2,.ref c3,.ref c4,.ref c5,.ref c6,.ref c7,.ref c8]=Za false
 v1:bA K (.ref w) (.type "ValueError")=Za true
 nv:bA K (.type "NoneType") (.type "ValueError")=Za false
 w1:bA K (.ref w) (.ref w)=Za true
 nw:bA K (.type "NoneType") (.ref w)=Za false
structure Gxw(K:aa)(X:ag):Prop where
 b:aJ K (.ref X) "__getattribute__"=Za (Za (.builtin "BaseException.__getattribute__"))
 c:aJ K (.ref X) "__getattr__"=Za Zb
 d:aJ K (.ref X) "__class__"=Za (Za (.builtin "object.__class__"))
 e:cM K (.builtin "object.__class__") "__get__"=Za (Za (.builtin "getset_descriptor.__get__"))
 f:fT K (.builtin "object.__class__")=Za true
 g:bJ K X (.type "object")=Za true
 h:bJ K X (.type "BaseException")=Za true
structure Gwh(K:aa)(C Zi:ag):Prop where
 ex:J3 K C=true
 mo:(PySem.W.clsIn K C).map (·.mro)=Za (.ref C::.ref Zi::bmV)
 rd:l9 K Zi (.type "type")=true
 fi:mf K (.ref Zi) (.type "type") "__init__"=Za (.val (.builtin "ValueError.__init__"))
 me:bJ K C (.ref C)=Za true
 hd:cE K C=true
 sa:aJ K (.ref C) "__setattr__"=Za (Za (.builtin "object.__setattr__"))
 gr:aJ K (.ref C) "group"=Za Zb
 ga:cM K (.ref Zi) "__getattribute__"=Za (Za (.builtin "type.__getattribute__"))
 kw:bU K (.ref C)=true
structure Gw(K:aa)(C:ag):Prop where
 n:bF K aT "Ways"=Za (Za (.ref C))
 p:eB K C ci=true
 h:cE K C=true
 o:gB K C=true
 s:aJ K (.ref C) "__setattr__"=Za (Za (.builtin "object.__setattr__"))
 m:fU K C=true
 k:bU K (.ref C)=true
 a:aJ K (.ref C) "bottom"=Za Zb
 b:aJ K (.ref C) "top_of"=Za Zb
def all_mk{l:gP}{w}{K}{h}{mg}{fa}(X:K.In h)(G:h.Ns aT mg)(hfa:mg "law"=Za (.ref fa)){Sg S9 Tr SU SJ SW Ta SV S8 Sn BK WY}(x0z:Gxa K "OwnError" Sg)(x1z:Gxa K "NoName" S9)(x2z:Gxa K "Twice" Tr)(x3z:Gxa K "TooMany" SU)(x4z:Gxa K "NoHolder" SJ)(x5z:Gxa K "NoHouse" SW)(x6z:Gxa K "NoLoss" Ta)(x7z:Gxa K "NoShare" SV)(Uh:bF K aT "NoText"=Za (Za (.ref S8)))(ļ:bF K aT "Whole"=Za (Za (.ref Sn)))(gk:Gk K Sg Sn SJ SW Ta S9 SV S8 SU Tr)(gv:Gxw K Sn)(gh:Gwh K Sn Sg)(jw:Gm K Sn "__init__" "Whole.__init__" tW)(cb:Gb K BK)(cw:Gw K WY)(c0z:Gt K "ZERO" 0 1)(c1z:Gt K "ONE" 1 1)(u0z:Gi K "LONGEST_NAME" 8)(u1z:Gi K "MOST_PERSONS" 6)(u2z:Gi K "MOST_HOUSES" 8)(z0z:Gz K "len")(z1z:Gz K "range")(z2z:Gz K "all")(z3z:Gz K "int")(z4z:Gz K "abs")(z5z:Gz K "sorted")(z6z:Gz K "tuple")(z7z:Gz K "list")(z8z:Gz K "str")(z9z:Gz K "bool")(Xz:Gz K "isinstance")(Xy:Gz K "ValueError")(Xx:Gz K "any")(Xw:Gz K "set")(Xv:Gz K "max")(Uy:Gz K "dict")(U0:Gz K "enumerate")(VU:Gz K "sum")(VT:Gz K "zip")(j0:Gf K "is_name" vM)(j1:Gf K "need_loss" uT)(j2:Gf K "common_divisor" qh)(j3:Gf K "plus" Hr)(j4:Gf K "minus" Ea)(j5:Gf K "is_above" wB)(j6:Gm K BK "__init__" "Book.__init__" ve)(j7:Gm K BK "is_house" "Book.is_house" qM)(j8:Gm K BK "is_holder" "Book.is_holder" qi)(j9:Gm K BK "need_house" "Book.need_house" pV)(j10:Gm K BK "need_holder" "Book.need_holder" pI)(j11:Gm K BK "need_new_name" "Book.need_new_name" oX)(j12:Gm K BK "person" "Book.person" su)(j13:Gm K BK "house" "Book.house" tX)(j14:Gm K BK "sale" "Book.sale" vd)(j15:Gm K BK "persons" "Book.persons" rj)(j16:Gm K BK "houses" "Book.houses" sx)(j17:Gm K BK "of" "Book.of" yr)(j18:Gm K BK "shares" "Book.shares" qr)(j19:Gf K "_law_mixed" tT)(j20:Gf K "_law_purse" tR)(j21:Gf K "_law_draw" uZ)(j22:Gf K "_law_divisor" rh)(j23:Gf K "_law_made" uX)(j24:Gf K "_law_names" tS)(j25:Gf K "_law_number" sf)(j26:Gf K "_law_part" uW)(j27:Gf K "_law_sold" uV)(j28:Gf K "_law_built" tV)(j29:Gf K "lowest" A7)(j30:Gf K "cleared" yp)(j31:Gf K "solved" AY)(j32:Gf K "is_held_within" qg)(j33:Gf K "whole_group" qq)(j34:Gf K "need_no_whole_group" oT)(j35:Gf K "cut" M0)(j36:Gf K "all_cut" yq)(j37:Gf K "owning" AZ)(j38:Gf K "agreement" uU)(j39:Gm K WY "__init__" "Ways.__init__" va)(j40:Gm K WY "top_by" "Ways.top_by" si)(j41:Gm K WY "all_by" "Ways.all_by" sj)(j42:Gf K "own_things" tN)(j43:Gf K "worths" AX)(j44:Gf K "_law_whole" tO)(j45:Gf K "_law_group" tU)(j46:Gf K "_law_sum" wC)(j47:Gf K "_law_times" tP)(j48:Gf K "_law_held" uY)(j49:Gf K "_law_is_fraction" pH)(j50:Gf K "_law_refused" rg)(j51:Gf K "_law_right" tQ)(j52:Gf K "law" MZ)(zr:Gz K "rules")
  :∃(a:Y9)(fd:cT),bF K aT "rules"=Za Zb/\(∀(s:aw)(v:ai),jS s fd ⟨[v],[]⟩ [("_law_script",v)])/\∀base:cg,K.In base->base.Ns aT mg->ZA l.prog w K mg base (Z' l.prog w) 11 fa fd ["_law_script"] (Ķ K a.Zo 1 (Cy a)):=by
 have g:=λ{x v}=>@jO _ _ _ x v X G;let⟨n0,e0⟩:=x0z;let⟨n1,e1⟩:=x1z;let⟨n2,e2⟩:=x2z;let⟨n3,e3⟩:=x3z;let⟨n4,e4⟩:=x4z;let⟨n5,e5⟩:=x5z;let⟨n6,e6⟩:=x6z;let⟨n7,e7⟩:=x7z;let⟨o0,_,_,_,_,_,p0,l0⟩:=c0z;let⟨o1,_,_,_,_,_,p1,l1⟩:=c1z;let⟨t0,y0⟩:=u0z;let⟨t1,y1⟩:=u1z;let⟨t2,y2⟩:=u2z;let⟨f,fd,n,U⟩:=j52;cases hfa.symm.trans (g n);let a:Y9:=⟨Sg,S9,Tr,SU,SJ,SW,Ta,SV,S8,Sn,BK,o0,o1,WY,t0,t1,t2,λ_ _=>false⟩;have T:Txt K mg a:=⟨z0z.at_ X G,z1z.at_ X G,z2z.at_ X G,z3z.at_ X G,z4z.at_ X G,z5z.at_ X G,z6z.at_ X G,z7z.at_ X G,z8z.at_ X G,z9z.at_ X G,Xz.at_ X G,Xy.at_ X G,Xx.at_ X G,Xw.at_ X G,Xv.at_ X G,g n0,g n1,g n2,g n3,g n4,g n5,g n6,g n7,g Uh,g ļ,e0,e1,e2,e3,e4,e5,e6,e7,g y0,g y1,g y2,g p0,g p1,
  ⟨_,_,_,l0,rfl,rfl,(show 2<=aF by decide),.cons ⟨_,rfl⟩ (.cons ⟨_,rfl⟩ .nil)⟩,⟨_,_,_,l1,rfl,rfl,(show 2<=aF by decide),.cons ⟨_,rfl⟩ (.cons ⟨_,rfl⟩ .nil)⟩,⟨cb.p,cb.h,cb.o,cb.s⟩,cb.a,cb.b,cb.c,cb.d,cb.e⟩
 let⟨fw,dw,nw,iw,Uw⟩:=jw;have ZW:Ew K Sn Sg fw:=⟨gh.ex,nw,beq_iff_eq.mp iw,gh.me,gh.mo,gh.hd,gh.sa,gh.gr,gh.ga,gh.rd,gh.kw,gh.fi⟩;have XW:Ϗ K Sn:=⟨ZW.ob,gv.b,gv.c,gv.d,gv.e,gv.f,gv.g,gv.h⟩;have one:∀{P:ag->Prop},P Sn->∀c∈a.cl,P c:=λh c hc=>by rw[ax.mp hc];exact h
 have T2:T2w K a:=⟨one ⟨XW,gk.t1⟩,one ⟨XW,gk.a1⟩,gk.na,one ⟨XW,gk.v1⟩,gk.nv,one ⟨XW,gk.w1.trans (congrArg Za (Zg rfl).symm)⟩,gk.nw,⟨XW,ZW.gr,ZW.hd⟩⟩;refine⟨a,fd,zr.z,λs v=>?_,λbase _ _=>?_⟩
 .let⟨_,_,_,_,_,_,_,_,_,rfl,_,_⟩:=U.ex;exact .of_eq rfl
 have Y:Yz K mg a:=⟨T,_,X,G⟩;have WW:Wy K mg a:=⟨⟨cw.p,cw.h,cw.o,cw.s⟩,cw.a,cw.b,g cw.n,cw.m,cw.k⟩;have WH:Wh l.prog w K mg base "Whole" a.Ñ 2:=⟨⟨Sg,fw,dw,ZW,BP ZW Uw T,Uw.binds (by first|exact bd1|exact bd2|exact bd3|exact bd4|exact bd5|exact bd6|exact bd0)⟩,g ļ⟩
 haveI:Cq l.prog w K mg base a:=⟨Y⟩
 have N:=λ{x st k ps sp}=>@Gf.fn l.prog w K mg base _ x st ps sp k X G;have M:=λ{x q st k ps sp}=>@Gm.mt l.prog w K mg base x q st BK ps sp k T.cl;have r0:=N j0 λU=>GN U T  ;have r1:=N j1 λU=>DF U T  ;have r2:=N j2 λU=>Q2 U T  ;have d2:=Fn.imp r2 (Ny (K:=K) (a:=a));have r3:=N j3 λU=>Oa U T  r2;have r4:=N j4 λU=>KU U T  r3;have r5:=N j5 λU=>KY U T  ;have k0:=j6.bk (P:=l.prog) (w:=w) (base:=base) X G cb λU=>Ob U T;have r7:=M j7 λU=>E7 U T  ;have r8:=M j8 λU=>DH U T  r7;have r9:=M j9 λU=>BR U T  r7;have U7:=M j10 λU=>zH U T  r8;have V3:=M j11 λU=>E6 U T  r0 r8;have VE:=M j12 λU=>Ji U T  V3;have d12:=Mt.imp VE (Gu (a:=a));have W5:=M j13 λU=>KW U T  V3 U7 r1;have d13:=Mt.imp W5 (IM (a:=a));have r14:=M j14 λU=>N9 U T  r9 U7 r5 r4 r3;have d14:=Mt.imp r14 (Km (a:=a));have r15:=M j15 λU=>GM U T  ;have d15:=Mt.imp r15 (EZ (a:=a));have r16:=M j16 λU=>Jl U T  ;have WU:=Mt.imp r16 (Gv (a:=a));have r17:=M j17 λU=>ÁM U T  r9;have d17:=Mt.imp r17 (Qt (a:=a));have r18:=M j18 λU=>Jh U T  r9;have d18:=Mt.imp r18 (Gs (a:=a));have d19:ue:=BY j19  ;have d20:uc:=BW j20  d19;have WT:o6:=DR j21  ;have d22:p4:=zd j22  ;have Xt:pR:=DP j23  d22;have d24:ud:=BX j24 (U0.at_ X G) WT;have d25:sG:=zI j25  WT;have d26:vp:=DM j26  WT Xt;have d27:vo:=DK j27  d26 d14 Xt WT;have d28:ug:=B6 j28  WT d24 k0 d12 d13 d25 d27;have d29:Bm:=Jk j29  d2;have d30:yH:=GO j30 (VT.at_ X G) ;have d31:Bk:=Jg j31 (U0.at_ X G) d30;have d32:pf:=wS j32  d18;have d33:sF:=zG j33  WU d32;have dC:rB:=za j33 (Mt.imp r16 (E1 (a:=a))) d32;have d34:oU:=sZ j34 WH  d33;have d35:Nh:=Q3 j35 (Uy.at_ X G) d2;have d36:yI:=GP j36 (Uy.at_ X G) d35 WU d18;have d37:Bl:=Jj j37 (VU.at_ X G) ;have d38:vn:=DJ j38  d37;have d39:vt:=DU WW j39 (U0.at_ X G) (VT.at_ X G) d34 WU d36 d31 d38 d15;have d40:sH:=zJ WW j40 (VU.at_ X G) ;have d41:sI:=zK WW j41  d29 d40;have d42:t5:=BQ j42 (Uy.at_ X G) WU d17;have d43:xK:=Jf j43  d41 WU d42 d39;have d44:t7:=BS j44  ;have d45:uf:=BZ j45  ;have d46:ux:=E8 j46  Xt;have d47:t9:=BU j47  Xt;have d48:vq:=DQ j48  d46 d47;have d49:pJ:=vB j49  d44 d22;have d50:rC:=zc j50 T2  d43;have d51:ua:=BV j51 (Uy.at_ X G) d46 d49 d48;exact Q0 T U d20 d28 d45 dC d43 d51 d50
def Mc(K:aa):Sp:=λvs H Q E=>∃(c:ag)(ns:List Int),vs=[.ref c]/\ns.length<=63/\Att.Ϟ ns/\Pn H/\ZU K H c (ns.map V.int)/\(∀v H',v=.bl true->Q v H')
def Rt{K}{a}(ht:bF K aT "rules"=Za Zb)(vs)(H)(Q)(E)(h:Mc K vs H Q E):Ķ K a.Zo 1 (Cy a) vs H Q E:=by let⟨c,ns,rfl,hl,hw,hO,hS,k⟩:=h;exact Oo hl hw ht hO hS k
def walk{l:gP}{q}{Tl}{XP}{YP}{d:DefRec}{K:Params->aa}(hn:l.most=Za 63)(WD:d.params.defaults=[])(hY:∀(w:cy)(h:cg),YP w h->(K w.params).In h)(F:∀(w:cy)(mg:Str->Option ai)(fa:ag)(h:cg),(K w.params).In h->h.Ns aT mg->mg d.name=Za (.ref fa) ->
   ∃(a:Y9)(fd:cT),bF (K w.params) aT "rules"=Za Zb/\(∀(s:aw)(u:ai),jS s fd ⟨[u],[]⟩ [("_law_script",u)])/\∀base:cg,(K w.params).In base->base.Ns aT mg->ZA l.prog w (K w.params) mg base (Z' l.prog w) 11 fa fd ["_law_script"] (Ķ (K w.params) a.Zo 1 (Cy a))) :
  lM q Tl XP YP l.row.toRowW d [] (λf vs=>lJ f vs) :=
 L2.Àn (n:=63) (k:=11) (x:="_law_script") (CX:=λw=>Z' l.prog w) (sp:=λw=>Mc (K w.params)) hn `d WD ⟨rfl,by decide,by decide⟩ hY
  (λw mg fa h X G hm=>let⟨a,fd,h0,h1,h2⟩:=F w mg fa h X G hm;⟨fd,h1,λbase b1 b2=>(h2 base b1 b2).imp (Rt h0)⟩)
  (λ_ _ c ns hl hw hO hS=>⟨c,ns,rfl,hl,hw,hO,hS,λ_ _ e=>e⟩) λ_ _ _ _ _ z=>by
  let⟨_,_,_,_,_,_,_,_,_,_,_,_,_,_,_,z⟩:=z;exact z
end My
end
local macro_rules|`(#check $s:str)=>do
 let b:=`PySem.Challenge
 let t(x:Lean.Name):=Lean.mkIdent (`PySem.W.Fast++.mkSimple s!"tw{x.hash}")
 let a:=((List.range' 43 664).map (s!"o_{·}")++s.getString.splitOn).toArray.map (λx=>t (b++.str `cw_wholeowners_k11_worths_holds x))|>.push (t (b.str "pw_wholeowners_k11_worths"))
 return Lean.mkNullNode (← a.mapM λx=>do return(←`(theorem $x:ident:True:=⟨⟩)).1)
#check "heap_707 heap_39 tree_706 tree_657 view_39 tree_488 tree_572 tree_355 tree_346 tree_298 sts_576 tree_245 sts_356 sts_658 tree_200 tree_185 sts_299 tree_170 sts_246 tree_155 tree_140 sts_49 tree_125 sts_201 tree_110 tree_95 tree_80 sts_347 sts_171 sts_126 sts_141 sts_186 heap_46 sts_81 sts_111 sts_156 sts_96 tree_47 env_41"
open PySem.W
set_option maxRecDepth 100000 in
set_option maxHeartbeats 0 in
theorem PySem.Challenge.cw_wholeowners_k11_worths_holds : PySem.Challenge.rw_wholeowners_k11_worths.Holds := by
 w_on;o_law;k_head;(case hw=>w_witness2)
 k_fill
 refine My.walk (l:=PySem.Challenge.rw_wholeowners_k11_worths) rfl rfl (λw h Y=>PySem.W.kIn_of Y) ?F
 case F =>
  intro w mg fa h KX G Wn;apply My.all_mk KX G Wn
  all_goals first
   |(apply L2.gf<;>k_is)
   |(apply L2.gm<;>k_is)
   |(apply My.gxa;(focus k_is);(focus k_exc);all_goals k_is)
   |(apply My.Gk.mk<;>first|k_is|kit_is|kernel_rfl)
   |(apply My.Gxw.mk<;>k_is)
   |(apply My.Gwh.mk<;>first|k_is|kernel_rfl)
   |(apply L2.gx;(focus k_is);(focus k_exc);all_goals k_is)
   |(apply L2.gt<;>k_is)
   |(apply L2.gi;k_is)
   |(apply L2.Gz.mk;k_is)
   |(apply L2.Gb.mk<;>k_is)
   |(apply My.Gw.mk<;>k_is)
   |k_is

