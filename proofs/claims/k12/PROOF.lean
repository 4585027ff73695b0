import PyProof.Rows.All
import Wide.All
import OpenK.AllK
import Wide.FinOn
import Lean
import PyProof.EqAt
import PyProof.EqKinds
import PyProof.TupleCall
import KE.KLam
import KE.KNest
import PySem.Challenge.RW_wholeowners_k12_parts
import KE.KNestM
import KE.KIsAll
import PyProof.EnumFor
import PyProof.EnumStmt
import PyProof.EnumMake
import PyProof.StrOps2
import PyProof.ZipIter
import PyProof.Rows.SumAny
import PyProof.AttrMissHeap
import KE.KDictOf
import PyProof.SumWalk
import PyProof.DictWalks
import KE.KEqDict
theorem Zf{p}[i:Decidable p](h:decide p=true):p:=of_decide_eq_true h
theorem Zg{p}[i:Decidable p](h:p):decide p=true:=decide_eq_true h
theorem Zh{p}[i:Decidable p](h:¬p):decide p=false:=decide_eq_false h
open Option renaming some→Za,none→Zb
theorem Zc{c:Prop}{h:Decidable c}(k:c){α}{t e:α}:ite c t e=t:=if_pos k
theorem Zd{c:Prop}{h:Decidable c}(k:¬c){α}{t e:α}:ite c t e=e:=if_neg k
open PySem.W renaming Frag->aa,findIn->aI,nsIn->bJ,kia_one->bN,mroIn->bS,emptyDict->bT,keepIn->bV,fnOf->bY,hasDictIn->cG,specialIn->cM,instObj->cZ,looks_findIn->du,hideAll->dJ,plainGet->ee,Looks->eg,callWith_K->eM,excIn->fF,takesIn->fN,makesIn->fO,codeIn->f6,plainOver->gu,looks_mroIn->gB,OpenLaw->gJ,isFn->gL,methodCall_KW->gT,lookIn->hZ,plainGet_of->iq,looks_clsIn->ir,hideAll_get->iu,of_hideAll->iK,kitx_list->iU,takerIn->jg,tailIn->jq,kitOne->jt,mg_of->jM,handedIn->ka,funFrames_hide->ke,cellsFrom_some->kf,hideAll_none->kG,callWith_K0->kM,tail_of_in->kZ,kitx_tuple->k6,set_plain->lr,kitx_dict->lv,any_some->lG,WalkO->lH,readsIn->lU,findCls->lV,bind_fn->lW
open List renaming length_map->ac,mem_cons_of_mem->ah,mem_cons_self->al,map_cons->am,mem_cons->ao,mem_map->aq,mem_singleton->ax,getElem?_eq_getElem->aA,map_append->aC,map_map->aD,getElem?_map->aF,nodup_cons->aL,mem_append_right->aM,replicate->aQ,getElem?_eq_some_iff->aR,map_congr_left->aW,length_append->aZ,mem_append->ba,mem_filter->bi,size_toArray->bj,range->br,length_cons->bw,find?_cons->bQ,append_nil->bW,mem_iff_getElem?->bZ,nodup_append->b5,mem_append_left->b7,lookup_cons->cB,length->cE,map_nil->cT,getElem_mem->cU,pairwise_cons->cW,mem_range->cX,getElem?_append_right->cY,getElem?_append_left->de,mem_of_getElem?->dq,all_eq_true->dG,filter_map->dP,any_cons->dR,length_replicate->dU,length_filter_le->dW,getElem?_eq_none->dX,take_add_one->d6,length_take->eC,drop_eq_getElem_cons->eI,replicate_succ->eK,nil_append->eS,length_eq_zero_iff->eX,drop_eq_nil_of_le->ft,not_mem_nil->fJ,sum_cons->fT,getElem?_set_ne->fW,mem_filterMap->gw,find?_map->gy,find?_eq_none->gz,lookup->gF,getElem?_set->gG,flatten_cons->gH,length_drop->gN,getElem?_replicate->gO,getElem?_cons_zero->gP,getElem?_cons_succ->gQ,filter_cons->gR,any_eq_true->gS,take_of_length_le->g5,any_map->g7,nodup_nil->iE,map_id->iF,length_pos_iff->iQ,filter_sublist->iR,filter_eq_self->iS,filterMap_cons->iT,all_cons->iV,findIdx?_eq_some_iff_getElem->i0,find?_append->ja,ext_getElem?->jb,take_length->jj,map_fst_zip->jk,of_mem_zip->jD,length_set->jE,length_nil->jF,perm_ext_iff_of_nodup->jY,zipWith->kS,range_succ_eq_map->kT,getElem?_set_self->kU,take_append_drop->lf,length_singleton->lg,cons_lt_cons_iff->lh,mem_of_mem_take->lw,mem_of_mem_drop->ly,drop_eq_nil_iff->lz,getElem?_range->lP,ne_nil_of_mem->l9,contains_cons->ma
open PySem renaming Value->ae,wpAny_bind->af,Addr->ag,starEach->ar,Shared->au,wpAny_pure->aE,sizeLine->aG,Program->aK,wpAny->aO,World->aT,mainGlobals->aV,wpAny_mono->a6,Expr->a7,Heap->bc,bootBuiltins->bu,foldedSetIterable->bI,Stmt->bK,backTo->bM,compareOp->bO,Around->bX,FuncData->cg,attributeBase->cz,wpAny_holding->cF,keywordEach->cI,swapsWith->cN,assignEach->cO,behindInMarks->cP,wpAny_loadPart_at->cS,wpAny_Call_Name_kw->dg,Scope->di,mem_of_lookup->dA,wpAny_truthy_bool->dB,wpAny_newObj_type->dC,lookup_relabel_local->dD,binaryOp->dE,sysModules->dY,wpAny_passesOwn->d9,backToKw->ed,Spec->ei,wpAny_standAt->ej,codeAny_call_builtin->eL,codeAny->eP,Paired->eW,wpAny_comprehension_free->fg,cLine->fj,wpAny_execs_nil->fm,tupleKind_room_in1->fz,getMethod->fE,standAt->fL,codeAny_mono->fM,Keyword->fP,sliceBounds->f9,bindArgs->gg,wpAny_pyIter_list->gX,swapsWithSole->g9,swappedStores->hJ,reprText->io,callWith->ip,NameKind->iz,wpAny_call->iI,getItem->iJ,getAttrByItsOwn->iP,strIterType->iZ,tupleKind->i8,wpAny_isSubtype_exc->je,wpAny_execs_cons->jf,typeLookup->jm,isInstance->jn,call_meets->jo,builtinsNs->jp,Result->ju,Builtin->jC,wpAny_assign_Name->jJ,callerA->jK,call_meetsIn->jL,IntMulOk->jN,GenState->jO,BindsTo->jR,plainObj_wpAny_Assign_Attribute->jT,IsPart->kh,Arguments->kl,wpAny_field->kn,sizeLine_eq->ko,excClassObj->kq,letOwnedTupleGo->kD,codeAny_builtin->kE,Within->kF,valueAt->kJ,setItem->kK,notedBy->kL,wpAny_loadPart->kY,PyData->k7,call->lE,bindL->lR,bindC->lS,atKey->lT
open And renaming intro->ai
open PySem.Heap renaming get?_push_of_some->aj,lt_size->aw,get?_push_size->aP,get?_update_ne->dF,get?_update_self->dS,FlyingW->f8,size_push->iB,SameBut->i9,get?_update_other->kO
open Nat renaming le_refl->ak,ne_of_lt->ay,lt_of_lt_of_le->az,le_trans->aJ,lt_of_le_of_lt->aX,zero_le->aY,pow_le_pow_right->b8,lt_succ_self->ci,lt_succ_of_lt->cj,two_pow_pos->cy,lt_irrefl->eR,le_succ->fb,zero_add->fA,ne_of_gt->fB,le_of_lt->fC,le_of_ble_eq_true->fI,le_of_not_lt->fS,lcm->fV,eq_of_mul_eq_mul_left->gE,lt_trans->ia,le_of_eq->ji,le_antisymm->jS,add_assoc->kI,add_sub_cancel_left->kR,pow_succ->lc,pow_lt_pow_right->lM,pow_add->lN,mul_pos->lO,mul_le_mul_left->lZ,add_le_add_left->l7
open Sum renaming inr->ap,inl->kW
open Int renaming gcd->aH,mul_le_mul_of_nonneg_right->aS,mul_assoc->bh,mul_pos->bv,gcd_pos_of_ne_zero_right->bx,le_of_lt->bF,mul_comm->bR,gcd_dvd_right->cm,mul_ediv_cancel_left->cL,emod_lt_of_pos->dN,eq_of_mul_eq_mul_right->eA,toNat_of_nonneg->eO,emod_nonneg->eV,mul_right_comm->eY,mul_nonpos_of_nonneg_of_nonpos->eZ,natCast_dvd_natCast->fc,mul_left_comm->fD,natAbs_dvd_natAbs->fK,gcd_dvd_left->fU,ofNat_le->ib,le_trans->ig,natAbs_neg->iM,natAbs_mul->iN,mul_nonneg->iO,natAbs_natCast->i6,mul_nonpos_of_nonpos_of_nonneg->i7,gcd_mul_left->jz,neg_mul->jG,ediv_eq_of_eq_mul_right->jZ,le_of_mul_le_mul_right->km,mul_one->lQ
open Rat renaming divInt->aN,mul_nonneg->bH,divInt_eq_div->cD,le_trans->cK,intCast_natCast->cR,mul_le_mul_of_nonneg_left->dL,natCast_le_natCast->dM,intCast_mul->eU,intCast_lt_intCast->fu,num_divInt_den->gA,add_zero->g8,zero_divInt->ii,intCast_add->ij,mul_pos->iH,zero_add->jc,mul_comm->jd,natCast_mul->jH,intCast_sub->jI,divInt_eq_divInt_iff->kC,le_of_lt->kX,divInt_add_divInt->li,le_refl->lC
open PySem.Value renaming ref->aU,builtin->fH,int->jh
open False renaming elim->bo
open PySem.PyData renaming strOk->bA,eqv->cH,eqvAll->fG,depth->iX,str->jA,canLayAll0->lJ
open Bool renaming false_ne_true->bG,eq_iff_iff->cx,and_eq_true->cJ,or_eq_true->eT,eq_false_iff->gI,false_and->iG,true_and->iW
open Option.some renaming inj->bL
open PySem.NameKind renaming free->bP,cell->iy
open Ne renaming symm->bU
open PySem.Str renaming ofString->b6,empty->cq
open PySem.Builtin.Int renaming intBits->cA
open PySem.F renaming excBase_ValueError->cC,plainAttrs_dict->gD,slot_list_getattribute->gU,slot_dict_get->gW,excAttr_ValueError->jv,slot_dict_getitem->jB,slot_dict_values->jP,slot_list_index->jU,plainAttrs_list->jV,args_dict_get_3->jW,entry_dict_get->ki,slot_dict_pop->ky,slot_list_append->k9
open True renaming intro->cQ
open Classical renaming propDecidable->dy,byContradiction->f7
open PyProof.Rows renaming callWith_type1->dH,slot_tuple_getitem->dI,envOfC->dZ,AllBare->gZ,callWith_builtin1->iD,assignInOrder_cons->jx
open PySem.Builtin.Slice renaming slicePlaces->dO,sliceAdjust->fR
open Option renaming isSome_map->dQ,isSome_eq_false_iff->d8,isNone_iff_eq_none->en,isSome_iff_exists->eJ,map_eq_some_iff->kA,map_eq_none_iff->kB,getD_none->lY
open Or renaming inl->eB,inr->gM
open ForInStep renaming yield->eE
open PySem.Calls renaming spliced_cons->eQ,callWith_builtin->fk,evalArgs_plain->fQ,spliced_nil->gC,Name_function_global->jQ,Constant_str->lK
open List.Sublist renaming refl->fX
open PySem.Spec renaming ltCps->fY
open PySem.Builtin.List renaming listTooLong->fZ
open PySem.PassesOwn renaming never->gK
open PySem.W.WData renaming weightAll->gY,int->iA
open List.cons renaming inj->im
open PySem.Expr renaming Subscript->iC
open PySem.Paired renaming length->iL,snoc->kN
open PySem.Code renaming quiet_builtin->iY
open List.Perm renaming map->jy
open Nat.succ renaming inj->jX
open PySem.Obj renaming mapSeq->kg
open PySem.EntryCells renaming newEntry->kj
open PySem.SeqAt.EqAt renaming str_int->kr,int_str->ku
open PySem.W.Looks renaming ld->kH
open PySem.Heap.DictOf renaming new->kP
open PySem.Around renaming under_plainId->kQ
open PySem.Heap.Ns1 renaming of_empty->k8
open Array renaming length_toList->lA
open PySem.Within renaming cons->lF
open PySem.SeqAt renaming EqAt->lI
open PySem.Builtin.BaseException renaming bexcPut->lL
set_option compiler.extract_closed false
set_option bootstrap.genMatcherCode false
set_option genSizeOf false
noncomputable section
set_option Elab.async false
set_option linter.all false
set_option autoImplicit true
set_option maxRecDepth 100000
namespace L2
open PySem PySem.Spec PyProof.Rows
abbrev Key:=Sum Int Str
def DY:Key->ae->Bool
 |.inl k,v=>Value.isInt k v
 |.inr x,v=>Value.isStrOf x v
def ÂB(w:aT):Key->Int
 |.inl k=>hashInt k
 |.inr x=>hashStr w x
def nK:∀{k:Key}{v:ae},DY k v=true->(∃i t,k=kW i/\v=jh i t)\/(∃x t,k=ap x/\v=Value.str x t)
 |.inl i,v,h=>by
  obtain⟨t,e⟩:=Value.isInt_shape h;exact .inl ⟨i,t,rfl,e⟩
 |.inr x,v,h=>by obtain⟨t,e⟩:=Value.isStrOf_shape h;exact .inr ⟨x,t,rfl,e⟩
def IH(i)(t):DY (.inl i) (.int i t)=true:=by simp[DY,Value.isInt]
def IG(x)(t):DY (.inr x) (.str x t)=true:=by simp[DY,Value.isStrOf]
def Qn(a b):decide ((kW a:Key)=kW b)=(a==b):=by grind
def Lw(a b):decide ((ap a:Key)=ap b)=decide (a=b):=by grind
def Qm(a)(b):decide ((kW a:Key)=ap b)=false:=Zh (λq=>nomatch q)
def Ql(a)(b):decide ((ap a:Key)=kW b)=false:=Zh (λq=>nomatch q)
def nN(prog:aK)(w:aT):PySem.KeyKind prog w Key where
 is:=DY
 hash:=ÂB w
 inj:=λv a b ha hb=>by
  rcases nK ha with⟨i,t,rfl,rfl⟩|⟨x,t,rfl,rfl⟩
  .rcases nK hb with⟨j,u,rfl,e⟩|⟨y,u,rfl,e⟩
   .injection e with e1 _;rw[e1]
   .exact nomatch e
  .rcases nK hb with⟨j,u,rfl,e⟩|⟨y,u,rfl,e⟩
   .exact nomatch e
   .injection e with e1 _;rw[e1]
 byValue:=λk v h=>by rcases nK h with⟨i,t,rfl,rfl⟩|⟨x,t,rfl,rfl⟩<;>rfl
 pyHash:=λhv h=>by
  rcases nK hv with⟨i,t,rfl,rfl⟩|⟨x,t,rfl,rfl⟩
  .exact wpAny_pyHash_int h
  .exact wpAny_pyHash_str h
 eqBool:=λhu hv h=>by
  rcases nK hu with⟨i,t,rfl,rfl⟩|⟨x,t,rfl,rfl⟩
  .rcases nK hv with⟨j,u,rfl,rfl⟩|⟨y,u,rfl,rfl⟩
   .rw[Qn] at h;exact wpAny_eqBool_int h
   .rw[Qm] at h;exact ku i t y u _ _ _ _ h
  .rcases nK hv with⟨j,u,rfl,rfl⟩|⟨y,u,rfl,rfl⟩
   .rw[Ql] at h;exact kr x t j u _ _ _ _ h
   .rw[Lw] at h;exact wpAny_eqBool_str h
 «strs»:=λk x t v h=>by
  rcases nK h with⟨i,u,rfl,e⟩|⟨y,u,rfl,e⟩
  .exact nomatch e
  .injection e with e1 _
   subst e1;cases v<;>rfl
def Es(prog)(w)(i)(t):(nN prog w).is (.inl i) (.int i t)=true:=IH i t
def Er(prog)(w)(x)(t):(nN prog w).is (.inr x) (.str x t)=true:=IG x t
inductive V where
 |Yh|bl (b:Bool)|int (i:Int)|str (x:Str)|byt (b:Array UInt8)|flt (b:UInt64)|ref (a:ag)|ty (n:String)
 deriving DecidableEq
def RelV:V->ae->Prop
 |.Yh,u=>u=Value.none
 |.bl b,u=>u=Value.bool b
 |.int i,u=>∃t,u=jh i t
 |.str x,u=>∃t,u=Value.str x t
 |.byt b,u=>∃t,u=Value.bytes b t
 |.flt b,u=>∃t,u=Value.float b t
 |.ref a,u=>u=aU a
 |.ty n,u=>u=Value.type n
abbrev Vals:List V->List ae->Prop:=eW RelV
theorem Vals.length(r:Vals xs us):xs.length=us.length:=iL r
theorem Vals.get:∀{xs:List V}{us:List ae}{i:Nat}{x:V},Vals xs us->xs[i]?=Za x->∃u,us[i]?=Za u/\RelV x u
 |_,_,_,_,.nil,e=>by simp at e
 |_,_,0,_,.cons r _,e=>by simp at e;subst e;exact⟨_,rfl,r⟩
 |_,_,i+1,x,.cons _ t,e=>by
  obtain⟨u,h1,h2⟩:=Vals.get t (by simpa using e)
  simp_all
theorem Vals.set(r:RelV x u):∀{xs:List V}{us:List ae}(i:Nat),Vals xs us->Vals (xs.set i x) (us.set i u)
 |_,_,_,.nil=>.nil
 |_,_,0,.cons _ t=>.cons r t
 |_,_,i+1,.cons q t=>.cons q (Vals.set r i t)
theorem Vals.append:∀{xs ys:List V}{us ws:List ae},Vals xs us->Vals ys ws->Vals (xs++ys) (us++ws)
 |_,_,_,_,.nil,s=>s
 |_,_,_,_,.cons r t,s=>.cons r (Vals.append t s)
theorem Vals.take:∀{xs:List V}{us:List ae}(n:Nat),Vals xs us->Vals (xs.take n) (us.take n)
 |_,_,0,_=>.nil
 |_,_,_+1,.nil=>.nil
 |_,_,n+1,.cons r t=>.cons r (Vals.take n t)
theorem Vals.drop:∀{xs:List V}{us:List ae}(n:Nat),Vals xs us->Vals (xs.drop n) (us.drop n)
 |_,_,0,r=>r
 |_,_,_+1,.nil=>.nil
 |_,_,n+1,.cons _ t=>Vals.drop n t
def Z0:Option V->Option ae->Prop
 |some v,Za u=>RelV v u
 |none,Zb=>True
 |_,_=>False
def KV{κ:Type}:List (κ×V)->List (κ×ae)->Prop:=eW λ(p:κ×V)(q:κ×ae)=>p.1=q.1/\RelV p.2 q.2
noncomputable def kV:Key->V
 |.inl i=>.int i
 |.inr x=>.str x
inductive HO where
 /-- a list -/
 |lst (xs:List V)
 /-- a tuple (never changes) -/
 |tup (xs:List V)
 /-- a dict whose keys are ints and texts;one whose keys are tuples of ints and texts (the empty one is both) -/
 |dK (Ra:List (Key×V))|dT (Ra:List (List Key×V))
 /-- a set of ints: its members,its size -/
 |set (S:Int->Bool) (n:Nat)
 /-- an instance of the class at C,its dict at dx,its attributes -/
 |ins (C dx:ag) (fs:List (Str×V))
 /-- the dict of the instance at x -/
 |own (x:ag)
 /-- the dict of an exception -/
 |xd (fs:List (Str×V))
 /-- a bound method,f of x -/
 |met (f x:ag)
 /-- a range object lo,lo+1,.. below hi -/
 |rng (lo hi:Int)
 /-- a thing that is known to the object (the script;a dict while a loop walks it): read,never written while it is so -/
 |YQ (o:Obj) (u:HO)
 /-- a code object's table -/
 |Ņ (ps:Array ae)
 /-- any S8 thing,by what is true of its one object (a def of one's own: SetO a S n:=HO.ext λh=>..) -/
 |ext (φ:bc->Prop)
abbrev Hp:=ag->Option HO
noncomputable def upd(H:Hp)(a:ag)(o:HO):Hp:=λb=>if b=a then Za o else H b
def mw:upd H a o a=Za o:=by unfold upd;rw[Zc rfl]
def mq(h:b≠a):upd H a o b=H b:=by unfold upd;rw[Zd h]
def w5:upd (upd H a o) a u=upd H a u:=by
 funext b;unfold upd;split<;>rfl
def DV{H:Hp}{a b:ag}{o u:HO}(h:H a=Za o)(h':H b=Za u)(d:o≠u):a≠b:=by grind
def mH{H:Hp}{a b:ag}{o:HO}(h:H a=Za o)(h':H b=Zb):a≠b:=by grind
section
variable(P:aK)(w:aT)
def YE(H:Hp)(h:bc)(a:ag):HO->Prop
 |.lst xs=>xs.length<=aG/\∃(its:List ae)(n:Nat),Vals xs its/\h.get? a=Za { cls:=.type "list",data:=.seq its.toArray n }
 |.tup xs=>xs.length<=aG/\∃its:List ae,Vals xs its/\IsTup h a its.toArray
 |.dK Ra=>Ra.length<=aG/\(a==dY)=false/\∃vs,KV Ra vs/\h.DictOf (nN P w) a vs
 |.dT Ra=>Ra.length<=aG/\(a==dY)=false/\∃xs:List (List Key×ag×ae),
   eW (λ(p:List Key×V)(q:List Key×ag×ae)=>p.1=q.1/\H q.2.1=Za (.tup (p.1.map kV))/\RelV p.2 q.2.2) Ra xs /\
   ∃o es ep,h.get? a=Za o/\o.ExactDict/\o.data=.dict es ep/\es.toList=xs.map (entryOfKey (i8 (nN P w)))/\(xs.map (·.1)).Nodup
 |.set S n=>h.SetOf (intKind P w) a S n
 |.ins C dx fs=>H dx=Za (.own a)/\fs.length<=1000/\dx≠a/\h.get? a=Za (cZ C dx) /\
   ∃mA,h.Ns1 dx mA/\(∀f,Z0 (fs.lookup f) (mA f))/\kF mA (fs.map (·.1))
 |.own _=>∃o,h.get? a=Za o
 |.xd fs=>∃mA,h.Ns1 a mA/\∀f,Z0 (fs.lookup f) (mA f)
 |.rng lo hi=>∃t u v,h.get? a=Za { cls:=.type "range",data:=.fields #[.int lo t,.int hi u,.int 1 v] }
 |.YQ o u=>h.get? a=Za o/\YE H h a u
 |.Ņ ps=>h.get? a=Za { cls:=.none,data:=.fields ps }
 |.met f x=>h.get? a=Za (PySem.W.methodObj (.ref f) (.ref x))
 |.ext φ=>φ h/\(∃o,h.get? a=Za o)/\∀h1 h2:bc,φ h1->(∀o,h1.get? a=Za o->h2.get? a=Za o)->φ h2
def Ë(H:Hp)(h:bc):Prop:=∀a o,H a=Za o->YE P w H h a o
end
section
variable{P:aK}{w:aT}{H H':Hp}{h h':bc}{a:ag}{o:HO}
theorem YE.lt(x:YE P w H h a o):a<h.objs.size:=by
 cases o with
 |lst xs=>obtain⟨_,_,_,_,e⟩:=x;exact aw e
 |tup xs=>obtain⟨_,_,_,p⟩:=x;exact p.lt
 |dK Ra=>obtain⟨_,_,_,_,o,_,_,e,_⟩:=x;exact aw e
 |dT Ra=>obtain⟨_,_,_,_,o,_,_,e,_⟩:=x;exact aw e
 |set S n=>obtain⟨o,_,_,_,e,_⟩:=x;exact aw e
 |ins C dx fs=>obtain⟨_,_,_,e,_⟩:=x;exact aw e
 |own y=>obtain⟨_,e⟩:=x;exact aw e
 |xd fs=>obtain⟨_,⟨_,_,_,e,_⟩,_⟩:=x;exact aw e
 |rng lo hi=>obtain⟨_,_,_,e⟩:=x;exact aw e
 |YQ ob u=>obtain⟨e,_⟩:=x;exact aw e
 |Ņ ps=>exact aw (x)
 |met f y=>exact aw (x)
 |ext φ=>obtain⟨_,⟨_,e⟩,_⟩:=x;exact aw e
theorem eW.Ϻ:∀{la1:List α}{la2:List β},eW F la1 la2->(∀a b,F a b->G a b)->eW G la1 la2
 |_,_,.nil,_=>.nil
 |_,_,.cons r t,f=>.cons (f _ _ r) (eW.Ϻ t f)
def YE.Ð(x:YE P w H h a o)(k:∀b u,(b=a\/H b=Za (.own a))->h.get? b=Za u->h'.get? b=Za u)(ho:∀b,H b=Za (.own a)->H' b=Za (.own a))(ht:∀b xs,H b=Za (.tup xs)->H' b=Za (.tup xs)):YE P w H' h' a o:=by
 induction o with
 |lst xs=>obtain⟨z,its,n,r,e⟩:=x;exact⟨z,its,n,r,k _ _ (.inl rfl) e⟩
 |tup xs=>obtain⟨z,its,r,ob,e,c⟩:=x;exact⟨z,its,r,ob,k _ _ (.inl rfl) e,c⟩
 |dK Ra=>obtain⟨z,y,vs,r,ob,es,ep,e,c⟩:=x;exact⟨z,y,vs,r,ob,es,ep,k _ _ (.inl rfl) e,c⟩
 |dT Ra =>
  obtain⟨z,y,xs,r,ob,es,ep,e,c⟩:=x;exact⟨z,y,xs,eW.Ϻ r λp q z=>⟨z.1,ht _ _ z.2.1,z.2.2⟩,ob,es,ep,k _ _ (.inl rfl) e,c⟩
 |set S n=>obtain⟨ob,es,ep,t,e,c⟩:=x;exact⟨ob,es,ep,t,k _ _ (.inl rfl) e,c⟩
 |ins C dx fs =>
  obtain⟨d,z,ne,e,mA,⟨od,es,ep,e2,c⟩,r⟩:=x;exact⟨ho _ d,z,ne,k _ _ (.inl rfl) e,mA,⟨od,es,ep,k _ _ (.inr d) e2,c⟩,r⟩
 |own y=>obtain⟨ob,e⟩:=x;exact⟨ob,k _ _ (.inl rfl) e⟩
 |xd fs=>obtain⟨mA,⟨od,es,ep,e,c⟩,r⟩:=x;exact⟨mA,⟨od,es,ep,k _ _ (.inl rfl) e,c⟩,r⟩
 |rng lo hi=>obtain⟨t,u,v,e⟩:=x;exact⟨t,u,v,k _ _ (.inl rfl) e⟩
 |YQ ob u ih=>obtain⟨e,q⟩:=x;exact⟨k _ _ (.inl rfl) e,ih q⟩
 |Ņ ps =>
  have e:=x;exact k a _ (.inl rfl) e
 |met f y =>
  have e:=x;exact k a _ (.inl rfl) e
 |ext φ=>obtain⟨p,⟨o,e⟩,st⟩:=x;exact⟨st _ _ p λo q=>k _ _ (.inl rfl) q,⟨o,k _ _ (.inl rfl) e⟩,st⟩
theorem Ë.lt(x:Ë P w H h)(e:H a=Za o):a<h.objs.size:=(x a o e).lt
def Ë.fresh(x:Ë P w H h)(e:h.objs.size<=a):H a=none:=by
 cases q:H a with
 |none=>rfl
 |some u=>exact absurd (az (x.lt q) e) (eR _)
def Ë.kept(x:Ë P w H h)(k:∀b u,h.get? b=Za u->h'.get? b=Za u):Ë P w H h':=λa o e =>
 (x a o e).Ð (λb u _ q=>k b u q) (λ_ q=>q) λ_ _ q=>q
def Ë.laid(x:Ë P w H h)(k:∀b u,h.get? b=Za u->h'.get? b=Za u)(hp:h.objs.size<=a)(new:YE P w (upd H a o) h' a o):Ë P w (upd H a o) h':=λb u e=>by
 have hn:=x.fresh hp;by_cases hb:b=a
 .subst hb;rw[mw] at e;grind
 .rw[mq hb] at e;exact(x b u e).Ð (λc v _ q=>k c v q) (λc q=>by rw[mq (mH q hn)];exact q) λc xs q=>by rw[mq (mH q hn)];exact q
end
def Rd(H:Hp)(a:ag)(u:HO):Prop:=H a=Za u\/∃o,H a=Za (.YQ o u)
def Rd.ok(r:Rd H a u)(x:Ë P w H h):YE P w H h a u:=by
 obtain r|⟨o,r⟩:=r
 .exact x a u r
 .obtain⟨_,q⟩:=x a _ r;exact q
def Mut:Option HO->Prop
 |some (.lst _)=>True
 |some (.dK _)=>True
 |some (.dT _)=>True
 |some (.set _ _)=>True
 |some (.ins _ _ _)=>True
 |some (.ext _)=>True
 |_=>False
section
variable{P:aK}{w:aT}{H:Hp}{h h':bc}{x e:ag}{o':HO}
def Ë.write(ok:Ë P w H h)(mu:Mut (H x))(he:e=x\/H e=Za (.own x))(k:∀b u,b≠e->h.get? b=Za u->h'.get? b=Za u)(Vz:∃u,h'.get? e=Za u)(new:YE P w (upd H x o') h' x o'):Ë P w (upd H x o') h':=λb u q=>by
 have WS:∀c y,H c=Za (.own y)->c≠x:=λc y r z=>by subst z;rw[r] at mu;exact mu
 have WR:∀c xs,H c=Za (.tup xs)->c≠x:=λc xs r z=>by subst z;rw[r] at mu;exact mu
 by_cases hb:b=x
 .subst hb;rw[mw] at q;grind
 .rw[mq hb] at q;by_cases hbe:b=e
  .have q':H b=Za (.own x):=by
    grind
   rw[q] at q';cases q';obtain⟨v,hv⟩:=Vz;exact⟨v,by rw[hbe];exact hv⟩
  .refine(ok b u q).Ð (λc v hc r=>k c v ?_ r) (λc r=>by rw[mq (WS c b r)];exact r) λc xs r=>by rw[mq (WR c xs r)];exact r
   grind
end
structure Un(fs ex:List ag)(H H':Hp)(h h':bc):Prop where
 keep:∀b o,h.get? b=Za o->H b=Zb->b∉fs->b∉ex->h'.get? b=Za o
 slot:∀b o,h.get? b=Za o->H b=Zb->b∈fs->b∉ex->∃sl,h'.get? b=Za { o with slots:=sl }
 free:∀b o,h.get? b=Za o->H b=Zb->b∉ex->H' b=Zb
 there:∀b o,h.get? b=Za o->b∉ex->∃o',h'.get? b=Za o'
 Á:∀b xs,H b=Za (.tup xs)->H' b=Za (.tup xs)
 ZF:∀b o u,H b=Za (.YQ o u)->H' b=Za (.YQ o u)
 Ï:∀b ps,H b=Za (.Ņ ps)->∃RD,H' b=Za (.Ņ (ps++RD))
section
variable{fs ex:List ag}{H H1:Hp}{h h1 h':bc}{a x e:ag}{o:HO}
def Un.any(u:Un fs ex H H1 h h1)(q:h.get? b=Za ob)(n:H b=Zb)(hx:b∉ex):∃sl,h1.get? b=Za { ob with slots:=sl }:=by
 by_cases hb:b∈fs
 .exact u.slot b ob q n hb hx
 .exact⟨ob.slots,u.keep b ob q n hb hx⟩
def Un.kept(k:∀b u,h.get? b=Za u->h'.get? b=Za u):Un fs ex H H h h' :=
 ⟨λb ob q _ _ _=>k b ob q,λb ob q _ _ _=>⟨ob.slots,k b ob q⟩,λ_ _ _ n _=>n,λb ob q _=>⟨ob,k b ob q⟩,λ_ _ q=>q,λ_ _ _ q=>q,λ_ ps q=>⟨#[],by rw[q];simp⟩⟩
def Un.refl:Un fs ex H H h h:=Un.kept λ_ _ q=>q
def Un.laid(k:∀b u,h.get? b=Za u->h'.get? b=Za u)(hp:h.objs.size<=a)(hn:H a=Zb):Un fs ex H (upd H a o) h h' where
 keep:=λb u q _ _ _=>k b u q
 slot:=λb u q _ _ _=>⟨u.slots,k b u q⟩
 free:=λb u q n _=>by rw[mq (ay (az (aw q) hp))];exact n
 there:=λb u q _=>⟨u,k b u q⟩
 Á:=λb xs q=>by rw[mq (mH q hn)];exact q
 ZF:=λb u xs q=>by rw[mq (mH q hn)];exact q
 Ï:=λb ps q=>⟨#[],by rw[mq (mH q hn),q];simp⟩
def Un.write(mu:Mut (H x))(he:e=x\/H e=Za (.own x))(k:∀b u,b≠e->h.get? b=Za u->h'.get? b=Za u)(Vz:∃u,h'.get? e=Za u):Un fs ex H (upd H x o) h h':=by
 have hx:∀b,H b=Zb->b≠x:=λb n z=>by subst z;rw[n] at mu;exact mu
 have hb:∀b,H b=Zb->b≠e:=λb n z=>by
  grind
 have hm:∀b u,H b=Za u->¬Mut (Za u)->b≠x:=λb u q nm z=>by grind
 refine⟨λb u q n _ _=>k b u (hb b n) q,λb u q n _ _=>⟨u.slots,k b u (hb b n) q⟩,λb u q n _=>by rw[mq (hx b n)];exact n,λb u q _=>?_,
  λb xs q=>by rw[mq (hm b _ q λz=>z)];exact q,λb u xs q=>by rw[mq (hm b _ q λz=>z)];exact q,λb ps q=>⟨#[],by rw[mq (hm b _ q λz=>z),q];simp⟩⟩
 grind
end
noncomputable def trk(h:bc)(H:Hp):List ag:=(br h.objs.size).filter λa=>(H a).isSome
def Hq(h:bc)(H:Hp):bc:=dJ h (trk h H)
def IM(h)(H):(Hq h H).objs.size=h.objs.size:=PySem.W.hideAll_size _ _
def Kr(e:h.get? b=Za o)(n:H b=Zb):(Hq h H).get? b=Za o :=
 iu _ e λhm=>by
  have q:=(bi.mp hm).2
  grind
def Nw(e:(Hq h H).get? b=Za o):h.get? b=Za o/\H b=none:=by
 have e':=iK (trk h H) e;refine⟨e',?_⟩;cases q:H b with
 |none=>rfl
 |some x =>
  have hm:b∈trk h H:=bi.mpr ⟨cX.mpr (aw e'),by simp[q]⟩;have z:(Hq h H).get? b=none:=kG (trk h H) hm
  grind
noncomputable def Ow(g h:bc)(L:ag):List (ag×Obj):=(br h.objs.size).filterMap λa=>if a=L\/(g.get? a).isSome=true then Zb else(h.get? a).map λo=>(a,o)
def rest(g h:bc)(L d:ag):List (ag×Obj):=(Ow g h L).filter λp=>decide (p.1≠d)
structure Mod(K:aa)(mg:Str->Option ae)(base:bc):Prop where
 kin:K.In base
 glob:base.Ns aV mg
 blt:∃mb,base.Ns jp mb/\∀x:Str,x≠"__name__"->mb x=bu x
 nolimit:base.NoLimit
structure Cx where
 prog:aK
 w:aT
 K:aa
 mg:Str->Option ae
 base:bc
 A:bX
 N:List Str
 Y0:au
 Ha0:Hp
 env:Env
 outer:List Env
 stack:List Env
 ex:List ag
 fn:Str->Bool
 calm:Bool
 pn:List (ag×Obj)
 xe:ae->au->Prop
noncomputable def Zt(l:List Env):List ag:=l.filterMap (·.frame)
abbrev Cx.fs(X:Cx):List ag:=Zt X.outer
def Vis(sc:di)(x:Str):Prop:=sc.names.lookup x=Za .local\/sc.names.lookup x=Za .cell\/sc.names.lookup x=Za .free
def Loc(sc:di)(x:Str):Prop:=sc.names.lookup x=Za .local\/sc.names.lookup x=Za .cell
def Look(env:Env)(h:bc)(m:Str->Option ae)(x:Str)(u:ae):Prop :=
 (env.kindOf x=Za .local/\m x=Za u)\/((env.kindOf x=Za .cell\/env.kindOf x=Za .free)/\∃c,env.cells.lookup x=Za c/\h.IsCell c (Za u))
structure Cx.Ok(X:Cx):Prop where
 mod:Mod X.K X.mg X.base
 kind:X.env.scope.kind=.function
 glob:X.env.globals=aV
 blt:X.env.builtins=jp
 above:X.Y0.heap.objs.size<=X.env.locals
 inj:∀x y c,X.env.cells.lookup x=Za c->X.env.cells.lookup y=Za c->x=y
 has:∀x,(X.env.kindOf x=Za .cell\/X.env.kindOf x=Za .free)->∃c,X.env.cells.lookup x=Za c
 cab:∀x c,X.fn x=true->X.env.cells.lookup x=Za c->X.Y0.heap.objs.size<=c
 hd:X.calm=true->X.A.handled=Zb
 frames:X.A.frames=Za X.stack
 ņ:X.stack=X.outer\/(X.stack=X.env::X.outer/\X.env.frame=Za X.env.locals)
 exf:∀b∈X.ex,b≠X.env.locals/\∀x c,X.env.cells.lookup x=Za c->c≠b
 bs:∀b o,X.base.get? b=Za o->X.Y0.heap.get? b=Za o/\X.Ha0 b=Zb
 bsz:X.base.objs.size<=X.Y0.heap.objs.size
 Ê:∀b o,X.base.get? b=Za o->b∉X.ex
 Ϛ:∀b∈X.ex,b∉X.fs
 ë:X.Y0.heap.FunFrames X.base X.outer
 frf:∀b∈X.fs,X.Ha0 b=Zb
structure Inv(X:Cx)(Q9:List (ag×Obj))(O:List (Option V))(H:Hp)(s:au):Prop where
 ok:X.Ok
 os:s.os=X.Y0.os
 bare:gZ s.gens
 base:Un X.fs X.ex X.Ha0 H X.Y0.heap s.heap
 loc:∃m,s.heap.Ns X.env.locals m/\∀(i:Nat)(x:Str)(v:V),X.N[i]?=Za x->O[i]?=Za (Za v)->Vis X.env.scope x->∃u,RelV v u/\Look X.env s.heap m x u
 cell:∀x c,X.env.cells.lookup x=Za c->∃v,s.heap.IsCell c v
 free:H X.env.locals=Zb
 Y9:∀x c,X.env.cells.lookup x=Za c->H c=Zb
 pin:∀p∈X.pn++Q9,s.heap.get? p.1=Za p.2/\H p.1=Zb/\p.1≠X.env.locals/\p.1∉X.fs/\∀v,p.2.data≠.cell v
 Ye:Ë X.prog X.w H s.heap
 len:O.length=X.N.length
section
variable{X:Cx}{Q9:List (ag×Obj)}{O:List (Option V)}{H H':Hp}{s:au}{h':bc}
def Cx.Ok.Âw(ok:X.Ok)(e:X.base.get? b=Za o):b∉X.fs:=λhb=>by
 have:=(ok.ë.mem hb).1
 grind
theorem Inv.bs(I:Inv X Q9 O H s):∀b o,X.base.get? b=Za o->s.heap.get? b=Za o/\H b=none:=λb o e =>
 ⟨I.base.keep b o (I.ok.bs b o e).1 (I.ok.bs b o e).2 (I.ok.Âw e) (I.ok.Ê b o e),I.base.free b o (I.ok.bs b o e).1 (I.ok.bs b o e).2 (I.ok.Ê b o e)⟩
def Inv.bk(I:Inv X Q9 O H s):∀b o,X.base.get? b=Za o->s.heap.get? b=Za o:=λb o e=>(I.bs b o e).1
theorem Inv.mod(I:Inv X Q9 O H s):Mod X.K X.mg X.base:=I.ok.mod
def Inv.ZE(I:Inv X Q9 O H s):X.K.In s.heap:=I.ok.mod.kin.keeps I.bk
theorem Inv.lt(I:Inv X Q9 O H s):X.env.locals<s.heap.objs.size:=let⟨_,hn,_⟩:=I.loc;hn.lt
def Inv.sz(I:Inv X Q9 O H s):X.Y0.heap.objs.size<=s.heap.objs.size:=aJ I.ok.above (fC I.lt)
def Inv.Âv(I:Inv X Q9 O H s)(h:s.heap.objs.size<=a):a∉X.fs:=λhb=>by obtain⟨_,o,ho,_⟩:=I.ok.ë.mem hb;exact absurd (az (aw ho) (aJ I.sz h)) (eR _)
def Inv.cne(I:Inv X Q9 O H s):∀x c,X.env.cells.lookup x=Za c->c≠X.env.locals:=λx c e z=>by
 obtain⟨v,o,ho,hd⟩:=I.cell x c e;obtain⟨m,⟨o',es,ep,TU,Wl,_⟩,_⟩:=I.loc
 grind
theorem Inv.ë(I:Inv X Q9 O H s):s.heap.FunFrames X.base X.outer:=by
 have all:∀l,(∀b∈Zt l,b∈X.fs)->X.Y0.heap.FunFrames X.base l->s.heap.FunFrames X.base l:=by
  intro l;induction l with
  |nil=>intro _ _;trivial
  |cons env r ih =>
   rintro hs ⟨hk,⟨L,o,hf,hn,ho,hd⟩,hr⟩
   have hL:=hs L (by unfold Zt;rw[iT,hf];exact al);obtain⟨sl,e⟩:=I.base.slot L o ho (I.ok.frf L hL) hL λz=>I.ok.Ϛ L z hL;exact⟨hk,⟨L,_,hf,hn,e,hd⟩,ih (λb hb=>hs b (by unfold Zt;rw[iT,hf];exact ah _ hb)) hr⟩
 exact all X.outer (λ_ hb=>hb) I.ok.ë
theorem Inv.stack(I:Inv X Q9 O H s):s.heap.FunFrames X.base X.stack:=by
 obtain e|⟨e,hf⟩:=I.ok.ņ
 .rw[e];exact I.ë
 .rw[e];obtain⟨m,hn,_⟩:=I.loc;refine .cons (by rw[I.ok.kind];decide) hf hn ?_ I.ë;exact Heap.get?_none_of_le (aJ I.ok.bsz I.ok.above)
def Inv.Ĭ(I:Inv X Q9 O H s):∀b∈Zt X.stack,b∈X.env.locals::X.fs:=λb hb=>by
 obtain e|⟨e,hf⟩:=I.ok.ņ
 .grind
 .rw[e] at hb;unfold Zt at hb;rw[iT,hf] at hb;exact hb
def Inv.ó(I:Inv X Q9 O H s):∀b∈Zt X.stack,H b=none:=λb hb=>by
 obtain e|hb:=ao.mp (I.Ĭ b hb)
 .rw[e];exact I.free
 .obtain⟨_,o,ho,_⟩:=I.ok.ë.mem hb;exact I.base.free b o ho (I.ok.frf b hb) λz=>I.ok.Ϛ b z hb
def Inv.step{g':Array jO}{t':Nat}{d':Drawn}{ch:List ag}(I:Inv X Q9 O H s)(S6:∀b∈ch,(b∈X.ex\/X.Y0.heap.objs.size<=b)/\b≠X.env.locals/\(∀x c,X.env.cells.lookup x=Za c->c≠b)/\∀p∈X.pn++Q9,p.1≠b)(keep:∀b o,b≠X.env.locals->b∉X.fs->b∉ch->s.heap.get? b=Za o->H b=Zb->h'.get? b=Za o)(slot:∀b o,b≠X.env.locals->b∈X.fs->b∉ch->s.heap.get? b=Za o->H b=Zb->∃sl,h'.get? b=Za { o with slots:=sl })(free:∀b o,b∉ch->s.heap.get? b=Za o->H b=Zb->H' b=Zb)(there:∀b o,b∉ch->s.heap.get? b=Za o->∃o',h'.get? b=Za o')(Á:∀b xs,H b=Za (.tup xs)->H' b=Za (.tup xs))(ZF:∀b o u,H b=Za (.YQ o u)->H' b=Za (.YQ o u))(Ï:∀b ps,H b=Za (.Ņ ps)->∃RD,H' b=Za (.Ņ (ps++RD)))(ns:∀m,s.heap.Ns X.env.locals m->h'.Ns X.env.locals m)(Ye:Ë X.prog X.w H' h')(hg:gZ g') :
  Inv X Q9 O H' { s with heap:=h',gens:=g',drawn:=d',toks:=t' }:=by
 have neL:∀b o,X.Y0.heap.get? b=Za o->b≠X.env.locals:=λb o e=>ay (az (aw e) I.ok.above);have V9:∀b o,X.Y0.heap.get? b=Za o->b∉X.ex->b∉ch:=λb o e hx hb=>by
  rcases(S6 b hb).1 with z|z
  .exact hx z
  .exact absurd (az (aw e) z) (eR _)
 have T4:∀x c,X.env.cells.lookup x=Za c->∀v,s.heap.IsCell c v->h'.IsCell c v:=λx c e v ⟨o,ho,hd⟩=>by
  have Vc:=λz=>(S6 c z).2.2.1 x c e rfl;by_cases hc:c∈X.fs
  .obtain⟨sl,q⟩:=slot c o (I.cne x c e) hc Vc ho (I.Y9 x c e);exact⟨_,q,hd⟩
  .exact⟨o,keep c o (I.cne x c e) hc Vc ho (I.Y9 x c e),hd⟩
 refine⟨I.ok,I.os,hg,⟨λb o e n hb hx=>?_,λb o e n hb hx=>?_,λb o e n hx=>?_,λb o e hx=>?_,λb xs e=>Á b xs (I.base.Á b xs e),λb o xs e=>ZF b o xs (I.base.ZF b o xs e),λb ps e=>?_⟩,?_,λx c e=>?_,?_,λx c e=>?_,λp hp=>?_,Ye,I.len⟩
 .exact keep b o (neL b o e) hb (V9 b o e hx) (I.base.keep b o e n hb hx) (I.base.free b o e n hx)
 .obtain⟨sl,e1⟩:=I.base.slot b o e n hb hx;obtain⟨sl',e2⟩:=slot b _ (neL b o e) hb (V9 b o e hx) e1 (I.base.free b o e n hx);exact⟨sl',e2⟩
 .obtain⟨o',e1⟩:=I.base.there b o e hx;exact free b o' (V9 b o e hx) e1 (I.base.free b o e n hx)
 .obtain⟨o',e1⟩:=I.base.there b o e hx;exact there b o' (V9 b o e hx) e1
 .obtain⟨m1,e1⟩:=I.base.Ï b ps e
  grind
 .obtain⟨m,hn,hl⟩:=I.loc;refine⟨m,ns m hn,λi x v e1 e2 e3=>?_⟩;obtain⟨u,r,l⟩:=hl i x v e1 e2 e3;refine⟨u,r,?_⟩;obtain l|⟨k,c,e,z⟩:=l
  .exact .inl l
  .exact .inr ⟨k,c,e,T4 x c e _ z⟩
 .obtain⟨v,z⟩:=I.cell x c e;exact⟨v,T4 x c e v z⟩
 .obtain⟨m,⟨o,_,_,ho,_⟩,_⟩:=I.loc;exact free _ o (λz=>(S6 _ z).2.1 rfl) ho I.free
 .obtain⟨v,o,ho,hd⟩:=I.cell x c e;exact free c o (λz=>(S6 c z).2.2.1 x c e rfl) ho (I.Y9 x c e)
 .obtain⟨e,n,ne,nf,d⟩:=I.pin p hp;have Vc:=λz=>(S6 p.1 z).2.2.2 p hp rfl;exact⟨keep p.1 p.2 ne nf Vc e n,free p.1 p.2 Vc e n,ne,nf,d⟩
def Inv.un{t':Nat}(I:Inv X Q9 O H s)(u:Un X.fs [] H H' s.heap h')(Ye:Ë X.prog X.w H' h'):Inv X Q9 O H' { s with heap:=h',toks:=t' }:=by
 obtain⟨m,⟨o,es,ep,ho,r⟩,_⟩:=id I.loc;obtain⟨sl,hL⟩:=u.any ho I.free (by simp);exact I.step (ch:=[]) (λ_ z=>nomatch z) (λb o _ hb _ e n=>u.keep b o e n hb (by simp)) (λb o _ hb _ e n=>u.slot b o e n hb (by simp)) (λb o _ e n=>u.free b o e n (by simp)) (λb o _ e=>u.there b o e (by simp)) u.Á u.ZF u.Ï (λm' hm=>by obtain⟨o',XX,Wp,TU,r'⟩:=hm;rw[ho] at TU;cases TU;exact⟨_,XX,Wp,hL,r'⟩) Ye I.bare
def Inv.call{g':Array jO}{t':Nat}{d':Drawn}{ch:List ag}(I:Inv X Q9 O H s)(u:Un (Zt X.stack) ch H H' s.heap h')(Ye:Ë X.prog X.w H' h')(hg:gZ g')(S6:∀b∈ch,(b∈X.ex\/X.Y0.heap.objs.size<=b)/\b≠X.env.locals/\(∀x c,X.env.cells.lookup x=Za c->c≠b)/\∀p∈X.pn++Q9,p.1≠b) :
  Inv X Q9 O H' { s with heap:=h',gens:=g',drawn:=d',toks:=t' }:=by
 obtain⟨m,⟨o,es,ep,ho,r⟩,_⟩:=id I.loc;obtain⟨sl,hL⟩:=u.any ho I.free λz=>(S6 _ z).2.1 rfl;exact I.step S6 (λb o hL hb hc e n=>u.keep b o e n (λz=>(ao.mp (I.Ĭ b z)).elim hL hb) hc) (λb o _ _ hc e n=>u.any e n hc) (λb o hc e n=>u.free b o e n hc) (λb o hc e=>u.there b o e hc) u.Á u.ZF u.Ï (λm' hm=>by obtain⟨o',XX,Wp,TU,r'⟩:=hm;rw[ho] at TU;cases TU;exact⟨_,XX,Wp,hL,r'⟩) Ye hg
def Inv.turned{t':Nat}{it:ag}(I:Inv X Q9 O H s)(k:∀b o,b≠it->s.heap.get? b=Za o->h'.get? b=Za o)(hn:H it=Zb)(hL:it≠X.env.locals)(h1:it∈X.ex\/X.Y0.heap.objs.size<=it)(h2:∀x c,X.env.cells.lookup x=Za c->c≠it)(h3:∀p∈X.pn++Q9,p.1≠it):Inv X Q9 O H { s with heap:=h',toks:=t' }:=by
 have WT:∀b u,H b=Za u->b≠it:=λb u e z=>by grind
 refine I.step (ch:=[it]) (λb hb=>?_) (λb o _ _ hc e _=>k b o (λz=>hc (by simp[z])) e) (λb o _ _ hc e _=>⟨o.slots,k b o (λz=>hc (by simp[z])) e⟩) (λ_ _ _ _ n=>n)
  (λb o hc e=>⟨o,k b o (λz=>hc (by simp[z])) e⟩) (λ_ _ e=>e) (λ_ _ _ e=>e) (λb ps e=>⟨#[],by rw[e];simp⟩) (λm hm=>?_) (λb u e=>?_) I.bare
 .have e:b=it:=by simpa using hb
  subst e;exact⟨h1,hL,h2,h3⟩
 .obtain⟨o,es,ep,ho,r⟩:=hm;exact⟨o,es,ep,k _ o (bU hL) ho,r⟩
 .refine(I.Ye b u e).Ð (λc v hc q=>k c v ?_ q) (λ_ q=>q) λ_ _ q=>q
  grind
def Inv.tok(I:Inv X Q9 O H s)(t):Inv X Q9 O H { s with toks:=t }:=I.un Un.refl I.Ye
theorem Inv.kept(I:Inv X Q9 O H s)(k:∀b u,s.heap.get? b=Za u->h'.get? b=Za u):Inv X Q9 O H { s with heap:=h',toks:=t' }:=I.un (Un.kept k) (I.Ye.kept k)
theorem Inv.laid(I:Inv X Q9 O H s)(k:∀b u,s.heap.get? b=Za u->h'.get? b=Za u)(hp:s.heap.objs.size<=a)(new:YE X.prog X.w (upd H a o) h' a o) :
  Inv X Q9 O (upd H a o) { s with heap:=h',toks:=t' }:=I.un (Un.laid k hp (I.Ye.fresh hp)) (I.Ye.laid k hp new)
theorem Inv.write(I:Inv X Q9 O H s)(mu:Mut (H x))(he:e=x\/H e=Za (.own x))(k:∀b u,b≠e->s.heap.get? b=Za u->h'.get? b=Za u)(Vz:∃u,h'.get? e=Za u)(new:YE X.prog X.w (upd H x o) h' x o):Inv X Q9 O (upd H x o) { s with heap:=h',toks:=t' }:=I.un (Un.write mu he k Vz) (I.Ye.write mu he k Vz new)
def Inv.Ů(I:Inv X Q9 O H s)(h:∀p∈pins',s.heap.get? p.1=Za p.2/\H p.1=Zb/\p.1≠X.env.locals/\p.1∉X.fs/\∀v,p.2.data≠.cell v):Inv X pins' O H s :=
 ⟨I.ok,I.os,I.bare,I.base,I.loc,I.cell,I.free,I.Y9,λp hp=>(ba.mp hp).elim (λz=>I.pin p (b7 _ z)) (h p),I.Ye,I.len⟩
def Av{N:List Str}(hN:N.Nodup){i j:Nat}{x:Str}(a:N[i]?=Za x)(b:N[j]?=Za x):i=j:=by obtain⟨h1,e1⟩:=aR.mp a;obtain⟨h2,e2⟩:=aR.mp b;exact(List.getElem_inj hN).mp (e1.trans e2.symm)
def xI{M:Model}{A:bX}{E:ae->au->Prop}{i:Nat}{x:Str}{v:V}{u:ae}{Q:Unit->au->Prop}(I:Inv X Q9 O H s)(hN:X.N.Nodup)(hi:X.N[i]?=Za x)(hx:Loc X.env.scope x)(r:RelV v u)(h:∀s',Inv X Q9 (O.set i (Za v)) H s'->(∃a,i9 a s.heap s'.heap/\(a=X.env.locals\/X.env.cells.lookup x=Za a))->Q () s')(hf:X.fn x=true\/X.env.scope.names.lookup x=Za .local:=by first|exact .inl rfl|exact .inr rfl|assumption):aO M A (storeName X.env x u) Q E s:=by
 obtain⟨m,hn,hl⟩:=id I.loc;have Uy:(X.env.scope.kind==.class||(X.env.scope.kind==.module&&X.env.locals != X.env.globals))=false:=by rw[I.ok.kind];rfl
 have hiσ:i<O.length:=by rw[I.len];exact(aR.mp hi).1
 have cne:=I.cne;have SH:∀{a:ag}{h':bc},(∃o,s.heap.get? a=Za o/\H a=Zb)->i9 a s.heap h'->Ë X.prog X.w H h':=λ{a h'} ha hs b ob e=>by
  obtain⟨_,_,TX⟩:=ha;refine(I.Ye b ob e).Ð (λc w' hc q=>(hs.2 c ?_).trans q) (λ_ q=>q) λ_ _ q=>q
  rintro rfl
  obtain rfl|hc:=hc
  .rw[TX] at e;cases e
  .rw[TX] at hc;cases hc
 obtain hk|hk:=hx
 .refine wpAny_storeName_local hk hn (λh' Sg hs=>?_) Uy;obtain⟨oL,_,_,UQ,_⟩:=id hn;refine h _ ⟨I.ok,I.os,I.bare,⟨λb o e n hb hx=>?_,λb o e n hb hx=>?_,I.base.free,λb o e hx=>?_,I.base.Á,I.base.ZF,I.base.Ï⟩,⟨_,Sg,λj y v' e1 e2 e3=>?_⟩,λy c e=>?_,I.free,I.Y9,λp hp=>?_,SH ⟨oL,UQ,I.free⟩ hs,by simpa using I.len⟩ ⟨_,hs,.inl rfl⟩
  .exact(hs.2 b (ay (az (aw e) I.ok.above))).trans (I.base.keep b o e n hb hx)
  .obtain⟨sl,e1⟩:=I.base.slot b o e n hb hx;exact⟨sl,(hs.2 b (ay (az (aw e) I.ok.above))).trans e1⟩
  .obtain⟨o',e1⟩:=I.base.there b o e hx;exact⟨o',(hs.2 b (ay (az (aw e) I.ok.above))).trans e1⟩
  .by_cases hj:j=i
   .subst hj;rw[hi] at e1;cases e1;rw[kU hiσ] at e2;cases e2;exact⟨u,r,.inl ⟨hk,by simp⟩⟩
   .rw[fW (bU hj)] at e2;obtain⟨u',r',q⟩:=hl j y v' e1 e2 e3;refine⟨u',r',?_⟩;rcases q with⟨k,e⟩|⟨k,c,e,z⟩
    .refine .inl ⟨k,?_⟩;have:y≠x:=λe=>hj (Av hN e1 (e▸hi));simp[this,e]
    .exact .inr ⟨k,c,e,z.sameBut hs (cne y c e)⟩
  .obtain⟨w',z⟩:=I.cell y c e;exact⟨w',z.sameBut hs (cne y c e)⟩
  .obtain⟨e,n,ne,nf,d⟩:=I.pin p hp;exact⟨(hs.2 p.1 ne).trans e,n,ne,nf,d⟩
 .have Tj:X.fn x=true:=by
   obtain z|z:=hf
   .exact z
   .rw[z] at hk;cases hk
  obtain⟨c,hc⟩:=I.ok.has x (.inl hk);obtain⟨w',z⟩:=I.cell x c hc;refine wpAny_storeName_cell I.ok.kind hk hc z (λh' hc' hs=>?_);obtain⟨oc,hoc,Xd⟩:=id z;refine h { s with heap:=h' } ⟨I.ok,I.os,I.bare,⟨λb o e n hb hx=>?_,λb o e n hb hx=>?_,I.base.free,λb o e hx=>?_,I.base.Á,I.base.ZF,I.base.Ï⟩,⟨m,hn.sameBut hs (bU (cne x c hc)),λj y v' e1 e2 e3=>?_⟩,λy c' e=>?_,I.free,I.Y9,λp hp=>?_,SH ⟨oc,hoc,I.Y9 x c hc⟩ hs,by simpa using I.len⟩ ⟨c,hs,.inr hc⟩
  .exact(hs.2 b (ay (az (aw e) (I.ok.cab x c Tj hc)))).trans (I.base.keep b o e n hb hx)
  .obtain⟨sl,e1⟩:=I.base.slot b o e n hb hx;exact⟨sl,(hs.2 b (ay (az (aw e) (I.ok.cab x c Tj hc)))).trans e1⟩
  .obtain⟨o',e1⟩:=I.base.there b o e hx;exact⟨o',(hs.2 b (ay (az (aw e) (I.ok.cab x c Tj hc)))).trans e1⟩
  .by_cases hj:j=i
   .subst hj;rw[hi] at e1;cases e1;rw[kU hiσ] at e2;cases e2;exact⟨u,r,.inr ⟨.inl hk,c,hc,hc'⟩⟩
   .rw[fW (bU hj)] at e2;obtain⟨u',r',q⟩:=hl j y v' e1 e2 e3;refine⟨u',r',?_⟩;obtain q|⟨k,c',e,z'⟩:=q
    .exact .inl q
    .refine .inr ⟨k,c',e,z'.sameBut hs ?_⟩
     rintro rfl
     exact hj (Av hN e1 (I.ok.inj _ _ _ e hc▸hi))
  .by_cases hcc:c'=c
   .subst hcc;exact⟨_,hc'⟩
   .obtain⟨w2,z2⟩:=I.cell y c' e;exact⟨w2,z2.sameBut hs hcc⟩
  .obtain⟨e,n,ne,nf,d⟩:=I.pin p hp;refine⟨(hs.2 p.1 ?_).trans e,n,ne,nf,d⟩;intro q;rw[q,hoc] at e;have q':oc=p.2:=bL e;exact d w' (by rw[<-q'];exact Xd)
def sR(I:Inv X Q9 O H s)(hN:X.N.Nodup)(hi:X.N[i]?=Za x)(hx:Loc X.env.scope x)(r:RelV v u)(h:∀s',Inv X Q9 (O.set i (Za v)) H s'->Q () s')(hf:X.fn x=true\/X.env.scope.names.lookup x=Za .local:=by first|exact .inl rfl|exact .inr rfl|assumption):aO M A (storeName X.env x u) Q E s :=
 xI I hN hi hx r (λs' I' _=>h s' I') hf
def Inv.Àh(I:Inv X Q9 O H s)(ho:s'.os=s.os)(u:Un (Zt X.stack) ch H H' s.heap s'.heap)(Ye:Ë X.prog X.w H' s'.heap)(hg:gZ s'.gens)(S6:∀b∈ch,(b∈X.ex\/X.Y0.heap.objs.size<=b)/\b≠X.env.locals/\(∀x c,X.env.cells.lookup x=Za c->c≠b)/\∀p∈X.pn++Q9,p.1≠b):Inv X Q9 O H' s':=by
 obtain⟨h',g',d',t',o'⟩:=s';have e:=ho;subst e;exact I.call u Ye hg S6
end
abbrev XK:=ae->Option ag->Hp->Prop
abbrev St:=List (Option V)
abbrev VK:=V->Hp->Prop
abbrev TE:=St->Hp->VK->Prop
abbrev TT:=St->Hp->(Bool->Hp->Prop)->Prop
abbrev TA:=St->Hp->(List V->Hp->Prop)->Prop
structure Ends where
 nx:St->Hp->Prop
 rt:VK
 bk:St->Hp->Prop:=λ_ _=>False
 ct:St->Hp->Prop:=λ_ _=>False
abbrev TS:=Ends->St->Hp->Prop
def EP(X:Cx)(Q9:List (ag×Obj))(O:St)(Q:VK)(u:ae)(s':au):Prop:=∃v H',Inv X Q9 O H' s'/\RelV v u/\Q v H'
def TP(X:Cx)(Q9:List (ag×Obj))(O:St)(Q:Bool->Hp->Prop)(b:Bool)(s':au):Prop:=∃H',Inv X Q9 O H' s'/\Q b H'
def AP(X:Cx)(Q9:List (ag×Obj))(O:St)(Q:List V->Hp->Prop)(us:List ae)(s':au):Prop:=∃vs H',Inv X Q9 O H' s'/\Vals vs us/\Q vs H'
def SP(X:Cx)(Q9:List (ag×Obj))(D:Ends)(f:Flow)(s':au):Prop :=
 match f with
 |.next=>∃Yy H',Inv X Q9 Yy H' s'/\D.nx Yy H'
 |.brk=>∃Yy H',Inv X Q9 Yy H' s'/\D.bk Yy H'
 |.cont=>∃Yy H',Inv X Q9 Yy H' s'/\D.ct Yy H'
 |.ret u=>∃v Yy H',Inv X Q9 Yy H' s'/\RelV v u/\D.rt v H'
def PE(X:Cx)(e:a7)(t:TE):Prop :=
 ∀(Q9:List (ag×Obj))(s:au)(O:St)(H:Hp)(Q:VK),Inv X Q9 O H s->t O H Q->aO (model X.prog X.w) X.A (eval e X.env) (EP X Q9 O Q) X.xe s
def PT(X:Cx)(e:a7)(t:TT):Prop :=
 ∀(Q9:List (ag×Obj))(s:au)(O:St)(H:Hp)(Q:Bool->Hp->Prop),Inv X Q9 O H s->t O H Q->aO (model X.prog X.w) X.A (isTrue e X.env (eval e X.env)) (TP X Q9 O Q) X.xe s
def PW(X:Cx)(e:a7)(t:TT):Prop :=
 ∀(whole:Sem ae)(Q9:List (ag×Obj))(s:au)(O:St)(H:Hp)(Q:Bool->Hp->Prop),Inv X Q9 O H s->t O H Q->aO (model X.prog X.w) X.A (isTrue e X.env whole) (TP X Q9 O Q) X.xe s
def PW.pt(h:PW X e t):PT X e t:=h _
def PA(X:Cx)(es:List a7)(t:TA):Prop :=
 ∀(pos:Pos)(Q9:List (ag×Obj))(s:au)(O:St)(H:Hp)(Q:List V->Hp->Prop),Inv X Q9 O H s->t O H Q->aO (model X.prog X.w) X.A (spliced (bM pos (ar es X.env))) (AP X Q9 O Q) X.xe s
def PS(X:Cx)(st:bK)(t:TS):Prop :=
 ∀(Q9:List (ag×Obj))(s:au)(O:St)(H:Hp)(D:Ends),Inv X Q9 O H s->t D O H->aO (model X.prog X.w) X.A (exec st X.env) (SP X Q9 D) X.xe s
def Ļ(X:Cx)(st:List bK)(t:TS):Prop :=
 ∀(Q9:List (ag×Obj))(s:au)(O:St)(H:Hp)(D:Ends),Inv X Q9 O H s->t D O H->aO (model X.prog X.w) X.A (execs st X.env) (SP X Q9 D) X.xe s
def e4b{α β:Sort _}{p q:α->β->Prop}{R:Prop}(k:∀x y,p x y->q x y->R)(h:∃x y,p x y/\q x y):R:=h.elim λx h=>h.elim λy h=>k x y h.1 h.2
def e4{α β:Sort _}{p q r:α->β->Prop}{R:Prop}(k:∀x y,p x y->q x y->r x y->R)(h:∃x y,p x y/\q x y/\r x y):R:=h.elim λx h=>h.elim λy h=>k x y h.1 h.2.1 h.2.2
def e3{α:Sort _}{p q:α->Prop}{R:Prop}(k:∀x,p x->q x->R)(h:∃x,p x/\q x):R:=h.elim λx h=>k x h.1 h.2
def Yq(h:aO M A t Q E s)(hQ:∀a s,Q a s->Q' a s):aO M A t Q' E s:=a6 h hQ λ_ _ x=>x
section
variable{X:Cx}
def Jp(i:Nat):TE:=λO H Q=>∃v,O[i]?=Za (Za v)/\Q v H
def tC(v:V):TE:=λ_ H Q=>Q v H
abbrev Î(x:Str):Prop:=(x==("__debug__":Str))=false
def DQ(hN:X.N[i]?=Za x)(hv:Vis X.env.scope x)(hd:Î x:=by decide)(R5:(x==("__classdict__":Str))=false:=by decide):PE X (.Name x pos) (Jp i):=by
 rintro Q9 s O H Q I ⟨v,e,h⟩
 obtain⟨m,hn,hl⟩:=I.loc;obtain⟨u,r,l⟩:=hl i x v hN e hv;have Ry:EP X Q9 O Q u s:=⟨v,H,I,r,h⟩;rcases l with⟨hk,hm⟩|⟨hk,c,hc,RS⟩
 .exact wpAny_Name (wpAny_loadName_local I.ok.kind hk hn hm Ry) hd
 .obtain hk|hk:=hk
  .exact wpAny_Name (wpAny_loadName_cell I.ok.kind hk hc RS Ry) hd
  .exact wpAny_Name (wpAny_loadName_free I.ok.kind hk hc RS Ry R5) hd
def YK{i j pos}:PE X (.Constant (.int i) j pos) (tC (.int i)):=λ_ _ _ H _ I h=>wpAny_Constant_int ⟨.int i,H,I.tok _,⟨_,rfl⟩,h⟩
def Àg{b j pos}:PE X (.Constant (.bool b) j pos) (tC (.bl b)):=λ_ _ _ H _ I h=>Constant_bool ⟨.bl b,H,I,rfl,h⟩
def Àr{j pos}:PE X (.Constant .none j pos) (tC .Yh):=λ_ _ _ H _ I h=>Constant_none ⟨.Yh,H,I,rfl,h⟩
def é{x j pos}:PE X (.Constant (.str x) j pos) (tC (.str x)):=λ_ _ _ H _ I h=>lK ⟨.str x,H,I.tok _,⟨_,rfl⟩,h⟩
def Gl(X:Cx)(x:Str):Prop:=X.env.kindOf x=Za .globalImplicit
def rj(I:Inv X Q9 O H s)(hg:Gl X x)(hm:X.mg x=Za u)(h:Q u s)(hd:Î x:=by decide):aO (model X.prog X.w) X.A (eval (.Name x pos) X.env) Q E s :=
 jQ I.ok.kind hg (Calls.loadGlobal_global (by rw[I.ok.glob];exact I.mod.glob.keeps I.bk) hm h) hd
def yM(I:Inv X Q9 O H s)(hg:Gl X x)(hm:X.mg x=Zb)(hv:bu x=Za u)(h:Q u s)(hn:x≠"__name__":=by decide)(hd:Î x:=by decide):aO (model X.prog X.w) X.A (eval (.Name x pos) X.env) Q E s:=by
 obtain⟨mb,h1,h2⟩:=I.mod.blt;exact jQ I.ok.kind hg (Calls.loadGlobal_builtin (by rw[I.ok.glob];exact I.mod.glob.keeps I.bk) hm (by rw[I.ok.blt];exact h1.keeps I.bk) ((h2 x hn).trans hv) h) hd
def sx(hg:Gl X x)(hm:X.mg x=Za u)(r:RelV v u)(hd:Î x:=by decide):PE X (.Name x pos) (tC v) :=
 λ_ _ _ H _ I h=>rj I hg hm ⟨v,H,I,r,h⟩ hd
def Nf(hg:Gl X x)(hm:X.mg x=Zb)(hv:bu x=Za u)(r:RelV v u)(hn:x≠"__name__":=by decide)(hd:Î x:=by decide):PE X (.Name x pos) (tC v) :=
 λ_ _ _ H _ I h=>yM I hg hm hv ⟨v,H,I,r,h⟩ hn hd
variable{a b:a7}{ta tb:TE}{pos:Pos}
def PC(X:Cx)(op:CmpOp)(a b:a7)(t:TE):Prop :=
 ∀(Q9:List (ag×Obj))(s:au)(O:St)(H:Hp)(Q:VK),Inv X Q9 O H s->t O H Q ->
  aO (model X.prog X.w) X.A (eval a X.env) (λv Rp=>aO (model X.prog X.w) X.A (eval b X.env) (λu SB=>aO (model X.prog X.w) X.A (bO op v u) (EP X Q9 O Q) X.xe SB) X.xe Rp) X.xe s
def Ka(b)(h:op≠.In)(h2:op≠.NotIn):cP op b=false:=by
 have e1:(op==CmpOp.In)=false:=by cases op<;>first|rfl|exact absurd rfl h
 have e2:(op==CmpOp.NotIn)=false:=by cases op<;>first|rfl|exact absurd rfl h2
 cases b<;>simp[cP,e1,e2]
def tB(t:TE):TT:=λO H Q=>t O H λx H1=>∃c,x=.bl c/\Q c H1
def Lm(h:PC X op a b t)(h1:cP op b=false:=by first|exact Ka _ (by decide) (by decide)|rfl):PE X (.Compare a [op] [b] pos) t:=λQ9 s O H Q I hw=>wpAny_Compare1 (h Q9 s O H Q I hw) h1
def wx(h:PE X e t)(he:∀whole,isTrue e X.env whole=(do let v <-whole;fL e.pos;holding [v] (truthy v)):=by intro _;rfl):PT X e (tB t):=by refine λQ9 s O H Q I hw=>isTrue_plain (Yq (h Q9 s O H _ I hw) λv s1=>e4 λx H1 I1 r1 q1=>?_) (he _);obtain⟨d,rfl,q⟩:=q1;cases r1;exact dB ⟨H1,I1,q⟩
variable{tA tB':TT}{rest:List a7}
def tOr(t u:TT):TT:=λO H Q=>t O H λc H1=>if c=true then Q true H1 else u O H1 Q
def Âb(t:TT):TT:=λO H Q=>t O H λc H1=>Q (!c) H1
def Li(ha:PT X a tA):PW X (.BoolOp .Or [a] pos) tA:=by
 refine λwh Q9 s O H Q I h=>isTrue_or (Yq (ha Q9 s O H Q I h) λc s1 e=>?_);cases c with
 |false=>exact isTrue_or_nil e
 |true=>exact e
def OL(ha:PT X a tA)(hb:PW X (.BoolOp .Or (b::rest) pos) tB'):PW X (.BoolOp .Or (a::b::rest) pos) (tOr tA tB'):=by
 refine λwh Q9 s O H Q I h=>isTrue_or (Yq (ha Q9 s O H _ I h) λc s1=>e3 λH1 I1 q1=>?_);cases c with
 |true=>exact⟨H1,I1,q1⟩
 |false=>exact hb wh Q9 s1 O H1 Q I1 q1
def A9(ha:PT X a tA):PT X (.UnaryOp .Not a pos) (Âb tA):=by exact λQ9 s O H Q I h=>isTrue_not (ha Q9 s O H (λc H1=>Q (!c) H1) I h)
def ÀU(ta tb:TE):TE:=λO H Q=>ta O H λx H1=>∃c,x=.bl c/\if c=true then tb O H1 Q else Q (.bl false) H1
def Âa(ta tb:TE):TE:=λO H Q=>ta O H λx H1=>∃c,x=.bl c/\if c=true then Q (.bl true) H1 else tb O H1 Q
def ÀP(ta:TE):TE:=λO H Q=>ta O H λx H1=>∃c,x=.bl c/\Q (.bl (!c)) H1
def GA{op}{t}(h:PE X a t):PE X (.BoolOp op [a] pos) t:=λQ9 s O H Q I hw=>BoolOp_one (h Q9 s O H Q I hw)
def Ln(ha:PE X a ta)(hb:PE X (.BoolOp .And (b::rest) pos) tb):PE X (.BoolOp .And (a::b::rest) pos) (ÀU ta tb):=by
 refine λQ9 s O H Q I h=>BoolOp_and (Yq (ha Q9 s O H _ I h) λv s1=>e4 λx H1 I1 r1 q1=>?_);obtain⟨c,rfl,q1⟩:=q1;cases r1;apply dB;cases c with
 |true=>exact hb Q9 s1 O H1 Q I1 q1
 |false=>exact⟨.bl false,H1,I1,rfl,q1⟩
def À1(ha:PE X a ta)(hb:PE X (.BoolOp .Or (b::rest) pos) tb):PE X (.BoolOp .Or (a::b::rest) pos) (Âa ta tb):=by
 refine λQ9 s O H Q I h=>BoolOp_or (Yq (ha Q9 s O H _ I h) λv s1=>e4 λx H1 I1 r1 q1=>?_);obtain⟨c,rfl,q1⟩:=q1;cases r1;apply dB;cases c with
 |false=>exact hb Q9 s1 O H1 Q I1 q1
 |true=>exact⟨.bl true,H1,I1,rfl,q1⟩
def PL(ha:PE X a ta):PE X (.UnaryOp .Not a pos) (ÀP ta):=by refine λQ9 s O H Q I h=>UnaryOp_ (Yq (ha Q9 s O H _ I h) λv s1=>e4 λx H1 I1 r1 q1=>?_);obtain⟨c,rfl,q1⟩:=q1;cases r1;exact not_of (dB ⟨.bl (!c),H1,I1,rfl,q1⟩)
def tIf(t:TT)(ta tb:TE):TE:=λO H Q=>t O H λc H1=>if c=true then ta O H1 Q else tb O H1 Q
def J0(hc:PT X c tA)(ha:PE X a ta)(hb:PE X b tb):PE X (.IfExp c a b pos) (tIf tA ta tb):=by
 refine λQ9 s O H Q I h=>wpAny_IfExp (Yq (hc Q9 s O H _ I h) λd s1=>e3 λH1 I1 q1=>?_);cases d with
 |true=>exact ha Q9 s1 O H1 Q I1 q1
 |false=>exact hb Q9 s1 O H1 Q I1 q1
end
def YO(K:aa)(H:Hp)(a:ag)(xs:List V):Prop :=
 Rd H a (.lst xs) \/
  ∃(o:Obj)(its:Array ae)(n:Nat),K.lookup a=Za o/\o.cls=.type "list"/\o.dict=Zb/\o.data=.seq its n/\its.size<=aG/\Vals xs its.toList
def Zz(K:aa)(H:Hp)(a:ag)(xs:List V):Prop :=
 Rd H a (.tup xs) \/
  ∃(o:Obj)(its:Array ae)(n:Nat),K.lookup a=Za o/\o.cls=.type "tuple"/\o.data=.seq its n/\its.size<=aG/\Vals xs its.toList
noncomputable def ÂR:ae->Option V
 |.none=>Za .Yh
 |.bool b=>Za (.bl b)
 |.int i _=>Za (.int i)
 |.str x _=>Za (.str x)
 |.bytes b _=>Za (.byt b)
 |.float b _=>Za (.flt b)
 |.ref a=>Za (.ref a)
 |.type n=>Za (.ty n)
 |_=>Zb
def RelV.abs(r:RelV x u):ÂR u=Za x:=by
 cases x with
 |Yh=>cases r;rfl
 |bl _=>cases r;rfl
 |int _=>obtain⟨t,rfl⟩:=r;rfl
 |str _=>obtain⟨t,rfl⟩:=r;rfl
 |byt _=>obtain⟨t,rfl⟩:=r;rfl
 |flt _=>obtain⟨t,rfl⟩:=r;rfl
 |ref _=>cases r;rfl
 |ty _=>cases r;rfl
def RelV.inj(r:RelV x u)(q:RelV y u):x=y:=bL (r.abs.symm.trans q.abs)
theorem Vals.inj:∀{xs ys:List V}{us:List ae},Vals xs us->Vals ys us->xs=ys
 |_,_,_,.nil,.nil=>rfl
 |_,_,_,.cons r t,.cons r' t'=>by rw[r.inj r',Vals.inj t t']
section
variable{X:Cx}{Q9:List (ag×Obj)}{O:St}{H:Hp}{s:au}{a:ag}{xs ys:List V}
def YO.of{K}(h:H a=Za (.lst xs)):YO K H a xs:=.inl (.inl h)
def Zz.of{K}(h:H a=Za (.tup xs)):Zz K H a xs:=.inl (.inl h)
def Inv.list(I:Inv X Q9 O H s)(h:YO X.K H a xs):∃its:List ae,Vals xs its/\PlainL s.heap a its.toArray/\xs.length<=aG:=by
 obtain h|⟨o,its,n,hk,hc,hd,hs,hz,r⟩:=h
 .obtain⟨z,its,n,r,e⟩:=h.ok I.Ye;exact⟨its,r,⟨_,n,e,rfl,rfl,rfl⟩,z⟩
 .refine⟨its.toList,r,⟨o,n,I.ZE a o hk,hc,hd,by simpa using hs⟩,?_⟩;have e:=r.length
  grind
def Inv.tuple(I:Inv X Q9 O H s)(h:Zz X.K H a xs):∃its:List ae,Vals xs its/\IsTup s.heap a its.toArray/\xs.length<=aG:=by
 obtain h|⟨o,its,n,hk,hc,hs,hz,r⟩:=h
 .obtain⟨z,its,r,p⟩:=h.ok I.Ye;exact⟨its,r,p,z⟩
 .refine⟨its.toList,r,⟨o,I.ZE a o hk,hc,n,by simpa using hs⟩,?_⟩;have e:=r.length
  grind
def Inv.Ý(I:Inv X Q9 O H s)(h:YO X.K H a xs)(h':YO X.K H a ys):xs=ys:=by
 obtain⟨its,r,⟨o,n,e,_,_,d⟩,_⟩:=I.list h;obtain⟨RV,r',⟨o',n',e',_,_,d'⟩,_⟩:=I.list h';rw[e] at e';cases e';have:its=RV:=by grind
 subst this;exact r.inj r'
def Inv.Ź(I:Inv X Q9 O H s)(h:Zz X.K H a xs)(h':Zz X.K H a ys):xs=ys:=by
 obtain⟨its,r,⟨o,e,_,n,d⟩,_⟩:=I.tuple h;obtain⟨RV,r',⟨o',e',_,n',d'⟩,_⟩:=I.tuple h';rw[e] at e';cases e';have:its=RV:=by grind
 subst this;exact r.inj r'
end
noncomputable abbrev Cx.ñ(X:Cx)(E:ae->au->Prop):Cx:={ X with xe:=E }
abbrev Cx.ě(X:Cx):Cx:=X.ñ λ_ _=>False
theorem Cx.Ok.ñ{X:Cx}(ok:X.Ok)(E:ae->au->Prop):(X.ñ E).Ok :=
 ⟨ok.mod,ok.kind,ok.glob,ok.blt,ok.above,ok.inj,ok.has,ok.cab,ok.hd,ok.frames,ok.ņ,ok.exf,ok.bs,ok.bsz,ok.Ê,ok.Ϛ,ok.ë,ok.frf⟩
def Cx.Ok.Zn{X:Cx}{E:ae->au->Prop}(ok:(X.ñ E).Ok):X.Ok :=
 ⟨ok.mod,ok.kind,ok.glob,ok.blt,ok.above,ok.inj,ok.has,ok.cab,ok.hd,ok.frames,ok.ņ,ok.exf,ok.bs,ok.bsz,ok.Ê,ok.Ϛ,ok.ë,ok.frf⟩
section
variable{X:Cx}{Q9:List (ag×Obj)}{O:St}{H:Hp}{s:au}{E:ae->au->Prop}
theorem Inv.ñ(I:Inv X Q9 O H s)(E:ae->au->Prop):Inv (X.ñ E) Q9 O H s:=⟨I.ok.ñ E,I.os,I.bare,I.base,I.loc,I.cell,I.free,I.Y9,I.pin,I.Ye,I.len⟩
theorem Inv.Zn(I:Inv (X.ñ E) Q9 O H s):Inv X Q9 O H s:=⟨I.ok.Zn,I.os,I.bare,I.base,I.loc,I.cell,I.free,I.Y9,I.pin,I.Ye,I.len⟩
theorem SP.Zn(h:SP (X.ñ E) Q9 D f s'):SP X Q9 D f s':=by
 cases f with
 |next=>obtain⟨Yy,H',I,q⟩:=h;exact⟨Yy,H',I.Zn,q⟩
 |brk=>obtain⟨Yy,H',I,q⟩:=h;exact⟨Yy,H',I.Zn,q⟩
 |cont=>obtain⟨Yy,H',I,q⟩:=h;exact⟨Yy,H',I.Zn,q⟩
 |ret u=>obtain⟨v,Yy,H',I,r,q⟩:=h;exact⟨v,Yy,H',I.Zn,r,q⟩
theorem Ļ.ě{st}{t}(h:Ļ X.ě st t):Ļ X st t:=λQ9 s O H D I hw =>
 a6 (h Q9 s O H D (I.ñ _) hw) (λ_ _ q=>q.Zn) λ_ _ z=>bo z
end
section
variable{X:Cx}{st:bK}{rest:List bK}{t u:TS}{e:a7}{te:TE}{pos:Pos}
def ÀQ:TS:=λD O H=>D.nx O H
def Á7(t u:TS):TS:=λD O H=>t { D with nx:=u D } O H
def Ze:Ļ X [] ÀQ:=λ_ _ O H _ I h=>fm ⟨O,H,I,h⟩
def mT(h1:PS X st t)(h2:Ļ X rest u):Ļ X (st::rest) (Á7 t u):=by
 refine λQ9 s O H D I h=>jf (Yq (h1 Q9 s O H { D with nx:=u D } I h) λf s1 q=>?_);cases f with
 |next =>
  obtain⟨Yy,H',I',q⟩:=q;exact h2 Q9 s1 Yy H' D I' q
 |ret v=>exact q
 |brk=>exact q
 |cont=>exact q
def mW(h1:PS X st t):Ļ X [st] t:=by
 refine λQ9 s O H D I h=>jf (Yq (h1 Q9 s O H D I h) λf s1 q=>?_);cases f with
 |next=>exact fm q
 |ret v=>exact q
 |brk=>exact q
 |cont=>exact q
def Inv.quiet(I:Inv X Q9 O H s):interactive X.env=false:=by simp[interactive,I.ok.kind]
def OD(te:TE):TS:=λD O H=>te O H λ_ H1=>D.nx O H1
def pN(he:PE X e te)(hs:cN e Zb pos.line X.env=pure false:=by rfl):PS X (.Expr e pos) (OD te):=by exact λQ9 s O H D I h=>wpAny_Expr_any (Yq (he Q9 s O H _ I h) λv s1=>e4 λx H1 I1 r1 q1=>⟨O,H1,I1,q1⟩) I.quiet hs
def Á8(te:TE):TS:=λD O H=>te O H D.rt
def ra(he:PE X e te):PS X (.Return (Za e) pos) (Á8 te):=by exact λQ9 s O H D I h=>wpAny_Return_some (Yq (he Q9 s O H _ I h) λv s1=>e4 λx H1 I1 r1 q1=>⟨x,O,H1,I1,r1,q1⟩)
def ÀN:TS:=λD _ H=>D.rt .Yh H
def ϵ:PS X (.Return Zb pos) ÀN:=λ_ _ O H _ I h=>wpAny_Return_none ⟨.Yh,O,H,I,rfl,h⟩
def Âd(c:TT)(t u:TS):TS:=λD O H=>c O H λb H1=>if b=true then t D O H1 else u D O H1
def wQ{c}{a b}{tc}(hc:PT X c tc)(ha:Ļ X a t)(hb:Ļ X b u):PS X (.If c a b pos) (Âd tc t u):=by
 refine λQ9 s O H D I h=>wpAny_If (Yq (hc Q9 s O H _ I h) λd s1=>e3 λH1 I1 q1=>?_);cases d with
 |true=>exact ha Q9 s1 O H1 D I1 q1
 |false=>exact hb Q9 s1 O H1 D I1 q1
abbrev TG:=V->St->Hp->(St->Hp->Prop)->Prop
abbrev ϭ:=List V->St->Hp->(St->Hp->Prop)->Prop
def PG(X:Cx)(Sd:a7)(t:TG):Prop :=
 ∀(Q9:List (ag×Obj))(s:au)(O:St)(H:Hp)(v:V)(u:ae)(Q:St->Hp->Prop),Inv X Q9 O H s->RelV v u->t v O H Q ->
  aO (model X.prog X.w) X.A (assign Sd X.env u) (λ_ s'=>∃Yy H',Inv X Q9 Yy H' s'/\Q Yy H') X.xe s
def PGs(X:Cx)(ts:List a7)(t:ϭ):Prop :=
 ∀(Q9:List (ag×Obj))(s:au)(O:St)(H:Hp)(vs:List V)(us:List ae)(Q:St->Hp->Prop),Inv X Q9 O H s->Vals vs us->t vs O H Q ->
  aO (model X.prog X.w) X.A (assignInOrder ((cO ts X.env).map (·.2)) us) (λ_ s'=>∃Yy H',Inv X Q9 Yy H' s'/\Q Yy H') X.xe s
abbrev Oz:=V->V->V->Hp->(Hp->Prop)->Prop
def Ő(X:Cx)(t:Oz):Prop :=
 ∀(Q9:List (ag×Obj))(s:au)(O:St)(H:Hp)(o i v:V)(ov iv u:ae)(Q:Hp->Prop),Inv X Q9 O H s->RelV o ov->RelV i iv->RelV v u->t o i v H Q ->
  aO (model X.prog X.w) X.A (kK ov iv u) (λ_ s'=>∃H',Inv X Q9 O H' s'/\Q H') X.xe s
abbrev TIp:=V->V->Hp->VK->Prop
def PIp(X:Cx)(op:Operator)(t:TIp):Prop :=
 ∀(Q9:List (ag×Obj))(s:au)(O:St)(H:Hp)(x y:V)(v u:ae)(Q:VK),Inv X Q9 O H s->RelV x v->RelV y u->t x y H Q ->
  aO (model X.prog X.w) X.A (inplaceOp op v u) (EP X Q9 O Q) X.xe s
def F5(i:Nat):TG:=λv O H Q=>Q (O.set i (Za v)) H
def Hb(hN:X.N.Nodup)(hi:X.N[i]?=Za x)(hx:Loc X.env.scope x)(hf:X.fn x=true\/X.env.scope.names.lookup x=Za .local:=by first|exact .inl rfl|exact .inr rfl|assumption):PG X (.Name x pos) (F5 i):=by exact λQ9 s O H v u Q I r h=>jJ (sR I hN hi hx r (λs' I'=>⟨_,H,I',h⟩) hf)
def ÂL:ϭ:=λvs O H Q=>vs=[]/\Q O H
def ÁD(t:TG)(u:ϭ):ϭ:=λvs O H Q=>∃v r,vs=v::r/\t v O H λYy H'=>u r Yy H' Q
def ϸ:PGs X [] ÂL:=by
 rintro Q9 s O H vs us Q I r ⟨e,h⟩
 subst e;exact assignInOrder_nil ⟨O,H,I,h⟩
def JV{e}{t:TG}{u:ϭ}(h1:PG X e t)(h2:PGs X es u)(hs:(cO (e::es) X.env).map (·.2)=assign e X.env::(cO es X.env).map (·.2):=by rfl):PGs X (e::es) (ÁD t u):=by
 rintro Q9 s O H vs us Q I r ⟨v,vr,e1,h⟩
 subst e1;cases r with
 |cons r rr =>
  rw[hs];refine jx (Yq (h1 Q9 s O H _ _ _ I r h) λ_ s1=>e4b λŕ H1 I1 q1=>?_);exact h2 Q9 s1 ŕ H1 _ _ Q I1 rr q1
def ÂJ(K:aa)(n:Nat)(t:ϭ):TG:=λv O H Q=>∃a xs,v=.ref a/\Zz K H a xs/\xs.length=n/\t xs O H Q
def PD{t:ϭ}(hc:X.calm=true)(h:PGs X es t)(hn:(cO es X.env).length=n:=by rfl)(RW:(cO es X.env).findIdx? (·.1)=none:=by rfl):PG X (.Tuple es k pos) (ÂJ X.K n t):=by
 rintro Q9 s O H v u Q I r ⟨a,xs,e1,hq,hl,hw⟩
 subst e1;cases r;obtain⟨its,rv,ht,hz⟩:=I.tuple hq;refine assign_Tuple_tuple (I.ok.hd hc) ht (by simp[hn,<-hl,rv.length]) RW λh' hx=>?_;have I1:=I.kept (t':=s.toks) λb o e=>hx b o (ay (aw e)) e;exact h Q9 _ O H xs _ Q I1 (by simpa using rv) hw
def ÂK(to ti:TE)(t:Oz):TG:=λv O H Q=>to O H λo H1=>ti O H1 λi H2=>t o i v H2 λH3=>Q O H3
def PF{t:Oz}(ho:PE X o to)(hi:PE X i ti)(hs:Ő X t)(ha:∀v,assign (.Subscript o i pos) X.env v=(do
   let ov <-holding [v] (eval o X.env);let iv <-holding [v,ov] (eval i X.env)
   fL pos
   holding [v,ov,iv] (kK ov iv v)
   release [v,ov,iv] []):=by intro _;rfl):PG X (.Subscript o i pos) (ÂK to ti t):=by
 refine λQ9 s O H v u Q I r h=>af (cF (Yq (ho Q9 s O H _ I h) λov s1=>e4 λx H1 I1 r1 q1=>?_));refine af (cF (Yq (hi Q9 s1 O H1 _ I1 q1) λiv s2=>e4 λy H2 I2 r2 q2=>?_));refine af (ej (af (cF (Yq (hs Q9 s2 O H2 x y v ov iv u _ I2 r1 r2 r q2) λ_ s3=>e3 λH3 I3 q3=>?_))));exact wpAny_release ⟨O,H3,I3,q3⟩
def OE(te:TE)(g:TG):TS:=λD O H=>te O H λx H1=>g x O H1 D.nx
def Lk{tg e}{te}(he:PE X e te)(hg:PG X tg g)(hs:g9 [tg] e pos.line X.env=pure false:=by rfl)(hw:hJ [tg] e X.env=pure none:=by rfl)(h1:(cO [tg] X.env).map (·.2)=[assign tg X.env]:=by rfl):PS X (.Assign [tg] e pos) (OE te g):=by
 refine λQ9 s O H D I h=>wpAny_Assign_stores (Yq (he Q9 s O H _ I h) λv s1=>e4 λx H1 I1 r1 q1=>?_) hs hw;rw[h1];exact Yq (hg Q9 s1 O H1 x v _ I1 r1 q1) λ_ s2 q=>q
def sT{i}{x}{e}{te}{Rm}(hN:X.N.Nodup)(hi:X.N[i]?=Za x)(hx:Loc X.env.scope x)(he:PE X e te)(hs:cN e (Za (.Name x Rm)) pos.line X.env=pure false:=by rfl)(hf:X.fn x=true\/X.env.scope.names.lookup x=Za .local:=by first|exact .inl rfl|exact .inr rfl|assumption) :
  PS X (.Assign [.Name x Rm] e pos) (OE te (F5 i)):=by
 refine λQ9 s O H D I h=>wpAny_Assign_Name (Yq (he Q9 s O H _ I h) λv s1=>e4 λy H1 I1 r1 q1=>?_) hs;exact sR I1 hN hi hx r1 (λs2 I2=>⟨_,H1,I2,q1⟩) hf
def Á9(i j:Nat)(ta:TA):TS:=λD O H=>ta O H λvs H1=>∃v w,vs=[v,w]/\D.nx ((O.set i (Za v)).set j (Za w)) H1
def Px{kt k2 pt2}(hc:X.calm=true)(hN:X.N.Nodup)(hi:X.N[i]?=Za x)(hj:X.N[j]?=Za y)(Vv:i≠j)(hx:X.env.scope.names.lookup x=Za .local)(hy:X.env.scope.names.lookup y=Za .local)(ha:PA X [a,b] ta)(hw:hJ [.Tuple [.Name x px,.Name y py] kt pt] (.Tuple [a,b] k2 pt2) X.env=pure (Za [x,y]))(hs:g9 [.Tuple [.Name x px,.Name y py] kt pt] (.Tuple [a,b] k2 pt2) pos.line X.env=pure false:=by rfl) :
  PS X (.Assign [.Tuple [.Name x px,.Name y py] kt pt] (.Tuple [a,b] k2 pt2) pos) (Á9 i j ta):=by
 refine λQ9 s O H D I h=>af (ej ?_);rw[hs];refine af (aE ?_);refine af (Tuple_ (Yq (ha _ Q9 s O H _ I h) λus s1=>e4 λvs H1 I1 r1 q1=>?_));obtain⟨v,w,rfl,q1⟩:=q1;obtain⟨u1,u2,rfl,rv,RP⟩:∃u1 u2,us=[u1,u2]/\RelV v u1/\RelV w u2:=by
  cases r1 with
  |cons p q =>
   cases q with
   |cons p' q' =>
    cases q';exact⟨_,_,rfl,p,p'⟩
 refine dC ?_ (by show 2<=aG;decide);have I2:Inv X Q9 O H1 { s1 with heap:=s1.heap.push { cls:=.type "tuple",data:=.seq [u1,u2].toArray } }:=I1.kept λb o e=>aj _ e;rw[hw];refine af (aE ?_);refine af (wpAny_rule (af (unpackItems_tuple (items:=#[u1,u2]) (I.ok.hd hc) (IsTup.new s1.heap _) λh' Tc=>?_)));have I3:=I2.kept (t':=s1.toks) λb o e=>Tc b o (ay (aw e)) e;refine af (jx (wpAny_bindName (sR I3 hN hj (.inl hy) RP (λs2 I4=>?_) (.inr hy))));refine jx (wpAny_bindName (sR I4 hN hi (.inl hx) rv (λs3 I5=>assignInOrder_nil (aE ?_)) (.inr hx)));rw[List.set_comm _ _ (bU Vv)] at I5;exact⟨_,H1,I5,q1⟩
def Âi(i:Nat)(te:TE)(ti:TIp):TS:=λD O H=>∃x,O[i]?=Za (Za x)/\te O H λy H1=>ti x y H1 λz H2=>D.nx (O.set i (Za z)) H2
def Py{e}{te}(hN:X.N.Nodup)(hi:X.N[i]?=Za x)(hx:Loc X.env.scope x)(he:PE X e te)(ho:PIp X op ti)(hf:X.fn x=true\/X.env.scope.names.lookup x=Za .local:=by first|exact .inl rfl|exact .inr rfl|assumption) :
  PS X (.AugAssign (.Name x Rm) op e pos) (Âi i te ti):=by
 rintro Q9 s O H D I ⟨v,e1,h⟩
 obtain⟨m,hn,hl⟩:=I.loc;have vis:Vis X.env.scope x:=by obtain k|k:=hx;exact .inl k;exact .inr (.inl k)
 obtain⟨u,r,l⟩:=hl i x v hi e1 vis;apply wpAny_AugAssign_Name;have go:aO (model X.prog X.w) X.A (eval e X.env) (λw SB=>aO (model X.prog X.w) X.A (inplaceOp op u w) (λr Rg=>aO (model X.prog X.w) X.A (storeName X.env x r) (λ_=>SP X Q9 D .next) X.xe Rg) X.xe SB) X.xe s:=by refine Yq (he Q9 s O H _ I h) λw s1=>e4 λy H1 I1 r1 q1=>?_;refine Yq (ho Q9 s1 O H1 v y u w _ I1 r r1 q1) λz s2=>e4 λzv H2 I2 r2 q2=>?_;exact sR I2 hN hi hx r2 (λs3 I3=>⟨_,H2,I3,q2⟩) hf
 rcases l with⟨hk,hm⟩|⟨hk,c,hc,RS⟩
 .exact wpAny_loadName_local I.ok.kind hk hn hm go
 .obtain hk|hk:=hk
  .exact wpAny_loadName_cell I.ok.kind hk hc RS go
  .obtain k|k:=hx
   .have:X.env.scope.names.lookup x=Za .free:=hk
    simp_all
   .have:X.env.scope.names.lookup x=Za .free:=hk
    simp_all
def ÀT(to ti te:TE)(Uc:V->V->Hp->VK->Prop)(WC:TIp)(T9:Oz):TS:=λD O H=>to O H λo H1=>ti O H1 λi H2=>Uc o i H2 λx H3=>te O H3 λy H4=>WC x y H4 λz H5=>T9 o i z H5 λH6=>D.nx O H6
def ÁY(X:Cx)(t:V->V->Hp->VK->Prop):Prop :=
 ∀(Q9:List (ag×Obj))(s:au)(O:St)(H:Hp)(o i:V)(ov iv:ae)(Q:VK),Inv X Q9 O H s->RelV o ov->RelV i iv->t o i H Q ->
  aO (model X.prog X.w) X.A (iJ ov iv) (EP X Q9 O Q) X.xe s
def M4{o i e}{to ti te}(ho:PE X o to)(hi:PE X i ti)(hg:ÁY X Uc)(he:PE X e te)(hp:PIp X op WC)(hs:Ő X T9)(ha:∀ov iv new,augStore i ov iv new=(do holding [new,ov,iv] (kK ov iv new);release [new,ov,iv] [];pure .next):=by intros;rfl):PS X (.AugAssign (.Subscript o i RK) op e pos) (ÀT to ti te Uc WC T9):=by
 refine λQ9 s O H D I h=>wpAny_AugAssign_SubscriptAny (Yq (ho Q9 s O H _ I h) λov s1=>e4 λx1 H1 I1 r1 q1=>?_) ha;refine Yq (hi Q9 s1 O H1 _ I1 q1) λiv s2=>e4 λx2 H2 I2 r2 q2=>?_;refine Yq (hg Q9 s2 O H2 x1 x2 ov iv _ I2 r1 r2 q2) λold s3=>e4 λx3 H3 I3 r3 q3=>?_;refine Yq (he Q9 s3 O H3 _ I3 q3) λv s4=>e4 λx4 H4 I4 r4 q4=>?_;refine Yq (hp Q9 s4 O H4 x3 x4 old v _ I4 r3 r4 q4) λnew s5=>e4 λx5 H5 I5 r5 q5=>?_;exact Yq (hs Q9 s5 O H5 x1 x2 x5 ov iv new _ I5 r1 r2 r5 q5) λ_ s6=>e3 λH6 I6 q6=>⟨O,H6,I6,q6⟩
def ipI(f:Int->Int->Int):TIp:=λx y H Q=>∃i j,x=.int i/\y=.int j/\Q (.int (f i j)) H
def Ly:PIp X .Add (ipI λi j=>i+j):=by
 rintro Q9 s O H x y v u Q I r1 r2 ⟨i,j,e1,e2,q⟩
 subst e1;subst e2;obtain⟨t,rfl⟩:=r1;obtain⟨t',rfl⟩:=r2;exact iadd_int ⟨.int _,H,I.tok _,⟨_,rfl⟩,q⟩
def Pb(c:TT)(tb:TS):TS:=λD O H=>∃W:Nat->St->Hp->Prop,(∃m,W m O H)/\∀m O H,W m O H ->
 c O H λb H1=>if b=true then ∃N:St->Hp->Prop,(∀Yy H',N Yy H'->∃m',m'<m/\W m' Yy H')/\tb { D with nx:=N,ct:=N,bk:=D.nx } O H1 else D.nx O H1
def EX(hp:PassesOwn (model X.prog X.w) X.A X.env X.xe)(hc:PT X c tc)(hb:Ļ X body tb):PS X (.While c body [] pos) (Pb tc tb):=by
 rintro Q9 s O H D I ⟨W,⟨m0,w0⟩,Sw⟩
 refine wpAny_While (codeAny_whileLoop (λn s'=>∃Yy H',Inv X Q9 Yy H' s'/\W n Yy H') ?_ m0 ⟨O,H,I,w0⟩)
 rintro n s1 ⟨ŕ,H1,I1,w1⟩
 refine d9 hp (Yq (hc Q9 s1 ŕ H1 _ I1 (Sw n ŕ H1 w1)) λb s2=>e3 λH2 I2 q2=>?_);cases b with
 |true =>
  obtain⟨N,hN,q2⟩:=q2;refine d9 hp (Yq (hb Q9 s2 ŕ H2 _ I2 q2) λf s3 q3=>?_);cases f with
  |next =>
   obtain⟨ĕ,H3,I3,n3⟩:=q3;obtain⟨m',hm,w3⟩:=hN ĕ H3 n3;exact⟨m',hm,ĕ,H3,I3,w3⟩
  |cont =>
   obtain⟨ĕ,H3,I3,n3⟩:=q3;obtain⟨m',hm,w3⟩:=hN ĕ H3 n3;exact⟨m',hm,ĕ,H3,I3,w3⟩
  |brk=>exact q3
  |ret v=>exact q3
 |false =>
  exact fm ⟨ŕ,H2,I2,q2⟩
end
structure It where
 go:Nat->Hp->Prop
 yld:Nat->Hp->V->Hp->Prop
 stop:Nat->Hp->Prop
def Aj(X:Cx)(Q9:List (ag×Obj))(H:Hp)(b:ag):Prop :=
 H b=Zb/\b≠X.env.locals/\b∉X.fs/\(b∈X.ex\/X.Y0.heap.objs.size<=b)/\(∀x c,X.env.cells.lookup x=Za c->c≠b)/\∀p∈X.pn++Q9,p.1≠b
def Inv.Ĳ(I:Inv X Q9 O H s)(hb:s.heap.objs.size<=b)(hn:H' b=Zb):Aj X Q9 H' b:=by
 refine⟨hn,fB (az I.lt hb),I.Âv hb,.inr (aJ I.sz hb),λx c e z=>?_,λp hp z=>?_⟩
 .obtain⟨v,q⟩:=I.cell x c e;exact absurd (az q.lt (by rw[z];exact hb)) (eR _)
 .exact absurd (az (aw (I.pin p hp).1) (by rw[z];exact hb)) (eR _)
structure Turn(P:aK)(w:aT)(K:aa)(tg:a7)(J:It)(fp:List ag)(it:ag)(tn:Nat->bc->Prop):Prop where
 mem:it∈fp
 obj:∀i h,tn i h->∀b∈fp,∃o,h.get? b=Za o/\∀v,o.data≠.cell v
 keep:∀i h h',tn i h->(∀b∈fp,∀o,h.get? b=Za o->h'.get? b=Za o)->tn i h'
 item:∀(X:Cx),X.prog=P->X.w=w->X.K=K->X.calm=true->∀(i:Nat)(Q9:List (ag×Obj))(s:au)(O:St)(H:Hp)(E:ae->au->Prop),Inv X Q9 O H s->(∀b∈fp,Aj X Q9 H b)->tn i s.heap->J.go i H ->
  aO (model P w) X.A (pyNext (.ref it)) (λr s1=>∃u,r=Za u /\
   aO (model P w) X.A (kD tg (.ref it) u) (λ_ s2=>∃x H',Inv X Q9 O H' s2/\RelV x u/\J.yld i H x H'/\tn (i+1) s2.heap/\∀b∈fp,H' b=Zb) E s1) E s
 done:∀(X:Cx),X.prog=P->X.w=w->X.K=K->X.calm=true->∀(i:Nat)(Q9:List (ag×Obj))(s:au)(O:St)(H:Hp)(E:ae->au->Prop),Inv X Q9 O H s->(∀b∈fp,Aj X Q9 H b)->tn i s.heap->J.stop i H ->
  aO (model P w) X.A (pyNext (.ref it)) (λr s1=>r=Zb/\Inv X Q9 O H s1) E s
 self:∀(A:bX)(i:Nat)(s:au)(Q:ae->au->Prop)(E:ae->au->Prop),tn i s.heap->Q (.ref it) s->aO (model P w) A (pyIter (.ref it)) Q E s
abbrev TI:=St->Hp->(It->Hp->Prop)->Prop
def PIE(X:Cx)(Q9:List (ag×Obj))(O:St)(tg:a7)(R:It->Hp->Prop)(UN:ae)(s2:au):Prop :=
 ∃(it:ag)(fp:List ag)(tn:Nat->bc->Prop)(J:It)(H':Hp),UN=.ref it/\Inv X Q9 O H' s2/\Turn X.prog X.w X.K tg J fp it tn/\tn 0 s2.heap/\(∀b∈fp,Aj X Q9 H' b)/\R J H'
def PI(X:Cx)(tg iter:a7)(wi:TI):Prop :=
 ∀(Q9:List (ag×Obj))(s:au)(O:St)(H:Hp)(R:It->Hp->Prop),Inv X Q9 O H s->wi O H R ->
  aO (model X.prog X.w) X.A (eval iter X.env) (λv s1=>aO (model X.prog X.w) X.A (pyIter v) (PIE X Q9 O tg R) X.xe s1) X.xe s
def FZ(ho:s.heap.get? it=Za o)(hc:o.cls=.type n)(hd:o.data=.fields vs)(hn:["enumerate","zip","dict_itemiterator","dict_reverseitemiterator","odict_iterator","itertools.zip_longest","itertools.pairwise"].contains n=false)(hQ:Q () s):aO M A (kD tg (.ref it) u) Q E s:=by
 cases tg<;>first
  |exact aE hQ
  | (cases u<;>first
    |exact aE hQ
    | (refine af (wpAny_load ho ?_)
       rw[hc,hd];show aO M A (if(["enumerate","zip","dict_itemiterator","dict_reverseitemiterator","odict_iterator","itertools.zip_longest","itertools.pairwise"].contains n&&vs[0]?==Za (rawInt _))=true then _ else _) Q E s;rw[Zd (by grind)];exact aE hQ))
def Itl(K:aa)(a:ag):It :=
 ⟨λi H=>∃xs x,YO K H a xs/\xs[i]?=Za x,λi H x H'=>H'=H/\∀xs,YO K H a xs->xs[i]?=Za x,λi H=>∃xs,YO K H a xs/\xs.length<=i⟩
def Itt(K:aa)(a:ag):It :=
 ⟨λi H=>∃xs x,Zz K H a xs/\xs[i]?=Za x,λi H x H'=>H'=H/\∀xs,Zz K H a xs->xs[i]?=Za x,λi H=>∃xs,Zz K H a xs/\xs.length<=i⟩
def Itr(lo:Int)(n:Nat):It:=⟨λi _=>i<n,λi H x H'=>H'=H/\x=.int (lo+i),λi _=>n<=i⟩
def BY{P}{w}{K}{tg}(a it):Turn P w K tg (Itl K a) [it] it (λi h=>h.IsListIter it a i) where
 mem:=by simp
 obj:=λi h st b hb=>by
  have e:b=it:=by simpa using hb
  subst e;obtain⟨o,e,c,d⟩:=st
  grind
 keep:=λi h h' st k=>st.at λo e=>k it (by simp) o e
 item:=by intro X hP hw hK hc i Q9 s O H E I hf st hg;subst hP hw hK;obtain⟨xs,x,hq,hx⟩:=hg;obtain⟨its,rv,p,hz⟩:=I.list hq;obtain⟨u,hu,ru⟩:=rv.get hx;obtain⟨f0,f1,f2,f3,f4,f5⟩:=hf it (by simp);refine wpAny_pyNext_list_item st p.isList (by simpa using hu) λh' SA sb=>?_;have I1:=I.turned (t':=s.toks) (λb o hb e=>(sb.2 b hb).trans e) f0 f1 f3 f4 f5;obtain⟨o,e,c,d⟩:=id SA;exact⟨u,rfl,FZ e c d (Zf rfl) ⟨x,H,I1,ru,⟨rfl,λys hy=>by rw[I.Ý hy hq];exact hx⟩,SA,λb hb=>(hf b hb).1⟩⟩
 done:=by intro X hP hw hK hc i Q9 s O H E I hf st hg;subst hP hw hK;obtain⟨xs,hq,hx⟩:=hg;obtain⟨its,rv,p,hz⟩:=I.list hq;obtain⟨f0,f1,f2,f3,f4,f5⟩:=hf it (by simp);have hl:=rv.length;exact wpAny_pyNext_list_end (I.ok.hd hc) st p.isList (by simp;lia) λh' eb=>⟨rfl,I.turned (λb o hb e=>eb b o hb e) f0 f1 f3 f4 f5⟩
 self:=λ_ _ _ _ _ st h=>wpAny_pyIter_listiter st h
def Fu{P}{w}{K}{tg}(a it):Turn P w K tg (Itt K a) [it] it (λi h=>h.IsTupleIter it a i) where
 mem:=by simp
 obj:=λi h st b hb=>by
  have e:b=it:=by simpa using hb
  subst e;obtain⟨o,e,c,d⟩:=st
  grind
 keep:=λi h h' st k=>st.at λo e=>k it (by simp) o e
 item:=by intro X hP hw hK hc i Q9 s O H E I hf st hg;subst hP hw hK;obtain⟨xs,x,hq,hx⟩:=hg;obtain⟨its,rv,p,hz⟩:=I.tuple hq;obtain⟨u,hu,ru⟩:=rv.get hx;obtain⟨f0,f1,f2,f3,f4,f5⟩:=hf it (by simp);refine wpAny_pyNext_tuple_item st (p) (by simpa using hu) λh' SA sb=>?_;have I1:=I.turned (t':=s.toks) (λb o hb e=>(sb.2 b hb).trans e) f0 f1 f3 f4 f5;obtain⟨o,e,c,d⟩:=id SA;exact⟨u,rfl,FZ e c d (Zf rfl) ⟨x,H,I1,ru,⟨rfl,λys hy=>by rw[I.Ź hy hq];exact hx⟩,SA,λb hb=>(hf b hb).1⟩⟩
 done:=by intro X hP hw hK hc i Q9 s O H E I hf st hg;subst hP hw hK;obtain⟨xs,hq,hx⟩:=hg;obtain⟨its,rv,p,hz⟩:=I.tuple hq;obtain⟨f0,f1,f2,f3,f4,f5⟩:=hf it (by simp);have hl:=rv.length;exact wpAny_pyNext_tuple_end (I.ok.hd hc) st (p) (by simp;lia) λh' eb=>⟨rfl,I.turned (λb o hb e=>eb b o hb e) f0 f1 f3 f4 f5⟩
 self:=λ_ _ _ _ _ st h=>wpAny_pyIter_tupleiter st h
def Fv{P}{w}{K}{tg}(it)(lo)(n):Turn P w K tg (Itr lo n) [it] it (λi h=>IsRangeIter h it (lo+(i:Nat)*1) ((n:Int)-(i:Nat)) 1) where
 mem:=by simp
 obj:=λi h st b hb=>by
  grind
 keep:=λi h h' st k=>k it (by simp) _ st
 item:=by intro X hP hw hK hc i Q9 s O H E I hf st hg;subst hP hw hK;obtain⟨f0,f1,f2,f3,f4,f5⟩:=hf it (by simp);have W:=Walks.range (prog:=X.prog) (w:=X.w) (I.ok.hd hc) it lo 1 n;refine W.item i s _ _ hg st λv h' tk hv SA kk=>?_;obtain⟨t,rfl⟩:=hv;have I1:Inv X Q9 O H { s with heap:=h',toks:=tk }:=I.turned (λb o hb e=>kk b o (by simpa using hb) e) f0 f1 f3 f4 f5;refine⟨_,rfl,FZ SA rfl rfl (Zf rfl) ⟨.int (lo+i),H,I1,⟨t,?_⟩,⟨rfl,rfl⟩,SA,λb hb=>(hf b hb).1⟩⟩;rw[lQ]
 done:=by intro X hP hw hK hc i Q9 s O H E I hf st hg;subst hP hw hK;obtain⟨f0,f1,f2,f3,f4,f5⟩:=hf it (by simp);exact wpAny_pyNext_range_end (I.ok.hd hc) st (by have:n<=i:=hg;lia) λh' eb=>⟨rfl,I.turned (λb o hb e=>eb b o hb e) f0 f1 f3 f4 f5⟩
 self:=λ_ _ _ _ _ st h=>wpAny_pyIter_rangeiter st h
section
variable{X:Cx}{tg:a7}
def Áv(K:aa)(tl:TE):TI:=λO H R=>tl O H λx H1=>∃a,x=.ref a/\(∃xs,YO K H1 a xs)/\R (Itl K a) H1
def M6{l}{tl}(hl:PE X l tl):PI X tg l (Áv X.K tl):=by
 refine λQ9 s O H R I h=>Yq (hl Q9 s O H _ I h) λv s1=>e4 λx H1 I1 r1 q1=>?_;obtain⟨a,rfl,⟨xs,hq⟩,q⟩:=q1;cases r1;obtain⟨its,rv,p,hz⟩:=I1.list hq;apply gX p.isList;refine⟨s1.heap.objs.size,[s1.heap.objs.size],_,_,H1,rfl,I1.kept λb o e=>aj _ e,BY a _,⟨_,aP _ rfl,rfl,rfl⟩,λb hb=>?_,q⟩;have e:b=s1.heap.objs.size:=by simpa using hb
 subst e;exact I1.Ĳ (ak _) (I1.Ye.fresh (ak _))
def JM{Q9}{O}{H}{s}{R:It->Hp->Prop}{E}{lo hi}{t u v}{tk}(I:Inv X Q9 O H s)(h1:-(2^62)<=lo)(h2:lo<2^62)(h3:-(2^62)<=hi)(h4:hi<2^62)(q:R (Itr lo (hi-lo).toNat) H):aO (model X.prog X.w) X.A (pyIter (.ref s.heap.objs.size)) (PIE X Q9 O tg R) E { s with heap:=s.heap.push { cls:=.type "range",data:=.fields #[.int lo t,.int hi u,.int 1 v] },toks:=tk }:=by
 apply wpAny_pyIter_range (IsRange.new ..) (small_one h1 h2 h3 h4);have I1:Inv X Q9 O H { s with heap:=s.heap.push { cls:=.type "range",data:=.fields #[.int lo t,.int hi u,.int 1 v] },toks:=tk }:=I.kept λb o e=>aj _ e;refine⟨(s.heap.push { cls:=.type "range",data:=.fields #[.int lo t,.int hi u,.int 1 v] }).objs.size,[(s.heap.push { cls:=.type "range",data:=.fields #[.int lo t,.int hi u,.int 1 v] }).objs.size],_,_,H,rfl,
  I1.kept λb o e=>aj _ e,Fv _ lo (hi-lo).toNat,?_,λb hb=>?_,q⟩
 .have e1:lo+((0:Nat):Int)*1=lo:=by simp
  have e2:(((hi-lo).toNat:Nat):Int)-((0:Nat):Int)=Builtin.Range.rangeSize lo hi 1:=by rw[rangeSize_one];grind
  rw[e1,e2];exact aP _ rfl
 .have e:b=(s.heap.push { cls:=.type "range",data:=.fields #[.int lo t,.int hi u,.int 1 v] }).objs.size:=by simpa using hb
  subst e;exact I1.Ĳ (ak _) (I1.Ye.fresh (ak _))
def Áu(ta:TA):TI:=λO H R=>ta O H λvs H1=>∃j:Int,vs=[.int j]/\-(2^62)<=j/\j<2^62/\R (Itr 0 j.toNat) H1
def Ik{a}{ta}{p pos}(hg:Gl X "range")(hm:X.mg "range"=Zb)(ha:PA X [a] ta)(hs:ar [a] X.env=[(false,eval a X.env)]:=by rfl):PI X tg (.Call (.Name "range" p) [a] [] pos) (Áu ta):=by
 refine λQ9 s O H R I h=>Call_ (yM I hg hm boot_range (dH (Yq (ha pos Q9 s O H _ I h) λus s1=>e4 λvs H1 I1 r1 q1=>?_) hs rfl));obtain⟨j,rfl,q1,q2,q⟩:=q1;cases r1 with
 |cons r rr =>
  cases rr;obtain⟨t,rfl⟩:=r;exact call_range_1 (JM I1 (by lia) (by lia) q1 q2 (by simpa using q))
def Âf(wi:TI)(g:TG)(tb:TS):TS:=λD O H=>wi O H λJ H1=>∃W:Nat->Nat->St->Hp->Prop,(∃m,W 0 m O H1)/\∀i m O H,W i m O H ->
 (J.stop i H/\D.nx O H)\/(J.go i H/\∃N:St->Hp->Prop,(∀Yy H',N Yy H'->∃m',m'<m/\W (i+1) m' Yy H')/\∀x H',J.yld i H x H'->g x O H' λĖ H2=>tb { D with nx:=N,ct:=N,bk:=D.nx } Ė H2)
def Bc(fp:List ag)(h:bc):List (ag×Obj):=fp.filterMap λb=>(h.get? b).map λo=>(b,o)
def tW(hb:b∈fp)(e:h.get? b=Za o):(b,o)∈Bc fp h:=gw.mpr ⟨b,hb,by rw[e];rfl⟩
def Iz(hp:p∈Bc fp h):p.1∈fp/\h.get? p.1=Za p.2:=by
 obtain⟨b,hb,e⟩:=gw.mp hp;cases q:h.get? b with
 |none=>grind
 |some o =>
  grind
def Inv.pinned(I:Inv X Q9 O H s)(hf:∀b∈fp,Aj X Q9 H b)(ho:∀b∈fp,∃o,s.heap.get? b=Za o/\∀v,o.data≠.cell v):Inv X (Q9++Bc fp s.heap) O H s :=
 I.Ů λp hp=>(ba.mp hp).elim (λz=>I.pin p (aM _ z)) λz=>by
  obtain⟨hb,e⟩:=Iz z;obtain⟨f0,f1,f2,_⟩:=hf p.1 hb
  grind
def Inv.Ú(I:Inv X (Q9++pl) O H s):Inv X Q9 O H s:=I.Ů λp hp=>I.pin p (aM _ (b7 _ hp))
def Lj(hp:PassesOwn (model X.prog X.w) X.A X.env X.xe)(hc:X.calm=true)(hi:PI X tg iter wi)(hg:PG X tg g)(hb:Ļ X body tb)(hs:∀x,bI iter X.env x=pure x:=by intro _;rfl):PS X (.For tg iter body [] pos) (Âf wi g tb):=by
 refine λQ9 s O H D I h=>wpAny_For (Yq (hi Q9 s O H _ I h) λv s1 h1=>Yq h1 λUN s2 h2=>?_) hs;obtain⟨it,fp,tn,J,H2,rfl,I2,T,R4,f2,W,⟨m0,w0⟩,Sw⟩:=h2;have Sy:∀{H':Hp},(∀b∈fp,H' b=Zb)->∀b∈fp,Aj X Q9 H' b:=λhn b hb=>⟨hn b hb,(f2 b hb).2⟩;refine codeAny_forLoop_any (λn s'=>∃i Yy H',Inv X Q9 Yy H' s'/\tn i s'.heap/\(∀b∈fp,H' b=Zb)/\W i n Yy H') ?_ m0 ⟨0,O,H2,I2,R4,λb hb=>(f2 b hb).1,w0⟩
 rintro n s3 ⟨i,ĕ,H3,I3,U5,VN,w3⟩
 rcases Sw i n ĕ H3 w3 with⟨stop,qn⟩|⟨go,N,hN,step⟩
 .refine d9 hp (Yq (T.done X rfl rfl rfl hc i Q9 s3 ĕ H3 X.xe I3 (Sy VN) U5 stop) λr s4 ⟨hr,I4⟩=>?_);subst hr;exact fm ⟨ĕ,H3,I4,qn⟩
 .refine d9 hp (Yq (T.item X rfl rfl rfl hc i Q9 s3 ĕ H3 X.xe I3 (Sy VN) U5 go) λr s4 ⟨u,hr,h4⟩=>?_);subst hr;refine d9 hp (Yq h4 λ_ s5=>e4 λx H5 I5 r5 ⟨y5,st5,fr5⟩=>?_);have I5':=I5.pinned (Sy fr5) (T.obj _ _ st5);refine d9 hp (Yq (hg _ s5 ĕ H5 x u _ I5' r5 (step x H5 y5)) λ_ s6=>e4b λσ6 H6 I6 q6=>?_);refine d9 hp (Yq (hb _ s6 σ6 H6 _ I6 q6) λf s7 q7=>?_);have again:∀{ũ:St}{H7:Hp},Inv X (Q9++Bc fp s5.heap) ũ H7 s7->N ũ H7->∃m,m<n/\∃i Yy H',Inv X Q9 Yy H' s7/\tn i s7.heap/\(∀b∈fp,H' b=Zb)/\W i m Yy H':=λ{ũ H7} I7 n7=>by obtain⟨m',hm,w7⟩:=hN ũ H7 n7;refine⟨m',hm,i+1,ũ,H7,I7.Ú,T.keep _ _ _ st5 λb hb o e=>(I7.pin (b,o) (aM _ (aM _ (tW hb e)))).1,λb hb=>?_,w7⟩;obtain⟨o,e,d⟩:=T.obj _ _ st5 b hb;exact(I7.pin (b,o) (aM _ (aM _ (tW hb e)))).2.1
  cases f with
  |next=>obtain⟨ũ,H7,I7,n7⟩:=q7;exact again I7 n7
  |cont=>obtain⟨ũ,H7,I7,n7⟩:=q7;exact again I7 n7
  |brk=>obtain⟨ũ,H7,I7,q7⟩:=q7;exact⟨ũ,H7,I7.Ú,q7⟩
  |ret v=>obtain⟨x7,ũ,H7,I7,r7,q7⟩:=q7;exact⟨x7,ũ,H7,I7.Ú,r7,q7⟩
end
abbrev R2:=V->V->Hp->VK->Prop
def Zq(X:Cx)(f:ae->ae->Sem ae)(r:R2):Prop :=
 ∀(Q9:List (ag×Obj))(s:au)(O:St)(H:Hp)(x y:V)(v u:ae)(Q:VK),Inv X Q9 O H s->RelV x v->RelV y u->r x y H Q ->
  aO (model X.prog X.w) X.A (f v u) (EP X Q9 O Q) X.xe s
def UnR(X:Cx)(f:ae->Sem ae)(r:V->Hp->VK->Prop):Prop :=
 ∀(Q9:List (ag×Obj))(s:au)(O:St)(H:Hp)(x:V)(v:ae)(Q:VK),Inv X Q9 O H s->RelV x v->r x H Q ->
  aO (model X.prog X.w) X.A (f v) (EP X Q9 O Q) X.xe s
def YM(X:Cx)(f:ae)(r:List V->Hp->VK->Prop):Prop :=
 ∀(Q9:List (ag×Obj))(s:au)(O:St)(H:Hp)(xs:List V)(us:List ae)(Q:VK),Inv X Q9 O H s->Vals xs us->r xs H Q ->
  aO (model X.prog X.w) X.A (call f us) (EP X Q9 O Q) X.xe s
def tOp(r:R2)(ta tb:TE):TE:=λO H Q=>ta O H λx H1=>tb O H1 λy H2=>r x y H2 Q
def tUn(r:V->Hp->VK->Prop)(ta:TE):TE:=λO H Q=>ta O H λx H1=>r x H1 Q
def rI(C:Int->Int->Prop)(g:Int->Int->V):R2:=λx y H Q=>∃i j,x=.int i/\y=.int j/\C i j/\Q (g i j) H
def ϊ(g:Int->Int->V):R2:=λx y H Q=>∃i j,x=.int i/\y=.int j/\Q (g i j) H
def rU(g:Int->V):V->Hp->VK->Prop:=λx H Q=>∃i,x=.int i/\Q (g i) H
section
variable{X:Cx}{a b c:a7}{ta tb tc:TE}{pos:Pos}
def Q7(ha:PE X a ta)(hb:PE X b tb){Q9:List (ag×Obj)}{s:au}{O:St}{H:Hp}{R:V->V->Hp->Prop}(I:Inv X Q9 O H s)(h:ta O H λx H1=>tb O H1 λy H2=>R x y H2){Q:ae->au->Prop}{f:ae->ae->Sem ae}(hf:∀v u s2 x y H2,Inv X Q9 O H2 s2->RelV x v->RelV y u->R x y H2->aO (model X.prog X.w) X.A (f v u) Q X.xe s2) :
  aO (model X.prog X.w) X.A (eval a X.env) (λv Rp=>aO (model X.prog X.w) X.A (eval b X.env) (λu SB=>aO (model X.prog X.w) X.A (f v u) Q X.xe SB) X.xe Rp) X.xe s:=by
 refine Yq (ha Q9 s O H _ I h) λv s1=>e4 λx H1 I1 r1 q1=>?_;refine Yq (hb Q9 s1 O H1 _ I1 q1) λu s2=>e4 λy H2 I2 r2 q2=>?_;exact hf v u s2 x y H2 I2 r1 r2 q2
def ud{op:Operator}{r:R2}(ho:Zq X (dE op) r)(ha:PE X a ta)(hb:PE X b tb):PE X (.BinOp a op b pos) (tOp r ta tb):=by exact λQ9 s O H Q I h=>wpAny_BinOp (Q7 ha hb I h λv u s2 x y H2 I2 rx ry q=>ho Q9 s2 O H2 x y v u Q I2 rx ry q)
def OM{op:UnaryOp}{r}(ho:UnR X (unaryOp op) r)(ha:PE X a ta):PE X (.UnaryOp op a pos) (tUn r ta):=by exact λQ9 s O H Q I h=>UnaryOp_ (Yq (ha Q9 s O H _ I h) λv s1=>e4 λx H1 I1 r1 q1=>ho Q9 s1 O H1 x v Q I1 r1 q1)
def opI{f:ae->ae->Sem ae}{C:Int->Int->Prop}{g:Int->Int->Int}(rule:∀(i j:Int)(t u:Tok)(s:au)(Q:ae->au->Prop)(E:ae->au->Prop),C i j->Q (.int (g i j) s.toks) { s with toks:=s.toks+1 }->aO (model X.prog X.w) X.A (f (.int i t) (.int j u)) Q E s) :
  Zq X f (rI C λi j=>.int (g i j)):=by
 rintro Q9 s O H x y v u Q I rx ry ⟨i,j,rfl,rfl,hc,q⟩
 obtain⟨t,rfl⟩:=rx;obtain⟨t',rfl⟩:=ry;exact rule i j t t' s _ _ hc ⟨.int (g i j),H,I.tok _,⟨_,rfl⟩,q⟩
def À6{f:ae->ae->Sem ae}{g:Int->Int->Int}(rule:∀(i j:Int)(t u:Tok)(s:au)(Q:ae->au->Prop)(E:ae->au->Prop),Q (.int (g i j) s.toks) { s with toks:=s.toks+1 }->aO (model X.prog X.w) X.A (f (.int i t) (.int j u)) Q E s) :
  Zq X f (ϊ λi j=>.int (g i j)):=by
 rintro Q9 s O H x y v u Q I rx ry ⟨i,j,rfl,rfl,q⟩
 obtain⟨t,rfl⟩:=rx;obtain⟨t',rfl⟩:=ry;exact rule i j t t' s _ _ ⟨.int (g i j),H,I.tok _,⟨_,rfl⟩,q⟩
def OQ{f:ae->ae->Sem ae}{g:Int->Int->Bool}(rule:∀(i j:Int)(t u:Tok)(s:au)(Q:ae->au->Prop)(E:ae->au->Prop),Q (.bool (g i j)) s->aO (model X.prog X.w) X.A (f (.int i t) (.int j u)) Q E s) :
  Zq X f (ϊ λi j=>.bl (g i j)):=by
 rintro Q9 s O H x y v u Q I rx ry ⟨i,j,rfl,rfl,q⟩
 obtain⟨t,rfl⟩:=rx;obtain⟨t',rfl⟩:=ry;exact rule i j t t' s _ _ ⟨.bl (g i j),H,I,rfl,q⟩
def ÁZ(i j:Int):Prop:=0<=j/\j<=1000000/\i.natAbs<2^64
def ž(i j:Int):Prop:=(-(2^64)<i/\i<2^64)\/(-(2^64)<j/\j<2^64)
def ž.ok(h:ž i j):jN i j:=by
 rcases h with⟨h1,h2⟩|⟨h1,h2⟩
 .exact .of_left (intBits_le_64 h1 h2)
 .exact .of_right (intBits_le_64 h1 h2)
def ϕ:Zq X (dE .Add) (ϊ λi j=>.int (i+j)):=À6 λ_ _ _ _ _ _ _ q=>add_int q
def PQ:Zq X (dE .Sub) (ϊ λi j=>.int (i-j)):=À6 λ_ _ _ _ _ _ _ q=>sub_int q
def PZ:Zq X (dE .Mult) (rI ž λi j=>.int (i*j)):=opI λ_ _ _ _ _ _ _ hc q=>mul_int q hc.ok
def Lq:Zq X (dE .Mod) (rI (λ_ j=>0<j) λi j=>.int (i%j)):=opI λi j _ _ _ _ _ hc q=>by exact mod_int' (by lia) (by rw[Int.fmod_eq_emod_of_nonneg i (by lia)];exact q)
def PX:Zq X (dE .Pow) (rI ÁZ λi j=>.int (i^j.toNat)):=opI λ_ _ _ _ _ _ _ hc q=>pow_int_small hc.1 hc.2.1 hc.2.2 q
def unI{f:ae->Sem ae}{g:Int->Int}(rule:∀(i:Int)(t:Tok)(s:au)(Q:ae->au->Prop)(E:ae->au->Prop),Q (.int (g i) s.toks) { s with toks:=s.toks+1 }->aO (model X.prog X.w) X.A (f (.int i t)) Q E s) :
  UnR X f (rU λi=>.int (g i)):=by
 rintro Q9 s O H x v Q I rx ⟨i,rfl,q⟩
 obtain⟨t,rfl⟩:=rx;exact rule i t s _ _ ⟨.int (g i),H,I.tok _,⟨_,rfl⟩,q⟩
def K7:UnR X (unaryOp .USub) (rU λi=>.int (-i)):=unI λ_ _ _ _ _ q=>neg_int q
noncomputable def Âl:V->V->Bool
 |.Yh,.Yh=>true|.Yh,.int _=>true|.int _,.Yh=>true|.Yh,.bl _=>true|.bl _,.Yh=>true|.Yh,.str _=>true|.str _,.Yh=>true
 |.int _,.int _=>true|.bl _,.bl _=>true|.str _,.str _=>true|.byt _,.byt _=>true
 |.int _,.str _=>true|.str _,.int _=>true|.bl _,.str _=>true|.str _,.bl _=>true
 |_,_=>false
def rNe:R2:=λx y H Q=>Âl x y=true/\Q (.bl (!decide (x=y))) H
def N8:decide (V.int i=V.int j)=(i==j):=by rw[cx];simp
def QI:decide (V.bl i=V.bl j)=(i==j):=by rw[cx];simp
def N7:decide (V.str i=V.str j)=(i==j):=by rw[cx];simp
def N9:decide (V.byt i=V.byt j)=(i.toList==j.toList):=by
 rw[cx]
 simp_all
def pJ(I:Inv X Q9 O H s)(q:Q (.bl k) H)(e:k=k'):EP X Q9 O Q (.bool k') s:=by subst e;exact⟨.bl k,H,I,rfl,q⟩
def À5:Zq X (bO .NotEq) rNe:=by
 rintro Q9 s O H x y v u Q I rx ry ⟨hs,q⟩
 cases x with
 |Yh =>
  cases rx;cases y with
  |Yh=>cases ry;exact PySem.EqNone.ne_none_none (pJ I q (by simp))
  |bl j=>cases ry;exact PySem.EqNone.ne_none_bool (pJ I q (by simp))
  |int j=>obtain⟨t',rfl⟩:=ry;exact PySem.EqNone.ne_none_int (pJ I q (by simp))
  |str j=>obtain⟨t',rfl⟩:=ry;exact PySem.EqNone.ne_none_str (pJ I q (by simp))
  |_=>exact absurd (show false=true from hs) bG
 |bl i =>
  cases rx;cases y with
  |Yh=>cases ry;exact PySem.EqNone.ne_bool_none (pJ I q (by simp))
  |bl j=>cases ry;exact ne_bool (pJ I q (congrArg not QI))
  |str j=>obtain⟨t',rfl⟩:=ry;exact PySem.EqMixed.ne_bool_str (pJ I q (by simp))
  |_=>exact absurd (show false=true from hs) bG
 |int i =>
  obtain⟨t,rfl⟩:=rx;cases y with
  |Yh=>cases ry;exact PySem.EqNone.ne_int_none (pJ I q (by simp))
  |int j=>obtain⟨t',rfl⟩:=ry;exact ne_int (pJ I q (congrArg not N8))
  |str j=>obtain⟨t',rfl⟩:=ry;exact PySem.EqMixed.ne_int_str (pJ I q (by simp))
  |_=>exact absurd (show false=true from hs) bG
 |str i =>
  obtain⟨t,rfl⟩:=rx;cases y with
  |Yh=>cases ry;exact PySem.EqNone.ne_str_none (pJ I q (by simp))
  |bl j=>cases ry;exact PySem.EqMixed.ne_str_bool (pJ I q (by simp))
  |int j=>obtain⟨t',rfl⟩:=ry;exact PySem.EqMixed.ne_str_int (pJ I q (by simp))
  |str j=>obtain⟨t',rfl⟩:=ry;exact ne_str (pJ I q (congrArg not N7))
  |_=>exact absurd (show false=true from hs) bG
 |byt i =>
  obtain⟨t,rfl⟩:=rx;cases y with
  |byt j=>obtain⟨t',rfl⟩:=ry;exact PySem.W.ne_bytes (pJ I q (congrArg not N9))
  |_=>exact absurd (show false=true from hs) bG
 |_=>cases y<;>exact absurd (show false=true from hs) bG
def ON:Zq X (bO .Lt) (ϊ λi j=>.bl (decide (i<j))):=OQ λ_ _ _ _ _ _ _ q=>lt_int q
def OO:Zq X (bO .LtE) (ϊ λi j=>.bl (decide (i<=j))):=OQ λ_ _ _ _ _ _ _ q=>le_int q
def OP:Zq X (bO .Gt) (ϊ λi j=>.bl (decide (j<i))):=OQ λ_ _ _ _ _ _ _ q=>gt_int q
def Mg:Zq X (bO .GtE) (ϊ λi j=>.bl (decide (j<=i))):=OQ λ_ _ _ _ _ _ _ q=>ge_int q
def Nj:Zq X (bO .IsNot) (λx y H Q=>y=.Yh/\Q (.bl (!decide (x=.Yh))) H):=by
 rintro Q9 s O H x y v u Q I rx ry ⟨rfl,q⟩
 cases ry;refine isnot_none_gen (pJ I q ?_);cases x<;>first
  |(cases rx;rfl)
  |(obtain⟨t,rfl⟩:=rx;rfl)
def Zq.or(h:Zq X f r)(h':Zq X f r'):Zq X f (λx y H Q=>r x y H Q\/r' x y H Q):=by
 intro Q9 s O H x y v u Q I rx ry q;obtain q|q:=q
 .exact h Q9 s O H x y v u Q I rx ry q
 .exact h' Q9 s O H x y v u Q I rx ry q
def vF(b)(h:op≠.In:=by decide)(h2:op≠.NotIn:=by decide):cP op b=false:=by
 have e1:(op==CmpOp.In)=false:=by cases op<;>first|rfl|exact absurd rfl h
 have e2:(op==CmpOp.NotIn)=false:=by cases op<;>first|rfl|exact absurd rfl h2
 cases b<;>simp[cP,e1,e2]
def Hd{op:CmpOp}{r}(ho:Zq X (bO op) r)(ha:PE X a ta)(hb:PE X b tb)(hm:cP op b=false):PE X (.Compare a [op] [b] pos) (tOp r ta tb):=by exact λQ9 s O H Q I h=>wpAny_Compare1 (Q7 ha hb I h λv u s2 x y H2 I2 rx ry q=>ho Q9 s2 O H2 x y v u Q I2 rx ry q) hm
def ÀM(t:TE):TT:=λO H Q=>t O H λx H'=>∃k,x=.bl k/\Q k H'
def vB{op:CmpOp}{r}(ho:Zq X (bO op) r)(ha:PE X a ta)(hb:PE X b tb)(hm:cP op b=false):PT X (.Compare a [op] [b] pos) (ÀM (tOp r ta tb)):=by
 refine λQ9 s O H Q I h=>wpAny_isTrue_Compare1 (Yq (ha Q9 s O H _ I h) λv s1=>e4 λx H1 I1 r1 q1=>Yq (hb Q9 s1 O H1 _ I1 q1) λu s2=>e4 λy H2 I2 r2 q2 =>
  Yq (ho Q9 s2 O H2 x y v u _ I2 r1 r2 q2) λc s3=>e4 λz H3 I3 r3 ⟨k,e,q3⟩=>?_) hm
 subst e;cases r3;exact dB ⟨H3,I3,q3⟩
def Pg(r r':R2)(ta tb tc:TE):TE:=λO H Q=>ta O H λx H1=>tb O H1 λy H2=>r x y H2 λz H3=>∃k,z=.bl k /\
 (if k=true then tc O H3 λw' H4=>r' y w' H4 Q else Q (.bl false) H3)
def E1(ho:Zq X (bO op) r)(TU:Zq X (bO op') r')(ha:PE X a ta)(hb:PE X b tb)(hc:PE X c tc)(hm:lastMarks [op,op'] [b,c]=false:=by with_unfolding_all rfl):PE X (.Compare a [op,op'] [b,c] pos) (Pg r r' ta tb tc):=by
 refine λQ9 s O H Q I h=>Compare_chain (Yq (ha Q9 s O H _ I h) λv s1=>e4 λx H1 I1 r1 q1=>chain_link (Yq (hb Q9 s1 O H1 _ I1 q1) λu s2=>e4 λy H2 I2 r2 q2 =>
  Yq (ho Q9 s2 O H2 x y v u _ I2 r1 r2 q2) λd s3=>e4 λz H3 I3 r3 ⟨k,e,q3⟩=>?_)) hm
 subst e;cases r3;apply dB;cases k with
 |false=>exact ite_ff ⟨.bl false,H3,I3,rfl,q3⟩
 |true=>exact ite_tt (chain_last (Yq (hc Q9 s3 O H3 _ I3 q3) λw' s4=>e4 λz' H4 I4 r4 q4=>TU Q9 s4 O H4 y z' u w' Q I4 r2 r4 q4))
def wA:(aG:Nat)<2^63:=Zf rfl
def Ś:Zq X (dE .Add) (λx y H Q=>∃i j,x=.str i/\y=.str j/\i.length+j.length<=aG/\Q (.str (i++j)) H):=by
 rintro Q9 s O H x y v u Q I rx ry ⟨i,j,rfl,rfl,hz,q⟩
 obtain⟨t,rfl⟩:=rx;obtain⟨t',rfl⟩:=ry;exact add_str (λt' tk=>⟨.str (i++j),H,I.tok _,⟨_,rfl⟩,q⟩) hz
def re(r:Vals [x] us):∃u,us=[u]/\RelV x u:=by
 cases r with
 |cons r1 r2=>cases r2;exact⟨_,rfl,r1⟩
def L6(r:Vals [x,y] us):∃u w',us=[u,w']/\RelV x u/\RelV y w':=by
 cases r with
 |cons r1 r2 =>
  cases r2 with
  |cons r3 r4=>cases r4;exact⟨_,_,rfl,r1,r3⟩
def KY:YM X (.builtin "abs") (λxs H Q=>∃i,xs=[.int i]/\Q (.int (if i<0 then -i else i)) H):=by
 rintro Q9 s O H xs us Q I r ⟨i,rfl,q⟩
 obtain⟨u,rfl,t,rfl⟩:=re r;exact call_abs_int λu tk=>⟨.int (if i<0 then -i else i),H,I.tok _,⟨_,rfl⟩,q⟩
def Ja:YM X (.type "int") (λxs H Q=>(∃i,xs=[.int i]/\Q (.int i) H)\/∃k,xs=[.bl k]/\Q (.int (if k then 1 else 0)) H):=by
 intro Q9 s O H xs us Q I r h;rcases h with⟨i,rfl,q⟩|⟨k,rfl,q⟩
 .obtain⟨u,rfl,t,rfl⟩:=re r;exact call_int_int ⟨.int i,H,I,⟨_,rfl⟩,q⟩
 .obtain⟨u,rfl,rfl⟩:=re r;exact call_int_bool ⟨.int (if k then 1 else 0),H,I.tok _,⟨_,rfl⟩,q⟩
end
structure Ŧ(h:bc)(x dx C:ag)(mA:Str->Option ae):Prop where
 obj:h.get? x=Za (cZ C dx)
 ns:h.Ns1 dx mA
 ne:dx≠x
def Cj{h:bc}{dx:ag}{mA:Str->Option ae}(n:h.Ns1 dx mA):∃od,h.get? dx=Za od/\∀name,hZ name od=Za (mA name):=by
 obtain⟨o,es,ep,ho,hd,hk,_,hm⟩:=n;refine⟨o,ho,λname=>?_⟩;have e:=hm name;unfold nsFind findBy at e;rw[<-Array.find?_toList] at e;unfold hZ;rw[hd];dsimp only;split
 .grind
 .rename_i q;have a:es.toList.any (·.refKey)=false:=by rw[List.any_eq_false];intro y hy;obtain⟨z,t,Uq⟩:=hk y (Array.mem_toList_iff.mp hy);simp[DictEntry.refKey,Uq]
  grind
def Ŧ.look(I:Ŧ h x dx C mA):∃od,PySem.W.InstAt h x (cZ C dx) C (Za od)/\∀name,hZ name od=Za (mA name) :=
 let⟨od,ho,hl⟩:=Cj I.ns
 ⟨od,⟨I.obj,rfl,rfl,ho⟩,hl⟩
section
variable{prog:aK}{w:aT}{A:bX}{E:ae->au->Prop}{s:au}{K:aa}{x dx C f:ag}{mA:Str->Option ae}{name:Str}{v:ae}
def NP(X:K.In s.heap)(I:Ŧ s.heap x dx C mA)(hg:ee K C name=true)(hh:cG K C=true)(ha:aI K (.ref C) name=Za Zb)(hv:mA name=Za v)(hv':ka v=true)(h:Q v { s with toks:=s.toks+1 }) :
  aO (model prog w) A (getAttr (.ref x) name TJ) Q E s:=by
 obtain⟨od,J,hl⟩:=I.look;exact PySem.W.get_value X J (iq hg).1 (PySem.W.findObj_own hh ha rfl (by rw[hl,hv])) hv' h
def Kv(X:K.In s.heap)(I:Ŧ s.heap x dx C mA)(hg:ee K C name=true)(hf:aI K (.ref C) name=Za (Za (.ref f)))(ht:gL K (.ref f)=true)(hv:mA name=Zb)(h:Q (.ref f,[.ref x]) s) :
  aO (model prog w) A (fE (.ref x) name pl) Q E s:=by
 obtain⟨od,J,hl⟩:=I.look;exact PySem.W.method_fn X J (iq hg).1 (iq hg).2 hf (beq_iff_eq.mp ht) (by show(hZ name od).map (·.isSome)=Za false;rw[hl,hv];rfl) h
def MP(X:K.In s.heap)(I:Ŧ s.heap x dx C mA)(hs:aI K (.ref C) "__setattr__"=Za (Za (.builtin "object.__setattr__")))(hp:gu K C=true)(ht:jg K C name=Za Zb)(hh:cG K C=true)(hw:kF mA ns)(hsz:ns.length<=aG)(h:∀h',Ŧ h' x dx C (λy=>if y=name then Za v else mA y)->i9 dx s.heap h'->Q () { s with heap:=h',toks:=s.toks+2 }) :
  aO (model prog w) A (setAttr (.ref x) name v) Q E s:=by
 obtain⟨od,J,hl⟩:=I.look;refine lr X J hs (PySem.W.osa_open X J hp ht λb=>?_);obtain⟨cd,hc,Wl⟩:=lG hh;have hx:=I.obj;refine af (aE (af (af (kY hx (af (PySem.W.Looks.here (ir X hc) ?_))))));rw[Wl];refine aE (af (aE (af ?_)));refine wpAny_nsSet1 I.ns λh' We Ui=>?_;obtain⟨oD,esD,epD,Xe,Xv,Xx⟩:=We.count (lF name v hw);refine af (wpAny_lookBehind Xe (by rw[Xv];exact pastItsLine_dict (aJ Xx (by rw[bw];lia))) ?_);exact aE (h _ ⟨(Ui.2 _ (bU I.ne)).trans I.obj,We,I.ne⟩ Ui)
def Kg(X:K.In s.heap)(hm:fO K C=true)(hi:aI K (.ref C) "__init__"=Za (Za (.ref f)))(hf:PySem.W.typeIn K (.ref f)=Za (.type "function"))(h:eP (model prog w) (A.under (.builtin "type.__call__" ⟨.ref C::vs,kw⟩)) (.call (.ref f) ⟨.ref (s.heap.objs.size+1)::vs,kw⟩) (PySem.W.InitBack (s.heap.objs.size+1) R)
   {s with heap:=(s.heap.push bT).push (cZ C s.heap.objs.size) }) :
  eP (model prog w) A (.call (.ref C) ⟨vs,kw⟩) R s:=by
 exact PySem.W.make_core (PySem.W.makes_of X hm) (du X hi) (λself=>lW X self hf) (.inl rfl) h
end
noncomputable def Y2(f:Str)(v:V):List (Str×V)->List (Str×V)
 |[]=>[(f,v)]
 |(g,x)::r=>if g=f then(g,v)::r else(g,x)::Y2 f v r
theorem yf(f g)(v):∀fs:List (Str×V),(Y2 f v fs).lookup g=if g=f then Za v else fs.lookup g
 |[]=>by
  show gF g [(f,v)]=_;by_cases h:g=f
  .have hb:(g==f)=true:=beq_iff_eq.mpr h
   grind
  .grind
 |(k,x)::r=>by
  have ih:=yf f g v r;rw[show Y2 f v ((k,x)::r)=(if k=f then(k,v)::r else(k,x)::Y2 f v r) from rfl]
  grind
theorem xR(f)(v):∀fs:List (Str×V),f∈(Y2 f v fs).map (·.1)/\∀g,g∈fs.map (·.1)->g∈(Y2 f v fs).map (·.1)
 |[]=>⟨by simp[Y2],λg h=>by simp at h⟩
 |(k,x)::r=>by
  obtain⟨i1,i2⟩:=xR f v r;rw[show Y2 f v ((k,x)::r)=(if k=f then(k,v)::r else(k,x)::Y2 f v r) from rfl]
  grind
theorem uK(f)(v):∀fs:List (Str×V),(Y2 f v fs).length<=fs.length+1
 |[]=>by simp[Y2]
 |(k,x)::r=>by
  have ih:=uK f v r;rw[show Y2 f v ((k,x)::r)=(if k=f then(k,v)::r else(k,x)::Y2 f v r) from rfl]
  grind
def Z0.some_of(r:Z0 (Za v) o):∃u,o=Za u/\RelV v u:=by
 cases o with
 |none=>exact(r).elim
 |some u=>exact⟨u,rfl,r⟩
def Z0.none_of(r:Z0 Zb o):o=none:=by
 cases o with
 |none=>rfl
 |some u=>exact(r).elim
def Cq(r:RelV v u):ka u=true:=by
 cases v with
 |Yh=>cases(r);rfl
 |bl b=>cases(r);rfl
 |int i=>obtain⟨t,rfl⟩:=(r);rfl
 |str x=>obtain⟨t,rfl⟩:=(r);rfl
 |byt b=>obtain⟨t,rfl⟩:=(r);rfl
 |flt b=>obtain⟨t,rfl⟩:=(r);rfl
 |ref a=>cases(r);rfl
 |ty n=>cases(r);rfl
section
variable{P:aK}{w:aT}{H:Hp}{h:bc}{a C dx:ag}{fs:List (Str×V)}
def zO(Ye:Ë P w H h)(e:H a=Za (.ins C dx fs)):∃mA,Ŧ h a dx C mA/\(∀f,Z0 (fs.lookup f) (mA f))/\kF mA (fs.map (·.1))/\fs.length<=1000/\H dx=Za (.own a):=by obtain⟨d,z,ne,ob,mA,n,r,q⟩:=(Ye a _ e);exact⟨mA,⟨ob,n,ne⟩,r,q,z,d⟩
end
structure Ŕ(K:aa)(C:ag):Prop where
 pg:ee K C cq=true
 hd:cG K C=true
 po:gu K C=true
 sa:aI K (.ref C) "__setattr__"=Za (Za (.builtin "object.__setattr__"))
def Ŕ.get{K}{C}(c:Ŕ K C)(f):ee K C f=true:=c.pg
def YV(K:aa)(C:ag)(f:Str):Prop:=aI K (.ref C) f=Za Zb
def YV.ÀJ{K}{C}{f}(n:YV K C f):jg K C f=Za none:=by unfold jg;rw[n];rfl
structure Con(K:aa)(C:ag)(f:Str)(v:V)(u:ae):Prop where
 at_:aI K (.ref C) f=Za (Za u)
 rel:RelV v u
 get:cM K u "__get__"=Za Zb
 cp:PySem.W.copiedNames.contains f=false
structure Meth(K:aa)(C:ag)(m:Str)(f:ag):Prop where
 at_:aI K (.ref C) m=Za (Za (.ref f))
 fn:gL K (.ref f)=true
 kp:bV K (.ref f)=true
section
variable{X:Cx}{Q9:List (ag×Obj)}{O:St}{H:Hp}{s:au}{a C dx:ag}{fs:List (Str×V)}{f:Str}{v:V}{A:bX}{E:ae->au->Prop}
def F3(I:Inv X Q9 O H s)(e:H a=Za (.ins C dx fs))(c:Ŕ X.K C)(n:YV X.K C f)(l:fs.lookup f=Za v)(h:∀u s',Inv X Q9 O H s'->RelV v u->Q u s'):aO (model X.prog X.w) A (getAttr (.ref a) f b) Q E s:=by
 obtain⟨mA,Zi,r,_,_,_⟩:=zO I.Ye e;obtain⟨u,hu,ru⟩:=Z0.some_of (by rw[<-l];exact r f);exact NP I.ZE Zi (c.get f) c.hd n hu (Cq ru) (h u _ (I.tok _) ru)
def zR(I:Inv X Q9 O H s)(e:H a=Za (.ins C dx fs))(c:Ŕ X.K C)(k:Meth X.K C m g)(l:fs.lookup m=Zb)(h:Q (.ref g,[.ref a]) s):aO (model X.prog X.w) A (fE (.ref a) m pl) Q E s:=by
 obtain⟨mA,Zi,r,_,_,_⟩:=zO I.Ye e;have hn:=Z0.none_of (by rw[<-l];exact r m);exact Kv I.ZE Zi (c.get m) k.at_ k.fn hn h
def FB(I:Inv X Q9 O H s)(e:H a=Za (.ins C dx fs))(c:Ŕ X.K C)(n:YV X.K C f)(hl:fs.length<1000)(ry:RelV y u)(h:∀s',Inv X Q9 O (upd H a (.ins C dx (Y2 f y fs))) s'->Q () s'):aO (model X.prog X.w) A (setAttr (.ref a) f u) Q E s:=by
 obtain⟨mA,Zi,r,wi,_,ho⟩:=zO I.Ye e;have hz:(fs.map (·.1)).length<=aG:=by rw[ac,ko];lia
 refine MP I.ZE Zi c.sa c.po n.ÀJ c.hd wi hz λh' O' sb=>h _ ?_;have hd:∃o,h'.get? dx=Za o:=let⟨o,_,_,e',_⟩:=O'.ns;⟨o,e'⟩;refine I.write (by rw[e];exact cQ) (.inr ho) (λb q hb z=>(sb.2 b hb).trans z) hd ?_;refine⟨by rw[mq Zi.ne];exact ho,?_,Zi.ne,O'.obj,_,O'.ns,λg=>?_,λg hg=>?_⟩
 .have:=uK f y fs;lia
 .rw[yf];by_cases q:g=f
  .rw[Zc q,Zc q];exact ry
  .simp_all
 .by_cases q:g=f
  .rw[q];exact(xR f y fs).1
  .refine(xR f y fs).2 g (wi g λz=>hg ?_);show(if g=f then Za u else mA g)=Zb;rw[Zd q];exact z
def Inv.made(I:Inv X Q9 O H s):Inv X Q9 O (upd (upd H s.heap.objs.size (.own (s.heap.objs.size+1))) (s.heap.objs.size+1) (.ins C s.heap.objs.size []))
  {s with heap:=(s.heap.push bT).push (cZ C s.heap.objs.size) }:=by
 have e1:(s.heap.push bT).get? s.heap.objs.size=Za bT:=aP s.heap rfl;have e2:((s.heap.push bT).push (cZ C s.heap.objs.size)).get? (s.heap.objs.size+1)=Za (cZ C s.heap.objs.size):=by
  have:=aP (s.heap.push bT) (o:=cZ C s.heap.objs.size) rfl
  simp_all
 have e3:(s.heap.push bT).Ns s.heap.objs.size (λ_=>Zb):=⟨bT,#[],_,e1,rfl,(λe he=>absurd he (by simp)),λ_=>rfl⟩;have I1:=I.laid (o:=.own (s.heap.objs.size+1)) (t':=s.toks) (λb u q=>aj _ q) (ak _) ⟨_,e1⟩;refine I1.laid (λb u q=>aj _ q) (ji (iB _ _)) ?_;have ne:s.heap.objs.size≠s.heap.objs.size+1:=ay (ci _);refine⟨by rw[mq ne,mw],aY _,ne,e2,λ_=>Zb,(k8 e3).at λo q=>aj _ q,λ_=>cQ,λy hy=>absurd rfl hy⟩
def HI{f}{s}(hb:cz e f env (eval e env)=eval e env)(h:aO (model prog w) A (eval e env) (λo Rp=>aO (model prog w) A (getAttr o f true) Q E Rp) E s):aO (model prog w) A (eval (.Attribute e f pos) env) Q E s :=
 Attribute_any_ h (by rw[arm_eval_Attribute,hb])
end
def Âg(K:aa)(ta:TE)(f:Str):TE:=λO H Q=>ta O H λx H1=>∃a C dx fs v,x=.ref a/\H1 a=Za (.ins C dx fs)/\Ŕ K C/\YV K C f/\fs.lookup f=Za v/\Q v H1
def Âm(K:aa)(ta tv:TE)(f:Str):TS:=λD O H=>tv O H λy H1=>ta O H1 λx H2=>∃a C dx fs,x=.ref a/\H2 a=Za (.ins C dx fs)/\Ŕ K C/\YV K C f/\fs.length<1000 /\
 D.nx O (upd H2 a (.ins C dx (Y2 f y fs)))
section
variable{X:Cx}{o e Ri:a7}{f:Str}{pos Rm:Pos}{ta tv:TE}
def o4(he:PE X e ta)(hb:cz e f X.env (eval e X.env)=eval e X.env):PE X (.Attribute e f pos) (Âg X.K ta f):=by refine λQ9 s O H Q I h=>HI hb (Yq (he Q9 s O H _ I h) λu s1=>e4 λx H1 I1 rx ⟨a,C,dx,fs,v,ex,ea,c,n,l,q⟩=>?_);subst ex;obtain rfl:u=aU a:=rx;exact F3 I1 ea c n l λu' s2 I2 ru=>⟨v,H1,I2,ru,q⟩
def yI(ha:PE X o ta)(hv:PE X Ri tv)(hs:cN Ri (Za (.Attribute o f Rm)) pos.line X.env=pure false):PS X (.Assign [.Attribute o f Rm] Ri pos) (Âm X.K ta tv f):=by refine λQ9 s O H D I h=>jT (Yq (hv Q9 s O H _ I h) λu s1=>e4 λy H1 I1 ry q=>Yq (ha Q9 s1 O H1 _ I1 q) λov s2=>e4 λx H2 I2 rx ⟨a,C,dx,fs,ex,ea,c,n,l,q2⟩=>?_) hs;subst ex;obtain rfl:ov=aU a:=rx;exact FB I2 ea c n l ry λs3 I3=>⟨O,_,I3,q2⟩
end
section
variable{X:Cx}{Q9:List (ag×Obj)}{O:St}{H:Hp}{s:au}{A:bX}{E:ae->au->Prop}{Q:ae->au->Prop}{c:ae}{b:Bool}
inductive î (K:aa) (H:Hp):V->ae->Prop where
 |Yh:î K H .Yh (.type "NoneType")
 |bl (x:Bool):î K H (.bl x) (.type "bool")
 |int (i:Int):î K H (.int i) (.type "int")
 |str (x:Str):î K H (.str x) (.type "str")
 |flt (x:UInt64):î K H (.flt x) (.type "float")
 |lst {a:ag}{xs:List V} (e:H a=Za (.lst xs)):î K H (.ref a) (.type "list")
 |YQ {a:ag}{o:Obj}{xs:List V} (e:H a=Za (.YQ o (.lst xs))):î K H (.ref a) (.type "list")
 |tup {a:ag}{xs:List V} (e:H a=Za (.tup xs)):î K H (.ref a) (.type "tuple")
 |dK {a:ag}{Ra:List (Key×V)} (e:H a=Za (.dK Ra)):î K H (.ref a) (.type "dict")
 |dT {a:ag}{Ra:List (List Key×V)} (e:H a=Za (.dT Ra)):î K H (.ref a) (.type "dict")
 |ins {a C dx:ag}{fs:List (Str×V)} (e:H a=Za (.ins C dx fs)) (cl:Ŕ K C) (ha:aI K (.ref C) "__class__"=Za (Za (.builtin "object.__class__")))
   (hn:cM K (.builtin "object.__class__") "__get__"=Za (Za (.builtin "getset_descriptor.__get__"))) (htk:fN K (.builtin "object.__class__")=Za true)
   (hm:bS K C (.type "object")=Za true):î K H (.ref a) (.ref C)
def IJ(I:Inv X Q9 O H s)(rx:RelV x u)(ty:î X.K H x t)(e:jt X.K t c=Za b)(h:∀tk,Q (.bool b) { s with toks:=tk }) :
  aO (model X.prog X.w) A (call (.builtin "isinstance") [u,c]) Q E s:=by
 cases ty with
 |Yh=>cases(rx);exact bN PySem.W.kitx_none I.ZE cQ e (λz=>nomatch z) h
 |bl y=>cases(rx);exact bN PySem.W.kitx_bool I.ZE cQ e (λz=>nomatch z) h
 |int i=>obtain⟨t,rfl⟩:=(rx);exact bN PySem.W.kitx_int I.ZE cQ e (λz=>nomatch z) h
 |str y=>obtain⟨t,rfl⟩:=(rx);exact bN PySem.W.kitx_str I.ZE cQ e (λz=>nomatch z) h
 |flt y=>obtain⟨t,rfl⟩:=(rx);exact bN PySem.W.kitx_float I.ZE cQ e (λz=>nomatch z) h
 |@lst a xs ea =>
  cases(rx);obtain⟨_,_,n,_,h1⟩:=(I.Ye a _ ea);exact bN iU I.ZE ⟨_,h1,rfl⟩ e (λz=>nomatch z) h
 |@YQ a ob xs ea =>
  cases(rx);obtain⟨_,_,_,n,_,h1⟩:=(I.Ye a _ ea);exact bN iU I.ZE ⟨_,h1,rfl⟩ e (λz=>nomatch z) h
 |@tup a xs ea =>
  cases(rx);obtain⟨_,_,_,p⟩:=(I.Ye a _ ea);obtain⟨o,h1,h2,_⟩:=p;exact bN k6 I.ZE ⟨o,h1,h2⟩ e (λz=>nomatch z) h
 |@dK a Ra ea =>
  cases(rx);obtain⟨_,_,vs,_,p⟩:=(I.Ye a _ ea);obtain⟨o,es,ep,h1,h2,_⟩:=p;exact bN lv I.ZE ⟨o,h1,h2.1⟩ e (λz=>nomatch z) h
 |@dT a Ra ea =>
  cases(rx);obtain⟨_,_,xs,_,o,es,ep,h1,h2,_⟩:=(I.Ye a _ ea);exact bN lv I.ZE ⟨o,h1,h2.1⟩ e (λz=>nomatch z) h
 |@ins a C dx fs ea cl ha hn htk hm =>
  cases(rx);obtain⟨mA,Zi,_⟩:=zO I.Ye ea;obtain⟨od,J,_⟩:=Zi.look;exact bN (PySem.W.kitx_own (cl.get _) cl.hd ha hn htk hm) I.ZE J e (λz=>nomatch z) h
end
structure Yp(k:Nat)(A:bX):Prop where
 hd:A.handled=Zb
 dp:A.depth+3*k+5<recursionLimit
 un:A.units+16*k+200<fj
def Yp.mono(r:Yp k A)(h:j<=k):Yp j A:=⟨r.hd,by have:=r.dp;lia,by have:=r.un;lia⟩
theorem Yp.deeper(r:Yp (k+1) A)(env:Env):Yp k (A.deeper env) :=
 ⟨r.hd,by have:=r.dp;show A.depth+1+3*k+5<_;lia,by have:=r.un;show A.units+3+16*k+200<_;lia⟩
def FU{A:bX}{C:ag}{us:List ae}{kw:List (Str×ae)}:(A.under (.builtin "type.__call__" ⟨.ref C::us,kw⟩)).depth=A.depth+1:=by
 first|rfl|simp[Code.weight]
def FT{A:bX}{C:ag}{us:List ae}{kw:List (Str×ae)}:(A.under (.builtin "type.__call__" ⟨.ref C::us,kw⟩)).units=A.units+1:=by
 first|rfl|simp[Code.cUnits]
def Yp.make(r:Yp (k+1) A)(C:ag)(us:List ae)(kw:List (Str×ae)):Yp k (A.under (.builtin "type.__call__" ⟨.ref C::us,kw⟩)) :=
 ⟨r.hd,by have:=r.dp;rw[FU];lia,by have:=r.un;rw[FT];lia⟩
theorem Yp.depth(r:Yp k A):A.depth<recursionLimit:=by have:=r.dp;lia
theorem Yp.units(r:Yp k A):A.units+64<fj:=by have:=r.un;lia
def K9:TA:=λ_ H Q=>Q [] H
def L7(ta:TE)(tr:TA):TA:=λO H Q=>ta O H λx H1=>tr O H1 λxs H2=>Q (x::xs) H2
section
variable{X:Cx}{e:a7}{es:List a7}{te:TE}{t:TA}{pos:Pos}
def Yc:PA X [] K9:=λ_ _ _ _ H Q I h=>gC ⟨[],H,I,.nil,h⟩
abbrev Č(X:Cx)(e:a7)(es:List a7):Prop:=ar (e::es) X.env=(false,eval e X.env)::ar es X.env
def mK(ha:PE X e te)(hr:PA X es t)(hs:Č X e es:=by rfl):PA X (e::es) (L7 te t):=by intro pos Q9 s O H Q I h;rw[hs];refine eQ (Yq (ha Q9 s O H _ I h) λu s1=>e4 λx H1 I1 r1 q1=>?_);exact Yq (hr pos Q9 s1 O H1 _ I1 q1) λus s2=>e4 λxs H2 I2 r2 q2=>⟨x::xs,H2,I2,.cons r1 r2,q2⟩
def Á5(t:TA):TE:=λO H Q=>t O H λxs H1=>xs.length<=aG/\∀p,H1 p=Zb->Q (.ref p) (upd H1 p (.tup xs))
def Âc(t:TA):TE:=λO H Q=>t O H λxs H1=>xs.length<=aG/\∀p,H1 p=Zb->Q (.ref p) (upd H1 p (.lst xs))
def wy{x1}(h:PA X es t):PE X (.Tuple es x1 pos) (Á5 t):=by refine λQ9 s O H Q I hq=>wpAny_Tuple_spliced (Yq (h pos Q9 s O H _ I hq) λus s1=>e4 λxs H1 I1 r ⟨z,q⟩=>⟨by rw[<-r.length];exact z,?_⟩);have hf:=I1.Ye.fresh (ak _);refine⟨.ref s1.heap.objs.size,upd H1 s1.heap.objs.size (.tup xs),I1.laid (λb u e=>aj _ e) (ak _) ?_,rfl,q _ hf⟩;exact⟨z,us,r,⟨_,aP _ rfl,rfl,_,rfl⟩⟩
def Ll(h:PA X es t):PE X (.List es pos) (Âc t):=by refine λQ9 s O H Q I hq=>wpAny_List_spliced (Yq (h pos Q9 s O H _ I hq) λus s1=>e4 λxs H1 I1 r ⟨z,q⟩=>⟨by rw[<-r.length];exact z,?_⟩);have hf:=I1.Ye.fresh (ak _);refine⟨.ref s1.heap.objs.size,upd H1 s1.heap.objs.size (.lst xs),I1.laid (λb u e=>aj _ e) (ak _) ?_,rfl,q _ hf⟩;exact⟨z,us,0,r,aP _ rfl⟩
end
abbrev Sp:=List V->Hp->VK->XK->Prop
abbrev Ũ:=List Env->Hp->au->XK->ae->au->Prop
structure ŧ(P:aK)(w:aT)(K:aa)(mg:Str->Option ae)(base:bc)(A:bX)(outer:List Env)(s:au)(H:Hp):Prop where
 frames:A.frames=Za outer
 mod:Mod K mg base
 bs:∀b o,base.get? b=Za o->s.heap.get? b=Za o/\H b=Zb
 bsz:base.objs.size<=s.heap.objs.size
 ë:s.heap.FunFrames base outer
 frf:∀b∈Zt outer,H b=Zb
 Ye:Ë P w H s.heap
 bare:gZ s.gens
def CE(outer:List Env)(P:aK)(w:aT)(H:Hp)(s:au)(Q:VK)(u:ae)(s':au):Prop :=
 ∃v H',s'.os=s.os/\gZ s'.gens/\Un (Zt outer) [] H H' s.heap s'.heap/\Ë P w H' s'.heap/\RelV v u/\Q v H'
def CR(CX:Ũ)(outer:List Env)(P:aK)(w:aT)(H:Hp)(s:au)(Q:VK)(E:XK)(r:ju)(s':au):Prop :=
 match r with
 |.ok (.ret u)=>CE outer P w H s Q u s'
 |.ok _=>False
 |.error e=>CX outer H s E e s'
structure Yt(P:aK)(w:aT)(K:aa)(mg:Str->Option ae)(base:bc)(CX:Ũ)(k:Nat)(f:ag)(fd:cg)(ps:List Str)(sp:Sp):Prop where
 len:∀vs H Q E,sp vs H Q E->vs.length=ps.length
 run:∀(A:bX)(outer:List Env)(s:au)(H:Hp)(args:Args)(us:List ae)(vs:List V)(Q:VK)(E:XK),Yp k A->ŧ P w K mg base A outer s H->jR s fd args (ps.zip us)->Vals vs us->sp vs H Q E ->
  eP (model P w) A (.call (.ref f) args) (CR CX outer P w H s Q E) s
def Yt.imp{P}{w}{K}{mg}{base}{CX:Ũ}{k}{f}{fd}{ps}{sp UH:Sp}(F:Yt P w K mg base CX k f fd ps sp)(h:∀vs H Q E,UH vs H Q E->sp vs H Q E):Yt P w K mg base CX k f fd ps UH :=
 ⟨λvs H Q E q=>F.len vs H Q E (h _ _ _ _ q),λA outer s H args us vs Q E hr he hb hv hs=>F.run A outer s H args us vs Q E hr he hb hv (h _ _ _ _ hs)⟩
def ŧ.make{P}{w}{K}{mg}{base}{A}{outer}{s}{H}(e:ŧ P w K mg base A outer s H)(C)(us)(kw) :
  ŧ P w K mg base (A.under (.builtin "type.__call__" ⟨.ref C::us,kw⟩)) outer s H:=⟨by first|exact e.frames|(simpa[Around.under,Code.envs,Code.isFrame,pushEnvs] using e.frames),e.mod,e.bs,e.bsz,e.ë,e.frf,e.Ye,e.bare⟩
section
variable{X:Cx}{Q9:List (ag×Obj)}{O:St}{H:Hp}{s s':au}
def Inv.Àb(I:Inv X Q9 O H s):ŧ X.prog X.w X.K X.mg X.base X.A X.stack s H :=
 ⟨I.ok.frames,I.ok.mod,I.bs,aJ I.ok.bsz I.sz,I.stack,I.ó,I.Ye,I.bare⟩
def Inv.after(I:Inv X Q9 O H s)(h:CE X.stack X.prog X.w H s Q u s'):EP X Q9 O Q u s':=by obtain⟨v,H',os,bare,un,Ye,r,q⟩:=h;obtain⟨hh,g,d,t,os'⟩:=s';obtain rfl:os'=s.os:=os;exact⟨v,H',I.call un Ye bare (λb z=>absurd z (by simp)),r,q⟩
end
def Fx(sp:Sp)(RR:List V)(E:XK)(t:TA):TE:=λO H Q=>t O H λvs H1=>sp (vs++RR) H1 Q E
def Jf(C:ag)(m:Str)(sp:Sp)(RR:List V)(E:XK)(ta:TE)(t:TA):TE:=λO H Q=>ta O H λx H1=>∃a dx fs,x=.ref a/\H1 a=Za (.ins C dx fs)/\fs.lookup m=Zb /\
 t O H1 λvs H2=>sp (x::(vs++RR)) H2 Q E
def Jg(C:ag)(sp:Sp)(RR:List V)(E:XK)(t:TA):TE:=λO H Q=>t O H λvs H1=>∀x dx,H1 x=Zb->H1 dx=Zb->dx≠x ->
 sp (.ref x::(vs++RR)) (upd (upd H1 dx (.own x)) x (.ins C dx [])) (λv H2=>v=.Yh/\Q (.ref x) H2) E
def Binds(K:aa)(fd:cg)(ps:List Str)(ds:List ae):Prop :=
 ∀(s:au)(us:List ae),K.In s.heap->(us++ds).length=ps.length->jR s fd ⟨us,[]⟩ (ps.zip (us++ds))
def Binds.all{K}{fd}{ps}(h:∀us:List ae,us.length=ps.length->gg fd ⟨us,[]⟩=pure (ps.zip us)):Binds K fd ps []:=λs us _ hl=>by rw[bW] at hl ⊢;exact .of_eq (h us hl)
def oK(CX:Ũ)(X:Cx)(E:XK):Prop:=∀(Q9:List (ag×Obj))(O:St)(H:Hp)(s:au)(e:ae)(s':au),Inv X Q9 O H s->CX X.stack H s E e s'->X.xe e s'
section
variable{X:Cx}{CX:Ũ}{k:Nat}{f C:ag}{fd:cg}{ps:List Str}{sp:Sp}{RR:List V}{ds:List ae}{E:XK}{x m:Str}{p pos Rc:Pos}{e o:a7}{es:List a7}{ta:TE}{t:TA}
def Gy(F:Yt X.prog X.w X.K X.mg X.base CX k f fd ps sp)(hr:Yp k X.A)(hb:Binds X.K fd ps ds)(hd:Vals RR ds)(hx:oK CX X E)(I:Inv X Q9 O H s)(r:Vals vs us)(h:sp (vs++RR) H Q E):aO (model X.prog X.w) X.A (call (.ref f) us) (EP X Q9 O Q) X.xe s:=by
 have r2:=r.append hd;have hl:(us++ds).length=ps.length:=by rw[<-r2.length];exact F.len _ _ _ _ h
 refine iI (fM (F.run X.A X.stack s H ⟨us,[]⟩ (us++ds) (vs++RR) Q E hr I.Àb (hb s us I.ZE hl) r2 h) λr s' hq=>?_);cases r with
 |error e=>exact hx Q9 O H s e s' I hq
 |ok fl =>
  cases fl with
  |ret u=>exact I.after hq
  |next=>exact bo hq
  |brk=>exact bo hq
  |cont=>exact bo hq
def Nd(F:Yt X.prog X.w X.K X.mg X.base CX k f fd ps sp)(hr:Yp k X.A)(hg:Gl X x)(hm:X.mg x=Za (.ref f))(hk:bV X.K (.ref f)=true)(hb:Binds X.K fd ps ds)(hd:Vals RR ds)(hx:oK CX X E)(ha:PA X (e::es) t)(RM:Î x:=by decide)(he:Č X e es:=by rfl)(Rq:(bM pos (ar es X.env)).any (·.1)=false:=by rfl) :
  PE X (.Call (.Name x p) (e::es) [] pos) (Fx sp RR E t):=by
 refine λQ9 s O H Q I h=>dg (rj I hg hm ?_ RM);refine eM I.ok.mod.kin hk (Yq (ha pos Q9 s O H _ I h) λus s1=>e4 λvs H1 I1 r q=>⟨I1.ZE,?_⟩) he Rq;exact Gy F hr hb hd hx I1 r q
def Na(he:PE X o ta)(c:Ŕ X.K C)(hm:Meth X.K C m f)(F:Yt X.prog X.w X.K X.mg X.base CX k f fd ps sp)(hr:Yp k X.A)(hb:Binds X.K fd ps ds)(hd:Vals RR ds)(hx:oK CX X E)(ha:PA X (e::es) t)(RW:Č X e es:=by rfl)(Rq:(bM pos (ar es X.env)).any (·.1)=false:=by rfl)(ht:eval (.Call (.Attribute o m Rc) (e::es) [] pos) X.env=(do
   let ov <-eval o X.env
   fL Rc.atName
   let(f,first) <-holding [ov] (fE ov m pl)
   ip pos f first (bM pos (ar (e::es) X.env)) (ed pos (cI [] X.env))):=by rfl) :
  PE X (.Call (.Attribute o m Rc) (e::es) [] pos) (Jf C m sp RR E ta t):=by
 refine λQ9 s O H Q I h=>gT (Yq (he Q9 s O H _ I h) λu s1=>e4 λx H1 I1 rx ⟨a,dx,fs,ex,ea,l,q⟩=>?_) ht;subst ex;obtain rfl:u=aU a:=rx;apply zR I1 ea c hm l;refine eM I.ok.mod.kin hm.kp (Yq (ha pos Q9 s1 O H1 _ I1 q) λus s2=>e4 λvs H2 I2 r q2=>⟨I2.ZE,?_⟩) RW Rq;exact Gy (vs:=.ref a::vs) F hr hb hd hx I2 (.cons rfl r) q2
def JY(he:PE X o ta)(c:Ŕ X.K C)(hm:Meth X.K C m f)(F:Yt X.prog X.w X.K X.mg X.base CX k f fd ps sp)(hr:Yp k X.A)(hb:Binds X.K fd ps ds)(hd:Vals RR ds)(hx:oK CX X E)(ht:eval (.Call (.Attribute o m Rc) [] [] pos) X.env=(do
   let ov <-eval o X.env
   fL Rc.atName
   let(f,first) <-holding [ov] (fE ov m pl)
   ip pos f first (bM pos (ar [] X.env)) (ed pos (cI [] X.env))):=by rfl) :
  PE X (.Call (.Attribute o m Rc) [] [] pos) (Jf C m sp RR E ta K9):=by
 refine λQ9 s O H Q I h=>gT (Yq (he Q9 s O H _ I h) λu s1=>e4 λx H1 I1 rx ⟨a,dx,fs,ex,ea,l,q⟩=>?_) ht;subst ex;obtain rfl:u=aU a:=rx;apply zR I1 ea c hm l;exact kM I1.ZE hm.kp (Gy (vs:=[.ref a]) F hr hb hd hx I1 (.cons rfl .nil) q)
structure Mk(K:aa)(C f:ag):Prop where
 makes:fO K C=true
 init:aI K (.ref C) "__init__"=Za (Za (.ref f))
 fn:gL K (.ref f)=true
 kp:bV K (.ref C)=true
def EU(M:Mk X.K C f)(F:Yt X.prog X.w X.K X.mg X.base CX k f fd ps sp)(hr:Yp (k+1) X.A)(hb:Binds X.K fd ps ds)(hd:Vals RR ds)(hx:oK CX X E)(I:Inv X Q9 O H s)(r:Vals vs us)(h:∀x dx,H x=Zb->H dx=Zb->dx≠x->sp (.ref x::(vs++RR)) (upd (upd H dx (.own x)) x (.ins C dx [])) (λv H2=>v=.Yh/\Q (.ref x) H2) E) :
  aO (model X.prog X.w) X.A (call (.ref C) us) (EP X Q9 O Q) X.xe s:=by
 have hq:=h (s.heap.objs.size+1) s.heap.objs.size (I.Ye.fresh (fb _)) (I.Ye.fresh (ak _)) (ay (ci _));have I2:=Inv.made (C:=C) I;have r2:Vals (V.ref (s.heap.objs.size+1)::(vs++RR)) (aU (s.heap.objs.size+1)::(us++ds)):=.cons rfl (r.append hd);have hl:(aU (s.heap.objs.size+1)::us++ds).length=ps.length:=by have e:=r2.length;rw[F.len _ _ _ _ hq] at e;exact e.symm
 refine iI (Kg I.ZE M.makes M.init (beq_iff_eq.mp M.fn) (fM (F.run _ X.stack _ _ ⟨aU (s.heap.objs.size+1)::us,[]⟩ (aU (s.heap.objs.size+1)::(us++ds)) _ _ E (hr.make C us [])
  (I2.Àb.make C us []) (hb _ (aU (s.heap.objs.size+1)::us) I2.ZE hl) r2 hq) λr s' R6=>?_))
 cases r with
 |error e=>exact hx Q9 O _ _ e s' I2 R6
 |ok fl =>
  cases fl with
  |ret u =>
   obtain⟨v,H',I3,rv,rfl,q3⟩:=I2.after R6;exact⟨rv,⟨V.ref (s.heap.objs.size+1),H',I3,rfl,q3⟩⟩
  |next=>exact bo R6
  |brk=>exact bo R6
  |cont=>exact bo R6
def Nc(M:Mk X.K C f)(F:Yt X.prog X.w X.K X.mg X.base CX k f fd ps sp)(hr:Yp (k+1) X.A)(hg:Gl X x)(hm:X.mg x=Za (.ref C))(hb:Binds X.K fd ps ds)(hd:Vals RR ds)(hx:oK CX X E)(ha:PA X (e::es) t)(RM:Î x:=by decide)(he:Č X e es:=by rfl)(Rq:(bM pos (ar es X.env)).any (·.1)=false:=by rfl) :
  PE X (.Call (.Name x p) (e::es) [] pos) (Jg C sp RR E t):=by
 refine λQ9 s O H Q I h=>dg (rj I hg hm ?_ RM);refine eM I.ok.mod.kin M.kp (Yq (ha pos Q9 s O H _ I h) λus s1=>e4 λvs H1 I1 r q=>⟨I1.ZE,?_⟩) he Rq;exact EU M F hr hb hd hx I1 r q
def JZ(M:Mk X.K C f)(F:Yt X.prog X.w X.K X.mg X.base CX k f fd ps sp)(hr:Yp (k+1) X.A)(hg:Gl X x)(hm:X.mg x=Za (.ref C))(hb:Binds X.K fd ps ds)(hd:Vals RR ds)(hx:oK CX X E)(RM:Î x:=by decide):PE X (.Call (.Name x p) [] [] pos) (Jg C sp RR E K9):=by
 refine λQ9 s O H Q I h=>dg (rj I hg hm ?_ RM);exact kM I.ZE M.kp (EU M F hr hb hd hx I .nil h)
end
section
variable{fd:cg}{ps ks:List Str}
structure ÂV(K:aa)(fd:cg)(ps ks:List Str)(g:List ae->List ae->List ae)(gV:List V->List V->List V):Prop where
 to:∀(s:au)(us ws:List ae),K.In s.heap->(g us ws).length=ps.length->jR s fd ⟨us,ks.zip ws⟩ (ps.zip (g us ws))
 rel:∀{vs:List V}{us:List ae}{zs:List V}{ws:List ae},Vals vs us->Vals zs ws->Vals (gV vs zs) (g us ws)
end
structure K'(N P:List Str)(sc:di):Prop where
 kind:sc.kind=.function
 co:sc.isCoroutine=false
 gen:sc.isGenerator=false
 nd:N.Nodup
 pre:N.take P.length=P
 par:∀x∈P,sc.names.lookup x=Za .local\/sc.names.lookup x=Za .cell
 Àt:∀y∈sc.names,y.2≠.free
def Y5{N P:List Str}{sc:di}(h1:sc.kind=.function:=by rfl)(h2:sc.isCoroutine=false:=by rfl)(h3:sc.isGenerator=false:=by rfl)(h4:N.Nodup:=by decide +kernel)(h5:N.take P.length=P:=by rfl)(h6:∀x∈P,sc.names.lookup x=Za .local\/sc.names.lookup x=Za .cell:=by decide +kernel)(h7:∀y∈sc.names,y.2≠.free:=by decide +kernel):K' N P sc:=⟨h1,h2,h3,h4,h5,h6,h7⟩
theorem CI{kindOf}{x}:∀{binds:List (Str×ae)}{m:Str->Option ae},(∀v,(x,v)∉binds)->lR kindOf binds m x=m x
 |[],_,_=>rfl
 |(n,v)::r,m,h=>by
  unfold lR;rw[CI λw hw=>h w (ah _ hw)];split
  .have:x≠n:=by rintro rfl;exact h v al
   simp[this]
  .rfl
theorem CK{kindOf}{x}:∀{binds:List (Str×ae)}{m:Str->Option ae},(∀v,(x,v)∉binds)->lS kindOf binds m x=m x
 |[],_,_=>rfl
 |(n,v)::r,m,h=>by
  unfold lS;rw[CK λw hw=>h w (ah _ hw)];split
  .rfl
  .have:x≠n:=by rintro rfl;exact h v al
   simp[this]
theorem CJ{kindOf}{x}{v}:∀{P:List Str}{vs:List ae}{i:Nat}{m:Str->Option ae},P.Nodup->P[i]?=Za x->vs[i]?=Za v->kindOf x=Za .local ->
  lR kindOf (P.zip vs) m x=Za v
 |[],_,_,_,_,h,_,_=>by simp at h
 |_::_,[],_,_,_,_,h,_=>by simp at h
 |p::P,w::vs,0,m,nd,h1,h2,hk=>by
  simp at h1 h2;subst h1;subst h2;show lR kindOf ((p,w)::P.zip vs) m p=_;unfold lR;rw[CI λv hv=>(aL.mp nd).1 (jD hv).1,Zc hk];simp
 |p::P,w::vs,i+1,m,nd,h1,h2,hk=>by show lR kindOf ((p,w)::P.zip vs) m x=_;unfold lR;exact CJ (i:=i) (aL.mp nd).2 (by simpa using h1) (by simpa using h2) hk
theorem CL{kindOf}{x}{v}:∀{P:List Str}{vs:List ae}{i:Nat}{m:Str->Option ae},P.Nodup->P[i]?=Za x->vs[i]?=Za v->kindOf x≠Za .local ->
  lS kindOf (P.zip vs) m x=Za v
 |[],_,_,_,_,h,_,_=>by simp at h
 |_::_,[],_,_,_,_,h,_=>by simp at h
 |p::P,w::vs,0,m,nd,h1,h2,hk=>by
  simp at h1 h2;subst h1;subst h2;show lS kindOf ((p,w)::P.zip vs) m p=_;unfold lS;rw[CK λv hv=>(aL.mp nd).1 (jD hv).1,Zd hk];simp
 |p::P,w::vs,i+1,m,nd,h1,h2,hk=>by show lS kindOf ((p,w)::P.zip vs) m x=_;unfold lS;exact CL (i:=i) (aL.mp nd).2 (by simpa using h1) (by simpa using h2) hk
noncomputable def start(N:List Str)(vs:List V):St:=vs.map Za++aQ (N.length-vs.length) Zb
noncomputable def DB(CX:Ũ)(P:aK)(w:aT)(K:aa)(mg:Str->Option ae)(base:bc)(N:List Str)(qual:Str)(scope:di)(f:ag)(cd:ae)(A:bX)(outer:List Env)(s:au)(H:Hp)(E:XK):Cx where
 prog:=P
 w:=w
 K:=K
 mg:=mg
 base:=base
 A:=A.deeper (dZ qual scope s.heap.objs.size f cd)
 N:=N
 Y0:=s
 Ha0:=H
 env:=dZ qual scope s.heap.objs.size f cd
 outer:=outer
 stack:=dZ qual scope s.heap.objs.size f cd::outer
 ex:=[]
 calm:=true
 fn:=λ_=>true
 pn:=[]
 xe:=λe s'=>aO (model P w) (A.deeper (dZ qual scope s.heap.objs.size f cd)) (leaving (dZ qual scope s.heap.objs.size f cd) e) (λ_ WL=>CX outer H s E e WL) (λe' WL=>CX outer H s E e' WL) s'
def Fg{sc:di}{n:Nat}{x:Str}(h:sc.names.lookup x=Za .cell):∃c,(cellsFrom n sc.names []).lookup x=Za c:=by have q:=kf sc.names n [] (.inl h);exact eJ.mp q
def IL{CX:Ũ}{P:aK}{w:aT}{K:aa}{mg:Str->Option ae}{base:bc}{N ps:List Str}{qual:Str}{scope:di}{f:ag}{cd:ae}{A:bX}{outer:List Env}{s s1:au}{H:Hp}{E:XK}{us:List ae}{vs:List V}(S:K' N ps scope)(hd:A.handled=Zb)(e0:ŧ P w K mg base A outer s H)(hl:vs.length=ps.length)(r:Vals vs us)(x:InCallC s s.heap.objs.size (lR (dZ qual scope s.heap.objs.size f cd).kindOf (ps.zip us) λ_=>Zb) (cellsFrom (s.heap.objs.size+1) scope.names []) (lS (dZ qual scope s.heap.objs.size f cd).kindOf (ps.zip us) λ_=>Zb) s1) :
  Inv (DB CX P w K mg base N qual scope f cd A outer s H E) [] (start N vs) H s1:=by
 have Rq:ps.length<=N.length:=by have:=congrArg cE S.pre;rw[eC] at this;lia
 obtain⟨h1,tk,rfl,hk⟩:=x.done;have Va:∀b:ag,b∉(DB CX P w K mg base N qual scope f cd A outer s H E).ex:=λb z=>absurd (show b∈([]:List ag) from z) (by simp);refine⟨⟨e0.mod,S.kind,rfl,rfl,ak _,λy z c h1 h2=>?_,λy hy=>?_,λy c _ h=>?_,λ_=>hd,Around.frames_deeper e0.frames,.inr ⟨rfl,rfl⟩,λb z=>absurd z (Va b),e0.bs,e0.bsz,λb _ _=>Va b,λb z=>absurd z (Va b),e0.ë,e0.frf⟩,
  rfl,e0.bare,Un.kept hk,⟨_,x.toInCall.ns,λi y v h1 h2 h3=>?_⟩,λy c h=>⟨_,x.cell y c h⟩,e0.Ye.fresh (ak _),λy c h=>?_,λp hp=>absurd (show p∈([]:List (ag×Obj)) from hp) (by simp),e0.Ye.kept hk,?_⟩
 .exact name_of_addr x.apart (dA h1) (dA h2)
 .have hy:=hy;obtain hy|hy:=hy
  .exact Fg hy
  .exact absurd rfl (S.Àt _ (dA hy))
 .exact fC (x.above y c (dA h))
 .have hi:i<vs.length:=by
   unfold start at h2;by_cases hi:i<vs.length
   .exact hi
   .rw[cY (by simpa using hi)] at h2;rw[gO] at h2;split at h2<;>cases h2
  have ha:vs[i]?=Za v:=by
   unfold start at h2;rw[de (by simpa using hi),aF] at h2;cases e:vs[i]? with
   |none=>rw[e] at h2;cases h2
   |some a=>rw[e] at h2;cases h2;rfl
  obtain⟨u,hu,rv⟩:=r.get ha;have hp:ps[i]?=Za y:=by rw[<-S.pre,List.getElem?_take_of_lt (by lia)];exact h1
  have ndP:ps.Nodup:=by rw[<-S.pre];exact S.nd.sublist (List.take_sublist _ _)
  refine⟨u,rv,?_⟩;obtain k|k:=S.par y (dq hp)
  .exact .inl ⟨k,CJ ndP hp hu k⟩
  .obtain⟨c,e⟩:=Fg k;refine .inr ⟨.inl k,c,e,?_⟩;have q:=x.cell y c e;rw[CL ndP hp hu (by show scope.names.lookup y≠_;rw[k];decide)] at q;exact q
 .exact e0.Ye.fresh (fC (x.above y c (dA h)))
 .unfold start;show _=N.length;rw[aZ,ac,dU];lia
def OX{CX:Ũ}{P}{w}{K}{mg}{base}{k}{f}{name qual}{params:kl}{body}{scope}{dV kV Si pm Rk ct oc}{an od}{Tt:Array (Option ae)}{N ps}{sp:Sp}(lk:K.lookup f=Za ⟨oc,od,.func (bY name qual params body scope dV kV Si pm an Rk ct),Tt⟩)(R5:f6 K Rk qual=true)(S:K' N ps scope)(len:∀vs H Q E,sp vs H Q E->vs.length=ps.length)(Sn:∀(A:bX)(outer:List Env)(s:au)(H:Hp)(vs:List V)(Q:VK)(E:XK),Yp k (A.deeper (dZ qual scope s.heap.objs.size f Rk))->sp vs H Q E ->
   ∃t,Ļ (DB CX P w K mg base N qual scope f Rk A outer s H E) body t/\t { nx:=λ_ H'=>Q .Yh H',rt:=Q } (start N vs) H) :
  Yt P w K mg base CX (k+1) f (bY name qual params body scope dV kV Si pm an Rk ct) ps sp:=by
 refine⟨len,λA outer s H args us vs Q E hr e0 hb r Tp=>?_⟩;have hl:=len _ _ _ _ Tp;have KX:=e0.mod.kin.keeps λb o e=>(e0.bs b o e).1;have lim:=e0.mod.nolimit.keeps λb o e=>(e0.bs b o e).1;have Vr:∀y∈ps.zip us,scope.names.lookup y.1=Za .local\/(scope.names.lookup y.1=Za .cell/\((cellsFrom (s.heap.objs.size+1) scope.names []).lookup y.1).isSome=true):=λ⟨n,v⟩ hy=>by
  obtain q|q:=S.par n (jD hy).1
  .exact .inl q
  .exact .inr ⟨q,kf _ _ _ (.inl q)⟩
 refine codeAny_call_function hr.depth (KX _ _ lk) rfl S.co S.gen rfl (PySem.W.codeRec_of KX R5) (hb _ _ _ _ ?_);refine wpAny_newFunctionEnv_cells S.kind Vr λenv he s1 x=>?_;subst he;refine⟨lim.keeps x.toInCall.keep,codeAny_func ?_⟩;obtain⟨t,ht,hq⟩:=Sn A outer s H vs Q E (hr.deeper _) Tp;have I:Inv (DB CX P w K mg base N qual scope f Rk A outer s H E) [] (start N vs) H s1:=IL S hr.hd e0 hl r x;refine a6 (ht [] s1 (start N vs) H _ I hq) (λfl s' hs=>?_) λe s' hs=>hs;have Ry:∀{Yy:St}{H':Hp}{v:V}{u:ae},Inv (DB CX P w K mg base N qual scope f Rk A outer s H E) [] Yy H' s'->RelV v u->Q v H'->CE outer P w H s Q u s' :=
  λ{Yy H' v u} J rv q=>⟨v,H',J.os,J.bare,J.base,J.Ye,rv,q⟩
 cases fl with
 |ret u =>
  obtain⟨v,Yy,H',J,rv,q⟩:=hs;exact Ry J rv q
 |next =>
  obtain⟨Yy,H',J,q⟩:=hs;exact Ry (v:=V.Yh) J rfl q
 |brk =>
  obtain⟨_,_,_,q⟩:=hs
  simp_all
 |cont =>
  obtain⟨_,_,_,q⟩:=hs
  simp_all
section
variable{X:Cx}{x:Str}{p pos:Pos}{e:a7}{es:List a7}{t:TA}{id T:String}{r:List V->Hp->VK->Prop}
def tCB(r:List V->Hp->VK->Prop)(t:TA):TE:=λO H Q=>t O H λvs H1=>r vs H1 Q
def pF(hc:YM X (.builtin id) r)(hg:Gl X x)(hm:X.mg x=Zb)(hv:bu x=Za (.builtin id))(ha:PA X (e::es) t)(hn:x≠"__name__":=by decide)(RM:Î x:=by decide)(he:Č X e es:=by rfl)(Rq:(bM pos (ar es X.env)).any (·.1)=false:=by rfl):PE X (.Call (.Name x p) (e::es) [] pos) (tCB r t):=by
 refine λQ9 s O H Q I h=>dg (yM I hg hm hv ?_ hn RM);exact iD (Yq (ha pos Q9 s O H _ I h) λus s1=>e4 λvs H1 I1 r1 q1=>hc Q9 s1 O H1 vs us Q I1 r1 q1) he Rq
def xO(hc:YM X (.type T) r)(hg:Gl X x)(hm:X.mg x=Zb)(hv:bu x=Za (.type T))(ha:PA X (e::es) t)(hn:x≠"__name__":=by decide)(RM:Î x:=by decide)(he:Č X e es:=by rfl)(Rq:(bM pos (ar es X.env)).any (·.1)=false:=by rfl):PE X (.Call (.Name x p) (e::es) [] pos) (tCB r t):=by
 refine λQ9 s O H Q I h=>dg (yM I hg hm hv ?_ hn RM);exact dH (Yq (ha pos Q9 s O H _ I h) λus s1=>e4 λvs H1 I1 r1 q1=>hc Q9 s1 O H1 vs us Q I1 r1 q1) he Rq
end
end L2
namespace HT
open PySem PyProof.Rows
section
variable{prog:aK}{w:aT}{A:bX}{E:ae->au->Prop}{s:au}
noncomputable def YY(n d:Nat):Option Int->Nat
 |none=>d
 |some v=>if v<0 then(v+(n:Int)).toNat else min v.toNat n
def HE(v:Int)(n d:Nat):(if v<0 then max (v+(n:Int)) 0 else min v (n:Int))=((YY n d (Za v):Nat):Int):=by
 show(if v<0 then max (v+n) 0 else min v n)=(((if v<0 then(v+n).toNat else min v.toNat n):Nat):Int)
 grind
def Gh(lo hi:Option Int)(n:Nat):fR lo hi 1 (n:Int)=(((YY n 0 lo:Nat):Int),((YY n n hi:Nat):Int)):=by
 have h1:¬((1:Int)<0):=by lia
 unfold fR;refine Prod.ext ?_ ?_
 .cases lo with
  |none=>rfl
  |some v=>exact HE v n 0
 .cases hi with
  |none=>rfl
  |some v=>exact HE v n n
def FK(i j:Nat):dO (i:Int) (j:Int) 1=j-i:=by
 unfold dO;have h1:(1:Int)>0:=by lia
 simp[h1,if_true,Int.ediv_one];split<;>lia
def zo(p:kh v o)(h:Q o s):aO (model prog w) A (Builtin.Slice.slicePartIndex v) Q E s:=by
 cases p with
 |none=>exact slicePart_none h
 |int i t=>exact slicePart_int h
def xg{sl:ag}{vl vu:ae}{lo hi:Option Int}{n:Nat}{Q:Int×Int×Nat->au->Prop}(hs:s.heap.IsSliceOf sl vl vu .none)(pl:kh vl lo)(pu:kh vu hi)(h:Q (((YY n 0 lo:Nat):Int),1,YY n n hi-YY n 0 lo) s):aO (model prog w) A (Builtin.Slice.sliceApplied (.ref sl) (pure (n:Int))) Q E s:=by
 obtain⟨os,Tz,VG,Wj⟩:=id hs;refine af (af (kn Tz Wj rfl (af (kn Tz Wj rfl (af (kn Tz Wj rfl (aE ?_)))))));refine af (slicePart_none ?_);refine af (zo pl (af (zo pu (af (aE ?_)))));show aO _ _ (match fR lo hi 1 n with|(lo,hi)=>pure (lo,(1:Int),dO lo hi 1)) _ _ s;rw[Gh lo hi n];show aO _ _ (pure (((YY n 0 lo:Nat):Int),(1:Int),dO ((YY n 0 lo:Nat):Int) ((YY n n hi:Nat):Int) 1)) _ _ s;rw[FK];exact aE h
def JU(xs:Array ae)(i k:Nat):((br k).filterMap λ(m:Nat)=>xs[((i:Int)+(m:Int)*1).toNat]?).toArray=((xs.toList.drop i).take k).toArray:=by
 have e:(λ(m:Nat)=>xs[(i+(m:Int)*1).toNat]?)=λm=>xs[i+m]?:=by
  funext m
  have:(i+(m:Int)*1).toNat=i+m:=by lia
  rw[this]
 have:=pick_run xs i k;have e2:((λx=>xs[x]?)∘λx=>i+x)=λm=>xs[i+m]?:=rfl
 simp_all
def ß{t sl}{items:Array ae}{vl vu}{lo hi}{Q}(ht:IsTup s.heap t items)(hs:s.heap.IsSliceOf sl vl vu .none)(pl:kh vl lo)(pu:kh vu hi)(hw:¬(YY items.size 0 lo=0/\YY items.size items.size hi=items.size))(h:Q (.ref s.heap.objs.size) { s with heap:=s.heap.push { cls:=.type "tuple",data:=.seq ((items.toList.drop (YY items.size 0 lo)).take (YY items.size items.size hi-YY items.size 0 lo)).toArray } })(hsz:items.size<=aG):aO (model prog w) A (iJ (.ref t) (.ref sl)) Q E s:=by
 have SJ:sizeOk (.seq ((items.toList.drop (YY items.size 0 lo)).take (YY items.size items.size hi-YY items.size 0 lo)).toArray):=by show((items.toList.drop (YY items.size 0 lo)).take (YY items.size items.size hi-YY items.size 0 lo)).toArray.size<=aG;rw[bj,eC,gN,lA];lia
 obtain⟨os,Tz,VG,Wj⟩:=id hs;have hTs:s.TypeIs (.ref sl) "slice":=⟨os,Tz,VG⟩;unfold iJ
 try with_reducible apply cF
 refine af (wpAny_sequenceKey ht.typeIs (Zf rfl) ?_);refine af (wpAny_callSpecial?_slot ht.typeIs dI
  (wpAny_call_entry dI ht.typeIs entry_tuple_getitem ?_ (args_tuple_getitem _ _)))
 show aO _ _ (Builtin.Tuple.tupleItemsOf (.ref t) >>= _) _ _ s;refine af (tupleItemsOf_ ht ?_);refine af (wpAny_typeOf hTs ?_);rw[Zc (Zf rfl)];refine af (xg hs pl pu ?_);have SW:¬((((YY items.size 0 lo:Nat):Int)==0&&(1:Int)==1&&(YY items.size items.size hi-YY items.size 0 lo)==items.size)=true):=by
  grind
 show aO _ _ (if(((YY items.size 0 lo:Nat):Int)==0&&(1:Int)==1&&(YY items.size items.size hi-YY items.size 0 lo)==items.size)=true then _ else _) _ _ s;rw[Zd SW,JU]
 first
  |exact af (dC (aE ⟨_,rfl,aE h⟩) SJ)
  |exact af (dC (af (aE (aE ⟨_,rfl,aE h⟩))) SJ)
  |exact af (af (dC (aE (aE ⟨_,rfl,aE h⟩)) SJ))
  |exact af (af (dC (aE ⟨_,rfl,aE h⟩) SJ))
end
end HT
namespace L2
open PySem PySem.Spec PyProof.Rows
abbrev TO:=St->Hp->(Option Int->Hp->Prop)->Prop
def PO(X:Cx)(e:Option a7)(t:TO):Prop :=
 ∀(Q9:List (ag×Obj))(s:au)(O:St)(H:Hp)(Q:Option Int->Hp->Prop),Inv X Q9 O H s->t O H Q ->
  aO (model X.prog X.w) X.A (evalPart e X.env) (λu s'=>∃o H',Inv X Q9 O H' s'/\kh u o/\Q o H') X.xe s
def MG:TO:=λ_ H Q=>Q Zb H
def ÀO(t:TE):TO:=λO H Q=>t O H λx H1=>∃i,x=.int i/\Q (Za i) H1
section
variable{X:Cx}{e:a7}{te:TE}{lo hi:Option a7}{tl th:TO}{pos p2:Pos}
def Ϸ:PO X Zb MG:=by exact λQ9 s O H Q I h=>aE ⟨Zb,H,I,.none,h⟩
def M5(h:PE X e te):PO X (Za e) (ÀO te):=by refine λQ9 s O H Q I hw=>Yq (h Q9 s O H _ I hw) λu s1=>e4 λx H1 I1 r1 q1=>?_;obtain⟨i,rfl,q⟩:=q1;obtain⟨t,rfl⟩:=r1;exact⟨Za i,H1,I1,.int i t,q⟩
def SlR(X:Cx)(r:V->Option Int->Option Int->Hp->VK->Prop):Prop :=
 ∀(Q9:List (ag×Obj))(s:au)(O:St)(H:Hp)(x:V)(v vl vu:ae)(lo hi:Option Int)(sl:ag)(Q:VK),Inv X Q9 O H s->RelV x v->s.heap.IsSliceOf sl vl vu .none->kh vl lo->kh vu hi->r x lo hi H Q ->
  ∃T id,jm (.type T) "__getitem__"=pure (Za (.builtin id))/\s.TypeIs v T/\aO (model X.prog X.w) X.A (iJ v (.ref sl)) (EP X Q9 O Q) X.xe s
def SlR.or(h:SlR X r)(h':SlR X r'):SlR X (λx lo hi H Q=>r x lo hi H Q\/r' x lo hi H Q):=by
 intro Q9 s O H x v vl vu lo hi sl Q I rx hs pl pu q;obtain q|q:=q
 .exact h Q9 s O H x v vl vu lo hi sl Q I rx hs pl pu q
 .exact h' Q9 s O H x v vl vu lo hi sl Q I rx hs pl pu q
def tSl(r:V->Option Int->Option Int->Hp->VK->Prop)(te:TE)(tl th:TO):TE:=λO H Q=>te O H λx H1=>tl O H1 λl H2=>th O H2 λu H3=>r x l u H3 Q
def JX(hr:SlR X r)(he:PE X e te)(hl:PO X lo tl)(hu:PO X hi th):PE X (.Subscript e (.Slice lo hi Zb p2) pos) (tSl r te tl th):=by refine λQ9 s O H Q I h=>Subscript_ (Yq (he Q9 s O H _ I h) λv s1=>e4 λx H1 I1 r1 q1=>?_);refine wpAny_Slice (Yq (hl Q9 s1 O H1 _ I1 q1) λvl s2=>e4 λl H2 I2 pl q2=>Yq (hu Q9 s2 O H2 _ I2 q2) λvu s3=>e4 λu H3 I3 pu q3=>?_);apply aE;have I4:Inv X Q9 O H3 { s3 with heap:=s3.heap.push { cls:=.type "slice",data:=.fields #[vl,vu,.none] } }:=I3.kept λb ob q=>aj _ q;obtain⟨T,id,hT,ht,hg⟩:=hr Q9 { s3 with heap:=s3.heap.push { cls:=.type "slice",data:=.fields #[vl,vu,.none] } } O H3 x v vl vu l u s3.heap.objs.size Q I4 r1 (Heap.IsSliceOf.new ..) pl pu q3;exact tail_any ht hT hg (by with_unfolding_all rfl)
def LR(xs:List V)(lo hi:Option Int):List V:=(xs.drop (HT.YY xs.length 0 lo)).take (HT.YY xs.length xs.length hi-HT.YY xs.length 0 lo)
def yp(xs)(lo hi):(LR xs lo hi).length<=xs.length:=by unfold LR;rw[eC,gN];lia
def Ân(K:aa):V->Option Int->Option Int->Hp->VK->Prop:=λx lo hi H Q=>∃a xs,x=.ref a/\Zz K H a xs /\
 ¬(HT.YY xs.length 0 lo=0/\HT.YY xs.length xs.length hi=xs.length)/\∀p,H p=Zb->Q (.ref p) (upd H p (.tup (LR xs lo hi)))
def Pk:SlR X (Ân X.K):=by
 rintro Q9 s O H x v vl vu lo hi sl Q I rx hs pl pu ⟨a,xs,rfl,hx,hw,q⟩
 cases rx;obtain⟨its,r,ht,hz⟩:=I.tuple hx;have Re:its.toArray.size=xs.length:=r.length.symm;refine⟨"tuple",_,dI.lookup,ht.typeIs,?_⟩;refine HT.ß ht hs pl pu (by rw[Re];exact hw) ?_ (by rw[Re];exact hz);rw[Re];refine⟨.ref s.heap.objs.size,_,I.laid (λb ob q=>aj _ q) (ak _) ?_,rfl,q _ (I.Ye.fresh (ak _))⟩;exact⟨aJ (yp xs lo hi) hz,_,(r.drop (HT.YY xs.length 0 lo)).take (HT.YY xs.length xs.length hi-HT.YY xs.length 0 lo),IsTup.new _ _⟩
end
noncomputable def Œ(n:Nat)(i:Int):Option Nat:=if 0<=i then(if i<n then Za i.toNat else Zb) else if -(n:Int)<=i then Za (i+n).toNat else Zb
def Z9{α:Type}(xs:List α)(i:Int):Option α:=(Œ xs.length i).bind λj=>xs[j]?
def Hn(h:Œ n i=Za j):seqIndex? i n=Za j/\j<n/\-(n:Int)<=i/\i<n:=by
 unfold Œ at h;by_cases h0:0<=i
 .rw[Zc h0] at h;by_cases h1:i<n
  .rw[Zc h1] at h;have e:=bL h;exact⟨by rw[seqIndex_of h0 h1,e],by lia,by lia,h1⟩
  .simp_all
 .rw[Zd h0] at h;by_cases h1:-n<=i
  .rw[Zc h1] at h;have e:=bL h;exact⟨by rw[seqIndex_neg (by lia) h1,e],by lia,h1,by lia⟩
  .simp_all
def DH(h:Z9 xs i=Za v):∃j,seqIndex? i xs.length=Za j/\xs[j]?=Za v/\j<xs.length/\-(xs.length:Int)<=i/\i<xs.length:=by
 unfold Z9 at h;cases e:Œ xs.length i with
 |none=>rw[e] at h;cases h
 |some j =>
  rw[e] at h;obtain⟨h1,h2,h3,h4⟩:=Hn e;exact⟨j,h1,h,h2,h3,h4⟩
def nJ{α:Type}{xs:List α}{j:Nat}{v:α}(h:xs[j]?=Za v):Z9 xs (j:Int)=Za v:=by
 have hj:=(aR.mp h).1;have e:Œ xs.length j=Za j:=by unfold Œ;rw[Zc (by lia),Zc (by lia)];simp
 unfold Z9;rw[e];exact h
def HN(b:a7):Prop:=∀o i,subscripted b false o i=operate [o,i] (iJ o i)
def Ϯ(X:Cx)(r:R2):Prop :=
 ∀(Ri Rv:a7)(Q9:List (ag×Obj))(s:au)(O:St)(H:Hp)(x y:V)(v u:ae)(Q:VK),Inv X Q9 O H s->RelV x v->RelV y u->r x y H Q ->
  subscripted Rv false v u=operate [v,u] (iJ v u)->aO (model X.prog X.w) X.A (subscriptTail Ri Rv v u) (EP X Q9 O Q) X.xe s
def MtR(X:Cx)(id:String)(r:V->List V->Hp->VK->Prop):Prop :=
 ∀(Q9:List (ag×Obj))(s:au)(O:St)(H:Hp)(x:V)(xs:List V)(v:ae)(us:List ae)(Q:VK),Inv X Q9 O H s->RelV x v->Vals xs us->r x xs H Q ->
  aO (model X.prog X.w) X.A (call (.builtin id) (v::us)) (EP X Q9 O Q) X.xe s
section
variable{X:Cx}{a b:a7}{ta tb:TE}{pos:Pos}
def Ϯ.or(h:Ϯ X r)(h':Ϯ X r'):Ϯ X (λx y H Q=>r x y H Q\/r' x y H Q):=by
 intro Ri Rv Q9 s O H x y v u Q I rx ry q hs;obtain q|q:=q
 .exact h Ri Rv Q9 s O H x y v u Q I rx ry q hs
 .exact h' Ri Rv Q9 s O H x y v u Q I rx ry q hs
def sI{r}(hr:Ϯ X r)(ha:PE X a ta)(hb:PE X b tb)(hs:HN b):PE X (.Subscript a b pos) (tOp r ta tb):=by exact λQ9 s O H Q I h=>Subscript_ (Q7 ha hb I h λv u s2 x y H2 I2 rx ry q=>hr a b Q9 s2 O H2 x y v u Q I2 rx ry q (hs _ _))
def QV(K:aa):R2:=λx y H Q=>∃p xs i v,x=.ref p/\y=.int i/\YO K H p xs/\Z9 xs i=Za v/\Q v H
def QT(K:aa):R2:=λx y H Q=>∃p xs i v,x=.ref p/\y=.int i/\Zz K H p xs/\Z9 xs i=Za v/\Q v H
def QU:R2:=λx y H Q=>∃z i c,x=.str z/\y=.int i/\z.length<=aG/\Z9 z.cps.toList i=Za c/\Q (.str ⟨#[c]⟩) H
def ϻ:Ϯ X (QV X.K):=by
 intro Ri Rv Q9 s O H x y v u Q I rx ry h hs;obtain⟨p,xs,i,z,rfl,rfl,hq,he,q⟩:=h;cases rx;obtain⟨t,rfl⟩:=ry;obtain⟨its,r,pl,hz⟩:=I.list hq;obtain⟨j,h1,h2,h3,h4,h5⟩:=DH he;obtain⟨w,ew,RP⟩:=r.get h2;have hl:=r.length;have hn:=wA;have Ry:EP X Q9 O Q w s:=⟨z,H,I,RP,q⟩;by_cases h0:0<=i
 .have hj:i.toNat=j:=by
   rw[seqIndex_of h0 h5] at h1
   grind
  exact item_listR pl.isList h0 (by lia) (by rw[hj];simpa using ew) Ry hs
 .have hj:(i+its.toArray.size).toNat=j:=by rw[seqIndex_neg (by lia) h4] at h1;rw[bj,<-hl];exact bL h1
  exact subscriptTail_builtinR pl.isList.typeIs slot_list_getitem.lookup
   (wpAny_getItem_list_neg pl.isList (by lia) (by rw[bj]<;>lia) (by lia) (by rw[hj];simpa using ew) ⟨rfl,Ry⟩) hs
def YU:Ϯ X (QT X.K):=by
 intro Ri Rv Q9 s O H x y v u Q I rx ry h hs;obtain⟨p,xs,i,z,rfl,rfl,hq,he,q⟩:=h;cases rx;obtain⟨t,rfl⟩:=ry;obtain⟨its,r,pl,hz⟩:=I.tuple hq;obtain⟨j,h1,h2,h3,h4,h5⟩:=DH he;obtain⟨w,ew,RP⟩:=r.get h2;have hl:=r.length;have hn:=wA;have Ry:EP X Q9 O Q w s:=⟨z,H,I,RP,q⟩;exact subscriptTail_builtinR pl.typeIs dI.lookup
  (getItem_tuple pl (by lia) (by lia) (by rw[bj,<-hl];exact h1) (by simpa using ew) ⟨rfl,Ry⟩) hs
def Bs:Ϯ X QU:=by
 intro Ri Rv Q9 s O H x y v u Q I rx ry h hs;obtain⟨z,i,c,rfl,rfl,hz,he,q⟩:=h;obtain⟨t,rfl⟩:=rx;obtain⟨t',rfl⟩:=ry;obtain⟨j,h1,h2,h3,h4,h5⟩:=DH he;have hl:z.cps.toList.length=z.length:=by simp[Str.length]
 rw[hl] at h1 h4 h5;have hn:=wA;exact tail_any (typeIs_str s z t) slot_str_getitem.lookup (getItem_str (by have e1:decide (i < -(2^63:Int))=false:=Zh (by lia);have e2:decide (i>=2^63)=false:=Zh (by lia);rw[e1,e2,Bool.or_false]) (by rw[h1];simpa using h2) ⟨.str ⟨#[c]⟩,H,I.tok _,⟨_,rfl⟩,q⟩) hs
def FS(its:List ae)(n j:Nat)(u:ae):kg (·.setIfInBounds j u) { cls:=.type "list",data:=.seq its.toArray n }={ cls:=.type "list",data:=.seq (its.set j u).toArray n }:=by simp[kg]
theorem Inv.lst{Q9}{O}{H}{s}{p}{xs}(I:Inv X Q9 O H s)(h:H p=Za (.lst xs)) :
  ∃(its:List ae)(n:Nat),Vals xs its/\s.heap.get? p=Za { cls:=.type "list",data:=.seq its.toArray n }/\xs.length<=aG:=by
 obtain⟨z,its,n,r,e⟩:=I.Ye p _ h;exact⟨its,n,r,e,z⟩
def Inv.Àu{Q9:List (ag×Obj)}{O:St}{H:Hp}{s:au}{p:ag}{xs ys:List V}{its RV:List ae}{n n':Nat}{f:Obj->Obj}(I:Inv X Q9 O H s)(h:H p=Za (.lst xs))(ho:s.heap.get? p=Za { cls:=.type "list",data:=.seq its.toArray n })(hf:f { cls:=.type "list",data:=.seq its.toArray n }={ cls:=.type "list",data:=.seq RV.toArray n' })(r:Vals ys RV)(hz:ys.length<=aG)(t:Nat) :
  Inv X Q9 O (upd H p (.lst ys)) { s with heap:=s.heap.update p f,toks:=t }:=by
 have e:(s.heap.update p f).get? p=Za { cls:=.type "list",data:=.seq RV.toArray n' }:=by rw[dS f ho (by rw[hf]<;>rfl),hf]
 refine I.write (by rw[h];trivial) (.inl rfl) (λb u hb q=>(kO _ _ (bU hb)).trans q) ⟨_,e⟩ ?_;exact⟨hz,RV,n',r,e⟩
def OJ:V->V->V->Hp->(Hp->Prop)->Prop:=λo i v H Q=>∃p xs k j,o=.ref p/\i=.int k/\H p=Za (.lst xs)/\Œ xs.length k=Za j/\Q (upd H p (.lst (xs.set j v)))
def set_list:Ő X OJ:=by
 rintro Q9 s O H o i v ov iv u Q I ro ri rv ⟨p,xs,k,j,rfl,rfl,hp,hj,q⟩
 cases ro;obtain⟨t,rfl⟩:=ri;obtain⟨its,n,r,ho,hz⟩:=I.lst hp;obtain⟨h1,h2,h3,h4⟩:=Hn hj;have hl:=r.length;have hn:=wA;have I' :=
  I.Àu hp ho (FS its n j u) (r.set rv j) (by rw[jE];exact hz) s.toks
 by_cases h0:0<=k
 .have hk:k.toNat=j:=by
   rw[seqIndex_of h0 h4] at h1
   grind
  exact PySem.W.ki_setAt ho h0 (by lia) (by rw[bj,<-hl];exact h4) (by rw[hk];exact⟨_,I',q⟩)
 .have hk:(k+its.toArray.size).toNat=j:=by
   rw[seqIndex_neg (by lia) h3] at h1
   grind
  exact PySem.W.ki_setBack ho (by lia) (by rw[bj,<-hl];exact h3) (by lia) (by rw[hk];exact⟨_,I',q⟩)
def CO(lo hi)(n):(f9 lo hi Zb n).1=((HT.YY n 0 lo:Nat):Int)/\(f9 lo hi Zb n).2.1=((HT.YY n n hi:Nat):Int)/\(f9 lo hi Zb n).2.2=1:=by
 refine⟨?_,?_,rfl⟩
 .cases lo with
  |none=>simp[f9,HT.YY]
  |some i =>
   simp[f9,HT.YY,lY,show(1:Int)>0 by decide,if_true];by_cases h:i<0
   .simp only[h,if_true]<;>lia
   .simp[h,if_false]<;>lia
 .cases hi with
  |none=>simp[f9,HT.YY]
  |some i =>
   simp[f9,HT.YY,lY,show(1:Int)>0 by decide,if_true];by_cases h:i<0
   .simp only[h,if_true]<;>lia
   .simp[h,if_false]<;>lia
def AO(its:List ae)(lo hi:Option Int):slicePick its.toArray lo hi Zb=((its.drop (HT.YY its.length 0 lo)).take (HT.YY its.length its.length hi-HT.YY its.length 0 lo)).toArray:=by obtain⟨h1,h2,h3⟩:=CO lo hi its.toArray.size;unfold slicePick;rw[h1,h2,h3];simp only[sliceRange_one,pick_run,bj]<;>rfl
def Âo(K:aa):V->Option Int->Option Int->Hp->VK->Prop:=λx lo hi H Q=>∃a xs,x=.ref a/\YO K H a xs/\∀p,H p=Zb->Q (.ref p) (upd H p (.lst (LR xs lo hi)))
def ϴ:SlR X (Âo X.K):=by
 rintro Q9 s O H x v vl vu lo hi sl Q I rx hs pl pu ⟨a,xs,rfl,hx,q⟩
 cases rx;obtain⟨its,r,ht,hz⟩:=I.list hx;have Re:=r.length;refine⟨"list",_,slot_list_getitem.lookup,ht.isList.typeIs,?_⟩;refine wpAny_getItem_list_slice ht.isList hs pl pu .none (by simp) ?_ (by grind);rw[AO,<-Re];refine⟨.ref s.heap.objs.size,_,I.laid (λb ob q=>aj _ q) (ak _) ?_,rfl,q _ (I.Ye.fresh (ak _))⟩;exact⟨aJ (yp xs lo hi) hz,_,0,(r.drop (HT.YY xs.length 0 lo)).take (HT.YY xs.length xs.length hi-HT.YY xs.length 0 lo),aP _ rfl⟩
def tX:V->Bool
 |.Yh=>true
 |.bl _=>true
 |.int _=>true
 |.str _=>true
 |_=>false
noncomputable def ŝ:V->V->Bool
 |.Yh,.Yh=>true
 |.bl a,.bl b=>a==b
 |.bl a,.int b=>(if a then 1 else 0)==b
 |.int a,.bl b=>a==(if b then 1 else 0)
 |.int a,.int b=>a==b
 |.str a,.str b=>a==b
 |_,_=>false
def GH(ry:RelV y u)(rx:RelV x v)(fy:tX y=true)(fx:tX x=true):lI A s u v (ŝ y x):=by
 cases y with
 |Yh =>
  cases ry;cases x with
  |Yh=>cases rx;exact SeqAt.EqAt.same _
  |bl b=>cases rx;exact SeqAt.EqAt.none_bool b
  |int b=>obtain⟨t,rfl⟩:=rx;exact SeqAt.EqAt.none_int b t
  |str b=>obtain⟨t,rfl⟩:=rx;exact SeqAt.EqAt.none_str b t
  |_=>exact absurd (fx) bG
 |bl a =>
  cases ry;cases x with
  |Yh=>cases rx;exact SeqAt.EqAt.bool_none a
  |bl b=>cases rx;exact SeqAt.EqAt.bool_bool a b
  |int b=>obtain⟨t,rfl⟩:=rx;exact SeqAt.EqAt.bool_int a b t
  |str b=>obtain⟨t,rfl⟩:=rx;exact SeqAt.EqAt.bool_str a b t
  |_=>exact absurd (fx) bG
 |int a =>
  obtain⟨t',rfl⟩:=ry;cases x with
  |Yh=>cases rx;exact SeqAt.EqAt.int_none a t'
  |bl b=>cases rx;exact SeqAt.EqAt.int_bool a t' b
  |int b=>obtain⟨t,rfl⟩:=rx;exact SeqAt.EqAt.int_int a t' b t
  |str b=>obtain⟨t,rfl⟩:=rx;exact ku a t' b t
  |_=>exact absurd (fx) bG
 |str a =>
  obtain⟨t',rfl⟩:=ry;cases x with
  |Yh=>cases rx;exact SeqAt.EqAt.str_none a t'
  |bl b=>cases rx;exact SeqAt.EqAt.str_bool a t' b
  |int b=>obtain⟨t,rfl⟩:=rx;exact kr a t' b t
  |str b=>obtain⟨t,rfl⟩:=rx;exact SeqAt.EqAt.str_str a t' b t
  |_=>exact absurd (fx) bG
 |_=>exact absurd (fy) bG
def Ş(x:V)(u:ae):Bool:=match u with
 |.none=>ŝ .Yh x
 |.bool b=>ŝ (.bl b) x
 |.int i _=>ŝ (.int i) x
 |.str z _=>ŝ (.str z) x
 |_=>false
def LH(r:RelV y u)(f:tX y=true):Ş x u=ŝ y x:=by
 cases y with
 |Yh=>cases r;rfl
 |bl b=>cases r;rfl
 |int i=>obtain⟨t,rfl⟩:=r;rfl
 |str z=>obtain⟨t,rfl⟩:=r;rfl
 |_=>exact absurd (f) bG
theorem xw:∀{xs:List V}{us:List ae},Vals xs us->xs.all tX=true->us.any (Ş x)=xs.any λy=>ŝ y x
 |_,_,.nil,_=>rfl
 |y::xs,u::us,.cons r t,f=>by rw[iV,cJ] at f;rw[dR,dR,LH r f.1,xw t f.2]
theorem ve(rx:RelV x v)(fx:tX x=true):∀{xs:List V}{us:List ae},Vals xs us->xs.all tX=true->∀u∈us,lI A s u v (Ş x u)
 |_,_,.nil,_=>λu hu=>by cases hu
 |y::xs,u::us,.cons r t,f=>λu' hu=>by
  rw[iV,cJ] at f;obtain rfl|hu:=ao.mp hu
  .rw[LH r f.1];exact GH r rx f.1 fx
  .exact ve rx fx t f.2 u' hu
def inV(x:V)(xs:List V):Bool:=xs.any λy=>ŝ y x
def rIn(K:aa)(neg:Bool):R2:=λx y H Q=>∃p xs,y=.ref p/\(YO K H p xs\/Zz K H p xs)/\tX x=true/\xs.all tX=true/\Q (.bl (if neg then !inV x xs else inV x xs)) H
def Iq:Zq X (bO .In) (rIn X.K false):=by
 rintro Q9 s O H x y v u Q I rx ry ⟨p,xs,rfl,hq,fx,fs,q⟩
 cases ry;obtain hq|hq:=hq
 .obtain⟨its,r,pl,hz⟩:=I.list hq;refine SeqAt.in_listAt (Ş x) pl.isList (λw hw=>ve rx fx r fs w (by simpa using hw)) ⟨.bl _,H,I,rfl,?_⟩;rw[show its.toArray.any (Ş x)=its.any (Ş x) by simp,xw r fs];exact q
 .obtain⟨its,r,pl,hz⟩:=I.tuple hq;refine SeqAt.in_tupleAt (Ş x) pl (λw hw=>ve rx fx r fs w (by simpa using hw)) ⟨.bl _,H,I,rfl,?_⟩;rw[show its.toArray.any (Ş x)=its.any (Ş x) by simp,xw r fs];exact q
def C0:Zq X (bO .NotIn) (rIn X.K true):=by
 rintro Q9 s O H x y v u Q I rx ry ⟨p,xs,rfl,hq,fx,fs,q⟩
 cases ry;obtain hq|hq:=hq
 .obtain⟨its,r,pl,hz⟩:=I.list hq;refine SeqAt.notIn_listAt (Ş x) pl.isList (λw hw=>ve rx fx r fs w (by simpa using hw)) ⟨.bl _,H,I,rfl,?_⟩;rw[show its.toArray.any (Ş x)=its.any (Ş x) by simp,xw r fs];exact q
 .obtain⟨its,r,pl,hz⟩:=I.tuple hq;refine SeqAt.notIn_tupleAt (Ş x) pl (λw hw=>ve rx fx r fs w (by simpa using hw)) ⟨.bl _,H,I,rfl,?_⟩;rw[show its.toArray.any (Ş x)=its.any (Ş x) by simp,xw r fs];exact q
def ķ:YM X (.builtin "len") (λxs H Q=>∃p ys,xs=[.ref p]/\(YO X.K H p ys\/Zz X.K H p ys)/\Q (.int ys.length) H):=by
 rintro Q9 s O H xs us Q I r ⟨p,ys,rfl,hq,q⟩
 obtain⟨u,rfl,rfl⟩:=re r;have hn:=wA;obtain hq|hq:=hq
 .obtain⟨its,r',pl,hz⟩:=I.list hq;have Re:=r'.length;exact Calls.call_len_list pl.isList (by simp only[bj]<;>lia) ⟨.int ys.length,H,I.tok _,⟨s.toks+1,by rw[bj,Re]⟩,q⟩
 .obtain⟨its,r',pl,hz⟩:=I.tuple hq;have Re:=r'.length;exact len_tuple pl (by simp only[bj]<;>lia) ⟨.int ys.length,H,I.tok _,⟨s.toks+1,by rw[bj,Re]⟩,q⟩
def â:YM X (.builtin "len") (λxs H Q=>∃z,xs=[.str z]/\z.length<=aG/\Q (.int z.length) H):=by
 rintro Q9 s O H xs us Q I r ⟨z,rfl,hz,q⟩
 obtain⟨u,rfl,t,rfl⟩:=re r;have hn:=wA;exact len_str (by lia) ⟨.int z.length,H,I.tok _,⟨_,rfl⟩,q⟩
def YM.or(h:YM X f r)(h':YM X f r'):YM X f (λxs H Q=>r xs H Q\/r' xs H Q):=by
 intro Q9 s O H xs us Q I rs q;obtain q|q:=q
 .exact h Q9 s O H xs us Q I rs q
 .exact h' Q9 s O H xs us Q I rs q
def wu:YM X (.type "list") (λxs H Q=>∃p ys,xs=[.ref p]/\(YO X.K H p ys\/Zz X.K H p ys)/\∀l,H l=Zb->Q (.ref l) (upd H l (.lst ys))):=by
 rintro Q9 s O H xs us Q I r ⟨p,ys,rfl,hq,q⟩
 obtain⟨u,rfl,rfl⟩:=re r;have Ry:∀its,Vals ys its->ys.length<=aG->∀h' c',(∀b o',s.heap.get? b=Za o'->h'.get? b=Za o') ->
   h'.get? s.heap.objs.size=Za { cls:=.type "list",dict:=Zb,data:=.seq its.toArray c',slots:=#[] }->EP X Q9 O Q (.ref s.heap.objs.size) { s with heap:=h' }:=λits r' hz h' c' kp e =>
  ⟨.ref s.heap.objs.size,_,I.laid kp (ak _) (show YE X.prog X.w _ h' _ (.lst ys) from⟨hz,its,c',r',e⟩),rfl,q _ (I.Ye.fresh (ak _))⟩
 obtain hq|hq:=hq
 .obtain⟨its,r',pl,hz⟩:=I.list hq;have Re:=r'.length;obtain⟨o,ho,hc,n,hd⟩:=pl.isList;exact call_list_seq p (.inl rfl) ho hc hd (λh' c' kp e=>Ry its r' hz h' c' kp e) (by grind)
 .obtain⟨its,r',pl,hz⟩:=I.tuple hq;have Re:=r'.length;obtain⟨o,ho,hc,n,hd⟩:=pl;exact call_list_seq p (.inr rfl) ho hc hd (λh' c' kp e=>Ry its r' hz h' c' kp e) (by grind)
def BF:YM X (.type "tuple") (λxs H Q=>∃p ys,xs=[.ref p]/\((YO X.K H p ys/\∀l,H l=Zb->Q (.ref l) (upd H l (.tup ys)))\/(Zz X.K H p ys/\Q (.ref p) H))):=by
 intro Q9 s O H xs us Q I r h;obtain⟨p,ys,rfl,h⟩:=h;obtain⟨u,rfl,rx⟩:=re r;cases rx;rcases h with⟨hq,q⟩|⟨hq,q⟩
 .obtain⟨its,r',pl,hz⟩:=I.list hq;have Re:=r'.length;refine call_tuple_list pl.isList (λh' kp=>?_) (by simp only[bj]<;>lia);have I1:Inv X Q9 O H { s with heap:=h' }:=I.kept (t':=s.toks) kp;have I2:Inv X Q9 O (upd H h'.objs.size (.tup ys)) { s with heap:=h'.push { cls:=.type "tuple",data:=.seq its.toArray } } :=
   I1.laid (t':=s.toks) (λb o e=>aj _ e) (ak _) (show YE X.prog X.w _ _ _ (.tup ys) from⟨hz,its,r',IsTup.new _ _⟩)
  exact⟨.ref h'.objs.size,_,I2,rfl,q _ (I1.Ye.fresh (ak _))⟩
 .obtain⟨its,r',pl,hz⟩:=I.tuple hq;exact call_tuple_same pl ⟨.ref p,H,I,rfl,q⟩
def tyV(K:aa)(T:String)(x:V)(H:Hp):Prop:=match x with
 |.str _=>T="str"
 |.int _=>T="int"
 |.ref p=>(T="list"/\∃xs,YO K H p xs)\/(T="tuple"/\∃o,K.lookup p=Za o/\o.cls=.type "tuple"/\o.dict=Zb) \/
   (T="dict"/\((∃Ra,H p=Za (.dK Ra))\/∃Ra,H p=Za (.dT Ra)))\/(T="set"/\∃S n,H p=Za (.set S n))
 |_=>False
def O8(I:Inv X Q9 O H s)(r:RelV x v)(ty:tyV X.K T x H) :
  s.TypeIs v T/\∀a,v=.ref a->∃ob,s.heap.get? a=Za ob/\ob.dict=none:=by
 cases x with
 |str z =>
  obtain⟨t,rfl⟩:=r;cases(ty);exact⟨typeIs_str s z t,λ_ e=>nomatch e⟩
 |int i =>
  obtain⟨t,rfl⟩:=r;cases(ty);exact⟨typeIs_int s i t,λ_ e=>nomatch e⟩
 |ref p =>
  cases r;rcases ty with⟨rfl,xs,hq⟩|⟨rfl,o,hk,hc,hd⟩|⟨rfl,hk⟩|⟨rfl,S,n,hk⟩
  .obtain⟨its,_,pl,_⟩:=I.list hq;refine⟨pl.isList.typeIs,λa e=>?_⟩;cases e;obtain⟨o,n,e,c,hd,_⟩:=pl;exact⟨o,e,hd⟩
  .refine⟨⟨o,I.ZE p o hk,hc⟩,λa e=>?_⟩;cases e;exact⟨o,I.ZE _ o hk,hd⟩
  .have z:∃o,s.heap.get? p=Za o/\o.ExactDict:=by
    rcases hk with⟨Ra,hk⟩|⟨Ra,hk⟩
    .obtain⟨_,_,_,_,o,_,_,e,ex,_⟩:=I.Ye p _ hk;exact⟨o,e,ex⟩
    .obtain⟨_,_,_,_,o,_,_,e,ex,_⟩:=I.Ye p _ hk;exact⟨o,e,ex⟩
   obtain⟨o,e,ex⟩:=z;refine⟨⟨o,e,ex.1⟩,λa e2=>?_⟩;cases e2;exact⟨o,e,ex.2.1⟩
  .obtain⟨o,_,_,_,e,ex,_⟩:=I.Ye p _ hk;refine⟨⟨o,e,ex.1⟩,λa e2=>?_⟩;cases e2;exact⟨o,e,ex.2.1⟩
 |_=>exact bo ty
def tBM(K:aa)(T:String)(r:V->List V->Hp->VK->Prop)(to:TE)(t:TA):TE:=λO H Q=>to O H λx H1=>tyV K T x H1/\t O H1 λxs H2=>r x xs H2 Q
variable{o e:a7}{es:List a7}{to:TE}{t:TA}{name:Str}{Rc Rb:Pos}{T id:String}{r:V->List V->Hp->VK->Prop}
def Mf(pa:PlainAttrs T)(slot:Slot T name id)(W7:typeOf (.builtin id)=pure (.type "method_descriptor"))(hm:MtR X id r)(ho:PE X o to)(ha:PA X (e::es) t)(RG:cz o name X.env (eval o X.env)=eval o X.env:=by rfl)(SD:((bM Rb (ar (e::es) X.env)).all (λx=>!x.1)&&(ed Rb (cI [] X.env)).all (λx=>x.1.isSome)
   && decide ((e::es).length+([]:List fP).length+(if([]:List fP).isEmpty then 0 else 1)<30))=true:=by rfl)(RE:(Rc.endLine==Rb.line)=true:=by rfl)(hs:Č X e es:=by rfl)(RL:(bM Rb (ar es X.env)).any (·.1)=false:=by rfl) :
  PE X (.Call (.Attribute o name Rc) (e::es) [] Rb) (tBM X.K T r to t):=by
 refine λQ9 s O H Q I h=>wpAny_Call_method_late RG SD RE rfl (Yq (ho Q9 s O H _ I h) λv s1=>e4 λx H1 I1 r1 ⟨ty,q1⟩=>?_);obtain⟨h1,h2⟩:=O8 I1 r1 ty;refine⟨T,id,pa,slot,W7,h1,h2,?_⟩;have hA:=ha Rb Q9 s1 O H1 _ I1 q1;rw[hs] at hA ⊢;refine fk (by show(false||(bM Rb (ar es X.env)).any (·.1))=false;rw[RL]<;>rfl) (fQ ?_);exact Yq hA λus s2=>e4 λvs H2 I2 r2 q2=>hm Q9 s2 O H2 x vs v us Q I2 r1 r2 q2
end
def MtM(X:Cx)(id:String)(r:V->List V->Hp->VK->Prop):Prop :=
 ∀(Q9:List (ag×Obj))(s:au)(O:St)(H:Hp)(x:V)(xs:List V)(v:ae)(us:List ae)(Q:VK),Inv X Q9 O H s->RelV x v->Vals xs us->r x xs H Q ->
  aO (model X.prog X.w) X.A (call (.builtin id) (v::us)) (EP X Q9 O Q) X.xe s
def Vals.one:∀{x:V}{us:List ae},Vals [x] us->∃u,us=[u]/\RelV x u
 |_,_,.cons r .nil=>⟨_,rfl,r⟩
theorem Vals.rep(h:Vals xs us):∀k:Nat,Vals (aQ k xs).flatten (aQ k us).flatten
 |0=>.nil
 |k+1=>by rw[eK,eK,gH,gH];exact Vals.append h (Vals.rep h k)
theorem Cs(its):∀(k:Nat)(Ru:List ae),
  List.foldl (λx1 x2=>x1++x2) Ru.toArray (aQ k its.toArray)=(Ru++(aQ k its).flatten).toArray
 |0,Ru=>by simp
 |k+1,Ru=>by
  have e:Ru.toArray++its.toArray=(Ru++its).toArray:=by simp
  have e2:(Ru++its)++(aQ k its).flatten=Ru++(aQ (k+1) its).flatten:=by
   grind
  rw[<-e2,<-Cs its k (Ru++its),<-e,eK,List.foldl_cons]
section
variable{X:Cx}{Q9:List (ag×Obj)}{O:St}{H:Hp}{s:au}{l:ag}{xs ys:List V}
def Inv.Âz{its RV:List ae}{n:Nat}{f:Array ae->Array ae}{t':Nat}(I:Inv X Q9 O H s)(hH:H l=Za (.lst xs))(e:s.heap.get? l=Za { cls:=.type "list",data:=.seq its.toArray n })(hf:f its.toArray=RV.toArray)(hv:Vals ys RV)(hz:ys.length<=aG) :
  Inv X Q9 O (upd H l (.lst ys)) { s with heap:=s.heap.update l (kg f),toks:=t' }:=by
 have q:=PySem.IsL.update e f;rw[hf] at q;refine I.write (by rw[hH];exact trivial) (.inl rfl) (λb' u hb hu=>(kO s.heap (kg f) (bU hb)).trans hu) ⟨_,q⟩ ?_;exact⟨hz,RV,_,hv,q⟩
def Inv.Àw(I:Inv X Q9 O H s)(hv:Vals ys its)(hz:ys.length<=aG) :
  Inv X Q9 O (upd H s.heap.objs.size (.lst ys)) { s with heap:=s.heap.push { cls:=.type "list",data:=.seq its.toArray },toks:=t' } :=
 I.laid (λ_ _ q=>aj _ q) (ak _) ⟨hz,its,0,hv,aP _ rfl⟩
theorem Inv.fresh(I:Inv X Q9 O H s):H s.heap.objs.size=none:=I.Ye.fresh (ak _)
def Inv.Àv(I:Inv X Q9 O H s)(hH:H l=Za (.lst xs)):xs.length<=aG/\∃(its:List ae)(n:Nat),Vals xs its/\xs.length=its.length/\s.heap.get? l=Za { cls:=.type "list",data:=.seq its.toArray n }:=by obtain⟨z,its,n,r,e⟩:=I.Ye l _ hH;exact⟨z,its,n,r,r.length,e⟩
def J9(h:n<=aG):fZ n=false:=by
 unfold fZ
 grind
def MY:V->List V->Hp->VK->Prop:=λx vs H Q=>∃l xs y,x=.ref l/\vs=[y]/\H l=Za (.lst xs)/\xs.length<aG/\Q .Yh (upd H l (.lst (xs++[y])))
def Ch:MtM X "list.append" MY:=by
 rintro Q9 s O H x vs v us Q I rx rv ⟨l,xs,y,rfl,rfl,hH,hz,q⟩
 cases rx;obtain⟨u,rfl,ru⟩:=rv.one;obtain⟨z,its,n,r,hl,e⟩:=I.Àv hH;refine jo k9 ⟨_,e,rfl⟩ F.entry_list_append (F.args_list_append_2 _ _) (PySem.list_append l its.toArray n u (by grind)) ⟨e,?_⟩;refine⟨.Yh,_,I.Âz hH e (by simp) (r.append (.cons ru .nil)) ?_,rfl,q⟩;rw[aZ,lg];lia
def QS:R2:=λx y H Q=>∃l k xs,x=.ref l/\y=.int k/\H l=Za (.lst xs)/\-(2^63)<=k/\k<2^63/\xs.length*k.toNat<=aG /\
 ∀p,H p=Zb->Q (.ref p) (upd H p (.lst (aQ k.toNat xs).flatten))
def ND(xs:List α)(k:Nat):(aQ k xs).flatten.length=k*xs.length:=by simp_all
def PU:Zq X (dE .Mult) QS:=by
 rintro Q9 s O H x y v u Q I rx ry ⟨l,k,xs,rfl,rfl,hH,h1,h2,hz,q⟩
 cases rx;obtain⟨t,rfl⟩:=ry;obtain⟨z,its,n,r,hl,e⟩:=I.Àv hH;have Re:its.toArray.size*k.toNat<=aG:=by rw[bj,<-hl];exact hz
 have Xw:¬its.toArray.size*k.toNat>(2^63-1)/8:=by have:aG<=(2^63-1)/8:=Zf rfl;lia
 have Xq:¬(!Builtin.List.listFitsIndex k)=true:=by
  rw[fitsIndex_both h1 h2]
  grind
 have Vo:¬fZ (its.toArray.size*k.toNat)=true:=by
  rw[J9 Re]
  grind
 have R7:List.foldl (λx1 x2=>x1++x2) #[] (aQ (if its.toArray.isEmpty=true then 0 else k.toNat) its.toArray)=(aQ k.toNat its).flatten.toArray:=by
  have f0:=λm=>by have:=Cs its m [];rw[eS] at this;exact this
  rw[f0];cases its with
  |nil=>simp
  |cons a r'=>rw[Zd (by simp)]
 refine wpAny_binaryOp_repeat_ref (Zf rfl) ⟨_,e,rfl⟩ (λs'=>typeIs_int s' k t) noFill_list_mul F.fills_int_mul F.slot_int_rmul repeat_list F.slot_int_index.lookup
  (jo F.slot_int_rmul (typeIs_int s k t) F.entry_int_rmul (F.args_int_rmul_2 _ _) (int___rmul___int_list k t l its.toArray n)
   ⟨e,rfl,⟨_,e,rfl⟩,jo F.slot_list_mul ⟨_,e,rfl⟩ F.entry_list_mul (F.args_list_mul_2 _ _) (AutoListH.list___mul___list_int_3 l its.toArray n k t Xq Xw Vo) ⟨e,?_⟩⟩)
 rw[R7];exact⟨.ref _,_,I.Àw (r.rep k.toNat) (by rw[ND,Nat.mul_comm];exact hz),rfl,q _ I.fresh⟩
end
open PySem PySem.Spec PyProof.Rows
section
variable{κ:Type}[DecidableEq κ]
noncomputable def pE(Ra:List (κ×V))(k:κ):Option V:=(Ra.find? λkv=>decide (kv.1=k)).map (·.2)
noncomputable def rh(Ra:List (κ×V))(k:κ)(v:V):List (κ×V) :=
 if(Ra.any λkv=>decide (kv.1=k))=true then Ra.map (λkv=>if kv.1=k then(kv.1,v) else kv) else Ra++[(k,v)]
def yD(Ra:List (κ×V))(k:κ):List (κ×V):=Ra.filter λkv=>decide (kv.1≠k)
def wJ{p:κ×V}{r}{k:κ}(e:p.1=k):pE (p::r) k=Za p.2:=by simp[pE,bQ,e]
def wK{p:κ×V}{r}{k:κ}(e:¬p.1=k):pE (p::r) k=pE r k:=by simp[pE,bQ,e]
theorem Al(k:κ):∀Ra:List (κ×V),(Ra.any λkv=>decide (kv.1=k))=(pE Ra k).isSome
 |[]=>rfl
 |p::r=>by
  rw[dR];by_cases e:p.1=k
  .simp only[wJ e,Zg e,Bool.true_or,Option.isSome_some]
  .rw[wK e,Zh e,Bool.false_or];exact Al k r
def rJ(Ra)(k:κ)(v):(rh Ra k v).length<=Ra.length+1:=by
 unfold rh;split
 .simp_all
 .simp_all
def uZ{Ra}{k:κ}(v)(h:pE Ra k=Zb):rh Ra k v=Ra++[(k,v)]:=by unfold rh;rw[Al,h];exact Zd (Zf rfl)
def Z0.ZO(r:Z0 o u):o.isSome=u.isSome:=by
 cases o with
 |none=>cases u with
  |none=>rfl
  |some _=>exact(r).elim
 |some _=>cases u with
  |none=>exact(r).elim
  |some _=>rfl
theorem Z0.getD(r:Z0 o u)(rd:RelV d d'):RelV (o.getD d) (u.getD d'):=by
 cases o with
 |none=>cases u with
  |none=>exact rd
  |some _=>exact(r).elim
 |some _=>cases u with
  |none=>exact(r).elim
  |some _=>exact r
def KV.val{Ra}{vs}(r:KV Ra vs)(k:κ):Z0 (pE Ra k) (kJ vs k):=by
 induction r with
 |nil=>exact cQ
 |@cons p q ps qs h t ih =>
  obtain⟨h1,h2⟩:=h;by_cases e:p.1=k
  .have e':=h1.symm.trans e;have b:kJ (q::qs) k=Za q.2:=by simp[kJ,bQ,e']
   rw[wJ e,b];exact h2
  .have e':¬q.1=k:=λz=>e (h1.trans z);have b:kJ (q::qs) k=kJ qs k:=by simp[kJ,bQ,e']
   rw[wK e,b];exact ih
theorem KV.any(r:KV Ra vs)(k:κ):(Ra.any λkv=>decide (kv.1=k))=vs.any λkv=>decide (kv.1=k):=by
 induction r with
 |nil=>rfl
 |cons h t ih=>rw[dR,dR,ih,h.1]
def KV.Àp(r:KV Ra vs)(k:κ)(ry:RelV y u) :
  KV (Ra.map λkv=>if kv.1=k then(kv.1,y) else kv) (vs.map λkv=>if kv.1=k then(kv.1,u) else kv):=by
 induction r with
 |nil=>exact .nil
 |@cons p q ps qs h t ih =>
  rw[am,am];refine .cons ?_ ih
  grind
def KV.put(r:KV Ra vs)(k:κ)(ry:RelV y u):KV (rh Ra k y) (stored vs k u):=by
 unfold rh stored;rw[r.any k];by_cases e:(vs.any λkv=>decide (kv.1=k))=true
 .rw[Zc e,Zc e];exact r.Àp k ry
 .rw[Zd e,Zd e];exact kN r ⟨rfl,ry⟩
def KV.drop(r:KV Ra vs)(k:κ):KV (yD Ra k) (without vs k):=by
 unfold yD without;induction r with
 |nil=>exact .nil
 |@cons p q ps qs h t ih =>
  obtain⟨h1,h2⟩:=h;rw[gR,gR];by_cases e:p.1=k
  .grind
  .have e':¬q.1=k:=λz=>e (h1.trans z);have a:decide (p.1≠k)=true:=by simp[e]
   have b:decide (q.1≠k)=true:=by simp[e']
   rw[Zc a,Zc b];exact .cons ⟨h1,h2⟩ ih
def KV.keys{Ra:List (κ×V)}{vs:List (κ×ae)}(r:KV Ra vs):Ra.map (·.1)=vs.map (·.1):=by
 induction r with
 |nil=>rfl
 |cons h t ih=>rw[am,am,ih,h.1]
theorem KV.length(r:KV Ra vs):Ra.length=vs.length:=iL r
def KG(Ra)(k:κ):(yD Ra k).length<=Ra.length:=dW _ _
end
def yA(r:RelV (kV k) u):(nN P w).is k u=true:=by
 obtain i|x:=k
 .obtain⟨t,e⟩:=(r);subst e;exact Es P w i t
 .obtain⟨t,rfl⟩:=(r);exact Er P w x t
theorem Co:∀{ks:List Key}{us:List ae},Vals (ks.map kV) us->ItemsAre (nN P w) ks us
 |[],_,r=>by rw[cT] at r;cases r;exact .nil
 |k::ks,_,r=>by
  rw[am] at r;cases r with
  |cons h t=>exact .cons (yA h) (Co t)
abbrev KT(H:Hp):List (List Key×V)->List (List Key×ag×ae)->Prop:=eW λp q=>p.1=q.1/\H q.2.1=Za (.tup (p.1.map kV))/\RelV p.2 q.2.2
def KT.val{H}{Ra}{xs}(r:KT H Ra xs)(k):Z0 (pE Ra k) ((lT xs k).map (·.2)):=by
 induction r with
 |nil=>exact cQ
 |@cons p q ps qs h t ih =>
  obtain⟨h1,_,h2⟩:=h;by_cases e:p.1=k
  .have e':=h1.symm.trans e;have b:lT (q::qs) k=Za q.2:=by simp[lT,bQ,e']
   rw[wJ e,b];exact h2
  .have e':¬q.1=k:=λz=>e (h1.trans z);have b:lT (q::qs) k=lT qs k:=by simp[lT,bQ,e']
   rw[wK e,b];exact ih
def KT.Àp(r:KT H Ra xs)(k)(ry:RelV y u) :
  KT H (Ra.map λkv=>if kv.1=k then(kv.1,y) else kv) (xs.map (putAt k u)):=by
 induction r with
 |nil=>exact .nil
 |@cons p q ps qs h t ih =>
  rw[am,am];refine .cons ?_ ih;obtain⟨h1,h2,h3⟩:=h;unfold putAt;by_cases e:p.1=k
  .simp_all
  .simp_all
def KT.put(r:KT H Ra xs)(k)(hb:H b=Za (.tup (k.map kV)))(ry:RelV y u) :
  KT H (rh Ra k y) (storedH xs k b u):=by
 have e:(Ra.any λkv=>decide (kv.1=k))=(lT xs k).isSome:=by rw[Al,(r.val k).ZO,dQ]
 unfold rh storedH;rw[e];by_cases q:(lT xs k).isSome=true
 .rw[Zc q,Zc q];exact r.Àp k ry
 .rw[Zd q,Zd q];exact kN r ⟨rfl,hb,ry⟩
def KT.keeps(r:KT H Ra xs)(ht:∀b ys,H b=Za (.tup ys)->H' b=Za (.tup ys)):KT H' Ra xs :=
 eW.Ϻ r λ_ _ z=>⟨z.1,ht _ _ z.2.1,z.2.2⟩
section
variable{P:aK}{w:aT}{H:Hp}{h:bc}{a:ag}
def OI(ok:Ë P w H h)(e:Rd H a u):YE P w H h a u:=e.ok ok
def vt(ok:Ë P w H h)(e:Rd H a (.dK Ra)):Ra.length<=aG/\(a==dY)=false/\∃vs,KV Ra vs/\h.DictOf (nN P w) a vs :=
 OI ok e
def Mr(ok:Ë P w H h)(e:H a=Za (.dK Ra)):Ra.length<=aG/\(a==dY)=false/\∃vs,KV Ra vs/\h.DictOf (nN P w) a vs:=vt ok (.inl e)
def yN(ok:Ë P w H h)(e:H a=Za (.tup (ks.map kV))):(i8 (nN P w)).is h ks a:=by obtain⟨_,its,r,o,h1,h2,n,h3⟩:=(ok a _ e);exact⟨o,its.toArray,n,h1,h2,h3,by simpa using Co r⟩
def BN(ok:Ë P w H h)(e:Rd H a (.dT Ra)):Ra.length<=aG/\(a==dY)=false /\
  ∃xs,KT H Ra xs/\h.DictOfH (i8 (nN P w)) a xs:=by
 obtain⟨z,y,xs,r,o,es,ep,h1,h2,h3,h4,h5⟩:=(OI ok e);refine⟨z,y,xs,r,o,es,ep,h1,h2,h3,h4,λx hx=>?_,h5⟩;have all:∀{l:List (List Key×V)}{m:List (List Key×ag×ae)},KT H l m->∀x∈m,(i8 (nN P w)).is h x.1 x.2.1:=by
  intro l m q;induction q with
  |nil=>intro x hx;exact nomatch hx
  |@cons p q ps qs hq t ih =>
   intro x hx;obtain e|hx:=ao.mp hx
   .subst e;exact yN ok (by rw[<-hq.1];exact hq.2.1)
   .exact ih x hx
 exact all r x hx
def ÁI(ok:Ë P w H h)(e:H a=Za (.dT Ra)):Ra.length<=aG/\(a==dY)=false /\
  ∃xs,KT H Ra xs/\h.DictOfH (i8 (nN P w)) a xs:=BN ok (.inl e)
end
def Y3(H:Hp)(a:ag)(y:V)(r:Option V):Prop :=
 (∃Ra k,Rd H a (.dK Ra)/\y=kV k/\r=pE Ra k)\/∃Ra k b,Rd H a (.dT Ra)/\y=.ref b/\H b=Za (.tup (k.map kV))/\r=pE Ra k
def Ö(H:Hp)(a:ag)(y v:V)(H':Hp):Prop :=
 (∃Ra k,H a=Za (.dK Ra)/\y=kV k/\Ra.length<aG/\H'=upd H a (.dK (rh Ra k v))) \/
 ∃Ra k b,H a=Za (.dT Ra)/\y=.ref b/\H b=Za (.tup (k.map kV))/\Ra.length<aG/\H'=upd H a (.dT (rh Ra k v))
theorem Y3.k{H}{a}{Ra}{k}(e:H a=Za (.dK Ra)):Y3 H a (kV k) (pE Ra k):=.inl ⟨Ra,k,.inl e,rfl,rfl⟩
def Y3.t{H}{a b}{Ra}{k}(e:H a=Za (.dT Ra))(eb:H b=Za (.tup (k.map kV))):Y3 H a (.ref b) (pE Ra k):=.inr ⟨Ra,k,b,.inl e,rfl,eb,rfl⟩
theorem Ö.k{H}{a}{Ra}{k}{v}(e:H a=Za (.dK Ra))(hl:Ra.length<aG):Ö H a (kV k) v (upd H a (.dK (rh Ra k v))):=.inl ⟨Ra,k,e,rfl,hl,rfl⟩
def Ö.t{H}{a b}{Ra}{k}{v}(e:H a=Za (.dT Ra))(eb:H b=Za (.tup (k.map kV)))(hl:Ra.length<aG) :
  Ö H a (.ref b) v (upd H a (.dT (rh Ra k v))):=.inr ⟨Ra,k,b,e,rfl,eb,hl,rfl⟩
section
variable{X:Cx}{Q9:List (ag×Obj)}{O:St}{H:Hp}{s:au}{a:ag}{y v:V}{u r:ae}{o:Option V}{A:bX}{E:ae->au->Prop}
def Inv.big(I:Inv X Q9 O H s):dY<s.heap.objs.size:=by have h:=(I.mod.glob.keeps I.bk).lt;exact ia (Zf rfl) h
def Cw(hu:A.units+1<fj)(I:Inv X Q9 O H s)(g:Y3 H a y (Za v))(ry:RelV y u)(h:∀w' s',Inv X Q9 O H s'->RelV v w'->Q w' s') :
  aO (model X.prog X.w) A (iJ (.ref a) u) Q E s:=by
 rcases g with⟨Ra,k,e,ey,l⟩|⟨Ra,k,b,e,ey,eb,l⟩
 .subst ey;obtain⟨z,hd,vs,rel,dd⟩:=vt I.Ye e;obtain⟨w',hw,RP⟩:=Z0.some_of (by rw[l];exact rel.val k);exact wpAny_getItem_of (yA ry) dd.mapOf hw (h w' _ (I.tok _) RP)
 .subst ey;cases(ry);obtain⟨z,hd,xs,rel,dd⟩:=BN I.Ye e;obtain⟨w',hw,RP⟩:=Z0.some_of (by rw[l];exact rel.val k);obtain⟨p,hp,hp2⟩:=kA.mp hw;apply wpAny_getItem_heap (fz hu) (yN I.Ye eb) dd hp;rw[hp2];exact h w' _ (I.tok _) RP
def ÁL(hu:A.units+1<fj)(I:Inv X Q9 O H s)(g:Y3 H a y o)(ry:RelV y u)(h:∀s',Inv X Q9 O H s'->Q (.bool o.isSome) s') :
  aO (model X.prog X.w) A (bO .In u (.ref a)) Q E s:=by
 rcases g with⟨Ra,k,e,ey,l⟩|⟨Ra,k,b,e,ey,eb,l⟩
 .subst ey;obtain⟨z,hd,vs,rel,dd⟩:=vt I.Ye e;apply wpAny_in_of (yA ry) hd dd.mapOf;rw[<-(rel.val k).ZO,<-l];exact h _ (I.tok _)
 .subst ey;cases(ry);obtain⟨z,hd,xs,rel,dd⟩:=BN I.Ye e;apply wpAny_in_heap (fz hu) (yN I.Ye eb) hd dd;have q:=(rel.val k).ZO;rw[dQ] at q;rw[<-q,<-l];exact h _ (I.tok _)
def Om(hu:A.units+1<fj)(I:Inv X Q9 O H s)(g:Y3 H a y o)(ry:RelV y u)(h:∀s',Inv X Q9 O H s'->Q (.bool (!o.isSome)) s') :
  aO (model X.prog X.w) A (bO .NotIn u (.ref a)) Q E s:=by
 rcases g with⟨Ra,k,e,ey,l⟩|⟨Ra,k,b,e,ey,eb,l⟩
 .subst ey;obtain⟨z,hd,vs,rel,dd⟩:=vt I.Ye e;apply wpAny_notIn_of (yA ry) hd dd.mapOf;rw[<-(rel.val k).ZO,<-l];exact h _ (I.tok _)
 .subst ey;cases(ry);obtain⟨z,hd,xs,rel,dd⟩:=BN I.Ye e;apply wpAny_notIn_heap (fz hu) (yN I.Ye eb) hd dd;have q:=(rel.val k).ZO;rw[dQ] at q;rw[<-q,<-l];exact h _ (I.tok _)
def z6(I:Inv X Q9 O H s)(mu:Mut (H a))(hs:i9 a s.heap h')(he:∃q,h'.get? a=Za q)(new:YE X.prog X.w (upd H a ob) h' a ob) :
  Inv X Q9 O (upd H a ob) { s with heap:=h',toks:=t' } :=
 I.write mu (.inl rfl) (λb q hb z=>(hs.2 b hb).trans z) he new
def D7(z:Ra.length<=aG)(hd:(a==dY)=false)(rel:KV Ra vs)(dd:h'.DictOf (nN P w) a vs) :
  YE P w H' h' a (.dK Ra):=⟨z,hd,vs,rel,dd⟩
def Cv(hu:A.units+1<fj)(I:Inv X Q9 O H s)(g:Ö H a y v H')(ry:RelV y u)(rv:RelV v r)(h:∀s',Inv X Q9 O H' s'->Q () s') :
  aO (model X.prog X.w) A (kK (.ref a) u r) Q E s:=by
 rcases g with⟨Ra,k,e,ey,l,eH⟩|⟨Ra,k,b,e,ey,eb,l,eH⟩
 .subst ey eH;obtain⟨z,hd,vs,rel,dd⟩:=Mr I.Ye e;have hz:vs.length<=aG:=by rw[<-rel.length];exact z
  have hl:(rh Ra k v).length<=aG:=by have:=rJ Ra k v;lia
  refine wpAny_setItem_pairs (yA ry) dd λh' Tr hs=>h _ ?_;have he:∃q,h'.get? a=Za q:=let⟨q,_,_,hq,_⟩:=Tr;⟨q,hq⟩;exact z6 I (by rw[e];exact cQ) hs he (D7 hl hd (rel.put k rv) Tr)
 .subst ey eH;cases(ry);obtain⟨z,hd,xs,rel,dd⟩:=ÁI I.Ye e;have hz:xs.length<=aG:=by rw[<-iL rel];exact z
  have hl:(rh Ra k v).length<=aG:=by have:=rJ Ra k v;lia
  refine wpAny_setItem_heap (fz hu) (yN I.Ye eb) dd λh' Tr hs=>h _ ?_;obtain⟨q,es,ep,hq,h2,h3,h4,_,h5⟩:=Tr;refine z6 I (by rw[e];exact cQ) hs ⟨q,hq⟩ ⟨hl,hd,_,(rel.put k eb rv).keeps λc ys ec=>?_,q,es,ep,hq,h2,h3,h4,h5⟩;rw[mq (DV ec e (λz=>nomatch z))];exact ec
end
section
variable{X:Cx}{Q9:List (ag×Obj)}{O:St}{H:Hp}{s:au}{a:ag}{Ra:List (Key×V)}{k:Key}{u:ae}{A:bX}{E:ae->au->Prop}
def ÁK(I:Inv X Q9 O H s)(e:H a=Za (.dK Ra))(ry:RelV (kV k) u)(l:pE Ra k=Za v)(hm:RD=[]\/∃x,RD=[x])(h:∀w' s',Inv X Q9 O (upd H a (.dK (yD Ra k))) s'->RelV v w'->Q w' s'):aO (model X.prog X.w) A (call (.builtin "dict.pop") (.ref a::u::RD)) Q E s:=by
 obtain⟨z,hd,vs,rel,dd⟩:=Mr I.Ye e;obtain⟨w',hw,RP⟩:=Z0.some_of (by rw[<-l];exact rel.val k);have hp:(keyPart u).isSome=true:=by
  obtain i|x:=k
  .obtain⟨t,q⟩:=(ry);subst q;rfl
  .obtain⟨t,rfl⟩:=(ry);rfl
 have ha:argsOk "dict.pop" ⟨.ref a::u::RD,[]⟩:=by
  obtain q|⟨x,q⟩:=hm
  .subst q;exact PySem.F.args_dict_pop_2 _ _
  .subst q;exact PySem.F.args_dict_pop_3 _ _ _
 refine jL ky dd.typeIs PySem.F.entry_dict_pop ha (meets_dict_pop_there (nN X.prog X.w) a (yA ry) RD hm hp)
  ⟨vs,w',dd,by rw[<-rel.length];exact z,hw,λh' Tr hs=>h w' _ ?_ RP⟩
 have he:∃q,h'.get? a=Za q:=let⟨q,_,_,hq,_⟩:=Tr;⟨q,hq⟩;exact z6 I (by rw[e];exact cQ) hs he (D7 (aJ (KG Ra k) z) hd (rel.drop k) Tr)
def O1(I:Inv X Q9 O H s)(e:Rd H a (.dK Ra))(h:∀t s',Inv X Q9 O H s'->Q (.int Ra.length t) s'):aO (model X.prog X.w) A (call (.builtin "len") [.ref a]) Q E s:=by obtain⟨z,hd,vs,rel,dd⟩:=vt I.Ye e;refine call_len_dict hd dd (by rw[<-rel.length];rw[ko] at z;lia) ?_;rw[<-rel.length];exact h _ _ (I.tok _)
end
def Q8(i:a7):Prop:=∀ov iv,subscripted i false ov iv=operate [ov,iv] (iJ ov iv)
def MI{prog}{w}{A}{E}{s}{env:Env}{Ri Rv}{pos}{T id:String}{Q}(hl:jm (.type T) "__getitem__"=pure (Za (.builtin id)))(hs:Q8 Rv)(h:aO (model prog w) A (eval Ri env) (λo Rp=>aO (model prog w) A (eval Rv env) (λi SB=>SB.TypeIs o T/\aO (model prog w) A (iJ o i) Q E SB) E Rp) E s) :
  aO (model prog w) A (eval (.Subscript Ri Rv pos) env) Q E s:=by
 refine Subscript_ (a6 h (λo Rp VL=>a6 VL (λi SB Vy=>?_) λ_ _ x=>x) λ_ _ x=>x);obtain⟨hT,Vy⟩:=Vy;apply af;rw[getitemInPython_of_ne hT.not_modules];refine af (wpAny_specialOf hT hl ?_);have Ry:aO (model prog w) A (subscripted Rv false o i) (λr Rg=>aO (model prog w) A (letTemporaryGo Ri o r >>= λ_=>pure r) Q E Rg) E SB:=by rw[hs o i];exact wpAny_operating (a6 Vy (λr Rg UV=>af (wpAny_letTemporaryGo (aE UV))) λ_ _ x=>x)
 first
  |exact aE (af Ry)
  |exact af (aE (af Ry))
  |exact af Ry
def yo(I:Inv X Q9 O H s)(g:Y3 H a y o):s.TypeIs (.ref a) "dict":=by
 rcases g with⟨Ra,k,e,_,_⟩|⟨Ra,k,b,e,_,_,_⟩
 .obtain⟨_,_,vs,_,dd⟩:=vt I.Ye e;exact dd.typeIs
 .obtain⟨_,_,xs,_,dd⟩:=BN I.Ye e;exact dd.typeIs
def ÀS(td ty:TE):TE:=λO H Q=>td O H λx H1=>ty O H1 λy H2=>∃a v,x=.ref a/\Y3 H2 a y (Za v)/\Q v H2
def Âh(ty td:TE):TE:=λO H Q=>ty O H λy H1=>td O H1 λx H2=>∃a o,x=.ref a/\Y3 H2 a y o/\Q (.bl o.isSome) H2
def OG(td ty tv:TE):TS:=λD O H=>tv O H λv H1=>td O H1 λx H2=>ty O H2 λy H3=>∃a H4,x=.ref a/\Ö H3 a y v H4/\D.nx O H4
section
variable{X:Cx}{o i Ri:a7}{pos Rm:Pos}{td ty tv:TE}
def sC(hu:X.A.units+1<fj)(ho:PE X o td)(hi:PE X i ty)(hs:Q8 i):PE X (.Subscript o i pos) (ÀS td ty):=by refine λQ9 s O H Q I h=>MI jB.lookup hs (Yq (ho Q9 s O H _ I h) λu s1=>e4 λx H1 I1 rx q1=>Yq (hi Q9 s1 O H1 _ I1 q1) λiv s2=>e4 λy H2 I2 ry ⟨a,v,ex,g,q2⟩=>?_);subst ex;obtain rfl:u=aU a:=rx;exact⟨yo I2 g,Cw hu I2 g ry λw' s3 I3 RP=>⟨v,H2,I3,RP,q2⟩⟩
def Lo(hu:X.A.units+1<fj)(hi:PE X i ty)(ho:PE X o td):PC X .In i o (Âh ty td):=by refine λQ9 s O H Q I h=>Yq (hi Q9 s O H _ I h) λiv s1=>e4 λy H1 I1 ry q1=>Yq (ho Q9 s1 O H1 _ I1 q1) λu s2=>e4 λx H2 I2 rx ⟨a,ov,ex,g,q2⟩=>?_;subst ex;obtain rfl:u=aU a:=rx;exact ÁL hu I2 g ry λs3 I3=>⟨.bl ov.isSome,H2,I3,rfl,q2⟩
def su(hu:X.A.units+1<fj)(ho:PE X o td)(hi:PE X i ty)(hv:PE X Ri tv)(hs:cN Ri (Za (.Subscript o i Rm)) pos.line X.env=pure false) :
  PS X (.Assign [.Subscript o i Rm] Ri pos) (OG td ty tv):=by
 refine λQ9 s O H D I h=>wpAny_Assign_Subscript (Yq (hv Q9 s O H _ I h) λr s1=>e4 λv H1 I1 rv q1=>Yq (ho Q9 s1 O H1 _ I1 q1) λu s2=>e4 λx H2 I2 rx q2=>Yq (hi Q9 s2 O H2 _ I2 q2) λiv s3=>e4 λy H3 I3 ry ⟨a,H4,ex,g,q3⟩=>?_) hs;subst ex;obtain rfl:u=aU a:=rx;exact Cv hu I3 g ry rv λs4 I4=>⟨O,H4,I4,q3⟩
def Fd(h:bc)(hb:dY<h.objs.size):YE P w H (h.push { cls:=.type "dict",data:=.dict #[] }) h.objs.size (.dK []) :=
 ⟨aY _,beq_eq_false_iff_ne.mpr (bU (ay hb)),[],.nil,kP h⟩
def KD(h:bc)(hb:dY<h.objs.size):YE P w H (h.push { cls:=.type "dict",data:=.dict #[] }) h.objs.size (.dT []) :=
 ⟨aY _,beq_eq_false_iff_ne.mpr (bU (ay hb)),[],.nil,_,#[],0,aP _ rfl,⟨rfl,rfl,rfl⟩,rfl,rfl,iE⟩
def Pf:TE:=λ_ H Q=>∀p,H p=Zb->Q (.ref p) (upd H p (.dK []))
def Pe:TE:=λ_ H Q=>∀p,H p=Zb->Q (.ref p) (upd H p (.dT []))
def ZL:PE X (.Dict [] [] pos) Pf:=λQ9 s O H Q I h =>
 wpAny_Dict_empty ⟨.ref s.heap.objs.size,_,I.laid (λ_ _ q=>aj _ q) (ak _) (Fd s.heap I.big),rfl,h _ (I.Ye.fresh (ak _))⟩
def ϔ:PE X (.Dict [] [] pos) Pe:=λQ9 s O H Q I h =>
 wpAny_Dict_empty ⟨.ref s.heap.objs.size,_,I.laid (λ_ _ q=>aj _ q) (ak _) (KD s.heap I.big),rfl,h _ (I.Ye.fresh (ak _))⟩
end
def Gn:List (TE×TE)->St->Hp->(List (V×V)->Hp->Prop)->Prop
 |[],_,H,Q=>Q [] H
 |(tk,tv)::r,O,H,Q=>tk O H λx H1=>tv O H1 λy H2=>Gn r O H2 λps H3=>Q ((x,y)::ps) H3
abbrev VV:List (V×V)->List (ae×ae)->Prop:=eW λp q=>RelV p.1 q.1/\RelV p.2 q.2
def PPs(X:Cx)(pos:Pos)(keys:List (Option a7))(Sc:List a7)(Ua:List (TE×TE)):Prop :=
 ∀(Q9:List (ag×Obj))(s:au)(O:St)(H:Hp)(Q:List (V×V)->Hp->Prop),Inv X Q9 O H s->Gn Ua O H Q ->
  aO (model X.prog X.w) X.A (evalPairs (pairTrees keys Sc X.env pos)) (λvs s'=>∃ps H',Inv X Q9 O H' s'/\VV ps vs/\Q ps H') X.xe s
def Ha:PPs X pos [] [] []:=λQ9 s O H Q I h=>pairTrees_nil_walk ⟨[],H,I,.nil,h⟩
def EY(hk:PE X k tk)(hv:PE X v tv)(hr:PPs X pos ks vs Ua) :
  PPs X pos (Za k::ks) (v::vs) ((tk,tv)::Ua):=λQ9 s O H Q I h =>
 pairTrees_cons_walk (Yq (hk Q9 s O H _ I h) λu s1=>e4 λx H1 I1 rx q1=>Yq (hv Q9 s1 O H1 _ I1 q1) λw2 s2=>e4 λy H2 I2 ry q2 =>
  Yq (hr Q9 s2 O H2 _ I2 q2) λws s3=>e4 λps H3 I3 rel q3=>⟨(x,y)::ps,H3,I3,.cons ⟨rx,ry⟩ rel,q3⟩)
def Br(Ra RD:List (Key×V)):List (Key×V):=RD.foldl (λRu kv=>rh Ru kv.1 kv.2) Ra
def KV.merge:∀{RD:List (Key×V)}{rs:List (Key×ae)}{Ra:List (Key×V)}{vs:List (Key×ae)},KV RD rs->KV Ra vs->KV (Br Ra RD) (merged vs rs):=by
 intro RD rs Ra vs r;induction r generalizing Ra vs with
 |nil=>intro q;exact q
 |@cons p q ps qs h t ih =>
  intro r0;have e:KV (rh Ra p.1 p.2) (stored vs q.1 q.2):=by have:=r0.put p.1 h.2;rw[<-h.1];exact this
  exact ih e
theorem vI:∀(RD Ra:List (Key×V)),(Br Ra RD).length<=Ra.length+RD.length
 |[],Ra=>by show Ra.length<=Ra.length+0;lia
 |p::r,Ra=>by
  have h1:=vI r (rh Ra p.1 p.2);have h2:=rJ Ra p.1 p.2;show(Br (rh Ra p.1 p.2) r).length<=_
  grind
theorem Ad:∀{Ra:List (Key×V)}{ws:List (ae×ae)},VV (Ra.map λkv=>(kV kv.1,kv.2)) ws->∃rs,Carries (nN P w) ws rs/\KV Ra rs
 |[],_,r=>by rw[cT] at r;cases r;exact⟨[],cQ,.nil⟩
 |p::Ra,_,r=>by
  rw[am] at r;cases r with
  |@cons a b as bs h t =>
   obtain⟨rs,c,q⟩:=Ad t;obtain⟨b1,b2⟩:=b;exact⟨(p.1,b2)::rs,⟨yA h.1,rfl,c⟩,.cons ⟨rfl,h.2⟩ q⟩
def ÀR(Ua:List (TE×TE)):TE:=λO H Q=>∀p,H p=Zb->Gn Ua O (upd H p (.dK [])) λps H2=>H2 p=Za (.dK [])/\∃Ra:List (Key×V),ps=Ra.map (λkv=>(kV kv.1,kv.2))/\Ra.length<=15/\Q (.ref p) (upd H2 p (.dK (Br [] Ra)))
def Hc(h:PPs X pos keys Sc Ua)(UA:keys.all (·.isSome)=true)(hl:keys.length=Sc.length)(h0:keys≠[])(h15:keys.length<=15):PE X (.Dict keys Sc pos) (ÀR Ua):=by
 intro Q9 s O H Q I q;have hn:=I.Ye.fresh (ak s.heap.objs.size);have I1:=I.laid (t':=s.toks) (λ_ _ q=>aj _ q) (ak _) (Fd s.heap I.big);refine wpAny_Dict_walk (knd:=nN X.prog X.w) UA hl h0 h15 (Yq (h Q9 _ O _ _ I1 (q _ hn)) λws s2=>e4 λps H2 I2 rel ⟨e,Ra,ep,lk,q2⟩=>?_);subst ep;obtain⟨rs,c,rk⟩:=Ad rel;obtain⟨z,hd,S7,⟨⟩,dd⟩:=Mr I2.Ye e;refine⟨rs,c,dd,λh' Tr hs=>⟨.ref s.heap.objs.size,_,?_,rfl,q2⟩⟩;have hz:(Br [] Ra).length<=aG:=by have h1:=vI Ra [];rw[jF] at h1;rw[ko];lia
 have he:∃q,h'.get? s.heap.objs.size=Za q:=let⟨q,_,_,hq,_⟩:=Tr;⟨q,hq⟩;exact z6 I2 (by rw[e];exact cQ) hs he (D7 hz hd (rk.merge .nil) Tr)
structure M1(X:Cx)(o:a7)(m:Str)(Rc:Pos)(e:a7)(Rb:Pos):Prop where
 base:cz o m X.env (eval o X.env)=eval o X.env
 few:((bM Rb (ar [e] X.env)).all (λx=>!x.1)&&(ed Rb (cI [] X.env)).all (λx=>x.1.isSome)
  && decide (([e]:List a7).length+([]:List fP).length+(if([]:List fP).isEmpty then 0 else 1)<30))=true
 line:(Rc.endLine==Rb.line)=true
 trees:bM Rb (ar [e] X.env)=[(false,eval e X.env)]
structure M2(X:Cx)(o:a7)(m:Str)(Rc:Pos)(e f:a7)(Rb:Pos):Prop where
 base:cz o m X.env (eval o X.env)=eval o X.env
 few:((bM Rb (ar [e,f] X.env)).all (λx=>!x.1)&&(ed Rb (cI [] X.env)).all (λx=>x.1.isSome)
  && decide (([e,f]:List a7).length+([]:List fP).length+(if([]:List fP).isEmpty then 0 else 1)<30))=true
 line:(Rc.endLine==Rb.line)=true
 trees:bM Rb (ar [e,f] X.env)=[(false,eval e X.env),(false,eval f X.env)]
def IsD(H:Hp)(a:ag):Prop:=(∃Ra,Rd H a (.dK Ra))\/∃Ra,Rd H a (.dT Ra)
def GG(I:Inv X Q9 O H s)(d:IsD H a) :
  s.TypeIs (.ref a) "dict"/\(∀b,aU a=.ref b->∃ob,s.heap.get? b=Za ob/\ob.dict=Zb)/\(a==dY)=false:=by
 rcases d with⟨Ra,e⟩|⟨Ra,e⟩
 .obtain⟨_,hd,vs,_,dd⟩:=vt I.Ye e;refine⟨dd.typeIs,λb q=>?_,hd⟩;cases q;obtain⟨ob,_,_,h1,h2,_⟩:=dd;exact⟨ob,h1,h2.2.1⟩
 .obtain⟨_,hd,xs,_,dd⟩:=BN I.Ye e;refine⟨dd.typeIs,λb q=>?_,hd⟩;cases q;obtain⟨ob,_,_,h1,h2,_⟩:=dd;exact⟨ob,h1,h2.2.1⟩
section
variable{X:Cx}{Q9:List (ag×Obj)}{O:St}{H:Hp}{s:au}{a:ag}{y d:V}{u r:ae}{o:Option V}{A:bX}{E:ae->au->Prop}
def QN(hu:A.units+1<fj)(I:Inv X Q9 O H s)(g:Y3 H a y o)(ry:RelV y u)(rd:RelV d r)(h:∀w' s',Inv X Q9 O H s'->RelV (o.getD d) w'->Q w' s') :
  aO (model X.prog X.w) A (call (.builtin "dict.get") [.ref a,u,r]) Q E s:=by
 rcases g with⟨Ra,k,e,ey,l⟩|⟨Ra,k,b,e,ey,eb,l⟩
 .subst ey;obtain⟨z,hd,vs,rel,dd⟩:=vt I.Ye e;refine jL gW dd.typeIs ki (jW _ _ _) (meets_dict_get_default (nN X.prog X.w) a (yA ry) hd r) ⟨_,dd.mapOf,h _ _ (I.tok _) ?_⟩;rw[l];exact(rel.val k).getD rd
 .subst ey;cases(ry);obtain⟨z,hd,xs,rel,dd⟩:=BN I.Ye e;refine jL gW dd.typeIs ki (jW _ _ _) (meetsH_dict_get_default (i8 (nN X.prog X.w)) a b hd r) ⟨fz hu,k,xs,yN I.Ye eb,dd,h _ _ (I.tok _) ?_⟩;rw[l];exact(rel.val k).getD rd
end
def La(td ty tx:TE):TE:=λO H Q=>td O H λx H1=>∃a,x=.ref a/\IsD H1 a/\ty O H1 λy H2=>tx O H2 λz H3=>∃o,Y3 H3 a y o/\Q (o.getD z) H3
def Pd(td ty:TE):TE:=λO H Q=>td O H λx H1=>∃a,x=.ref a/\IsD H1 a/\ty O H1 λy H2=>∃Ra k v,H2 a=Za (.dK Ra)/\y=kV k/\pE Ra k=Za v/\Q v (upd H2 a (.dK (yD Ra k)))
section
variable{X:Cx}{o e f:a7}{Rc Rb:Pos}{td ty tx:TE}
def Au(hu:X.A.units+1<fj)(ho:PE X o td)(he:PE X e ty)(hf:PE X f tx)(m:M2 X o "get" Rc e f Rb):PE X (.Call (.Attribute o "get" Rc) [e,f] [] Rb) (La td ty tx):=by
 refine λQ9 s O H Q I h=>wpAny_Call_method m.base m.few m.line gD gW PySem.F.type_dict_get (Yq (ho Q9 s O H _ I h) λu s1=>e4 λx H1 I1 rx ⟨a,ex,d,q1⟩=>?_);subst ex;obtain rfl:u=aU a:=rx;obtain⟨t1,t2,_⟩:=GG I1 d;refine⟨t1,t2,?_⟩;rw[m.trees];refine fk rfl (fQ (eQ (Yq (he Q9 s1 O H1 _ I1 q1) λiv s2=>e4 λy H2 I2 ry q2 =>
  eQ (Yq (hf Q9 s2 O H2 _ I2 q2) λfv s3=>e4 λz H3 I3 rz ⟨ov,g,q3⟩=>gC ?_))))
 exact QN hu I3 g ry rz λw' s4 I4 RP=>⟨_,H3,I4,RP,q3⟩
def EZ(ho:PE X o td)(he:PE X e ty)(m:M1 X o "pop" Rc e Rb):PE X (.Call (.Attribute o "pop" Rc) [e] [] Rb) (Pd td ty):=by refine λQ9 s O H Q I h=>wpAny_Call_method m.base m.few m.line gD ky PySem.F.type_dict_pop (Yq (ho Q9 s O H _ I h) λu s1=>e4 λx H1 I1 rx ⟨a,ex,d,q1⟩=>?_);subst ex;obtain rfl:u=aU a:=rx;obtain⟨t1,t2,_⟩:=GG I1 d;refine⟨t1,t2,?_⟩;rw[m.trees];refine fk rfl (fQ (eQ (Yq (he Q9 s1 O H1 _ I1 q1) λiv s2=>e4 λy H2 I2 ry ⟨Ra,k,v,ea,ey,l,q2⟩=>gC ?_)));subst ey;exact ÁK I2 ea ry l (.inl rfl) λw' s3 I3 RP=>⟨v,_,I3,RP,q2⟩
end
end L2
namespace Att
open PySem PySem.W PySem.Calls PyProof.Rows
def yB:∀(ns:List Int)(vs:List ae),WellAll P h vs (ns.map iA)->IntsAre vs ns:=by
 intro ns;induction ns with
 |nil =>
  intro vs w;rw[cT] at w;cases w;exact .nil
 |cons n ns ih =>
  intro vs w;rw[am] at w;cases w with
  |cons a b =>
   cases a;exact .cons _ _ (ih _ b)
def Ia{l:gJ}{n}(hn:l.most=Za n){P:Params}{h}{args}{T8}(Tx:l.row.toRowW.claim.pre args=true)(W6:WellAll P h T8 args) :
  ∃a vs ns,T8=[aU a]/\args=[WData.list (ns.map iA)]/\h.get? a=Za { cls:=.type "list",data:=.seq vs.toArray }/\IntsAre vs ns/\ns.length<=n:=by
 have hsh:=(pre_splitW Tx).1;have hc:l.pre.holds [] { args:=args }=true:=(pre_splitW Tx).2;obtain⟨d,r,rfl,h1,h2⟩:=hasAllW_cons hsh;obtain rfl:=hasAllW_nil h2;obtain⟨xs,rfl,h3⟩:=hasW_list h1;obtain⟨ns,rfl⟩:=items_int h3;have Re:ns.length<=n:=by
  have h4:(WTm.not (.lt (.lit (.int n)) (.len (.arg 0)))).holds [] { args:=[.list (ns.map .int)] }=true:=by have h4:=(holds_andW hc).1;rw[hn] at h4;exact h4
  have h5:=condW_of h4 (w_not (w_lt w_lit (w_len_list (w_arg rfl))))
  grind
 cases W6 with
 |cons w1 w2 =>
  cases w2;cases w1 with
  |list ho UA=>exact⟨_,_,ns,rfl,rfl,ho,yB ns _ UA,Re⟩
def Ij(l:gJ)(args):l.row.toRowW.claim.post args (.bool true) args=true :=
 postW_of
  (show WShape.has [] (.bool true) .bool=true by first|rfl|decide|simp[WShape.has,WShape.arms,WShape.armsAll])
  (w_eq_bool (w_res rfl) w_lit) rfl
end Att
namespace L2
open PySem PySem.Spec PyProof.Rows
theorem BX:∀{vs:List ae}{ns:List Int},IntsAre vs ns->Vals (ns.map V.int) vs
 |_,_,.nil=>.nil
 |_,_,.cons n t h=>.cons ⟨t,rfl⟩ (BX h)
def OA(H:Hp):Prop:=∀b,H b=Zb\/∃o xs,H b=Za (.YQ o (.lst xs))
def Km{P}{w}{K}{mg mb}{CX:Ũ}{k}{fa a}{fd}{x}{sp:Sp}{Rp}{vs}{ns}(KX:K.In Rp.heap)(SV:Rp.heap.Ns aV mg)(hb:Rp.heap.Ns jp mb)(hbb:∀x:Str,x≠"__name__"->mb x=bu x)(Xj:Rp.heap.NoLimit)(hg:Rp.gens=#[])(ha:Rp.heap.get? a=Za { cls:=.type "list",data:=.seq vs.toArray })(hi:IntsAre vs ns)(hl:ns.length<=aG)(hr:Yp k jK)(F:∀base:bc,K.In base->base.Ns aV mg->Yt P w K mg base CX k fa fd [x] sp)(VH:∀(s:au)(u:ae),jR s fd ⟨[u],[]⟩ [(x,u)])(Tp:∀H:Hp,OA H->YO K H a (ns.map V.int)->sp [.ref a] H (λv _=>v=.bl true) λ_ _ _=>False)(XQ:∀H e s',CX [] H Rp (λ_ _ _=>False) e s'->False) :
  eP (model P w) jK (.call (.ref fa) ⟨[.ref a],[]⟩) (λr s'=>r=.ok (.ret (.bool true))/\OldK Rp.heap s'.heap/\s'.os=Rp.os/\gZ s'.gens) Rp:=by
 have rv:=BX hi;have WZ:=hi.length;have VW:∀H:Hp,OA H->YO K H a (ns.map V.int)->Ë P w H Rp.heap->(∀b,H b≠Zb->b=a)->(H a≠Zb->K.lookup a=Zb) ->
   eP (model P w) jK (.call (.ref fa) ⟨[.ref a],[]⟩) (λr s'=>r=.ok (.ret (.bool true))/\OldK Rp.heap s'.heap/\s'.os=Rp.os/\gZ s'.gens) Rp:=by
  intro H hO hS Ye hA hK;have SN:∀{b:ag}{o:Obj},Rp.heap.get? b=Za o->H b=Zb->(Hq Rp.heap H).get? b=Za o:=λe n=>Kr e n;have Va:∀{b:ag}{o:Obj}{es:Array DictEntry}{ep:Nat},Rp.heap.get? b=Za o->o.data=.dict es ep->H b=none:=λ{b o es ep} e d=>by
   grind
  have V7:∀{b:ag}{m:Str->Option ae},Rp.heap.Ns b m->(Hq Rp.heap H).Ns b m:=λ{b m} ⟨o,es,ep,e,d,r⟩=>⟨o,es,ep,SN e (Va e d),d,r⟩;have hKb:=λb o e=>SN (KX b o e) (by
   cases q:H b with
   |none=>rfl
   |some u =>
    have e':=hA b (by rw[q];simp);subst e';rw[hK (by rw[q];simp)] at e;cases e)
  have hM:Mod K mg (Hq Rp.heap H):=⟨hKb,V7 SV,⟨mb,V7 hb,hbb⟩,let⟨mc,h1,h2⟩:=Xj;⟨mc,V7 h1,h2⟩⟩;have e0:ŧ P w K mg (Hq Rp.heap H) jK [] Rp H:=⟨rfl,hM,λb o e=>Nw e,ji (IM _ _),trivial,λb hb=>absurd (show b∈([]:List ag) from hb) (by simp),Ye,.of_eq hg⟩;refine fM ((F _ hKb (V7 SV)).run jK [] Rp H ⟨[.ref a],[]⟩ [.ref a] [.ref a] _ _ hr e0 (VH Rp (.ref a)) (.cons rfl .nil) (Tp H hO hS)) λr s' h=>?_;cases r with
  |error e=>exact(XQ H e s' h).elim
  |ok fl =>
   cases fl with
   |next=>exact bo h
   |brk=>exact bo h
   |cont=>exact bo h
   |ret u =>
    obtain⟨v,H',os,bare,un,Xb,r',q⟩:=h;have q':=q;subst q';obtain rfl:u=Value.bool true:=r';refine⟨rfl,OldK.of_keep λb o e=>?_,os,bare⟩;cases q:H b with
    |none=>exact un.keep b o e q (λz=>absurd (show b∈([]:List ag) from z) (by simp)) (by simp)
    |some u =>
     obtain z|⟨ob,xs,z⟩:=hO b
     .grind
     .have z2:=un.ZF b ob _ z;obtain⟨e1,_⟩:=Ye b _ z;obtain⟨e2,_⟩:=Xb b _ z2
      grind
 cases hk:K.lookup a with
 |some o =>
  have e:=KX a o hk;rw[ha] at e;cases e;refine VW (λ_=>Zb) (λ_=>.inl rfl) (.inr ⟨_,vs.toArray,_,hk,rfl,rfl,rfl,by rw[bj,WZ];exact hl,by simpa using rv⟩) (λb u z=>by have z':=z;cases z') (λb z=>absurd rfl z) λz=>absurd rfl z
 |none =>
  refine VW (λb=>if b=a then Za (.YQ { cls:=.type "list",data:=.seq vs.toArray } (.lst (ns.map V.int))) else Zb) (λb=>?_) (.inl (.inr ⟨{ cls:=.type "list",data:=.seq vs.toArray },Zc rfl⟩)) (λb u z=>?_) (λb z=>?_) λ_=>hk
  .grind
  .by_cases hb:b=a
   .have z':=(Zc hb).symm.trans z;cases z';subst hb;exact⟨ha,by rw[ac];exact hl,vs,_,rv,ha⟩
   .grind
  .grind
def oo(s:bK)(j:Nat):bK:=match s with
 |.ClassDef _ _ _ body _ _ _ _ _ _ _=>body.getD j (.Pass ⟨0,0,0,0⟩)
 |_=>.Pass ⟨0,0,0,0⟩
def oT(s:bK):kl:=match s with
 |.FunctionDef _ a _ _ _ _ _ _ _ _=>a
 |_=>{ posonlyargs:=[],args:=[],vararg:=Zb,kwonlyargs:=[],kw_defaults:=[],kwarg:=Zb,defaults:=[] }
def ou(s:bK):List bK:=match s with
 |.FunctionDef _ _ b _ _ _ _ _ _ _=>b
 |_=>[]
def mC(s:bK):di:=match s with
 |.FunctionDef _ _ _ _ _ _ sc _ _ _=>sc
 |_=>{ kind:=.function,names:=[],isGenerator:=false,isCoroutine:=false }
abbrev E0:XK:=λ_ _ _=>False
structure Z'(K:aa)(x qual:Str)(st:bK)(f:ag)(fd:cg):Prop where
 ex:∃(oc:ae)(od:Option ag)(kV Si pm:ae)(an:Option ag)(Rk ct:ae)(Tt:Array (Option ae)),
  fd=bY x qual (oT st) (ou st) (mC st) .none kV Si pm an Rk ct/\K.lookup f=Za ⟨oc,od,.func fd,Tt⟩/\f6 K Rk qual=true
 kp:bV K (.ref f)=true
section
variable{K:aa}
def Z'.binds{x qual}{st}{f}{fd}{ps}(F:Z' K x qual st f fd)(h:∀(kV Si pm:ae)(an:Option ag)(Rk ct:ae)(us:List ae),us.length=ps.length->gg (bY x qual (oT st) (ou st) (mC st) .none kV Si pm an Rk ct) ⟨us,[]⟩=pure (ps.zip us)):Binds K fd ps []:=by
 obtain⟨oc,od,kV,Si,pm,an,Rk,ct,Tt,rfl,lk,R5⟩:=F.ex;exact .all (h kV Si pm an Rk ct)
def LD{x qual}{st}{f}{oc}{od an}{Tt:Array (Option ae)}{kV Si pm Rk ct}(l:K.lookup f=Za ⟨oc,od,.func (bY x qual (oT st) (ou st) (mC st) .none kV Si pm an Rk ct),Tt⟩)(c:f6 K Rk qual=true)(k:bV K (.ref f)=true):Z' K x qual st f (bY x qual (oT st) (ou st) (mC st) .none kV Si pm an Rk ct):=⟨⟨oc,od,kV,Si,pm,an,Rk,ct,Tt,rfl,l,c⟩,k⟩
end
def oS(hr:Yp k A):A.units+1<fj:=aX (l7 (by grind) _) hr.units
section
variable{X:Cx}
def pv(i)(hN:X.N[i]?=Za x:=by rfl)(hv:Vis X.env.scope x:=by first|exact eB rfl|exact gM (eB rfl)|exact gM (gM rfl))(hd:Î x:=by decide)(R5:(x==("__classdict__":Str))=false:=by decide):PE X (.Name x pos) (Jp i):=DQ hN hv hd R5
def CG:YM X (.builtin "len") (λxs H Q=>∃a Ra,xs=[V.ref a]/\H a=Za (.dK Ra)/\Q (.int Ra.length) H):=by
 rintro Q9 s O H xs us Q I r ⟨a,Ra,rfl,ha,q⟩
 obtain⟨u,rfl,rfl⟩:=re r;exact O1 I (.inl ha) λt s' I'=>⟨.int Ra.length,H,I',⟨t,rfl⟩,q⟩
end
def NK{A B:Prop}(h:B):if false=true then A else B:=by grind
def NJ{A B:Prop}(h:A):if true=true then A else B:=by grind
def vY{c A B:Prop}[Decidable c](h1:c->A)(h2:¬c->B):if c then A else B:=by grind
def YH(H H':Hp):Prop:=∀b o,H b=Za o->H' b=Za o
def YH.trans(a:YH H H1)(b:YH H1 H2):YH H H2:=λc o h=>b c o (a c o h)
def YH.free(e:YH H H')(h:H' l=Option.none):H l=Option.none:=by
 cases q:H l with
 |none=>rfl
 |some o =>
  rw[e l o q] at h;cases h
def YH.seq{K}{H H'}{a}{xs}(e:YH H H')(h:YO K H a xs):YO K H' a xs:=by
 rcases h with(h|⟨o,h⟩)|h
 .exact .inl (.inl (e _ _ h))
 .exact .inl (.inr ⟨o,e _ _ h⟩)
 .exact .inr h
section
variable{κ:Type}[DecidableEq κ]
def zF:∀{l:List κ}{k:κ},l.Nodup->¬k∈l->(l++[k]).Nodup
 |[],k,_,_=>by simp
 |a::r,k,h,hk=>by
  obtain⟨h1,h2⟩:=aL.mp h
  grind
end
def ff:(bP==bP)=true:=rfl
noncomputable def rC(cells:List (Str×ag)):List (Str×iz)->List (Str×ag)->List (Str×ag)
 |[],cs=>cs
 |(n,k)::r,cs=>rC cells r (if k==.free then(n,(cells.lookup n).getD 0)::cs else cs)
theorem xX(env:Env):∀(names:List (Str×iz))(cs:List (Str×ag)),(∀y∈names,y.2=.free->∃c,env.cells.lookup y.1=Za c) ->
  (forIn names cs λ(x:Str×iz)(r:List (Str×ag))=>match x with
   |(name,kind)=>if(kind==.free)=true then(do let c <-cellOf env name;pure (eE ((name,c)::r))) else pure (eE r):Sem (List (Str×ag)))=pure (rC env.cells names cs)
 |[],cs,_=>rfl
 |(n,k)::r,cs,h=>by
  rw[List.forIn_cons];by_cases hk:k=.free
  .subst hk;obtain⟨c,hc⟩:=h (n,.free) al rfl;have hc:=hc;have ih:=xX env r ((n,c)::cs) λy hy=>h y (ah _ hy);have e1:rC env.cells ((n,bP)::r) cs=rC env.cells r ((n,c)::cs):=by
    show rC env.cells r (if(bP==bP)=true then(n,(env.cells.lookup n).getD 0)::cs else cs)=_
    simp_all
   rw[e1,<-ih];have e2:cellOf env n=pure c:=by unfold cellOf;rw[hc]
   simp_all
  .have hb:(k==bP)=false:=by simpa using hk
   have ih:=xX env r cs λy hy=>h y (ah _ hy);have e1:rC env.cells ((n,k)::r) cs=rC env.cells r cs:=by
    show rC env.cells r (if(k==bP)=true then(n,(env.cells.lookup n).getD 0)::cs else cs)=_
    simp_all
   simp_all
def qi(h:∀y∈scope.names,y.2=.free->∃c,env.cells.lookup y.1=Za c):closureFor scope env=pure (rC env.cells scope.names []):=by have e:=xX env scope.names [] h;refine Eq.trans ?_ (congrArg (λm:Sem (List (Str×ag))=>m >>= pure) e);rfl
theorem Ff:∀(names:List (Str×iz))(cs:List (Str×ag)),(∀z∈names,z.2=.free->∃c,cells.lookup z.1=Za c)->(∀z d,cs.lookup z=Za d->cells.lookup z=Za d) ->
  (rC cells names cs).lookup y=Za c->cells.lookup y=Za c
 |[],cs,_,VG,h=>VG y c h
 |(n,k)::r,cs,hf,VG,h=>by
  refine Ff r _ (λz hz=>hf z (ah _ hz)) ?_ h;by_cases hk:k=.free
  .subst hk;obtain⟨d,hd⟩:=hf (n,.free) al rfl
   grind
  .grind
theorem Ac:∀(names:List (Str×iz))(cs:List (Str×ag)),(cs.lookup y).isSome=true->((rC cells names cs).lookup y).isSome=true
 |[],cs,h=>h
 |(n,k)::r,cs,h=>by
  refine Ac r _ ?_;by_cases hk:(k==bP)=true
  .rw[Zc hk,cB];cases z:(y==n)
   .exact h
   .rfl
  .rw[Zd hk];exact h
theorem CF:∀(names:List (Str×iz))(cs:List (Str×ag)),(y,bP)∈names->((rC cells names cs).lookup y).isSome=true
 |(n,k)::r,cs,h=>by
  obtain e|e:=ao.mp h
  .cases e;refine Ac r _ ?_;rw[Zc ff,cB];simp
  .exact CF r _ e
noncomputable def Õ(X:Cx)(scope:di)(cl:List (Str×ag))(C:ag)(Nb:List Str)(Rg:au)(Rh:Hp)(fp:List ag):Cx where
 prog:=X.prog
 w:=X.w
 K:=X.K
 mg:=X.mg
 base:=X.base
 A:=X.A
 N:=Nb
 Y0:=Rg
 Ha0:=Rh
 env:=compEnvC scope cl C X.env
 outer:=X.stack
 stack:=X.stack
 ex:=fp
 fn:=λ_=>false
 calm:=true
 pn:=[]
 xe:=λ_ _=>False
structure Y8(N:List Str)(VP:di)(scope:di)(x:Str)(fr:List Str)(ix:List Nat):Prop where
 kind:scope.kind=.function
 cell:∀y∈scope.names,y.2≠.cell
 loc:scope.names.lookup x=Za .local
 nm:∀y∈scope.names,y.2=.local->scope.names.lookup y.1=Za .local
 free:∀y∈scope.names,y.2=.free->VP.names.lookup y.1=Za .cell
 nd:(x::fr).Nodup
 idx:∀p∈fr.zip ix,N[p.2]?=Za p.1
 Zt:∀y∈fr,scope.names.lookup y=Za .free/\VP.names.lookup y=Za .cell
 len:ix.length=fr.length
def cok{N:List Str}{e c:di}{x:Str}{fr:List Str}{ix:List Nat}(h1:c.kind=.function:=by rfl)(h2:∀y∈c.names,y.2≠.cell:=by decide +kernel)(h3:c.names.lookup x=Za .local:=by rfl)(h4:∀y∈c.names,y.2=.local->c.names.lookup y.1=Za .local:=by decide +kernel)(h5:∀y∈c.names,y.2=.free->e.names.lookup y.1=Za .cell:=by decide +kernel)(h6:(x::fr).Nodup:=by decide +kernel)(h7:∀p∈fr.zip ix,N[p.2]?=Za p.1:=by decide +kernel)(h8:∀y∈fr,c.names.lookup y=Za .free/\e.names.lookup y=Za .cell:=by decide +kernel)(h9:ix.length=fr.length:=by rfl):Y8 N e c x fr ix:=⟨h1,h2,h3,h4,h5,h6,h7,h8,h9⟩
def Op{X:Cx}{N ps:List Str}{e c:di}{x:Str}{fr:List Str}{ix:List Nat}(S:K' N ps e)(h0:X.N=N:=by rfl)(VM:X.env.scope=e:=by rfl)(h1:c.kind=.function:=by rfl)(h2:∀y∈c.names,y.2≠.cell:=by decide +kernel)(h3:c.names.lookup x=Za .local:=by rfl)(h4:∀y∈c.names,y.2=.local->c.names.lookup y.1=Za .local:=by decide +kernel)(h5:∀y∈c.names,y.2=.free->e.names.lookup y.1=Za .cell:=by decide +kernel)(h6:(x::fr).Nodup:=by decide +kernel)(h7:∀p∈fr.zip ix,N[p.2]?=Za p.1:=by decide +kernel)(h8:∀y∈fr,c.names.lookup y=Za .free/\e.names.lookup y=Za .cell:=by decide +kernel)(h9:ix.length=fr.length:=by rfl):Y8 X.N X.env.scope c x fr ix:=by rw[h0,VM];exact⟨h1,h2,h3,h4,h5,h6,h7,h8,h9⟩
noncomputable def Zo(ix:List Nat)(O:St):St:=ix.map λi=>(O[i]?).getD Zb
def Gk(X:Cx)(Rt:List a7)(t:TT):Prop :=
 ∀(Q9:List (ag×Obj))(s:au)(O:St)(H:Hp)(Q:Bool->Hp->Prop),Inv X Q9 O H s->t O H Q ->
  aO (model X.prog X.w) X.A (forIn Rt true λc r=>if r=true then do let ok <-isTrue c X.env (eval c X.env);pure (eE ok) else pure (eE r)) (TP X Q9 O Q) X.xe s
def ÀK:TT:=λ_ H Q=>Q true H
def At:Gk X [] ÀK:=λQ9 s O H Q I h=>aE ⟨H,I,h⟩
def JT(h:PT X c t):Gk X [c] t:=by intro Q9 s O H Q I hq;rw[List.forIn_cons];apply af;refine af (Yq (h Q9 s O H Q I hq) λb s1 h1=>aE ?_);show aO _ _ (forIn [] b _) _ _ _;exact aE h1
def ď(J:It)(tc:TT)(te:TE)(cap:St)(D:ag)(H1:Hp)(Q:VK):Prop :=
 ∃Pv:Nat->Nat->List V->Hp->Prop,(∃m,Pv 0 m [] (upd H1 D (.lst [])))/\∀i m ys H2,Pv i m ys H2 ->
  (J.stop i H2/\H2 D=Za (.lst ys)/\Q (.ref D) H2)\/(J.go i H2/\∀x H3,J.yld i H2 x H3->tc (Za x::cap) H3 λb H4=>if b=true then
   te (Za x::cap) H4 λv H5=>H5 D=Za (.lst ys)/\ys.length<aG/\∃m',m'<m/\Pv (i+1) m' (ys++[v]) (upd H5 D (.lst (ys++[v])))
   else ∃m',m'<m/\Pv (i+1) m' ys H4)
def Jh(wi:TI)(ix:List Nat)(tc:TT)(te:TE):TE:=λO H Q=>wi O H λJ H1=>∀D,H1 D=Zb->ď J tc te (Zo ix O) D H1 Q
section
variable{X:Cx}{scope:di}{ix:List Nat}
theorem qI{env:Env}(hk:env.scope.kind=.function):∀{names:List (Str×iz)}{y:Str},names.lookup y=Za .free->env.scope.names.lookup y=Za .cell ->
  (names.map λ(n,k)=>if(k==bP&&env.scope.kind==.function&&env.kindOf n==Za .cell) then(n,iy) else(n,k)).lookup y=Za .cell
 |[],_,h,_=>by simp at h
 |(n,k)::r,y,h,hc=>by
  have ih:=@qI env hk r y;show gF y ((if(k==bP&&env.scope.kind==.function&&env.kindOf n==Za .cell)=true then(n,iy) else(n,k))::_)=_;cases hx:y==n with
  |true =>
   simp[cB,hx] at h;have e:y=n:=by simpa using hx
   have e2:env.kindOf y=Za .cell:=hc
   simp_all
  |false =>
   simp[cB,hx] at h;split
   .simp only[cB,hx];exact ih h hc
   .simp only[cB,hx];exact ih h hc
def KS{ix:List Nat}{O:St}{k:Nat}{v:V}(h:(Zo ix O)[k]?=Za (Za v)):∃i,ix[k]?=Za i/\O[i]?=Za (Za v):=by
 unfold Zo at h;rw[aF] at h;cases e:ix[k]? with
 |none=>rw[e] at h;cases h
 |some i =>
  rw[e] at h;refine⟨i,rfl,?_⟩;have h2:(O[i]?).getD Zb=Za v:=bL h;cases q:O[i]? with
  |none=>rw[q] at h2;cases h2
  |some o=>rw[q] at h2;exact congrArg Za h2
def O7(X:Cx)(Q9:List (ag×Obj))(C:ag):Prop:=C≠X.env.locals/\X.Y0.heap.objs.size<=C/\(∀y c,X.env.cells.lookup y=Za c->c≠C)/\∀p∈X.pn++Q9,p.1≠C
end
section
variable{prog:aK}{w:aT}{A:bX}{R:ju->au->Prop}{s:au}
def Ga(I:Nat->au->Prop)(Sw:∀n s,I n s->aO (model prog w) A (pyNext it) (λr Rp=>match r with
   |none=>R (.ok .next) Rp
   |some v=>aO (model prog w) A (kD Sd it v) (λ_ Y0=>aO (model prog w) A (assign Sd env v) (λ_ SB =>
     aO (model prog w) A (forIn Rt true λc r=>if r=true then do let ok <-isTrue c env (eval c env);pure (eE ok) else pure (eE r)) (λok Rg =>
      if ok=true then aO (model prog w) A (eval Rx env) (λx UI =>
       aO (model prog w) A (call (.builtin "list.append") [Ru,x]) (λ_ sa5=>∃m,m<n/\I m sa5) (kL (model prog w) A env λe s'=>R (.error e) s') UI) (kL (model prog w) A env λe s'=>R (.error e) s') Rg
      else ∃m,m<n/\I m Rg) (kL (model prog w) A env λe s'=>R (.error e) s') SB) (kL (model prog w) A env λe s'=>R (.error e) s') Y0) (kL (model prog w) A env λe s'=>R (.error e) s') Rp) (kL (model prog w) A env λe s'=>R (.error e) s') s)(n:Nat)(h:I n s) :
  eP (model prog w) A (.compLoop (.ListComp Rx [⟨Sd,iter,Rt,0⟩] scope pos) 0 it Ru env) R s:=by
 refine codeAny_loop rfl I (λn s hI=>?_) n h;apply wpAny_noted;rw[compTurn_list];refine af (ej (af (a6 (Sw n s hI) (λr Rp VL=>?_) λ_ _ h'=>h')));cases r with
 |none=>exact aE VL
 |some v =>
  refine af (a6 VL (λ_ Y0 h₀=>?_) λ_ _ h'=>h');refine af (a6 h₀ (λ_ SB Vy=>af (a6 Vy (λok Rg UV=>?_) λ_ _ h'=>h')) λ_ _ h'=>h');cases ok with
  |false=>exact aE ⟨rfl,UV⟩
  |true =>
   exact af (af (a6 UV (λx UI ha4=>af (a6 ha4 (λ_ sa5 hb5=>aE (aE ⟨rfl,hb5⟩)) λ_ _ h'=>h')) λ_ _ h'=>h'))
end
structure É(N:List Str)(VP:di)(scope:di)(xs fr:List Str)(ix:List Nat):Prop where
 kind:scope.kind=.function
 cell:∀y∈scope.names,y.2≠.cell
 nm:∀y∈scope.names,y.2=.local->scope.names.lookup y.1=Za .local
 free:∀y∈scope.names,y.2=.free->VP.names.lookup y.1=Za .cell
 nd:(xs++fr).Nodup
 idx:∀p∈fr.zip ix,N[p.2]?=Za p.1
 Zt:∀y∈fr,scope.names.lookup y=Za .free/\VP.names.lookup y=Za .cell
 len:ix.length=fr.length
def ÁN{X:Cx}{N ps:List Str}{e c:di}{xs fr:List Str}{ix:List Nat}(S:K' N ps e)(h0:X.N=N:=by rfl)(VM:X.env.scope=e:=by rfl)(h1:c.kind=.function:=by rfl)(h2:∀y∈c.names,y.2≠.cell:=by decide +kernel)(h4:∀y∈c.names,y.2=.local->c.names.lookup y.1=Za .local:=by decide +kernel)(h5:∀y∈c.names,y.2=.free->e.names.lookup y.1=Za .cell:=by decide +kernel)(h6:(xs++fr).Nodup:=by decide +kernel)(h7:∀p∈fr.zip ix,N[p.2]?=Za p.1:=by decide +kernel)(h8:∀y∈fr,c.names.lookup y=Za .free/\e.names.lookup y=Za .cell:=by decide +kernel)(h9:ix.length=fr.length:=by rfl):É X.N X.env.scope c xs fr ix:=by rw[h0,VM];exact⟨h1,h2,h4,h5,h6,h7,h8,h9⟩
def Ee(J:It)(gt:TG)(k:Nat)(tc:TT)(te:TE)(cap:St)(D:ag)(H1:Hp)(Q:VK):Prop :=
 ∃Pv:Nat->Nat->List V->St->Hp->Prop,(∃m,Pv 0 m [] (aQ k Zb++cap) (upd H1 D (.lst [])))/\∀i m ys Ė H2,Pv i m ys Ė H2 ->
  (J.stop i H2/\H2 D=Za (.lst ys)/\Q (.ref D) H2)\/(J.go i H2/\∀x H3,J.yld i H2 x H3->gt x Ė H3 λĕ H3'=>tc ĕ H3' λb H4=>if b=true then
   te ĕ H4 λv H5=>H5 D=Za (.lst ys)/\ys.length<aG/\∃m',m'<m/\Pv (i+1) m' (ys++[v]) ĕ (upd H5 D (.lst (ys++[v])))
   else ∃m',m'<m/\Pv (i+1) m' ys ĕ H4)
def Go(wi:TI)(ix:List Nat)(gt:TG)(k:Nat)(tc:TT)(te:TE):TE:=λO H Q=>wi O H λJ H1=>∀D,H1 D=Zb->Ee J gt k tc te (Zo ix O) D H1 Q
section
variable{X:Cx}{Rx iter tg:a7}{Rt:List a7}{pos:Pos}{scope:di}{tc:TT}{te:TE}{gt:TG}{xs fr:List Str}{ix:List Nat}
def wc{PR:ae->ag->ju->au->Prop}{Q9:List (ag×Obj)}{O:St}{H2:Hp}{s2:au}{it:ag}{fp:List ag}{tn:Nat->bc->Prop}{J:It}{Q:VK}(hc:X.calm=true)(S:É X.N X.env.scope scope xs fr ix)(hg:∀cl C Rg Rh fp,PG (Õ X scope cl C (xs++fr) Rg Rh fp) tg gt)(ht:∀cl C Rg Rh fp,Gk (Õ X scope cl C (xs++fr) Rg Rh fp) Rt tc)(he:∀cl C Rg Rh fp,PE (Õ X scope cl C (xs++fr) Rg Rh fp) Rx te)(Rj:∀y∈scope.names,y.2=.free->∃c,X.env.cells.lookup y.1=Za c)(I2:Inv X Q9 O H2 s2)(T:Turn X.prog X.w X.K tg J fp it tn)(R4:tn 0 s2.heap)(f2:∀b∈fp,Aj X Q9 H2 b)(q2:∀D,H2 D=Zb->Ee J gt xs.length tc te (Zo ix O) D H2 Q)(Uu:∀D C H' s',Inv X Q9 O H' s'->H' C=Zb->O7 X Q9 C->(∃m,s'.heap.Ns C m)->Q (.ref D) H'->PR (.ref D) C (.ok .next) s') :
  aO (model X.prog X.w) X.A (newList []) (λRu Rg=>aO (model X.prog X.w) X.A (newFunctionEnv scope X.env.globals (rC X.env.cells scope.names []) [] X.env.qual Zb .none (Za X.env)) (λTo UI =>
   eP (model X.prog X.w) X.A (.compStart (.ListComp Rx [⟨tg,iter,Rt,0⟩] scope pos) 0 (.ref it) Ru { To with scope:=relabel scope X.env }) (PR Ru To.locals) UI) X.xe Rg) X.xe s2:=by
 refine dC ?_;have hD:H2 s2.heap.objs.size=none:=I2.Ye.fresh (ak _);have I3:Inv X Q9 O (upd H2 s2.heap.objs.size (.lst [])) { s2 with heap:=s2.heap.push { cls:=.type "list",dict:=Zb,data:=.seq ([]:List ae).toArray } } :=
  I2.Àw (its:=[]) (t':=s2.toks) (.nil) (aY _)
 obtain⟨Pv,⟨m0,p0⟩,Sw⟩:=q2 s2.heap.objs.size hD;generalize hD':s2.heap.objs.size=D at *;generalize hs3:({ s2 with heap:=s2.heap.push { cls:=.type "list",dict:=Zb,data:=.seq ([]:List ae).toArray } }:au)=s3 at *;have Vt:∀b o,s2.heap.get? b=Za o->s3.heap.get? b=Za o:=λb o e=>by rw[<-hs3];exact aj _ e
 have hH3:∀b,b≠D->(upd H2 D (.lst [])) b=H2 b:=λb hb=>mq hb;have f3:∀b∈fp,Aj X Q9 (upd H2 D (.lst [])) b/\b<s3.heap.objs.size:=λb hb=>by obtain⟨o,e,_⟩:=T.obj _ _ R4 b hb;have Rr:=aw e;refine⟨⟨?_,(f2 b hb).2⟩,aw (Vt b o e)⟩;rw[hH3 b (by rw[<-hD'];exact ay Rr)];exact(f2 b hb).1
 have U5:tn 0 s3.heap:=T.keep _ _ _ R4 λb hb o e=>Vt b o e;refine wpAny_newFunctionEnv S.cell (by intro y hy;simp at hy) (λh4 Xf W9=>?_) S.kind;generalize hC:s3.heap.objs.size=C at *;let X':Cx:=Õ X scope (rC X.env.cells scope.names []) C (xs++fr) s3 (upd H2 D (.lst [])) fp;have SE:∀y c,(rC X.env.cells scope.names []).lookup y=Za c->X.env.cells.lookup y=Za c:=λy c e=>Ff scope.names [] Rj (λz d hz=>by simp at hz) e;have Tn:∀y,(y,bP)∈scope.names->∃c,(rC X.env.cells scope.names []).lookup y=Za c:=λy hy=>eJ.mp (CF scope.names [] hy);have UM:∀b o,s3.heap.get? b=Za o->h4.get? b=Za o:=λb o e=>W9.extBut b o (by rw[<-hC];exact ay (aw e)) (aj _ e);have SI:∀(l:List (Str×iz)) y k,(l.map λ(n,k)=>if(k==bP&&X.env.scope.kind==.function&&X.env.kindOf n==Za .cell) then(n,iy) else(n,k)).lookup y=Za k->(k=.cell\/k=.free) ->
   (∀z∈l,z.2≠.cell)->(y,bP)∈l:=by
  intro l;induction l with
  |nil=>intro y k e _ _;simp at e
  |cons z r ih =>
   intro y k e hk hn;obtain⟨n,kz⟩:=z;rw[am] at e;by_cases hy:y=n
   .grind
   .have hb:(y==n)=false:=by simpa using hy
    refine ah _ (ih y k ?_ hk λz hz=>hn z (ah _ hz));have e:gF y ((if(kz==bP&&X.env.scope.kind==.function&&X.env.kindOf n==Za .cell)=true then(n,iy) else(n,kz))::_)=Za k:=e;by_cases hq:(kz==bP&&X.env.scope.kind==.function&&X.env.kindOf n==Za .cell)=true
    .rw[Zc hq,cB] at e;simp only[hb] at e;exact e
    .rw[Zd hq,cB] at e;simp only[hb] at e;exact e
 have ok':X'.Ok:=by
  refine⟨I3.ok.mod,S.kind,I3.ok.glob,I3.ok.blt,?_,λy z c e1 e2=>I3.ok.inj y z c (SE y c e1) (SE z c e2),λy hy=>?_,λy c e _=>(by cases e),λ_=>I3.ok.hd hc,I3.ok.frames,.inl rfl,λb hb=>⟨?_,λy c e=>(f3 b hb).1.2.2.2.2.1 y c (SE y c e)⟩,I3.bs,aJ I3.ok.bsz I3.sz,λb o e hb=>?_,λb hb z=>?_,I3.stack,I3.ó⟩
  .show s3.heap.objs.size<=C;rw[hC];exact ak _
  .obtain hy|hy:=hy
   .exact Tn y (SI scope.names y _ hy (.inl rfl) S.cell)
   .exact Tn y (SI scope.names y _ hy (.inr rfl) S.cell)
  .exact ay (f3 b hb).2
  .rcases(f3 b hb).1.2.2.2.1 with z|z
   .exact I3.ok.Ê b o e z
   .exact absurd (az (aw e) (aJ I3.ok.bsz z)) (eR _)
  .obtain z|z:=ao.mp (I3.Ĭ b z)
   .exact(f3 b hb).1.2.1 z
   .exact(f3 b hb).1.2.2.1 z
 have TK:∀{h':bc}{m:Str->Option ae},(∀b o,s3.heap.get? b=Za o->(∃v,o.data=.cell v)->h'.get? b=Za o)->∀(k:Nat)(y:Str)(v:V),fr[k]?=Za y->(Zo ix O)[k]?=Za (Za v)->∃u,RelV v u/\Look X'.env h' m y u:=by
  intro h' m hkc k y v hy hv;obtain⟨i,hix,hσ⟩:=KS hv;have W4:(y,i)∈fr.zip ix:=by apply dq (i:=k);rw[List.getElem?_zip_eq_some];exact⟨hy,hix⟩
  have hN:X.N[i]?=Za y:=S.idx (y,i) W4;obtain⟨hfr,RS⟩:=S.Zt y (dq hy);obtain⟨m3,hn3,hl3⟩:=I3.loc;obtain⟨u,ru,l⟩:=hl3 i y v hN hσ (.inr (.inl RS));refine⟨u,ru,?_⟩;rcases l with⟨kd,_⟩|⟨_,c,ec,ic⟩
  .have kd:X.env.scope.names.lookup y=Za .local:=kd;rw[RS] at kd;cases kd
  .refine .inr ⟨.inl (qI I3.ok.kind hfr RS),c,?_,?_⟩
   .obtain⟨c',e'⟩:=Tn y (dA hfr);have:=SE y c' e';rw[ec] at this;cases this;exact e'
   .obtain⟨o,ho,hd⟩:=ic;exact⟨o,hkc c o ho ⟨_,hd⟩,hd⟩
 have hNd:X'.N.Nodup:=S.nd;have WX:(aQ xs.length Zb++Zo ix O).length=X'.N.length:=by show _=(xs++fr).length;unfold Zo;rw[aZ,aZ,dU,ac,S.len]
 have I4:Inv X' [] (aQ xs.length Zb++Zo ix O) (upd H2 D (.lst [])) { s3 with heap:=h4,toks:=s3.toks+([]:List (Str×ae)).length }:=by
  refine⟨ok',rfl,I3.bare,Un.kept UM,⟨_,Xf,λk y v e1 e2 e3=>?_⟩,λy c e=>?_,?_,λy c e=>I3.Y9 y c (SE y c e),λp hp=>?_,I3.Ye.kept UM,WX⟩
  .have e1:(xs++fr)[k]?=Za y:=e1;by_cases hk:k<xs.length
   .rw[de (by rw[dU];exact hk),gO,Zc hk] at e2;cases e2
   .have hk:xs.length<=k:=fS hk;rw[cY hk] at e1;rw[cY (by rw[dU];exact hk),dU] at e2;exact TK (λb o e _=>UM b o e) (k-xs.length) y v e1 e2
  .obtain⟨v,o,ho,hd⟩:=I3.cell y c (SE y c e);exact⟨v,o,UM c o ho,hd⟩
  .exact I3.Ye.fresh (by show s3.heap.objs.size<=C;rw[hC];exact ak _)
  .exact absurd (show p∈([]:List (ag×Obj)) from hp) (by simp)
 have Sy:∀{H':Hp}{b:ag},b∈fp->H' b=Zb->Aj X' [] H' b:=λ{H' b} hb hn=>by
  refine⟨hn,?_,?_,.inl hb,λy c e=>(f3 b hb).1.2.2.2.2.1 y c (SE y c e),λp hp=>absurd (show p∈([]:List (ag×Obj)) from hp) (by simp)⟩
  .exact ay (f3 b hb).2
  .intro z;obtain z|z:=ao.mp (I3.Ĭ b z)
   .exact(f3 b hb).1.2.1 z
   .exact(f3 b hb).1.2.2.1 z
 have S6:∀b∈fp,(b∈X.ex\/X.Y0.heap.objs.size<=b)/\b≠X.env.locals/\(∀y c,X.env.cells.lookup y=Za c->c≠b)/\∀p∈X.pn++Q9,p.1≠b:=λb hb =>
  ⟨(f3 b hb).1.2.2.2.1,(f3 b hb).1.2.1,(f3 b hb).1.2.2.2.2.1,(f3 b hb).1.2.2.2.2.2⟩
 have Ry:∀{Yy:St}{H':Hp}{s':au},Inv X' [] Yy H' s'->Q (.ref D) H'->PR (.ref D) C (.ok .next) s':=λ{Yy H' s'} I' q'=>by
  obtain⟨m',Sg,_⟩:=I'.loc;have J:=I3.Àh (s':=s') (ch:=fp) I'.os I'.base I'.Ye I'.bare S6;refine Uu D C H' s' J I'.free ⟨?_,?_,λy c e=>?_,λp hp=>?_⟩ ⟨m',Sg⟩ q'
  .rw[<-hC];exact fB I3.lt
  .rw[<-hC];exact I3.sz
  .obtain⟨v,z⟩:=I3.cell y c e;rw[<-hC];exact ay z.lt
  .rw[<-hC];exact ay (aw (I3.pin p hp).1)
 have loop:eP (model X.prog X.w) X.A (.compLoop (.ListComp Rx [⟨tg,iter,Rt,0⟩] scope pos) 0 (.ref it) (.ref D) X'.env) (PR (.ref D) C) { s3 with heap:=h4,toks:=s3.toks+([]:List (Str×ae)).length }:=by
  refine Ga (λn s'=>∃i ys σ5 H',Inv X' [] σ5 H' s'/\tn i s'.heap/\(∀b∈fp,H' b=Zb)/\Pv i n ys σ5 H') ?_ m0 ⟨0,[],_,_,I4,T.keep _ _ _ U5 λb hb o e=>UM b o e,λb hb=>(f3 b hb).1.1,p0⟩
  rintro n s5 ⟨i,ys,σ5,H5,I5,st5,fr5,p5⟩
  rcases Sw i n ys σ5 H5 p5 with⟨stop,hd5,qn⟩|⟨go,step⟩
  .refine a6 (T.done X' rfl rfl rfl rfl i [] s5 _ H5 (λ_ _=>False) I5 (λb hb=>Sy hb (fr5 b hb)) st5 stop) (λr s6 ⟨hr,I6⟩=>?_) λ_ _ z=>bo z;subst hr;exact Ry I6 qn
  .refine a6 (T.item X' rfl rfl rfl rfl i [] s5 _ H5 (λ_ _=>False) I5 (λb hb=>Sy hb (fr5 b hb)) st5 go) (λr s6 ⟨u,hr,h6⟩=>?_) λ_ _ z=>bo z;subst hr;dsimp only;refine a6 h6 (λ_ s6' h6'=>?_) λ_ _ z=>bo z;obtain⟨xv,H6,I6,r6,y6,WF,fr6⟩:=h6';have I6':=I6.pinned (λb hb=>Sy hb (fr6 b hb)) (T.obj _ _ WF);refine a6 (hg _ _ _ _ _ _ s6' _ H6 xv u _ I6' r6 (step xv H6 y6)) (λ_ s7 h7=>?_) λ_ _ z=>bo z;obtain⟨ũ,H7,I7,q7⟩:=h7;refine a6 (ht _ _ _ _ _ _ s7 _ H7 _ I7 q7) (λb s8=>e3 λH8 I8 q8=>?_) λ_ _ z=>bo z;have back:∀{H9:Hp}{s9:au}{U2:List V},Inv X' ([]++Bc fp s6'.heap) ũ H9 s9->(∃m',m'<n/\Pv (i+1) m' U2 ũ H9) ->
     ∃m,m<n/\∃i ys σ5 H',Inv X' [] σ5 H' s9/\tn i s9.heap/\(∀b∈fp,H' b=Zb)/\Pv i m ys σ5 H':=λ{H9 s9 U2} I9 h9=>by
    obtain⟨m',hm,p9⟩:=h9;refine⟨m',hm,i+1,U2,_,H9,I9.Ú,T.keep _ _ _ WF λb hb o e=>(I9.pin (b,o) (aM _ (aM _ (tW hb e)))).1,λb hb=>?_,p9⟩;obtain⟨o,e,d⟩:=T.obj _ _ WF b hb;exact(I9.pin (b,o) (aM _ (aM _ (tW hb e)))).2.1
   cases b with
   |false =>
    rw[Zd bG] at q8 ⊢;exact back I8 q8
   |true =>
    rw[Zc rfl] at q8 ⊢;refine a6 (he _ _ _ _ _ _ s8 _ H8 _ I8 q8) (λw9 s9=>e4 λv9 H9 I9 r9 ⟨hd9,hz9,q9⟩=>?_) λ_ _ z=>bo z;refine a6 (Ch (X:=X') _ s9 _ H9 (.ref D) [v9] (.ref D) [w9] (λ_ H'=>H'=upd H9 D (.lst (ys++[v9]))) I9 rfl (.cons r9 .nil) ⟨D,ys,v9,rfl,rfl,hd9,hz9,rfl⟩) (λ_ VZ h10=>?_) λ_ _ z=>bo z;obtain⟨_,H10,TL,_,rfl⟩:=h10;exact back TL q9
 exact codeAny_compStart_list loop (T.self _ 0 _ _ _ (T.keep _ _ _ U5 λb hb o e=>UM b o e) loop)
end
section
variable{X:Cx}{Rx iter:a7}{Rt:List a7}{x:Str}{px pos:Pos}{scope:di}{wi:TI}{tc:TT}{te:TE}{fr:List Str}{ix:List Nat}
theorem ď.g(h:ď J tc te cap D H1 Q):Ee J (F5 0) 1 tc te cap D H1 Q:=by
 obtain⟨Pv,⟨m,p⟩,h⟩:=h;refine⟨λi m ys Ė H2=>Pv i m ys H2/\∃o,Ė=o::cap,⟨m,p,Zb,rfl⟩,λi m ys Ė H2 ⟨p,o,e⟩=>?_⟩;subst e;refine(h i m ys H2 p).imp id λ⟨g,h⟩=>⟨g,λx H3 y=>?_⟩;show tc (Za x::cap) H3 _
 simp_all
def CA{PR:ae->ag->ju->au->Prop}{Q9:List (ag×Obj)}{O:St}{H2:Hp}{s2:au}{it:ag}{fp:List ag}{tn:Nat->bc->Prop}{J:It}{Q:VK}(hc:X.calm=true)(S:Y8 X.N X.env.scope scope x fr ix)(ht:∀cl C Rg Rh fp,Gk (Õ X scope cl C (x::fr) Rg Rh fp) Rt tc)(he:∀cl C Rg Rh fp,PE (Õ X scope cl C (x::fr) Rg Rh fp) Rx te)(Rj:∀y∈scope.names,y.2=.free->∃c,X.env.cells.lookup y.1=Za c)(I2:Inv X Q9 O H2 s2)(T:Turn X.prog X.w X.K (.Name x px) J fp it tn)(R4:tn 0 s2.heap)(f2:∀b∈fp,Aj X Q9 H2 b)(q2:∀D,H2 D=Zb->ď J tc te (Zo ix O) D H2 Q)(Uu:∀D C H' s',Inv X Q9 O H' s'->H' C=Zb->O7 X Q9 C->(∃m,s'.heap.Ns C m)->Q (.ref D) H'->PR (.ref D) C (.ok .next) s') :
  aO (model X.prog X.w) X.A (newList []) (λRu Rg=>aO (model X.prog X.w) X.A (newFunctionEnv scope X.env.globals (rC X.env.cells scope.names []) [] X.env.qual Zb .none (Za X.env)) (λTo UI =>
   eP (model X.prog X.w) X.A (.compStart (.ListComp Rx [⟨.Name x px,iter,Rt,0⟩] scope pos) 0 (.ref it) Ru { To with scope:=relabel scope X.env }) (PR Ru To.locals) UI) X.xe Rg) X.xe s2 :=
 wc (xs:=[x]) hc ⟨S.kind,S.cell,S.nm,S.free,S.nd,S.idx,S.Zt,S.len⟩ (λcl C Rg Rh fp=>Hb S.nd rfl (.inl (dD S.loc)) (.inr (dD S.loc))) ht he Rj I2 T R4 f2 (λD hD=>(q2 D hD).g) Uu
def zB(hc:X.calm=true)(S:Y8 X.N X.env.scope scope x fr ix)(hi:PI X (.Name x px) iter wi)(ht:∀cl C Rg Rh fp,Gk (Õ X scope cl C (x::fr) Rg Rh fp) Rt tc)(he:∀cl C Rg Rh fp,PE (Õ X scope cl C (x::fr) Rg Rh fp) Rx te)(hs:∀v,bI iter X.env v=pure v:=by intro _;rfl):PE X (.ListComp Rx [⟨.Name x px,iter,Rt,0⟩] scope pos) (Jh wi ix tc te):=by
 intro Q9 s O H Q I h;have Rj:∀y∈scope.names,y.2=.free->∃c,X.env.cells.lookup y.1=Za c:=λy hy hf=>I.ok.has y.1 (.inl (S.free y hy hf));refine fg rfl hs (qi Rj) S.kind S.nm (Yq (hi Q9 s O H _ I h) λv s1 h1=>Yq h1 λUN s2 h2=>?_);obtain⟨it,fp,tn,J,H2,rfl,I2,T,R4,f2,q2⟩:=h2;refine CA hc S ht he Rj I2 T R4 f2 q2 λD C H' s' I' UD ⟨b1,b2,b3,b4⟩ SV q'=>?_;obtain⟨m',Sg⟩:=SV;refine⟨m',Sg,λh' Uj=>⟨.ref D,H',?_,rfl,q'⟩⟩;exact I'.turned (λb o hb e=>Uj.extBut b o hb e) UD b1 (.inr b2) b3 b4
def vW(hN:X.N.Nodup)(TD:X.N[i]?=Za y)(Tf:X.env.scope.names.lookup y=Za .local)(hc:X.calm=true)(S:Y8 X.N X.env.scope scope x fr ix)(hi:PI X (.Name x px) iter wi)(ht:∀cl C Rg Rh fp,Gk (Õ X scope cl C (x::fr) Rg Rh fp) Rt tc)(he:∀cl C Rg Rh fp,PE (Õ X scope cl C (x::fr) Rg Rh fp) Rx te)(Td:cN (.ListComp Rx [⟨.Name x px,iter,Rt,0⟩] scope pos) (Za (.Name y py)) RU.line X.env=pure true:=by rfl)(hs:∀v,bI iter X.env v=pure v:=by intro _;rfl):PS X (.Assign [.Name y py] (.ListComp Rx [⟨.Name x px,iter,Rt,0⟩] scope pos) RU) (OE (Jh wi ix tc te) (F5 i)):=by
 intro Q9 s O H D0 I h;have Rj:∀y∈scope.names,y.2=.free->∃c,X.env.cells.lookup y.1=Za c:=λy hy hf=>I.ok.has y.1 (.inl (S.free y hy hf));rw[exec_Assign_Name_used _ _ _ _ Td];refine af (ej (af ?_));refine af (a6 (fg rfl hs (qi Rj) S.kind S.nm
  (Yq (hi Q9 s O H _ I h) λv s1 h1=>Yq h1 λUN s2 h2=>?_)) (λ_ s' hq=>aE (aE hq)) λ_ _ e=>e)
 obtain⟨it,fp,tn,J,H2,rfl,I2,T,R4,f2,q2⟩:=h2;refine CA hc S ht he Rj I2 T R4 f2 q2 λD C H' s' I' UD ⟨b1,b2,b3,b4⟩ SV q'=>?_;obtain⟨m',Sg⟩:=SV;refine jJ (xI (v:=.ref D) I' hN TD (.inl Tf) rfl (λs5 I5 sb=>?_) (.inr Tf));obtain⟨a5,sb,XC⟩:=sb;have XN:C≠a5:=by
  obtain z|z:=XC
  .rw[z];exact b1
  .exact(b3 _ _ z).symm
 refine⟨m',Sg.sameBut sb XN,λh' Uj=>⟨_,H',?_,q'⟩⟩;exact I5.turned (λb o hb e=>Uj.extBut b o hb e) UD b1 (.inr b2) b3 b4
end
def Dst(h h':bc):Prop:=∀(b:Nat)(o:Obj),h.objs[b]?=Za o->∃o':Obj,h'.objs[b]?=Za o'/\o'.dict=o.dict
def Dst.trans{a b c:bc}(x:Dst a b)(y:Dst b c):Dst a c:=λq o e=>by
 obtain⟨o1,e1,d1⟩:=x q o e;obtain⟨o2,e2,d2⟩:=y q o1 e1
 simp_all
def Dst.refl{a:bc}:Dst a a:=λ_ o e=>⟨o,e,rfl⟩
structure Kd{α:Type}(t:Sem α):Prop where
 k:∀{M Γ Q E p s},Sem.wp M Γ t Q E p s->Sem.wp M Γ t (λa p' s'=>Q a p' s'/\Dst s.heap s'.heap) E p s
section
variable{α β:Type}
theorem Kd.pure{a:α}:Kd (Pure.pure a:Sem α):=⟨λw=>by exact⟨w,.refl⟩⟩
def Kd.Ϩ{x:String}:Kd (unsupported x:Sem α):=⟨λw=>w.elim⟩
theorem Kd.load{a:ag}:Kd (load a):=⟨λ⟨o,e,w⟩=>⟨o,e,w,.refl⟩⟩
theorem Kd.stack:Kd stack:=⟨λw=>⟨w,.refl⟩⟩
theorem Kd.alloc{o:Obj}:Kd (alloc o):=⟨λ{_ _ _ _ _ s} w=>⟨w,λb o' e=>⟨o',by
 show(s.heap.objs.push o)[b]?=_;rw[Array.getElem?_push]
 grind,rfl⟩⟩⟩
theorem Kd.update{a:ag}{f:Obj->Obj}(h:∀o,(f o).dict=o.dict):Kd (update a f):=⟨λ{_ _ _ _ _ s} w=>⟨w.1,w.2,λb o e=>by
 unfold Heap.update
 grind⟩⟩
def Kd.bind{m:Sem α}{f:α->Sem β}(h:Kd m)(k:∀a,Kd (f a)):Kd (m >>= f):=⟨λw=>by rw[Sem.wp_bind'] at w ⊢;exact Sem.wp_mono _ _ _ (λa p' s' ⟨w,d⟩=>Sem.wp_mono _ _ _ (λ_ _ _ ⟨q,e⟩=>⟨q,d.trans e⟩) (λ_ _ _ z=>z) _ _ ((k a).k w)) (λ_ _ _ z=>z) _ _ (h.k w)⟩
def Kd.any{t:Sem α}{M:Model}{A:bX}{Q:α->au->Prop}{E:ae->au->Prop}{s:au}(k:Kd t)(h:aO M A t Q E s):aO M A t (λa s'=>Q a s'/\Dst s.heap s'.heap) E s:=λΓ p hΓ=>k.k (h Γ p hΓ)
end
def wS{v:ae}{i:Nat}:Kd (field v i):=by
 unfold field fieldsOf;refine .bind ?_ λa=>by split<;>first|exact .pure|exact .Ϩ
 split
 .refine .bind .load λa=>by split<;>first|exact .pure|exact .Ϩ
 .exact .Ϩ
def Dk(h:bc)(a:ag)(d:Option ag):Prop:=∀dx,d=Za dx->∃oe,h.get? a=Za oe/\oe.dict=Za dx
def OR{h:bc}{a:ag}{o:Obj}(e:h.get? a=Za o):h.objs[a]?=Za o:=by
 unfold Heap.get? at e;split at e
 .cases e
 .exact e
def Dk.go{h h':bc}{a:ag}{d:Option ag}(x:Dk h a d)(y:Dst h h')(z:∃o,h'.get? a=Za o):Dk h' a d:=λdx e=>by
 obtain⟨oe,e1,e2⟩:=x dx e;obtain⟨o',e3,e4⟩:=y a oe (OR e1);obtain⟨o,e5⟩:=z;have:=OR e5
 grind
def Ây{f:Array ae->Array ae}(o:Obj):(Obj.mapFields f o).dict=o.dict:=by unfold Obj.mapFields;split<;>rfl
def GC{v x:ae}{i:Nat}:Kd (setField v i x):=by
 unfold setField updateField;split
 .refine .bind .load λa=>?_;split
  .split
   .exact .update Ây
   .exact .Ϩ
  .exact .Ϩ
 .exact .Ϩ
theorem E3:∀l,Kd (readyFrames l)
 |[]=>.pure
 |e::l=>by
  unfold readyFrames behindIsImport;split
  .refine .bind .load λo=>?_;split
   .exact .pure
   refine .bind ?_ λi=>.bind ?_ λb=>.bind (.update λ_=>rfl) λ_=>E3 l
   .repeat' (first|split|exact .pure|exact .bind wS λ_=>.pure)
   .unfold keptBack underTheClaimsCaller
    repeat' (first|split|exact .pure|exact .bind (.bind .stack λ_=>.pure) λ_=>.pure)
  .exact .Ϩ
def Kp{env:Env}:Kd (PySem.frameOf env):=by
 unfold PySem.frameOf frameEnvs frameObject;refine .bind (.bind .stack λ_=>.pure) λl=>.bind ?_ λr=>by split<;>first|exact .pure|exact .Ϩ
 split
 .exact .pure
 .exact .bind (E3 _) λ_=>.pure
def Ko{f:ag}{b:Bool}:Kd (entryPlaceOf f b):=.bind .stack λ_=>by split<;>exact .pure
def Qo{a b c d e:ae}{l:List ae}:Kd (kj a b c d e l):=by
 unfold kj newFields newObj newObjAsIs;dsimp only;generalize (_++_:List ae)=L;split
 .exact .bind .Ϩ λ_=>.bind .alloc λ_=>.pure
 .exact .bind .alloc λ_=>.pure
def Ű{e:ae}{env:Env}:Kd (noteFrame e env):=by
 unfold noteFrame;split
 .refine .bind wS λh=>?_
  repeat' (first|split|exact .pure|refine .bind wS λ_=>?_|refine .bind GC λ_=>?_|exact .bind Kp λ_=>.bind Ko λ_=>.bind Qo λ_=>GC)
 .exact .Ϩ
def ê{e:ae}{a:Option ag}:Kd (setFlight e a):=by
 refine .bind wS λh=>?_;split
 .exact GC
 .exact .pure
def ć{e:ae}{env:Env}:Kd (leaving env e):=.bind Ű λ_=>ê
abbrev ų:List ae:=[.type "ValueError",.type "Exception",.type "BaseException",.type "object"]
structure Ϥ(K:aa)(C:ag):Prop where
 ob:∃dd cd sl,K.lookup C=Za ⟨.type "type",dd,.cls cd,sl⟩
 ga:aI K (.ref C) "__getattribute__"=Za (Za (.builtin "BaseException.__getattribute__"))
 gt:aI K (.ref C) "__getattr__"=Za Zb
 ha:aI K (.ref C) "__class__"=Za (Za (.builtin "object.__class__"))
 hn:cM K (.builtin "object.__class__") "__get__"=Za (Za (.builtin "getset_descriptor.__get__"))
 ht:fN K (.builtin "object.__class__")=Za true
 mo:bS K C (.type "object")=Za true
 mb:bS K C (.type "BaseException")=Za true
structure Exc(K:aa)(C:ag):Prop extends Ϥ K C where
 ex:fF K C ų "ValueError.__new__"=true
def ÁH{K:aa}{C:ag}(z:fF K C ų "ValueError.__new__"=true):∃dd cd sl,K.lookup C=Za ⟨.type "type",dd,.cls cd,sl⟩:=by
 unfold fF at z;split at z
 .exact⟨_,_,_,‹_›⟩
 .cases z
def Exc.obj{K}{C}{h}(Zj:Exc K C)(X:K.In h):∃bm N nm q bs hdct sn sub ab col dd k0 k1 k2 k3 k5 mN,
  h.get? C=Za (kq nm q C N bs bm hdct sn sub ab col dd k0 k1 k2 k3 k5 "ValueError.__new__")/\h.Ns N mN/\mN "__init__"=Zb/\OwnTail h ų bm:=by
 have z:=Zj.ex;unfold fF at z;split at z
 case h_2=>cases z
 case h_1 ddv Rk slv lk =>
  split at z
  case h_2=>cases z
  case h_1 D bm a0 a1 a2 a3 nw a5 em es =>
   have z':((((D=C/\nw="ValueError.__new__")/\Rk.hasDel=false)/\jq K ų bm=true)/\PySem.W.nsOkIn K Rk.ns=true)/\bJ K Rk.ns "__init__"=Za none:=by
    simp_all
   obtain⟨⟨⟨⟨⟨eD,eN⟩,TY⟩,tl⟩,okn⟩,ini⟩:=z';rcases Rk with⟨c1,c2,c3,c4,c5,c6,c7,c8,c9,X4,c11⟩;subst em TY eD eN;have XV:slv=#[a0,a1,a2,a3,Za (.builtin "ValueError.__new__"),a5]:=by
    rcases slv with⟨l⟩
    grind
   subst XV;refine⟨bm,c4,c1,c5,c2,c6,c7,c8,c9,X4,ddv,a0,a1,a2,a3,a5,h.nsMap c4,X _ _ lk,?_,?_,kZ X tl⟩
   .exact .of_isNs (PySem.W.isNs_of_in X okn)
   .exact PySem.W.nsMap_none_of_in X okn ini
def Jn(h:bc)(a C:ag):Prop:=∃ox vs,h.get? a=Za ox/\ox.cls=.ref C/\ox.data=.fields vs
def F7(C a:ag)(d:Option ag):HO:=.ext λh=>Jn h a C/\Dk h a d
def NU(I:Jn h a C)(D:Dk h a d):YE P w H h a (F7 C a d):=by
 refine⟨⟨I,D⟩,?_,λh1 h2 p k=>⟨?_,λdx e=>?_⟩⟩
 .obtain⟨ox,_,e,_⟩:=I;exact⟨ox,e⟩
 .obtain⟨⟨ox,vs,e,c,d⟩,_⟩:=p;exact⟨ox,vs,k _ e,c,d⟩
 .obtain⟨oe,e1,e2⟩:=p.2 dx e;exact⟨oe,k _ e1,e2⟩
section
variable{prog:aK}{w:aT}{A:bX}{E:ae->au->Prop}{s:au}{K:aa}{x C:ag}{ox:Obj}
open PySem.W Builtin Builtin.ObjectAttr Builtin.Getset_descriptor in
def IT(Zj:Ϥ K C)(X:K.In s.heap)(I:Jn s.heap x C)(h:Q (Za (.ref C)) { s with toks:=s.toks+1 }) :
  aO (model prog w) A (getAttr? (.ref x) "__class__") Q E s:=by
 obtain⟨hh,g,d,t,os⟩:=s;have L0:eg (model prog w) hh (typeOf (.ref x)) (.ref C):=by obtain⟨ox,vs,RT,Su,VB⟩:=I;have RT:hh.get? x=Za ox:=RT;exact Su▸(kH RT).andThen .now
 have L1:=du (M:=model prog w) X Zj.ga;have L2:=du (M:=model prog w) X Zj.gt;have L3:eg (model prog w) hh (Builtin.ObjectAttr.find (.ref x) (.ref C) "__class__") (.bind (.builtin "getset_descriptor.__get__") (.builtin "object.__class__")):=by have M1:=du (M:=model prog w) X Zj.ha;have M2:eg (model prog w) hh (Builtin.ObjectAttr.getOf (Za (.builtin "object.__class__"))) (Za (.builtin "getset_descriptor.__get__")):=looks_specialIn X Zj.hn;have M3:=looks_takesIn (M:=model prog w) X Zj.ht;refine M1.andThen (M2.andThen ?_);refine Looks.andThen (a:=Za (.builtin "getset_descriptor.__get__",.builtin "object.__class__")) ?_ (Looks.tag .now);exact M3.andThen .now
 have LO:=gB (M:=model prog w) X Zj.mo;have X3:∀{A:bX}{tk:Nat}{R:ju->au->Prop},R (.ok (.ret (.ref C))) ⟨hh,g,d,tk,os⟩->eP (model prog w) A (.call (.builtin "getset_descriptor.__get__") ⟨[.builtin "object.__class__",.ref x,.ref C],[]⟩) R ⟨hh,g,d,tk,os⟩:=by
  intro A tk R hq;obtain⟨ox,vs,RT,Su,VB⟩:=I;have RT:hh.get? x=Za ox:=RT;refine eL KF.slot_gs.plain KF.entry_gs (KF.slot_gs.check _ _ _ _ _ _ _ _ KF.type_class (KF.args_gs _ _ _) ?_);unfold Builtin.«getset_descriptor.__get__» descrGet;rw[dga_obj];refine af (aE ?_);unfold descrGetter descrCheckInstance descrNameAndClass jn;simp only[KF.owner_class]
  repeat lk
  refine⟨iY _ (by decide +kernel),kE KF.entry_class ?_⟩;unfold Builtin.«object.__class__» shownTypeOf
  repeat lk
  exact hq
 have LB:eg (model prog w) hh (jn (.ref x) (.type "BaseException")) true:=L0.andThen (gB X Zj.mb);have f3:=PySem.F.slot_gs_get;have hx2:(fH "BaseException.__getattribute__"==fH "object.__getattribute__")=false:=by decide +kernel
 have cls:∀{tk:Tok}{R:ju->au->Prop},R (.ok (.ret (.ref C))) ⟨hh,g,d,t+1,os⟩->eP (model prog w) A (.call (.builtin "BaseException.__getattribute__") ⟨[.ref x,.str "__class__" tk],[]⟩) R ⟨hh,g,d,t+1,os⟩:=by
  intro tk R hq;have hk:builtinKind "BaseException.__getattribute__"=Za .slot:=by decide +kernel
  have SC:splitId "BaseException.__getattribute__"=Za ("BaseException","__getattribute__"):=by decide +kernel
  have ha:=F.args_bexc_ga (.ref x) (.str "__class__" tk);apply eL (by decide +kernel) F.entry_bexc_ga;simp only[checkBuiltinCall,hk,SC];refine af (LB.at ?_)
  repeat (any_goals (first|assumption|wp_step))
  obtain⟨ox,vs,RT,Su,VB⟩:=id I;have RT:hh.get? x=Za ox:=RT;refine cS RT (aE ?_);rw[Su];clear RT Su VB;refine af (L3.at ?_)
  repeat (any_goals (first|assumption|wp_step))
  apply X3
  repeat (any_goals (first|assumption|wp_step))
 have f4:=jv.ga.bind (.ref x);unfold getAttr? getAttrBy? getAttrBy;refine af (wpAny_mkText (af (wpAny_attempt (cF (af (L0.at (af (L1.at ?_))))))));show aO _ _ (iP _ _ _ _ _ _) _ _ _;unfold iP;refine af (L2.at ?_)
 repeat (any_goals (first|assumption|wp_step))
 apply cls
 repeat (any_goals (first|assumption|wp_step))
end
section
variable{K:aa}{C a:ag}
open PySem.W in
def Kn(Zj:Ϥ K C):KitX K (.ref a) (.ref C) (λh=>Jn h a C) where
 ty:=λ_ _ _ ⟨_,_,e,c,_⟩=>c▸(kH e).andThen .now
 it:=λ_ h X _=>by obtain⟨dd,cd,sl,hk⟩:=Zj.ob;have hC:=X _ _ hk;exact λA' Q' E' s' k z=>af (kY (k _ _ hC) (aE z))
 ne:=λh tp dd its n sl X htp=>by
  obtain⟨dd,cd,sl,hk⟩:=Zj.ob;have hC:=X _ _ hk
  grind
 ca:=λX I k=>IT Zj X I k
end
noncomputable def ÁO:V->ae
 |.ref a=>.ref a
 |.ty n=>.type n
 |_=>.none
def KR(r:RelV c u)(h:(∃a,c=.ref a)\/∃n,c=.ty n):u=ÁO c:=by rcases h with⟨a,rfl⟩|⟨n,rfl⟩<;>exact r
section
variable{X:Cx}
def Âp(K:aa):List V->Hp->VK->Prop:=λxs H Q=>∃x c t b,xs=[x,c]/\((∃a,c=.ref a)\/∃n,c=.ty n)/\(î K H x t\/(∃a C d,x=.ref a/\t=.ref C/\H a=Za (F7 C a d)/\Ϥ K C)\/(∃a ys,x=.ref a/\t=.type "list"/\YO K H a ys)\/∃a ys,x=.ref a/\t=.type "tuple"/\Zz K H a ys)/\jt K t (ÁO c)=Za b/\Q (.bl b) H
def KW:YM X (.builtin "isinstance") (Âp X.K):=by
 rintro Q9 s O H xs us Q I r ⟨x,c,t,b,rfl,hc,ty,e,q⟩
 obtain⟨u,v,rfl,ru,rv⟩:=L6 r;rw[KR rv hc];have Ry:∀tk,EP X Q9 O Q (.bool b) { s with toks:=tk }:=λtk=>⟨.bl b,H,I.tok tk,rfl,q⟩;obtain ty|⟨a,C,d,rfl,rfl,ha,Zj⟩|⟨a,ys,rfl,rfl,hq⟩|⟨a,ys,rfl,rfl,hq⟩:=ty
 .exact IJ I ru ty e Ry
 .cases(ru);obtain⟨p,_⟩:=I.Ye a _ ha;exact bN (Kn Zj) I.ZE p.1 e (λz=>nomatch z) Ry
 .cases(ru);obtain⟨its,r',pl,_⟩:=I.list hq;obtain⟨o,h1,h2,_⟩:=pl.isList;exact bN iU I.ZE ⟨o,h1,h2⟩ e (λz=>nomatch z) Ry
 .cases(ru);obtain⟨its,r',pl,_⟩:=I.tuple hq;obtain⟨o,h1,h2,_⟩:=pl;exact bN k6 I.ZE ⟨o,h1,h2⟩ e (λz=>nomatch z) Ry
end
def YE.there(x:YE P w H h a o):∃ob,h.get? a=Za ob:=by
 cases o with
 |lst xs=>obtain⟨_,_,_,_,e⟩:=x;exact⟨_,e⟩
 |tup xs=>obtain⟨_,_,_,ob,e,_⟩:=x;exact⟨ob,e⟩
 |dK Ra=>obtain⟨_,_,_,_,ob,_,_,e,_⟩:=x;exact⟨ob,e⟩
 |dT Ra=>obtain⟨_,_,_,_,ob,_,_,e,_⟩:=x;exact⟨ob,e⟩
 |set S n=>obtain⟨ob,_,_,_,e,_⟩:=x;exact⟨ob,e⟩
 |ins C dx fs=>obtain⟨_,_,_,e,_⟩:=x;exact⟨_,e⟩
 |own y=>exact x
 |xd fs=>obtain⟨_,⟨ob,_,_,e,_⟩,_⟩:=x;exact⟨ob,e⟩
 |rng lo hi=>obtain⟨_,_,_,e⟩:=x;exact⟨_,e⟩
 |YQ ob u=>obtain⟨e,_⟩:=x;exact⟨ob,e⟩
 |Ņ ps=>exact⟨_,x⟩
 |met f y=>exact⟨_,x⟩
 |ext φ=>exact x.2.1
def YW(P:aK)(w:aT):Ũ:=λouter H s E e s'=>∃(a C:ag)(t:ae)(B:bc)(H':Hp)(d:Option ag),e=.ref a/\s'.os=s.os/\gZ s'.gens/\Un (Zt outer) [] H H' s.heap s'.heap/\Ë P w H' s'.heap /\
 f8 B outer a (.ref C) t s'.heap/\(∀b u o,H' b=Za u->s'.heap.get? b=Za o->B.get? b=Za o) /\
 (∀b o,s.heap.get? b=Za o->b∉Zt outer->∃o',s'.heap.get? b=Za o'/\B.get? b=Za o')/\Dk s'.heap a d/\E (.ref C) d H'
def rW:oK (YW P w) X E0:=λ_ _ _ _ _ _ _ h=>by obtain⟨_,_,_,_,_,_,_,_,_,_,_,_,_,_,_,z⟩:=h;exact z.elim
def Hi(hf:env.frame=Za L)(h:b∈Zt (env::outer)):b=L\/b∈Zt outer:=by
 unfold Zt at h ⊢
 simp_all
def zS(hf:env.frame=Za L)(h:b∈Zt outer):b∈Zt (env::outer):=by
 unfold Zt at h ⊢
 simp_all
section
variable{P:aK}{w:aT}{K:aa}{mg:Str->Option ae}{base:bc}{N:List Str}{qual:Str}{scope:di}{f:ag}{cd:ae}{A:bX}{outer:List Env}{Y0:au}{Ha0:Hp}{E:XK}
def pH:oK (YW P w) (DB (YW P w) P w K mg base N qual scope f cd A outer Y0 Ha0 E) E:=by
 rintro Q9 O H s e s' I ⟨a,C,t,B,H',d,rfl,Tz,Tl,un,Ye,fl,Tv,Sk,dk,hE⟩
 have hlow:∀b o,Y0.heap.get? b=Za o->b≠Y0.heap.objs.size:=λb o e=>ay (aw e);refine a6 (ć.any (wpAny_leaves_onW (Q:=λ_ s2=>∃h',s2={ s' with heap:=h' }/\f8 B outer a (.ref C) t h'/\s'.heap.UpToSlots h') I.ok.frames rfl fl λh' TH up=>⟨h',rfl,TH,up⟩)) (λ_ s2 ⟨⟨h',z,TH,up⟩,ds⟩=>?_) λ_ _ z=>z;subst z;have dk':=dk.go ds (TH.there.imp λ_ z=>z.1);have eq1:Zt (dZ qual scope Y0.heap.objs.size f cd::outer)=Y0.heap.objs.size::Zt outer:=rfl;have RQ:∀b o,Y0.heap.get? b=Za o->b∉Zt outer->b∉Zt (dZ qual scope Y0.heap.objs.size f cd::outer):=λb o e n z=>by
  grind
 have ub:Un (Zt outer) [] Ha0 H Y0.heap s.heap:=I.base;have old:∀b o,Y0.heap.get? b=Za o->b∉Zt outer->∃o',h'.get? b=Za o'/\B.get? b=Za o':=λb o e n=>by obtain⟨o1,e1⟩:=ub.there b o e (by simp);obtain⟨o2,e2,e3⟩:=Sk b o1 e1 (RQ b o e n);exact⟨o2,TH.1 b o2 e3,e3⟩
 refine⟨a,C,t,B,H',d,rfl,Tz.trans I.os,Tl,⟨λb o e n hb _=>?_,λb o e n hb _=>?_,λb o e n _=>?_,λb o e _=>?_,λb xs e=>un.Á b xs (ub.Á b xs e),λb o u e=>un.ZF b o u (ub.ZF b o u e),λb ps e=>?_⟩,?_,TH,?_,old,dk',hE⟩
 .have e1:=ub.keep b o e n hb (by simp);have n1:=ub.free b o e n (by simp);have e2:=un.keep b o e1 n1 (RQ b o e hb) (by simp);obtain⟨o2,e3,e4⟩:=Sk b o e1 (RQ b o e hb);rw[e2] at e3;cases e3;exact TH.1 b o e4
 .obtain⟨sl,e1⟩:=ub.slot b o e n hb (by simp);have n1:=ub.free b o e n (by simp);obtain⟨U6,e2⟩:=un.slot b _ e1 n1 (zS rfl hb) (by simp);obtain⟨_,o3,e3,Te⟩:=fl.2.2.1.mem (zS rfl hb);obtain⟨sl3,e4⟩:=up b _ e3 Te
  grind
 .obtain⟨o1,e1⟩:=ub.there b o e (by simp);exact un.free b o1 e1 (ub.free b o e n (by simp)) (by simp)
 .by_cases hb:b∈Zt outer
  .obtain⟨_,o3,e3,Te⟩:=fl.2.2.1.mem (zS rfl hb);obtain⟨sl3,e4⟩:=up b _ e3 Te;exact⟨_,e4⟩
  .grind
 .obtain⟨m1,e1⟩:=ub.Ï b ps e;obtain⟨m2,e2⟩:=un.Ï b _ e1
  grind
 .refine λb u e=>(Ye b u e).Ð (λc v hc q=>?_) (λ_ q=>q) λ_ _ q=>q;obtain z|z:=hc
  .subst z;exact TH.1 _ _ (Tv _ u v e q)
  .exact TH.1 _ _ (Tv c _ v z q)
 .intro b u o e q;obtain⟨o1,q1⟩:∃o1,s'.heap.get? b=Za o1:=by exact(Ye b u e).there
  have z:=Tv b u o1 e q1;have z2:=TH.1 b o1 z
  grind
def Ai(X:Cx)(E:XK):Prop:=∀(Q9:List (ag×Obj))(O:St)(H:Hp)(s:au)(a C:ag)(vs:List ae)(h':bc),Inv X Q9 O H s->Heap.MadeExcOf s.heap h' a (.ref C) vs->E (.ref C) Zb H->X.xe (.ref a) { s with heap:=h' }
def zH:Ai (DB (YW P w) P w K mg base N qual scope f cd A outer Y0 Ha0 E) E:=by
 intro Q9 O H s a C vs VL I mk hE;have ņ:=I.stack;let l:=Zt (dZ qual scope Y0.heap.objs.size f cd::outer);have RF:∀env∈(dZ qual scope Y0.heap.objs.size f cd::outer),∀b,env.frame=Za b->b∈l:=λenv he b hb=>gw.mpr ⟨env,he,hb⟩;have VY:∀b o,s.heap.get? b=Za o->b∉l->(dJ s.heap l).get? b=Za o:=λb o e n=>iu l e n;have ub:Un (Zt outer) [] Ha0 H Y0.heap s.heap:=I.base;have RQ:∀b o,Y0.heap.get? b=Za o->b∉Zt outer->b∉l:=λb o e n z=>by
  obtain z|z:=Hi rfl z
  .exact ay (aw e) z
  .exact n z
 have Ub:∀b u,H b=Za u->b∉l:=λb u e z=>by rw[I.ó b z] at e;cases e
 refine wpAny_leaves_madeW (I.ok.frames) rfl (λb o e=>iK l e) (ke ņ RF) mk λh' t fl tup nt up=>?_;have RX:=λb o e n=>fl.1 b o (VY b o e n);have frame:∀b o,s.heap.get? b=Za o->b∈l->∃sl,h'.get? b=Za { o with slots:=sl }:=λb o e hb=>by obtain⟨_,o3,e3,Te⟩:=ņ.mem hb;rw[e] at e3;cases e3;exact up b o (mk.keeps b o e) Te
 refine⟨a,C,.ref t,dJ s.heap l,H,Zb,rfl,I.os,I.bare,⟨λb o e n hb _=>?_,λb o e n hb _=>?_,λb o e n _=>ub.free b o e n (by simp),λb o e _=>?_,ub.Á,ub.ZF,ub.Ï⟩,λb u e=>?_,fl,λb u o e q=>?_,λb o e n=>?_,(λ_ z=>nomatch z),hE⟩
 .exact RX b o (ub.keep b o e n hb (by simp)) (RQ b o e hb)
 .obtain⟨sl,e1⟩:=ub.slot b o e n hb (by simp)
  grind
 .obtain⟨o1,e1⟩:=ub.there b o e (by simp)
  grind
 .refine(I.Ye b u e).Ð (λc v hc q=>?_) (λ_ q=>q) λ_ _ q=>q
  grind
 .obtain⟨o1,q1⟩:=(I.Ye b u e).there
  grind
 .obtain⟨o1,e1⟩:=ub.there b o e (by simp)
  simp_all
end
section
variable{X:Cx}{C:ag}{x:Str}{np Rb pos:Pos}{e:a7}{te:TE}{E:XK}
def Pc(C:ag)(E:XK)(te:TE):TS:=λ_ O H=>te O H λ_ H1=>E (.ref C) Zb H1
def qH(Zj:Exc X.K C)(hg:Gl X x)(hm:X.mg x=Za (.ref C))(hc:X.calm=true)(ha:PE X e te)(hp:Ai X E)(hd:Î x:=by decide)(he:ar [e] X.env=[(false,eval e X.env)]:=by rfl):PS X (.Raise (Za (.Call (.Name x np) [e] [] Rb)) Zb pos) (Pc C E te):=by
 intro Q9 s O H D I h;obtain⟨bm,N,nm,q,bs,hdct,sn,sub,ab,col,dd,k0,k1,k2,k3,k5,mN,hC,hN,hni,T⟩:=Zj.obj I.mod.kin;refine wpAny_Raise_call_subT (nm:=nm) (q:=q) (N:=N) (bs:=bs) (hdct:=hdct) (sn:=sn) (sub:=sub) (ab:=ab) (col:=col) (dd:=dd) (k0:=k0) (k1:=k1) (k2:=k2) (k3:=k3) (k5:=k5)
  cC (T.hasType cC.hasBase) (I.ok.hd hc) (by rw[he];rfl) hni (rj I hg hm ⟨rfl,?_⟩ hd)
 rw[he];apply fQ;refine eQ (Yq (ha Q9 s O H _ I h) λu SB=>e4 λv H2 I2 r2 q2=>?_);refine gC ⟨rfl,?_,I2.bk _ _ hC,hN.keeps I2.bk,T.keeps I2.bk,λh' a mk=>hp Q9 O H2 SB a C _ h' I2 mk q2⟩;show 1<=aG;decide
end
def Cb(K:aa)(D:ag):Prop:=∀{h:bc},K.In h->∃bm N nm q bs hdct sn sub ab col dd k0 k1 k2 k3 k5,h.get? D=Za (kq nm q D N bs bm hdct sn sub ab col dd k0 k1 k2 k3 k5 "ValueError.__new__")/\OwnTail h ų bm
section
variable{M:Model}{A:bX}{E:ae->au->Prop}{K:aa}{C D e:ag}{oe:Obj}
def Ev{h}{g:Array jO}{d:Drawn}{t}{os:OsState}{Q}(ZC:Ϥ K C)(ZD:Cb K D)(X:K.In h)(sub:bS K C (.ref D)=Za true)(he:h.get? e=Za oe)(Uy:oe.cls=.ref C)(hq:Q true ⟨h,g,d,t,os⟩):aO M A (excMatches (.ref e) (.ref D)) Q E ⟨h,g,d,t,os⟩:=by
 have L0:eg M h (typeOf (.ref e)) (.ref C):=Uy▸(kH he).andThen .now;have L1:eg M h (isSubtype (.ref C) (.ref D)) true:=gB X sub;obtain⟨bm,N,nm,q,bs,hdct,sn,sb,ab,col,dd,k0,k1,k2,k3,k5,hD,T⟩:=ZD X;have Xy:(aU D::bm).contains (.type "BaseException")=true:=by rw[ma,T.hasType cC.hasBase,Bool.or_true]
 have f:=tc_notTuple
 repeat (first|with_reducible refine cS hD ?_|(with_reducible refine je hD ?_;rw[Xy])|with_reducible refine L0.at ?_|with_reducible refine L1.at ?_|wp_step)
 grind
end
def XO(X:Cx)(Q9:List (ag×Obj))(O:St)(E:XK):ae->au->Prop:=λe s'=>∃H1 s1,Inv X Q9 O H1 s1/\YW X.prog X.w X.stack H1 s1 E e s'
def PEx(X:Cx)(e:a7)(t:XK->TE):Prop:=∀(Q9:List (ag×Obj))(s:au)(O:St)(H:Hp)(Q:VK)(E:XK),Inv X Q9 O H s->t E O H Q->aO (model X.prog X.w) X.A (eval e X.env) (EP X Q9 O Q) (XO X Q9 O E) s
def PSx(X:Cx)(st:bK)(t:XK->TS):Prop:=∀(Q9:List (ag×Obj))(s:au)(O:St)(H:Hp)(D:Ends)(E:XK),Inv X Q9 O H s->t E D O H->aO (model X.prog X.w) X.A (exec st X.env) (SP X Q9 D) (XO X Q9 O E) s
def ÁX(X:Cx)(st:List bK)(t:XK->TS):Prop:=∀(Q9:List (ag×Obj))(s:au)(O:St)(H:Hp)(D:Ends)(E:XK),Inv X Q9 O H s->t E D O H->aO (model X.prog X.w) X.A (execs st X.env) (SP X Q9 D) (XO X Q9 O E) s
section
variable{X:Cx}{k:Nat}{f:ag}{fd:cg}{ps:List Str}{sp:Sp}{RR:List V}{ds:List ae}{x:Str}{p pos:Pos}{e:a7}{es:List a7}{t:TA}
def MS(F:Yt X.prog X.w X.K X.mg X.base (YW X.prog X.w) k f fd ps sp)(hr:Yp k X.A)(hb:Binds X.K fd ps ds)(hd:Vals RR ds)(I:Inv X Q9 O H s)(r:Vals vs us)(h:sp (vs++RR) H Q E):aO (model X.prog X.w) X.A (call (.ref f) us) (EP X Q9 O Q) (XO X Q9 O E) s:=by
 have r2:=r.append hd;have hl:(us++ds).length=ps.length:=by rw[<-r2.length];exact F.len _ _ _ _ h
 refine iI (fM (F.run X.A X.stack s H ⟨us,[]⟩ (us++ds) (vs++RR) Q E hr I.Àb (hb s us I.ZE hl) r2 h) λr s' hq=>?_);cases r with
 |error e=>exact⟨H,s,I,hq⟩
 |ok fl =>
  cases fl with
  |ret u=>exact I.after hq
  |next=>exact bo hq
  |brk=>exact bo hq
  |cont=>exact bo hq
def JW(F:Yt X.prog X.w X.K X.mg X.base (YW X.prog X.w) k f fd ps sp)(hr:Yp k X.A)(hg:Gl X x)(hm:X.mg x=Za (.ref f))(hk:bV X.K (.ref f)=true)(hb:Binds X.K fd ps ds)(hd:Vals RR ds)(ha:PA X.ě (e::es) t)(RM:Î x:=by decide)(he:Č X e es:=by rfl)(Rq:(bM pos (ar es X.env)).any (·.1)=false:=by rfl) :
  PEx X (.Call (.Name x p) (e::es) [] pos) (λE=>Fx sp RR E t):=by
 refine λQ9 s O H Q E I h=>dg (rj I hg hm ?_ RM);refine eM I.ok.mod.kin hk (a6 (ha pos Q9 s O H _ (I.ñ _) h) (λus s1=>e4 λvs H1 I1 r q=>⟨I1.Zn.ZE,?_⟩) λ_ _ z=>bo z) he Rq;exact MS F hr hb hd I1.Zn r q
end
section
variable{X:Cx}{e:a7}{pos:Pos}
noncomputable def Z8(X:Cx)(a:ag):Cx:={ X with A:=X.A.mark (Za (.ref a)),calm:=false,xe:=λ_ _=>False }
def Á6(K:aa)(D:ag)(i:Nat)(tb:XK->TS)(th:TS):TS:=λDn O H=>tb (λcls d H'=>∃C,cls=.ref C/\Ϥ K C/\bS K C (.ref D)=Za true /\
  ∀a,H' a=Zb->th { nx:=λYy H''=>Dn.nx (Yy.set i Zb) H'',rt:=Dn.rt,bk:=λYy H''=>Dn.bk (Yy.set i Zb) H'',ct:=λYy H''=>Dn.ct (Yy.set i Zb) H'' } (O.set i (Za (.ref a))) (upd H' a (F7 C a d))) Dn O H
theorem Inv.Z8(I:Inv X Q9 O H s):Inv (L2.Z8 X a) Q9 O H s :=
 ⟨⟨I.ok.mod,I.ok.kind,I.ok.glob,I.ok.blt,I.ok.above,I.ok.inj,I.ok.has,I.ok.cab,λz=>Bool.noConfusion (z),I.ok.frames,I.ok.ņ,I.ok.exf,I.ok.bs,I.ok.bsz,I.ok.Ê,I.ok.Ϛ,I.ok.ë,I.ok.frf⟩,I.os,I.bare,I.base,I.loc,I.cell,I.free,I.Y9,I.pin,I.Ye,I.len⟩
def Inv.Ŭ(ok:X.Ok)(I:Inv (L2.Z8 X a) Q9 O H s):Inv X Q9 O H s :=
 ⟨ok,I.os,I.bare,I.base,I.loc,I.cell,I.free,I.Y9,I.pin,I.Ye,I.len⟩
def zQ{pos}(I:Inv X Q9 O H s)(hN:X.N.Nodup)(hi:X.N[i]?=Za n)(hl:X.env.scope.names.lookup n=Za .local)(h:∀s',Inv X Q9 (O.set i Zb) H s'->Q () s'):aO M A (do bindName X.env n .none;unbindBehindTheSuite X.env n pos) Q E s:=by
 obtain⟨m,hn,hm⟩:=id I.loc;refine wpAny_nameGoes_keeps hl hn (by rw[I.ok.kind];rfl) λh' v Sg hs=>h _ ?_;obtain⟨oL,_,_,UQ,_⟩:=id hn;have hk:∀b o,b≠X.env.locals->s.heap.get? b=Za o->h'.get? b=Za o:=λb o hb e=>(hs.2 b hb).trans e;have low:∀b o,X.Y0.heap.get? b=Za o->b≠X.env.locals:=λb o e=>ay (az (aw e) I.ok.above);refine⟨I.ok,I.os,I.bare,⟨λb o e z hb hx=>hk b o (low b o e) (I.base.keep b o e z hb hx),λb o e z hb hx=>?_,I.base.free,λb o e hx=>?_,I.base.Á,I.base.ZF,I.base.Ï⟩,⟨_,Sg,λj y v' e1 e2 e3=>?_⟩,λy c e=>?_,I.free,I.Y9,λp hp=>?_,λb u e=>?_,by simpa using I.len⟩
 .obtain⟨sl,e1⟩:=I.base.slot b o e z hb hx;exact⟨sl,hk b _ (low b o e) e1⟩
 .obtain⟨o',e1⟩:=I.base.there b o e hx
  simp_all
 .have hj:j≠i:=λz=>by
   subst z;rw[gG] at e2
   simp_all
  rw[fW (bU hj)] at e2;obtain⟨u,r,l⟩:=hm j y v' e1 e2 e3;refine⟨u,r,?_⟩;rcases l with⟨kd,e⟩|⟨kd,c,e,z⟩
  .refine .inl ⟨kd,?_⟩;have hy:y≠n:=λz=>hj (Av hN e1 (z▸hi))
   grind
  .exact .inr ⟨kd,c,e,z.sameBut hs (I.cne y c e)⟩
 .obtain⟨w',z⟩:=I.cell y c e;exact⟨w',z.sameBut hs (I.cne y c e)⟩
 .obtain⟨e,z,ne,nf,d⟩:=I.pin p hp;exact⟨hk _ _ ne e,z,ne,nf,d⟩
 .refine(I.Ye b u e).Ð (λc v hc q=>hk c v ?_ q) (λ_ q=>q) λ_ _ q=>q
  rintro rfl
  obtain hc|hc:=hc
  .rw[<-hc,I.free] at e;cases e
  .rw[I.free] at hc;cases hc
end
def ÁF(un:Un (Zt ņ) [] H H' h0 h1)(Ye:Ë P w H' h1)(fl:f8 B ņ a (.ref C) t h1)(Tv:∀b u o,H' b=Za u->h1.get? b=Za o->B.get? b=Za o)(Sk:∀b o,h0.get? b=Za o->b∉Zt ņ->∃o',h1.get? b=Za o'/\B.get? b=Za o')(st:B.StaysIn h2)(up:h1.UpToSlots h2) :
  Un (Zt ņ) [] H H' h0 h2/\Ë P w H' h2:=by
 have frame:∀b o,h1.get? b=Za o->b∈Zt ņ->∃sl,h2.get? b=Za { o with slots:=sl }:=λb o e hb=>by obtain⟨_,o3,e3,Te⟩:=fl.2.2.1.mem (hb);rw[e] at e3;cases e3;exact up b o e Te
 refine⟨⟨λb o e n hb hx=>?_,λb o e n hb hx=>?_,un.free,λb o e hx=>?_,un.Á,un.ZF,un.Ï⟩,λb u e=>?_⟩
 .have e2:=un.keep b o e n hb hx;obtain⟨o2,e3,e4⟩:=Sk b o e hb;rw[e2] at e3;cases e3;exact st b _ e4
 .obtain⟨sl,e1⟩:=un.slot b o e n hb hx
  grind
 .by_cases hb:b∈Zt ņ
  .obtain⟨o1,e1⟩:=un.there b o e hx
   grind
  .obtain⟨o2,e3,e4⟩:=Sk b o e hb;exact⟨o2,st b _ e4⟩
 .refine(Ye b u e).Ð (λc v hc q=>?_) (λ_ q=>q) λ_ _ q=>q;obtain z|z:=hc
  .subst z;exact st _ _ (Tv _ u v e q)
  .exact st _ _ (Tv c _ v z q)
section
variable{X:Cx}{body:List bK}{x n:Str}{np hp pos:Pos}{UY:bK}{bs:List bK}{tb:XK->TS}{th:TS}{D:ag}{i:Nat}
def Pw(hc:X.calm=true)(RW:X.stack=X.env::X.outer)(hf:X.env.frame=Za X.env.locals)(Uv:X.ex=[])(hb:ÁX X body tb)(hg:Gl X x)(hm:X.mg x=Za (.ref D))(ZD:Cb X.K D)(hN:X.N.Nodup)(hi:X.N[i]?=Za n)(hl:X.env.scope.names.lookup n=Za .local)(hh:∀a,Ļ (Z8 X a) (UY::bs) th)(hd:Î x:=by decide) :
  PS X (.Try body [.ExceptHandler (Za (.Name x np)) (Za n) (UY::bs) hp] [] [] pos) (Á6 X.K D i tb th):=by
 refine λQ9 s O H Dn I h=>wpAny_Try_except (a6 (hb Q9 s O H Dn _ I h) (λfl s1 q1=>?_) λe s1 q1=>?_)
 .cases fl with
  |next=>exact fm q1
  |brk=>exact q1
  |cont=>exact q1
  |ret v=>exact q1
 .obtain⟨H1,s2,J,a,C,t,B,H',d,rfl,Tz,Tl,un,Ye,fl,Tv,Sk,dk,C',⟨⟩,ZC,sub,hth⟩:=q1;have Xp:X.A.frames=Za (X.env::X.outer):=by rw[<-RW];exact J.ok.frames
  have ha:s2.heap.get? a=none:=by
   cases q:s2.heap.get? a with
   |none=>rfl
   |some o =>
    exfalso;by_cases hb:a∈Zt X.stack
    .obtain⟨_,o3,e3,Te⟩:=fl.2.2.1.mem (show a∈X.stack.filterMap (·.frame) from hb);obtain⟨oe,vs,e4,_,e5,_⟩:=fl.first;rw[e4] at e3;cases e3;exact Te vs e5
    .obtain⟨o',_,e⟩:=Sk a o q hb;rw[fl.2.1] at e;cases e
  have inv:∀{h2:bc}{tk:Nat},B.StaysIn h2->s1.heap.UpToSlots h2->Inv X Q9 O H' { s1 with heap:=h2,toks:=tk }:=λ{h2 tk} st up=>by obtain⟨u2,ok2⟩:=ÁF un Ye fl Tv Sk st up;exact J.Àh (s':={ s1 with heap:=h2,toks:=tk }) (ch:=[]) Tz u2 ok2 Tl (λb z=>absurd z (by simp))
  have UU:H' a=none:=by
   cases q:H' a with
   |none=>rfl
   |some u =>
    exfalso;obtain⟨oe,e4,_⟩:=fl.there;have:=Tv a u oe q e4;rw[fl.2.1] at this;cases this
  have fl1:f8 B (X.env::X.outer) a (.ref C) t s1.heap:=by rw[<-RW];exact fl
  refine a6 (Ű.any (wpAny_looks_onW (Q:=λ_ s2=>∃h',s2={ s1 with heap:=h' }/\Heap.HeldW B (X.env::X.outer) a (.ref C) t _ h'/\s1.heap.UpToSlots h') Xp hf fl1 λh' x up=>⟨h',rfl,x,up⟩)) (λ_ s4 ⟨⟨h4,z,held4,up4⟩,ds4⟩=>?_) λ_ _ z=>z;subst z;refine a6 (ê.any (wpAny_landsW (Q:=λ_ s2=>∃h',s2={ s1 with heap:=h' }/\f8 B (X.env::X.outer) a (.ref C) t h'/\h4.UpToSlots h') held4 λh' x up=>⟨h',rfl,x,up⟩)) (λ_ s5 ⟨⟨h5,z,fl5,up5⟩,ds5⟩=>?_) λ_ _ z=>z;subst z;have I5:Inv X Q9 O H' { s1 with heap:=h5 }:=inv (tk:=s1.toks) fl5.1 (up4.trans up5);have I5h:Inv (Z8 X a) Q9 O H' { s1 with heap:=h5 }:=I5.Z8;refine wpAny_handleBy_cons (codeAny_handlers_test (rj (X:=Z8 X a) I5h hg hm ?_ hd)) (by intro z;cases z);obtain⟨oe,e4,XY⟩:=fl5.there;refine Ev ZC ZD I5.ZE sub e4 XY (codeAny_handlers_suite_as ?_);refine a6 (ê.any (lands_againW (Q:=λ_ s2=>∃h',s2={ s1 with heap:=h' }/\f8 B (X.env::X.outer) a (.ref C) t h'/\h5.UpToSlots h') fl5 λh' x up=>⟨h',rfl,x,up⟩)) (λ_ s6 ⟨⟨h6,z,fl6,up6⟩,ds6⟩=>?_) λ_ _ z=>z;subst z;have I6:Inv X Q9 O H' { s1 with heap:=h6 }:=inv (tk:=s1.toks) fl6.1 ((up4.trans up5).trans up6);have V8:∀b o,s2.heap.get? b=Za o->b≠a:=λb o e z=>by rw[z,ha] at e;cases e
  have I7:Inv X Q9 O (upd H' a (F7 C a d)) { s1 with heap:=h6 }:=by
   refine⟨I6.ok,I6.os,I6.bare,⟨I6.base.keep,I6.base.slot,λb o e z hx=>?_,I6.base.there,λb xs e=>?_,λb o u e=>?_,λb ps e=>?_⟩,I6.loc,I6.cell,?_,λy c e=>?_,λp hp=>?_,λb u e=>?_,I6.len⟩
   .obtain⟨o',e'⟩:=J.base.there b o e hx;rw[mq (V8 b o' e')];exact I6.base.free b o e z hx
   .rw[mq (mH (I6.base.Á b xs e) UU)];exact I6.base.Á b xs e
   .rw[mq (mH (I6.base.ZF b o u e) UU)];exact I6.base.ZF b o u e
   .obtain⟨m1,e1⟩:=I6.base.Ï b ps e;exact⟨m1,by rw[mq (mH e1 UU)];exact e1⟩
   .obtain⟨m,⟨o,_,_,ho,_⟩,_⟩:=J.loc;rw[mq (V8 _ o ho)];exact I6.free
   .obtain⟨v,o,ho,_⟩:=J.cell y c e;rw[mq (V8 _ o ho)];exact I6.Y9 y c e
   .obtain⟨e1,z1,r1⟩:=I6.pin p hp;refine⟨e1,?_,r1⟩;rw[mq (V8 _ _ (J.pin p hp).1)];exact z1
   .by_cases hb:b=a
    .subst hb;rw[mw] at e;cases e;obtain⟨oe,vs,e7,c7,d7,_⟩:=fl6.first;exact NU ⟨oe,vs,e7,c7,d7⟩ (dk.go ((ds4.trans ds5).trans ds6) ⟨oe,e7⟩)
    .rw[mq hb] at e;exact(I6.Ye b u e).Ð (λc v _ q=>q) (λc q=>by rw[mq (mH q UU)];exact q) λc xs q=>by rw[mq (mH q UU)];exact q
  refine sR (v:=.ref a) I7 hN hi (.inl hl) rfl (λs8 I8=>?_) (.inr hl);refine a6 (hh a Q9 s8 _ _ _ I8.Z8 (hth a UU)) (λfl9 s9 q9=>?_) λ_ _ z=>bo z;have ok:=I8.ok;cases fl9 with
  |next =>
   obtain⟨σ9,H9,I9,q9⟩:=q9;exact zQ (I9.Ŭ ok) hN hi hl λVZ TL=>⟨_,H9,TL,q9⟩
  |brk =>
   obtain⟨σ9,H9,I9,q9⟩:=q9;exact zQ (I9.Ŭ ok) hN hi hl λVZ TL=>⟨_,H9,TL,q9⟩
  |cont =>
   obtain⟨σ9,H9,I9,q9⟩:=q9;exact zQ (I9.Ŭ ok) hN hi hl λVZ TL=>⟨_,H9,TL,q9⟩
  |ret v =>
   obtain⟨y,σ9,H9,I9,r9,q9⟩:=q9;exact zQ (I9.Ŭ ok) hN hi hl λVZ TL=>⟨y,_,H9,TL,r9,q9⟩
def JQ{st}{t}(h:PSx X st t):ÁX X [st] t:=by
 refine λQ9 s O H Dn E I hq=>jf (Yq (h Q9 s O H Dn E I hq) λf s1 q=>?_);cases f with
 |next=>exact fm q
 |brk=>exact q
 |cont=>exact q
 |ret v=>exact q
def ŀ(a b:Str):Bool:=!fY b.cps.toList a.cps.toList
theorem wm:∀a:List Nat,fY a a=false
 |[]=>rfl
 |a::r=>by show(decide (a<a)||(a==a&&fY r r))=false;rw[wm r];simp
theorem uJ:∀{a b c:List Nat},fY a b=true->fY b c=true->fY a c=true
 |[],_,[],h1,h2=>by
  cases ‹List Nat› with
  |nil=>exact h1
  |cons x r=>exact absurd (show fY (x::r) []=true from h2) (by intro z;cases z)
 |[],_,_::_,_,_=>rfl
 |a::r,[],_,h1,_=>by cases h1
 |a::r,b::t,[],_,h2=>by cases h2
 |a::r,b::t,c::u,h1,h2=>by
  have h1:(decide (a<b)||(a==b&&fY r t))=true:=h1;have h2:(decide (b<c)||(b==c&&fY t u))=true:=h2;show(decide (a<c)||(a==c&&fY r u))=true;simp only[eT,cJ,beq_iff_eq] at h1 h2 ⊢;obtain h1|⟨e1,g1⟩:=h1
  .grind
  .obtain h2|⟨e2,g2⟩:=h2
   .exact .inl (by lia)
   .exact .inr ⟨e1.trans e2,uJ g1 g2⟩
theorem xP:∀a b:List Nat,fY a b=false->fY b a=false->a=b
 |[],[],_,_=>rfl
 |[],_::_,h,_=>by cases h
 |_::_,[],_,h=>by cases h
 |a::r,b::t,h1,h2=>by
  have h1:(decide (a<b)||(a==b&&fY r t))=false:=h1;have h2:(decide (b<a)||(b==a&&fY t r))=false:=h2;simp only[Bool.or_eq_false_iff,Bool.and_eq_false_iff,beq_eq_false_iff_ne] at h1 h2;have e:a=b:=by lia
  subst e;rw[xP r t (h1.2.resolve_left λz=>z rfl) (h2.2.resolve_left λz=>z rfl)]
def IF(a b):ŀ a b=true\/ŀ b a=true:=by
 unfold ŀ;cases h:fY b.cps.toList a.cps.toList with
 |false=>exact .inl rfl
 |true =>
  right;cases h2:fY a.cps.toList b.cps.toList with
  |false=>rfl
  |true =>
   have:=uJ h h2;rw[wm] at this;cases this
def Kk(h1:ŀ a b=true)(h2:ŀ b a=true):a=b:=by
 unfold ŀ at h1 h2;have e:=xP b.cps.toList a.cps.toList (by simpa using h1) (by simpa using h2);obtain⟨⟨x⟩⟩:=a;obtain⟨⟨y⟩⟩:=b
 grind
def Ck(h1:ŀ a b=true)(h2:ŀ b c=true):ŀ a c=true:=by
 unfold ŀ at *;cases h:fY c.cps.toList a.cps.toList with
 |false=>rfl
 |true =>
  have h2:fY c.cps.toList b.cps.toList=false:=by simpa using h2
  cases h3:fY b.cps.toList c.cps.toList with
  |true =>
   have:=uJ h3 h
   grind
  |false =>
   have e:=xP _ _ h3 h2
   grind
noncomputable def Jr(x:Str):List Str->List Str
 |[]=>[x]
 |y::r=>if ŀ x y then x::y::r else y::Jr x r
noncomputable def Yu:List Str->List Str
 |[]=>[]
 |x::r=>Jr x (Yu r)
theorem xS(x):∀l,(Jr x l).Perm (x::l)
 |[]=>.refl _
 |y::r=>by
  unfold Jr;split
  .exact .refl _
  .exact((xS x r).cons y).trans (.swap x y r)
theorem mJ:∀l,(Yu l).Perm l
 |[]=>.refl _
 |x::r=>(xS x (Yu r)).trans ((mJ r).cons x)
theorem yi(x):∀l,l.Pairwise (λa b=>ŀ a b=true)->(Jr x l).Pairwise (λa b=>ŀ a b=true)
 |[],_=>by simp[Jr]
 |y::r,h=>by
  obtain⟨h1,h2⟩:=cW.mp h;unfold Jr;split
  .rename_i Wa;refine cW.mpr ⟨λz hz=>?_,h⟩;obtain rfl|hz:=ao.mp hz
   .exact Wa
   .exact Ck Wa (h1 z hz)
  .rename_i Wa;refine cW.mpr ⟨λz hz=>?_,yi x r h2⟩;obtain rfl|hz:=ao.mp ((xS x r).mem_iff.mp hz)
   .exact(IF z y).resolve_left Wa
   .exact h1 z hz
theorem p8:∀l,(Yu l).Pairwise (λa b=>ŀ a b=true)
 |[]=>.nil
 |x::r=>yi x _ (p8 r)
theorem qf:∀{l m:List Str},l.Perm m->l.Pairwise (λa b=>ŀ a b=true)->m.Pairwise (λa b=>ŀ a b=true)->l=m
 |[],m,p,_,_=>(List.nil_perm.mp p).symm
 |a::l,[],p,_,_=>absurd (List.perm_nil.mp p) (by simp)
 |a::l,b::m,p,h1,h2=>by
  obtain⟨a1,a2⟩:=cW.mp h1;obtain⟨b1,b2⟩:=cW.mp h2;have e:a=b:=by
   have ha:=p.mem_iff.mp al;have hb:=p.mem_iff.mpr al;obtain e|ha:=ao.mp ha
   .exact e
   .obtain e|hb:=ao.mp hb
    .exact e.symm
    .exact Kk (a1 b hb) (b1 a ha)
  subst e;rw[qf (List.Perm.cons_inv p) a2 b2]
def Ef(p:l.Perm m):Yu l=Yu m:=qf ((mJ l).trans (p.trans (mJ m).symm)) (p8 l) (p8 m)
def vS(l):(Yu l).length=l.length:=(mJ l).length_eq
theorem tU:∀(p:Str)(l:List Str),risingS p l=true->(p::l).Pairwise (λa b=>ŀ a b=true)
 |p,[],_=>List.pairwise_singleton _ _
 |p,x::r,h=>by
  have h:(!fY x.cps.toList p.cps.toList&&risingS x r)=true:=h;rw[cJ] at h;have ih:=tU x r h.2;refine cW.mpr ⟨λz hz=>?_,ih⟩;obtain rfl|hz:=ao.mp hz
  .exact h.1
  .exact Ck (h.1) ((cW.mp ih).1 z hz)
def xf:∀(l:List Str),sortedS l=true->l.Pairwise (λa b=>ŀ a b=true)
 |[],_=>.nil
 |x::r,h=>tU x r h
def Lx(p:l.Perm m)(h:sortedS l=true):l=Yu m:=qf (p.trans (mJ m).symm) (xf l h) (p8 m)
theorem zj:∀{ss:List Str}{us:List ae},Vals (ss.map V.str) us->StrsAre us ss
 |[],_,.nil=>.nil
 |x::ss,_,.cons ⟨t,e⟩ r=>by subst e;exact .cons x t (zj r)
theorem Dt:∀{ss:List Str}{us:List ae},StrsAre us ss->Vals (ss.map V.str) us
 |_,_,.nil=>.nil
 |_,_,.cons x t r=>.cons ⟨t,rfl⟩ (Dt r)
theorem GU:∀(xs:List V)(us:List ae),xs.length=us.length->(∀(j:Nat) x u,xs[j]?=Za x->us[j]?=Za u->RelV x u)->Vals xs us
 |[],[],_,_=>.nil
 |[],_::_,e,_=>by cases e
 |_::_,[],e,_=>by cases e
 |x::xs,u::us,e,h=>.cons (h 0 x u rfl rfl) (GU xs us (jX e) λj y v e1 e2=>h (j+1) y v (by simpa using e1) (by simpa using e2))
def Ķ:YM X (.builtin "sorted") (λxs H Q=>∃p ss,xs=[.ref p]/\YO X.K H p (ss.map V.str)/\ss.length<64/\∀l,H l=Zb->Q (.ref l) (upd H l (.lst ((Yu ss).map V.str)))):=by
 rintro Q9 s O H xs us Q I r ⟨p,ss,rfl,hq,hz,q⟩
 obtain⟨u,rfl,rfl⟩:=re r;obtain⟨its,rv,pl,UO⟩:=I.list hq;have hS:=zj rv;have hl:its.length=ss.length:=by have:=rv.length;grind
 refine sorted_strs pl.isList hS (by lia) λUL ss' h1 h2 h3=>?_;have e:=Lx h2 h3;subst e;obtain⟨ep,RT⟩:=sortedAll_at s.heap its UL;have hf:=I.Ye.fresh (fb _);refine⟨.ref _,_,I.laid (λb o e=>sortedAll_old e) (fb _) ?_,rfl,q _ hf⟩;refine⟨?_,UL.toList,ep,Dt h1,?_⟩
 .rw[ac,vS]
  simp_all
 .rw[RT]
def qN(hc:X.calm=true):YM X (.builtin "sorted") (λxs H Q=>∃p Ra ss,xs=[.ref p]/\Rd H p (.dK Ra)/\Ra.map (·.1)=ss.map ap/\ss.length<64/\∀l,H l=Zb->Q (.ref l) (upd H l (.lst ((Yu ss).map V.str)))):=by
 rintro Q9 s O H xs us Q I r ⟨p,Ra,ss,rfl,hq,hk,hz,q⟩
 obtain⟨u,rfl,rfl⟩:=re r;obtain⟨z,Ug,vs,rel,dd⟩:=vt I.Ye hq;obtain⟨ep,RT⟩:=dd.dictAt;have Re:vs.length=ss.length:=by
  have e1:=rel.length;have e2:=congrArg cE hk
  grind
 apply Calls.call_function_entry kind_sorted plain_sorted entry_sorted (args_sorted1 _);refine af (aE ?_);refine af (PySem.W.kdu_collect (PySem.W.kdl_dict Ug) (I.ok.hd hc) RT (aJ (by lia) (show 64<=aG by decide)) λh' tk Ru hkp VJ=>?_);have hl:Ru.toList.length=vs.length:=by rw[lA];exact VJ.1
 have hS:StrsAre Ru.toList ss:=by
  refine zj (GU _ _ (by grind) λj x u e1 e2=>?_);obtain⟨k,y,e3,e4⟩:=VJ.2 j u (by rw[<-Array.getElem?_toList];exact e2);have e5:(vs.map (·.1))[j]?=Za k:=by rw[aF,e3];rfl
  rw[<-rel.keys,hk,aF] at e5;rw[aF] at e1;cases e6:ss[j]? with
  |none=>rw[e6] at e1;cases e1
  |some z =>
   rw[e6] at e1 e5;have e1:=bL e1;have e5:=bL e5;subst e1 e5;rcases nK (k:=ap z) e4 with⟨i,t,q1,_⟩|⟨y',t,q1,q2⟩
   .cases q1
   .cases q1;exact⟨t,q2⟩
 refine af (wpAny_newList ?_ (by rw[hl];exact aJ (by lia) (show 64<=aG by decide)));have UQ:(h'.push (seqObj "list" Ru.toList.toArray 0)).get? h'.objs.size=Za (seqObj "list" Ru.toList.toArray 0):=aP _ rfl;refine af (cF (wpAny_call_entry slot_list_sort ⟨_,UQ,rfl⟩ entry_list_sort (list_sort_treeK strKind_oneLt UQ hS.keysOf (λU4 U3 rest e=>keyKind_strs (by rw[<-e];exact hS)) (by lia) λSA a1 a2=>⟨_,rfl,?_⟩) (args_list_sort _)));refine aE ⟨_,rfl,?_⟩;obtain⟨ss',h1,h2,h3⟩:=sorted_out_str hS a1 a2;have e:=Lx h2 h3;subst e;have I1:Inv X Q9 O H { s with heap:=h',toks:=tk }:=I.kept hkp;obtain⟨e',XB⟩:=sortedHeap_at UQ;have hf:=I1.Ye.fresh (ak _);refine⟨.ref _,_,I1.laid (λb o e=>?_) (ak _) ?_,rfl,q _ hf⟩
 .have Rr:=aw e;refine(sortedHeap_old (ay Rr) (by rw[size_push'];exact cj Rr)).trans ?_;exact aj _ e
 .refine⟨?_,((arrOf SA).map (·.2)).toList,e',Dt h1,?_⟩
  .rw[ac,vS];exact aJ (fC hz) (by decide)
  .exact XB
end
def Its(x:Str):It:=⟨λi _=>i<x.cps.size,λi H v H'=>H'=H/\∃c,x.cps[i]?=Za c/\v=.str ⟨#[c]⟩,λi _=>x.cps.size<=i⟩
def BW(hh:A.handled=Zb)(it)(x)(t):Walks P w A it [it] [it] x.cps.size (SignAt x) (λi h=>h.IsStrIter it (iZ x) x t i):=by
 unfold iZ;split
 .exact Walks.strAscii hh it x t
 .exact Walks.strWide hh it x t
def Jx{P}{w}{K}{tg}(it)(x)(t):Turn P w K tg (Its x) [it] it (λi h=>i<=x.cps.size/\h.IsStrIter it (iZ x) x t i) where
 mem:=by simp
 obj:=λi h st b hb=>by
  have e:b=it:=by simpa using hb
  subst e;obtain⟨_,o,e,c,d⟩:=st
  grind
 keep:=λi h h' st k=>by obtain⟨z,o,e,c,d⟩:=st;exact⟨z,o,k it (by simp) o e,c,d⟩
 item:=by intro X hP hw hK hc i Q9 s O H E I hf st hg;subst hP hw hK;obtain⟨f0,f1,f2,f3,f4,f5⟩:=hf it (by simp);refine(BW (I.ok.hd hc) it x t).item i s _ _ hg st.2 λv h' tk hv SA kk=>?_;obtain⟨c,u,e1,rfl⟩:=hv;have I1:Inv X Q9 O H { s with heap:=h',toks:=tk }:=I.turned (λb o hb e=>kk b o (by simpa using hb) e) f0 f1 f3 f4 f5;obtain⟨o,e,cl,d⟩:=id SA;refine⟨_,rfl,FZ e cl d ?_ ⟨.str ⟨#[c]⟩,H,I1,⟨u,rfl⟩,⟨rfl,c,e1,rfl⟩,⟨hg,SA⟩,λb hb=>(hf b hb).1⟩⟩;unfold iZ;split<;>decide
 done:=by intro X hP hw hK hc i Q9 s O H E I hf st hg;subst hP hw hK;obtain⟨f0,f1,f2,f3,f4,f5⟩:=hf it (by simp);have e:=jS st.1 hg;subst e;exact(BW (I.ok.hd hc) it x t).done s _ _ st.2 λh' tk kk=>⟨rfl,I.turned (λb o hb e=>kk b o (by simpa using hb) e) f0 f1 f3 f4 f5⟩
 self:=λA i s Q E st h=>by
  obtain⟨_,st⟩:=st;unfold iZ at st;split at st
  .exact wpAny_pyIter_striter_ascii st h
  .exact wpAny_pyIter_striter_wide st h
section
variable{X:Cx}{tg:a7}
def ÂH(tl:TE):TI:=λO H R=>tl O H λv H1=>∃x,v=.str x/\R (Its x) H1
def PB{l}{tl}(hl:PE X l tl):PI X tg l (ÂH tl):=by
 refine λQ9 s O H R I h=>Yq (hl Q9 s O H _ I h) λv s1=>e4 λy H1 I1 r1 q1=>?_;obtain⟨x,rfl,q⟩:=q1;obtain⟨t,rfl⟩:=r1;apply wpAny_pyIter_strU;refine⟨s1.heap.objs.size,[s1.heap.objs.size],_,_,H1,rfl,I1.kept λb o e=>aj _ e,Jx _ x t,⟨aY _,_,aP _ rfl,rfl,rfl⟩,λb hb=>?_,q⟩;have e:b=s1.heap.objs.size:=by simpa using hb
 subst e;exact I1.Ĳ (ak _) (I1.Ye.fresh (ak _))
end
section
variable{X:Cx}{Q9:List (ag×Obj)}{O:St}{H:Hp}{s:au}{d:ag}{Ra:List (Key×V)}{ob:Obj}
def Inv.Ř(I:Inv X Q9 O H s)(hd:H d=Za u)(n1:∀y,u≠.own y)(n2:∀xs,u≠.tup xs)(n3:∀o v,X.Ha0 d≠Za (.YQ o v))(n4:∀ps,u≠.Ņ ps)(ok:YE X.prog X.w (upd H d u') s.heap d u'):Inv X Q9 O (upd H d u') s:=by
 have ne:∀b v,H b=Za v->v≠u->b≠d:=λb v e hv z=>by
  grind
 have nn:∀b,H b=Zb->b≠d:=λb e z=>by
  grind
 refine⟨I.ok,I.os,I.bare,⟨I.base.keep,I.base.slot,λb o e z hx=>?_,I.base.there,λb xs e=>?_,λb o v e=>?_,λb ps e=>?_⟩,I.loc,I.cell,?_,λy c e=>?_,λp hp=>?_,λb v e=>?_,I.len⟩
 .have:=I.base.free b o e z hx;rw[mq (nn b this)];exact this
 .have:=I.base.Á b xs e;rw[mq (ne b _ this λz=>n2 xs z.symm)];exact this
 .have:=I.base.ZF b o v e;have hb:b≠d:=λz=>by subst z;exact n3 o v e
  rw[mq hb];exact this
 .obtain⟨m,e1⟩:=I.base.Ï b ps e;exact⟨m,by rw[mq (ne b _ e1 λz=>n4 _ z.symm)];exact e1⟩
 .rw[mq (nn _ I.free)];exact I.free
 .rw[mq (nn _ (I.Y9 y c e))];exact I.Y9 y c e
 .obtain⟨e1,z1,r1⟩:=I.pin p hp;exact⟨e1,by rw[mq (nn _ z1)];exact z1,r1⟩
 .by_cases hb:b=d
  .subst hb;rw[mw] at e
   grind
  .rw[mq hb] at e;exact(I.Ye b v e).Ð (λc v _ q=>q) (λc q=>by rw[mq (ne c _ q λz=>n1 _ z.symm)];exact q) λc xs q=>by rw[mq (ne c _ q λz=>n2 _ z.symm)];exact q
def O2{H H'}(x:YE P w H h d (.dK Ra)):YE P w H' h d (.dK Ra):=x
def Inv.freeze(I:Inv X Q9 O H s)(hd:H d=Za (.dK Ra))(ho:s.heap.get? d=Za ob):Inv X Q9 O (upd H d (.YQ ob (.dK Ra))) s :=
 I.Ř hd (by grind) (by grind) (λo v z=>by rw[I.base.ZF d o v z] at hd;grind) (by grind) ⟨ho,O2 (I.Ye d _ hd)⟩
def Inv.ÿ(I:Inv X Q9 O H s)(hd:H d=Za (.YQ ob (.dK Ra)))(n3:∀o v,X.Ha0 d≠Za (.YQ o v)):Inv X Q9 O (upd H d (.dK Ra)) s :=
 I.Ř hd (by grind) (by grind) n3 (by grind) (O2 (I.Ye d _ hd).2)
end
def Itd(d:ag)(ob:Obj)(Ra:List (Key×V)):It :=
 ⟨λi H=>i<Ra.length/\H d=Za (.YQ ob (.dK Ra)),λi H v H'=>H'=H/\∃kv,Ra[i]?=Za kv/\v=kV kv.1,λi H=>Ra.length<=i/\H d=Za (.YQ ob (.dK Ra))⟩
def LF(I:Inv X Q9 O H s)(hd:H d=Za (.YQ ob (.dK Ra)))(he:ob.data=.dict es0 ep) :
  ∃vs,KV Ra vs/\s.heap.DictAt (nN X.prog X.w) d vs ep:=by
 obtain⟨e,z,_,vs,rel,dd⟩:=(I.Ye d _ hd);obtain⟨Wp,o,es,e1,e2,e3,e4⟩:=dd.dictAt;rw[e] at e1;cases e1;rw[he] at e3;cases e3;exact⟨vs,rel,ob,_,e,e2,he,e4⟩
def BZ{P}{w}{K}{tg}(d it)(ob)(Ra)(es0:Array DictEntry)(ep)(he:ob.data=.dict es0 ep) :
  Turn P w K tg (Itd d ob Ra) [it] it (λi h=>i<=Ra.length/\h.IsKeyIter it d i Ra.length ep) where
 mem:=by simp
 obj:=λi h st b hb=>by
  have e:b=it:=by simpa using hb
  subst e;obtain⟨_,o,e,c,d⟩:=st
  grind
 keep:=λi h h' st k=>by obtain⟨z,o,e,c,d⟩:=st;exact⟨z,o,k it (by simp) o e,c,d⟩
 item:=by
  intro X hP hw hK hc i Q9 s O H E I hf st hg;subst hP hw hK;obtain⟨f0,f1,f2,f3,f4,f5⟩:=hf it (by simp);obtain⟨hi,hd⟩:=hg;obtain⟨vs,rel,at_⟩:=LF I hd he;have hl:=rel.length;have hiv:i<vs.length:=by omega
  have Ur:s.heap.IsKeyIter it d i vs.length ep:=by rw[<-hl];exact st.2
  refine wpAny_pyNext_dict_item (k:=vs[i].1) (v:=vs[i].2) Ur at_ (by simp[hiv]) λkey h' hk it' sb=>?_;have I1:=I.turned (t':=s.toks) (λb o hb e=>(sb.2 b hb).trans e) f0 f1 f3 f4 f5;have Uq:Ra[i].1=vs[i].1:=by
   have e1:(Ra.map (·.1))[i]?=(vs.map (·.1))[i]?:=by rw[rel.keys]
   rw[aF,aF,aA hi,aA hiv] at e1;exact bL e1
  obtain⟨o,e,cl,dt⟩:=id it';refine⟨key,rfl,FZ e cl dt (Zf rfl) ⟨kV Ra[i].1,H,I1,?_,⟨rfl,Ra[i],by simp[hi],rfl⟩,⟨hi,by rw[hl];exact it'⟩,λb hb=>(hf b hb).1⟩⟩;rw[Uq];have hk:=hk;rcases nK hk with⟨z,t,q1,q2⟩|⟨z,t,q1,q2⟩
  .rw[q1,q2];exact⟨t,rfl⟩
  .rw[q1,q2];exact⟨t,rfl⟩
 done:=by
  intro X hP hw hK hc i Q9 s O H E I hf st hg;subst hP hw hK;obtain⟨f0,f1,f2,f3,f4,f5⟩:=hf it (by simp);obtain⟨hi,hd⟩:=hg;obtain⟨vs,rel,at_⟩:=LF I hd he;have hl:=rel.length;have Ur:s.heap.IsKeyIter it d i vs.length ep:=by rw[<-hl];exact st.2
  exact wpAny_pyNext_dict_end (I.ok.hd hc) Ur at_ (by grind) λh' eb=>⟨rfl,I.turned (λb o hb e=>eb b o hb e) f0 f1 f3 f4 f5⟩
 self:=λA i s Q E st h=>by exact wpAny_pyIter_keyiter st.2 h
section
variable{X:Cx}
def Nm(x:Str):Prop:=x.length<=100/\∀c∈x.cps.toList,c<16^8
def Cf:Zq X (bO .LtE) (λx y H Q=>∃i j,x=.str i/\y=.str j/\Q (.bl (!decide (j.cps.toList<i.cps.toList))) H):=by
 rintro Q9 s O H x y v u Q I rx ry ⟨i,j,rfl,rfl,q⟩
 obtain⟨t,rfl⟩:=rx;obtain⟨t',rfl⟩:=ry;exact PySem.P.le_str ⟨.bl _,H,I,rfl,q⟩
def Nz:MtR X "str.join" (λx vs H Q=>∃(z:Str)(p:ag)(ys:List Str),x=.str z/\vs=[.ref p]/\YO X.K H p (ys.map V.str)/\(ys.map (·.length)).sum+ys.length*z.length<=16777216/\Q (.str (Txt.join z ys)) H):=by
 rintro Q9 s O H x vs v us Q I rx rv ⟨z,p,ys,rfl,rfl,hq,hz,q⟩
 obtain⟨t,rfl⟩:=rx;obtain⟨u,rfl,rfl⟩:=rv.one;obtain⟨its,r,pl,UO⟩:=I.list hq;exact join_list pl.isList (by simpa using zj r) hz λt' k=>⟨.str _,H,I.tok k,⟨t',rfl⟩,q⟩
def Fh:YM X (.builtin "all") (λxs H Q=>∃(p:ag)(bs:List Bool),xs=[.ref p]/\YO X.K H p (bs.map V.bl)/\X.calm=true/\Q (.bl (bs.all id)) H):=by
 rintro Q9 s O H xs us Q I r ⟨p,bs,rfl,hq,hc,q⟩
 obtain⟨u,rfl,rfl⟩:=re r;obtain⟨its,rv,pl,UO⟩:=I.list hq;have hl:its.length=bs.length:=by have:=rv.length;rw[ac] at this;exact this.symm
 have RB:p≠s.heap.objs.size:=by obtain⟨o,ho,_⟩:=pl.isList;exact ay (aw ho)
 refine call_all_walk (gX pl.isList ?_);refine⟨s.heap.objs.size,_,_,its.toArray.size,_,_,λi=>(bs[i]?).getD true,rfl,Walks.list (show X.A.in1.handled=Zb from I.ok.hd hc) _ p RB its.toArray,⟨⟨_,aP _ rfl,rfl,rfl⟩,pl.isList.push _⟩,?_,λh' tk hk=>?_⟩
 .intro i v s' Q' E' hP hQ;have hP:=hP;have hv:its[i]?=Za v:=by simpa using hP
  have hi:=(aR.mp hv).1;obtain⟨u',hu',rfl⟩:=rv.get (i:=i) (x:=.bl bs[i]) (by simp[<-hl,hi]);rw[hv] at hu';cases hu';apply dB;have e:(bs[i]?).getD true=bs[i]:=by simp[<-hl,hi]
  rw[<-e];exact hQ
 .have I1:Inv X Q9 O H { s with heap:=h',toks:=tk }:=I.kept λb o e=>hk b o (λz=>by
   have e1:b=s.heap.objs.size:=by simpa using z
   exact absurd (aw e) (by rw[e1];exact eR _)) (aj _ e)
  refine⟨.bl _,H,I1,rfl,?_⟩;have e:(br its.toArray.size).all (λi=>(bs[i]?).getD true)=bs.all id:=by
   rw[bj,hl,cx,dG,dG];constructor
   .intro z b hb;obtain⟨i,hi,rfl⟩:=List.mem_iff_getElem.mp hb;have:=z i (cX.mpr hi);simpa[hi] using this
   .intro z i hi;have hi:=cX.mp hi;simpa[hi] using z bs[i] (cU hi)
  rw[e];exact q
def NX:List V->List V->Bool
 |[],[]=>true
 |x::xs,y::ys=>ŝ x y&&NX xs ys
 |_,_=>false
theorem Fc:∀{xs ys:List V},xs.length=ys.length->NX xs ys=(br xs.length).all λi=>ŝ ((xs[i]?).getD .Yh) ((ys[i]?).getD .Yh)
 |[],[],_=>rfl
 |[],_::_,h=>by cases h
 |_::_,[],h=>by cases h
 |x::xs,y::ys,h=>by show(ŝ x y&&NX xs ys)=_;rw[Fc (jX h),bw,kT,iV,List.all_map];rfl
def FW(rx:Vals xs us)(ry:Vals ys ws)(hl:xs.length=ys.length)(fx:xs.all tX=true)(fy:ys.all tX=true) :
  ∀j (h1:j<us.toArray.size) (h2:j<ws.toArray.size),lI A s us.toArray[j] ws.toArray[j] (ŝ ((xs[j]?).getD .Yh) ((ys[j]?).getD .Yh)):=by
 intro j h1 h2;have e1:=rx.length;have e2:=ry.length;have UW:j<xs.length:=by rw[e1];simpa using h1
 have XR:j<ys.length:=by rw[e2];simpa using h2
 obtain⟨u,hu,ru⟩:=rx.get (i:=j) (x:=xs[j]) (by simp[UW]);obtain⟨w,hw,RP⟩:=ry.get (i:=j) (x:=ys[j]) (by simp[XR]);have e3:us.toArray[j]=u:=by
  simp_all
 have e4:ws.toArray[j]=w:=by
  have:ws[j]?=Za ws.toArray[j]:=by simp[show j<ws.length by simpa using h2]
  grind
 rw[e3,e4];have e5:(xs[j]?).getD .Yh=xs[j]:=by simp[UW]
 have e6:(ys[j]?).getD .Yh=ys[j]:=by simp[XR]
 rw[e5,e6];exact GH ru RP (dG.mp fx _ (cU UW)) (dG.mp fy _ (cU XR))
def ÂM(K:aa)(n:Nat)(t:ϭ):TG:=λv O H Q=>∃a xs,v=.ref a/\YO K H a xs/\xs.length=n/\t xs O H Q
def PH(hc:X.calm=true)(h:PGs X es t)(hn:(cO es X.env).length=n:=by rfl)(RW:(cO es X.env).findIdx? (·.1)=none:=by rfl):PG X (.Tuple es k pos) (ÂM X.K n t):=by
 rintro Q9 s O H v u Q I r ⟨a,xs,e1,hq,hl,hw⟩
 subst e1;cases r;obtain⟨its,rv,ht,hz⟩:=I.list hq;refine af (ej ?_);unfold unpack;have hsz:(cO es X.env).length=its.toArray.size:=by simp[hn,<-hl,rv.length]
 rw[hsz,RW];refine af (cF (PySem.W.kun_itemsOf (I.ok.hd hc) ht.isList λh' hx=>?_));have I1:=I.kept (t':=s.toks) λb o e=>hx b o (ay (aw e)) e;exact h Q9 _ O H xs _ Q I1 (by simpa using rv) hw
def PJ(X:Cx)(es:List a7)(t:St->Hp->(Hp->Prop)->Prop):Prop:=∀(Q9:List (ag×Obj))(s:au)(O:St)(H:Hp)(Ru:Str)(n:Nat)(Q:Hp->Prop),Inv X Q9 O H s->Ru.length<=2000*n->n+es.length<=100->t O H Q ->
 Joins (model X.prog X.w) X.A X.xe (evalEach es X.env) Ru (λUL s1=>UL.length<=aG/\∃H',Inv X Q9 O H' s1/\Q H') s
def ÂD:St->Hp->(Hp->Prop)->Prop:=λ_ H Q=>Q H
def ÂC(te:TE)(t:St->Hp->(Hp->Prop)->Prop):St->Hp->(Hp->Prop)->Prop:=λO H Q=>te O H λv H1=>(∃x,v=.str x/\Nm x)/\t O H1 Q
def Bb:PJ X [] ÂD:=λQ9 s O H Ru n Q I h1 h2 h=>⟨aJ h1 (aJ (lZ 2000 (show n<=100 by simpa using h2)) (Zf rfl)),H,I,h⟩
def zJ(a b:Str):(a++b).length=a.length+b.length:=strLen_append a b
def Ba{j pos}(hr:PJ X es t)(hl:c.length<=2000:=by decide):PJ X (.Constant (.str c) j pos::es) t:=by
 intro Q9 s O H Ru n Q I h1 h2 h;have h2:n+(es.length+1)<=100:=h2;refine lK ⟨c,s.toks,rfl,?_,hr Q9 _ O H (Ru++c) (n+1) Q (I.tok _) ?_ (by lia) h⟩
 .rw[zJ];exact aJ (show Ru.length+c.length<=2000*101 by lia) (Zf rfl)
 .rw[zJ];lia
def yJ(he:PE X e te)(hr:PJ X es t):PJ X (.FormattedValue e 114 Zb pos::es) (ÂC te t):=by
 intro Q9 s O H Ru n Q I h1 h2 h;have h2:n+(es.length+1)<=100:=h2;refine wpAny_FormattedValue_repr (Yq (he Q9 s O H _ I h) λv s1 ⟨y,H1,I1,r1,⟨x,e1,nm⟩,q1⟩=>?_);subst e1;obtain⟨tk,rfl⟩:=r1;have Re:(io x).length<=1002:=aJ (PySem.StrLaws.reprText_len x nm.2) (by have:=nm.1;lia);have hsz:(io x).length<=aG:=aJ Re (Zf rfl);have Ry:∀tk s2,Inv X Q9 O H1 s2->∃y t',Value.str (io x) tk=.str y t'/\(Ru++y).length<=aG/\Joins (model X.prog X.w) X.A X.xe (evalEach es X.env) (Ru++y) (λUL s1=>UL.length<=aG/\∃H',Inv X Q9 O H' s1/\Q H') s2:=λtk s2 I2=>by
  refine⟨_,tk,rfl,?_,hr Q9 s2 O H1 _ (n+1) Q I2 ?_ (by lia) q1⟩
  .rw[zJ];exact aJ (show Ru.length+(io x).length<=2000*101 by lia) (Zf rfl)
  .rw[zJ];lia
 refine wpAny_pyReprObj_str ?_ hsz;exact wpAny_formatField_str (Ry _ _ (I1.tok _)) (Ry _ _ ((I1.tok _).tok _)) hsz
def tFs(t:St->Hp->(Hp->Prop)->Prop):TE:=λO H Q=>t O H λH1=>∀x,Q (.str x) H1
def FL{U4 U3}{rest}{pos}{t}(h:PJ X (U4::U3::rest) t)(hl:(U4::U3::rest).length<=100:=by decide):PE X (.JoinedStr (U4::U3::rest) pos) (tFs t):=by
 refine λQ9 s O H Q I hq=>wpAny_JoinedStr ?_;have:=h Q9 s O H cq 0 (λH1=>∀x,Q (.str x) H1) I (aY _) (by lia) hq;revert this;generalize evalEach (U4::U3::rest) X.env=parts;generalize cq=Ru;intro this;clear h hl hq I;induction parts generalizing Ru s with
 |nil =>
  obtain⟨z,H',I',q⟩:=this;exact⟨z,.str Ru,H',I'.tok _,⟨_,rfl⟩,q Ru⟩
 |cons p ps ih =>
  refine a6 this (λv s1 ⟨y,t,e,z,k⟩=>⟨y,t,e,z,ih _ _ k⟩) λ_ _ z=>z
end
def Fn(P:aK)(w:aT)(K:aa)(mg:Str->Option ae)(base:bc)(x:Str)(k:Nat)(ps:List Str)(sp:Sp):Prop :=
 ∃f fd,Yt P w K mg base (YW P w) k f fd ps sp/\mg x=Za (.ref f)/\bV K (.ref f)=true/\Binds K fd ps []
def Mt(P:aK)(w:aT)(K:aa)(mg:Str->Option ae)(base:bc)(C:ag)(m:Str)(k:Nat)(ps:List Str)(sp:Sp):Prop :=
 ∃f fd,Yt P w K mg base (YW P w) k f fd ps sp/\Meth K C m f/\Ŕ K C/\Binds K fd ps []
def MkB(P:aK)(w:aT)(K:aa)(mg:Str->Option ae)(base:bc)(x:Str)(C:ag)(k:Nat)(ps:List Str)(sp:Sp):Prop :=
 ∃f fd,Yt P w K mg base (YW P w) k f fd ps sp/\mg x=Za (.ref C)/\Mk K C f/\Binds K fd ps []
section
variable{X:Cx}{k:Nat}{C:ag}{ps:List Str}{sp:Sp}{E:XK}{x m:Str}{p pos Rc:Pos}{e o:a7}{es:List a7}{ta:TE}{t:TA}
def wR(F:Fn X.prog X.w X.K X.mg X.base x k ps sp)(hr:Yp k X.A)(hg:Gl X x)(hx:oK (YW X.prog X.w) X E)(ha:PA X (e::es) t)(RM:Î x:=by decide)(he:Č X e es:=by rfl)(Rq:(bM pos (ar es X.env)).any (·.1)=false:=by rfl):PE X (.Call (.Name x p) (e::es) [] pos) (Fx sp [] E t):=by
 obtain⟨f,fd,F,hm,hk,hb⟩:=F;exact Nd F hr hg hm hk hb .nil hx ha RM he Rq
def PK(F:Fn X.prog X.w X.K X.mg X.base x k ps sp)(hr:Yp k X.A)(hg:Gl X x)(ha:PA X.ě (e::es) t)(RM:Î x:=by decide)(he:Č X e es:=by rfl)(Rq:(bM pos (ar es X.env)).any (·.1)=false:=by rfl):PEx X (.Call (.Name x p) (e::es) [] pos) (λE=>Fx sp [] E t):=by
 obtain⟨f,fd,F,hm,hk,hb⟩:=F;exact JW F hr hg hm hk hb .nil ha RM he Rq
def tV(he:PE X o ta)(M:Mt X.prog X.w X.K X.mg X.base C m k ps sp)(hr:Yp k X.A)(hx:oK (YW X.prog X.w) X E)(ha:PA X (e::es) t)(RW:Č X e es:=by rfl)(Rq:(bM pos (ar es X.env)).any (·.1)=false:=by rfl)(ht:eval (.Call (.Attribute o m Rc) (e::es) [] pos) X.env=(do
   let ov <-eval o X.env
   fL Rc.atName
   let(f,first) <-holding [ov] (fE ov m pl)
   ip pos f first (bM pos (ar (e::es) X.env)) (ed pos (cI [] X.env))):=by rfl):PE X (.Call (.Attribute o m Rc) (e::es) [] pos) (Jf C m sp [] E ta t):=by
 obtain⟨f,fd,F,hm,c,hb⟩:=M;exact Na he c hm F hr hb .nil hx ha RW Rq ht
def PM(he:PE X o ta)(M:Mt X.prog X.w X.K X.mg X.base C m k ps sp)(hr:Yp k X.A)(hx:oK (YW X.prog X.w) X E)(ht:eval (.Call (.Attribute o m Rc) [] [] pos) X.env=(do
   let ov <-eval o X.env
   fL Rc.atName
   let(f,first) <-holding [ov] (fE ov m pl)
   ip pos f first (bM pos (ar [] X.env)) (ed pos (cI [] X.env))):=by rfl):PE X (.Call (.Attribute o m Rc) [] [] pos) (Jf C m sp [] E ta K9):=by
 obtain⟨f,fd,F,hm,c,hb⟩:=M;exact JY he c hm F hr hb .nil hx ht
def PN(M:MkB X.prog X.w X.K X.mg X.base x C k ps sp)(hr:Yp (k+1) X.A)(hg:Gl X x)(hx:oK (YW X.prog X.w) X E)(RM:Î x:=by decide):PE X (.Call (.Name x p) [] [] pos) (Jg C sp [] E K9):=by obtain⟨f,fd,F,hm,mk,hb⟩:=M;exact JZ mk F hr hg hm hb .nil hx RM
def sU:Zq X (dE .FloorDiv) (rI (λ_ j=>0<j/\j.natAbs.log2<9000) λi j=>.int (i/j)):=opI λi j _ _ _ _ _ hc q=>by exact floordiv_int (by lia) (by rw[Int.fdiv_eq_ediv_of_nonneg i (by lia)];exact q) (.inl (PyProof.noPylong_of_log2 hc.2))
end
section
variable{P:aK}{w:aT}{K:aa}{mg:Str->Option ae}{base:bc}
def Z'.okN{x qual}{st}{f}{fd}{N ps}{k}{sp:Sp}(F:Z' K x qual st f fd)(S:K' N ps (mC st))(len:∀vs H Q E,sp vs H Q E->vs.length=ps.length)(Sn:∀(Rk:ae)(A:bX)(outer:List Env)(s:au)(H:Hp)(vs:List V)(Q:VK)(E:XK),Yp k (A.deeper (dZ qual (mC st) s.heap.objs.size f Rk))->sp vs H Q E ->
   ∃t,Ļ (DB (YW P w) P w K mg base N qual (mC st) f Rk A outer s H E).ě (ou st) t/\t { nx:=λ_ H'=>Q .Yh H',rt:=Q } (start N vs) H):Yt P w K mg base (YW P w) (k+1) f fd ps sp:=by
 obtain⟨oc,od,kV,Si,pm,an,Rk,ct,Tt,rfl,lk,R5⟩:=F.ex;refine OX lk R5 S len λA outer s H vs Q E hr Tp=>?_;obtain⟨t,h,q⟩:=Sn Rk A outer s H vs Q E hr Tp;exact⟨t,h.ě,q⟩
def Z'.Ϫ{x qual}{st}{f}{fd}{N ps}{k}{sp:Sp}(F:Z' K x qual st f fd)(S:K' N ps (mC st))(len:∀vs H Q E,sp vs H Q E->vs.length=ps.length)(Sn:∀(Rk:ae)(A:bX)(outer:List Env)(s:au)(H:Hp)(vs:List V)(Q:VK)(E:XK),Yp k (A.deeper (dZ qual (mC st) s.heap.objs.size f Rk))->sp vs H Q E ->
   ∃t,Ļ (DB (YW P w) P w K mg base N qual (mC st) f Rk A outer s H E) (ou st) t/\t { nx:=λ_ H'=>Q .Yh H',rt:=Q } (start N vs) H):Yt P w K mg base (YW P w) (k+1) f fd ps sp:=by
 obtain⟨oc,od,kV,Si,pm,an,Rk,ct,Tt,rfl,lk,R5⟩:=F.ex;exact OX lk R5 S len λA outer s H vs Q E hr Tp=>Sn Rk A outer s H vs Q E hr Tp
end
def HD(n:Nat)(R:Nat->List V->Hp->Prop)(h0:R 0 [] (upd H1 D (.lst [])))(hn:n<=aG)(hD:∀i ys H,R i ys H->H D=Za (.lst ys))(hgo:∀i ys H,i<n->R i ys H->J.go i H)(Vk:∀i ys H x H',i<n->R i ys H->J.yld i H x H'->∀(Kt:VK)(Kf:Hp->Prop),(∀v H5,H5 D=Za (.lst ys)->R (i+1) (ys++[v]) (upd H5 D (.lst (ys++[v])))->Kt v H5)->(∀H4,R (i+1) ys H4->Kf H4) ->
   tc (Za x::cap) H' λb H4=>if b=true then te (Za x::cap) H4 Kt else Kf H4)(Xr:∀ys H,ys.length<=n->R n ys H->J.stop n H/\Q (.ref D) H) :
  ď J tc te cap D H1 Q:=by
 refine⟨λi m ys H=>i<=n/\m=n-i/\ys.length<=i/\R i ys H,⟨n,aY _,by simp,aY _,h0⟩,?_⟩
 rintro i m ys H2 ⟨hi,rfl,hl,r⟩
 by_cases Rr:i<n
 .refine .inr ⟨hgo i ys H2 Rr r,λx H3 y=>Vk i ys H2 x H3 Rr r y _ _ (λv H5 e r'=>⟨e,by lia,n-(i+1),by lia,Rr,rfl,by simp;lia,r'⟩) λH4 r'=>⟨n-(i+1),by lia,Rr,rfl,by lia,r'⟩⟩
 .have e:i=n:=by lia
  subst e;obtain⟨h1,h2⟩:=Xr ys H2 hl r;exact .inl ⟨h1,hD i ys H2 r,h2⟩
def Ec:bu "len"=Za (.builtin "len"):=by decide +kernel
def BH:bu "isinstance"=Za (.builtin "isinstance"):=by decide +kernel
def vv:bu "sorted"=Za (.builtin "sorted"):=by decide +kernel
def QQ:bu "abs"=Za (.builtin "abs"):=by decide +kernel
def LY:bu "all"=Za (.builtin "all"):=by decide +kernel
def LX:bu "int"=Za (.type "int"):=by decide +kernel
def Fi:bu "tuple"=Za (.type "tuple"):=by decide +kernel
def Ae:bu "list"=Za (.type "list"):=by decide +kernel
def LW:bu "str"=Za (.type "str"):=by decide +kernel
def Ot:bu "bool"=Za (.type "bool"):=by decide +kernel
end L2
set_option maxHeartbeats 4000000
namespace My
open PySem L2
abbrev YH:=L2.YH
def sS(h:H p=Zb):YH H (upd H p o):=λb u e=>by rw[mq (mH e h)];exact e
def nbT(h:(!b)=true):b=false:=by grind
def nbF(h:¬(!b)=true):b=true:=by grind
structure Ent where
 nm:Str
 th:Int
 mr:Int
 ls:Int
 held:List (Str×Int×Int)
structure BA where
 dx:ag
 dp:ag
 dt:ag
 dm:ag
 dl:ag
 dh:ag
noncomputable def bf(z:BA):List (Str×V):=[(("people":Str),V.ref z.dp),("things_of",.ref z.dt),("mark_of",.ref z.dm),("loss_of",.ref z.dl),("held_of",.ref z.dh)]
def qJ{g f:Str}{v:V}{r:List (Str×V)}(h:¬f=g):gF f ((g,v)::r)=gF f r:=by grind
def xn{f:Str}{v:V}{r:List (Str×V)}:gF f ((f,v)::r)=Za v:=by grind
def vw(z:BA):(bf z).lookup ("people":Str)=Za (V.ref z.dp):=xn
def CM(z:BA):(bf z).lookup ("things_of":Str)=Za (V.ref z.dt):=by unfold bf;rw[qJ (by decide +kernel)];exact xn
def HG(z:BA):(bf z).lookup ("mark_of":Str)=Za (V.ref z.dm):=by unfold bf;rw[qJ (by decide +kernel),qJ (by decide +kernel)];exact xn
def HH(z:BA):(bf z).lookup ("loss_of":Str)=Za (V.ref z.dl):=by unfold bf;rw[qJ (by decide +kernel),qJ (by decide +kernel),qJ (by decide +kernel)];exact xn
def vM(z:BA):(bf z).lookup ("held_of":Str)=Za (V.ref z.dh):=by unfold bf;rw[qJ (by decide +kernel),qJ (by decide +kernel),qJ (by decide +kernel),qJ (by decide +kernel)];exact xn
def um(z:BA){m:Str}(h1:¬m="people":=by decide +kernel)(h2:¬m="things_of":=by decide +kernel)(h3:¬m="mark_of":=by decide +kernel)(h4:¬m="loss_of":=by decide +kernel)(h5:¬m="held_of":=by decide +kernel):(bf z).lookup m=none:=by
 unfold bf
 simp_all
def HeldAt(K:aa)(H:Hp)(p:ag)(l:List (Str×Int×Int)):Prop :=
 ∃ts:List ag,ts.length=l.length/\H p=Za (.dK ((l.zip ts).map λq=>(ap q.1.1,V.ref q.2)))/\∀q∈l.zip ts,Zz K H q.2 [.int q.1.2.1,.int q.1.2.2]
def ŏ(H:Hp)(d:ag)(S:List (Key×V)):Prop:=∃T:List (Key×V),H d=Za (.dK T)/\T.Perm S/\(S.map (·.1)).Nodup
theorem zf:∀{l:List (Key×V)},(l.map (·.1)).Nodup->(pE l k=Za v↔(k,v)∈l)
 |[],_=>⟨λh=>(by cases h),λh=>(by cases h)⟩
 |x::r,h=>by
  obtain⟨h1,h2⟩:=aL.mp h;have ih:=zf (k:=k) (v:=v) h2;unfold pE at ih ⊢
  grind
def EE(p:T.Perm S)(nd:(S.map (·.1)).Nodup)(k:Key):pE T k=pE S k:=by apply Option.ext;intro v;rw[zf ((p.map (·.1)).nodup_iff.mpr nd),zf nd,p.mem_iff]
def ŏ.keep(h:ŏ H d S)(k:∀o,H d=Za o->H' d=Za o):ŏ H' d S:=by obtain⟨T,e,p,n⟩:=h;exact⟨T,k _ e,p,n⟩
def ŏ.Ày(h:ŏ H d S)(x:Str):Y3 H d (kV (ap x)) (pE S (ap x)):=by obtain⟨T,e,p,n⟩:=h;rw[<-EE p n];exact Y3.k e
def ŏ.keys{H:Hp}{d:ag}{α:Type}{L:List α}{key:α->Str}{v:α->V}(h:ŏ H d (L.map λe=>((ap (key e):Key),v e))):∃(T:List (Key×V))(ss:List Str),H d=Za (.dK T)/\T.map (·.1)=ss.map ap/\ss.Perm (L.map key):=by
 obtain⟨T,e,p,n⟩:=h;have q:=p.map (·.1);rw[aD] at q;refine⟨T,(T.map (·.1)).map λk=>match k with|.inr s=>s|.inl _=>cq,e,?_,?_⟩
 .rw[aD];refine((iF _).symm.trans (aW λk hk=>?_));have:=q.mem_iff.mp hk;obtain⟨x,_,rfl⟩:=aq.mp this;rfl
 .have:=q.map λk:Key=>match k with|.inr s=>s|.inl _=>cq
  have e2:(L.map ((λx=>x.1)∘λe=>((ap (key e):Key),v e))).map (λk:Key=>match k with|.inr s=>s|.inl _=>cq)=L.map key:=by rw[aD];rfl
  simp_all
structure Yn(K:aa)(C:ag)(H:Hp)(b:ag)(z:BA)(Rf:List Str)(L:List (Ent×ag)):Prop where
 ob:H b=Za (.ins C z.dx (bf z))
 pp:H z.dp=Za (.dK (Rf.map λn=>(ap n,.bl true)))
 tt:H z.dt=Za (.dK (L.map λe=>(ap e.1.nm,.int e.1.th)))
 mm:H z.dm=Za (.dK (L.map λe=>(ap e.1.nm,.int e.1.mr)))
 ll:H z.dl=Za (.dK (L.map λe=>(ap e.1.nm,.int e.1.ls)))
 hh:ŏ H z.dh (L.map λe=>(ap e.1.nm,.ref e.2))
 he:∀e∈L,HeldAt K H e.2 e.1.held
 nd:(b::z.dp::z.dt::z.dm::z.dl::z.dh::L.map (·.2)).Nodup
 p6:Rf.length<=6
 h8:L.length<=8
noncomputable def ZS(b:ag)(z:BA)(L:List (Ent×ag)):List ag:=b::z.dp::z.dt::z.dm::z.dl::z.dh::L.map (·.2)
def vy{K}(h:Zz K H t xs)(k:∀c o,H c=Za o->(∃xs,o=.tup xs\/∃ob,o=.YQ ob (.tup xs))->H' c=Za o):Zz K H' t xs:=by
 rcases h with(h|⟨ob,h⟩)|h
 .exact .inl (.inl (k _ _ h ⟨xs,.inl rfl⟩))
 .exact .inl (.inr ⟨ob,k _ _ h ⟨xs,.inr ⟨ob,rfl⟩⟩⟩)
 .exact .inr h
def HeldAt.keep{K}(h:HeldAt K H p l)(hp:∀o,H p=Za o->H' p=Za o)(k:∀c o,H c=Za o->(∃xs,o=.tup xs\/∃ob,o=.YQ ob (.tup xs))->H' c=Za o):HeldAt K H' p l:=by obtain⟨ts,e1,e2,e3⟩:=h;exact⟨ts,e1,hp _ e2,λq hq=>vy (e3 q hq) k⟩
theorem Yn.keep{K}(B:Yn K C H b z Rf L)(k:∀c o,H c=Za o->(c∈ZS b z L\/∃xs,o=.tup xs\/∃ob,o=.YQ ob (.tup xs))->H' c=Za o):Yn K C H' b z Rf L:=by
 refine⟨k _ _ B.ob (.inl (by simp[ZS])),k _ _ B.pp (.inl (by simp[ZS])),k _ _ B.tt (.inl (by simp[ZS])),k _ _ B.mm (.inl (by simp[ZS])),k _ _ B.ll (.inl (by simp[ZS])),B.hh.keep (λo h=>k _ _ h (.inl (by simp[ZS]))),λe he=>?_,B.nd,B.p6,B.h8⟩;refine(B.he e he).keep (λo h=>k _ _ h (.inl ?_)) λc o h x=>k c o h (.inr x);unfold ZS
 grind
def Yn.same{K}(B:Yn K C H b z Rf L)(s:YH H H'):Yn K C H' b z Rf L:=B.keep λc o h _=>s c o h
noncomputable def qz(L:List (Ent×ag))(n:Str):Bool:=(L.find? λe=>decide (e.1.nm=n)).isSome
noncomputable def p4(Rf:List Str)(n:Str):Bool:=(Rf.find? λm=>decide (m=n)).isSome
def si(l:List α)(key:α->Str)(v:α->V)(n:Str):pE (l.map λe=>((ap (key e):Key),v e)) (ap n)=(l.find? λe=>decide (key e=n)).map v:=by
 unfold pE;rw[gy,Option.map_map];have e:((λkv:Key×V=>decide (kv.1=ap n))∘λe=>((ap (key e):Key),v e))=λe=>decide (key e=n):=by
  grind
 rw[e];rfl
end My
namespace L2
open PySem PySem.Spec PyProof.Rows
abbrev fzO(o:Obj):HO:=.YQ o (.own 0)
structure ÂX(scope:di)(x:Str)(fr:List Str):Prop where
 kind:scope.kind=.function
 co:scope.isCoroutine=false
 gen:scope.isGenerator=false
 cell:∀y∈scope.names,y.2≠.cell
 par:scope.names.lookup x=Za .local
 Zt:∀y∈fr,scope.names.lookup y=Za .free
 nd:(x::fr).Nodup
structure ÂY(scope:di)(fr:List Str)(cl:List (Str×ag))(cs:List (ag×Obj))(UE:List V):Prop where
 has:∀y,scope.names.lookup y=Za .free->∃c,cl.lookup y=Za c
 inj:∀y z c,cl.lookup y=Za c->cl.lookup z=Za c->y=z
 cel:∀y c,cl.lookup y=Za c->∃o u,cs.lookup c=Za o/\o.data=.cell u
 val:∀(i:Nat)(y:Str)(v:V),fr[i]?=Za y->UE[i]?=Za v->∃c o u,cl.lookup y=Za c/\cs.lookup c=Za o/\o.data=.cell (Za u)/\RelV v u
 len:UE.length=fr.length
def O6(H:Hp)(P:ag)(q:Str):Prop:=∃ps,H P=Za (.Ņ ps)/\TriplesOk ps.toList/\∀pos c,codeAmong pos ps.toList=Za c->∃c' oc,c=.ref c'/\H c'=Za (fzO oc)/\∃vs tq,oc.data=.fields vs/\vs[1]?=Za (.str q tq)
section
variable{cd P:ag}
structure ÂU(K:aa)(mg:Str->Option ae)(base:bc)(cd P:ag):Prop where
 hd:∀h:bc,K.In h->PySem.W.CodeHd h cd P
 nP:P≠aV
 bm:∃bm o,mg "__builtins__"=Za (.ref bm)/\bm≠jp/\bm≠aV/\bm≠P/\base.get? bm=Za o/\o.cls=.type "module"/\o.dict=Za jp/\o.data=.plain
end
def Ϣ(u:HO):Prop:=(∃ps,u=.Ņ ps)\/∃ob x,u=.YQ ob (.own x)
def Ϭ(H H':Hp):Prop:=(∀a ps,H a=Za (.Ņ ps)->∃Ue,H' a=Za (.Ņ Ue))/\∀P q,O6 H P q->O6 H' P q
def Ϭ.of(k:∀a o,H a=Za o->Ϣ o->H' a=Za o):Ϭ H H':=⟨λa ps h=>⟨ps,k a _ h (.inl ⟨ps,rfl⟩)⟩,λP q ⟨ps,h,t,g⟩=>⟨ps,k P _ h (.inl ⟨ps,rfl⟩),t,λp c e=>by obtain⟨c',oc,a1,a2,a3⟩:=g p c e;exact⟨c',oc,a1,k c' _ a2 (.inr ⟨oc,0,rfl⟩),a3⟩⟩⟩
def Ϭ.same(k:YH H H'):Ϭ H H':=.of λa o h _=>k a o h
theorem Ϭ.upd(h:H d=Za u)(n:¬Ϣ u):Ϭ H (upd H d o):=.of λa o' h' od=>by rw[mq (λz=>by grind)];exact h'
def FR:¬Ϣ (.dK Ra):=λz=>by rcases z with⟨_,z⟩|⟨_,_,z⟩<;>cases z
def Bp:¬Ϣ (.lst xs):=λz=>by rcases z with⟨_,z⟩|⟨_,_,z⟩<;>cases z
def Ál:¬Ϣ (.dT Ra):=λz=>by rcases z with⟨_,z⟩|⟨_,_,z⟩<;>cases z
def Lr:¬Ϣ (.ins C dx fs):=λz=>by rcases z with⟨_,z⟩|⟨_,_,z⟩<;>cases z
def Qe:¬Ϣ (.YQ ob (.dK Ra)):=λz=>by rcases z with⟨_,z⟩|⟨_,_,z⟩<;>cases z
def Fl:List Str:=["rules"]
def Tab(K:aa)(P:ag)(q:Str):Prop:=∃x∈Fl,∃c,PySem.W.tabIn K x=Za (c,P)/\q=x++".<locals>.<lambda>"
abbrev Xc:=ag×Option Nat
instance:Coe ag Xc:=⟨λc=>(c,Zb)⟩
inductive PV where
 |Yh|bl (b:Bool)|int (i:Int)|str (x:Str)|tup (l:List PV)|lst (l:List PV)|Yl (l:List (Key×PV))|ref (n:Nat)|exc (c:Xc)|seq (l:List PV)|Ų (a:ag) (vs:List V) (l:List PV)
inductive Cell where
 |lst (l:List PV)|Yl (l:List (Key×PV))|book (pp:List Str) (L:List My.Ent)|obj (C:ag) (fs:List (Str×PV))|YR (l:List (Key×PV))|Z7 (l:List (List Key×PV))
structure N' where
 nx:Nat
 cs:List (Nat×Cell)
structure Mp where
 ad:Nat->ag
 fp:Nat->List ag
 YN:List ag
noncomputable def qA:List (Nat×Cell)->Nat->Option Cell
 |[],_=>Zb
 |(k,c)::r,n=>if k=n then Za c else qA r n
noncomputable def pM(n:Nat)(c:Cell):List (Nat×Cell)->List (Nat×Cell)
 |[]=>[]
 |(k,d)::r=>if k=n then(n,c)::r else(k,d)::pM n c r
noncomputable def Dz(n:Nat):List (Nat×Cell)->List (Nat×Cell)
 |[]=>[]
 |(k,d)::r=>if k=n then r else(k,d)::Dz n r
def N'.get(s:N')(n:Nat):Option Cell:=qA s.cs n
def N'.set(s:N')(n:Nat)(c:Cell):N':=⟨s.nx,pM n c s.cs⟩
def N'.del(s:N')(n:Nat):N':=⟨s.nx,Dz n s.cs⟩
noncomputable def N'.add(s:N')(c:Cell):N':=⟨s.nx+1,(s.nx,c)::s.cs⟩
theorem oa:∀{l:List (Nat×Cell)},qA l n=Za c->(n,c)∈l
 |(k,d)::r,h=>by
  unfold qA at h;split at h
  .rename_i e;cases h;subst e;exact al
  .exact ah _ (oa h)
theorem ES:∀{l:List (Nat×Cell)},(l.map (·.1)).Nodup->q∈pM n c l->q=(n,c)\/(q∈l/\q.1≠n)
 |(k,d)::r,nd,h=>by
  unfold pM at h;obtain⟨n1,n2⟩:=aL.mp (nd);split at h
  .grind
  .rename_i e;obtain h|h:=ao.mp h
   .grind
   .obtain h|⟨h,h'⟩:=ES n2 h
    .exact .inl h
    .grind
theorem qq:∀{l:List (Nat×Cell)},(pM n c l).map (·.1)=l.map (·.1)
 |[]=>rfl
 |(k,d)::r=>by
  unfold pM;split
  .rename_i e;simp[e]
  .simp[qq]
theorem vj:∀{l:List (Nat×Cell)},q∈Dz n l->q∈l
 |(k,d)::r,h=>by
  unfold Dz at h;split at h
  .exact ah _ h
  .obtain h|h:=ao.mp h
   .subst h;exact al
   .exact ah _ (vj h)
theorem HB:∀{l:List (Nat×Cell)},(l.map (·.1)).Nodup->((Dz n l).map (·.1)).Nodup
 |[],_=>iE
 |(k,d)::r,nd=>by
  obtain⟨n1,n2⟩:=aL.mp (nd);unfold Dz;split
  .exact n2
  .refine aL.mpr ⟨λz=>n1 ?_,HB n2⟩;obtain⟨q,hq,e⟩:=aq.mp z;exact aq.mpr ⟨q,vj hq,e⟩
theorem HA:∀{l:List (Nat×Cell)},(l.map (·.1)).Nodup->q∈Dz n l->q.1≠n
 |(k,d)::r,nd,h=>by
  obtain⟨n1,n2⟩:=aL.mp (nd);unfold Dz at h;split at h
  .grind
  .rename_i e;obtain h|h:=ao.mp h
   .grind
   .exact HA n2 h
theorem rK(h:k≠n):∀{l:List (Nat×Cell)},qA (pM n c l) k=qA l k
 |[]=>rfl
 |(j,d)::r=>by
  unfold pM;split
  .rename_i e;unfold qA;rw[Zd (λz=>h z.symm),Zd (λz=>h (z.symm.trans e))]
  .unfold qA;split
   .rfl
   .exact rK h
theorem uL(h:k≠n):∀{l:List (Nat×Cell)},qA (Dz n l) k=qA l k
 |[]=>rfl
 |(j,d)::r=>by
  unfold Dz;split
  .rename_i e
   conv=>rhs;unfold qA
   rw[Zd (λz=>h (z.symm.trans e))]
  .unfold qA;split
   .rfl
   .exact uL h
def ù(m:Mp)(s:N')(a:ag):Prop:=a∉m.YN/\∀n∈s.cs.map (·.1),a∉m.fp n
def ϡ(H:Hp)(m:Mp)(s:N')(g:Option Nat)(d:Option ag):Prop:=∀n,g=Za n->∃dx,d=Za dx/\H dx=Za (.xd [("group",.ref (m.ad n))])/\n<s.nx/\ù m s dx
def ϡ.no{H:Hp}{m:Mp}{s:N'}{d:Option ag}:ϡ H m s Zb d:=λ_ z=>nomatch z
def KL(K:aa)(a:ag)(xs:List V):Prop:=∃(o:Obj)(its:Array ae)(n:Nat),K.lookup a=Za o/\o.cls=.type "list"/\o.dict=Zb/\o.data=.seq its n/\its.size<=aG/\Vals xs its.toList
def KT'(K:aa)(a:ag)(xs:List V):Prop:=∃(o:Obj)(its:Array ae)(n:Nat),K.lookup a=Za o/\o.cls=.type "tuple"/\o.data=.seq its n/\its.size<=aG/\Vals xs its.toList
mutual
inductive Rep (K:aa) (H:Hp) (m:Mp) (s:N'):V->PV->Prop
 |Yh:Rep K H m s .Yh .Yh
 |bl {b:Bool}:Rep K H m s (.bl b) (.bl b)
 |int {i:Int}:Rep K H m s (.int i) (.int i)
 |str {x:Str}:Rep K H m s (.str x) (.str x)
 |tup {a:ag}{vs:List V}{l:List PV}:(Rd H a (.tup vs)/\ù m s a\/KT' K a vs)->X7 K H m s vs l->Rep K H m s (.ref a) (.tup l)
 |lst {a:ag}{vs:List V}{l:List PV}:H a=Za (.lst vs)->ù m s a->X7 K H m s vs l->Rep K H m s (.ref a) (.lst l)
 |seq {a:ag}{vs:List V}{l:List PV}:((∃o,H a=Za (.YQ o (.lst vs)))/\ù m s a\/KL K a vs)->X7 K H m s vs l->Rep K H m s (.ref a) (.seq l)
 |Yl {a:ag}{vs:List (Key×V)}{l:List (Key×PV)}:Rd H a (.dK vs)->ù m s a->Ya K H m s vs l->Rep K H m s (.ref a) (.Yl l)
 |ref {n:Nat}:n<s.nx->Rep K H m s (.ref (m.ad n)) (.ref n)
 |exc {a:ag}{c:Xc}{d:Option ag}:H a=Za (F7 c.1 a d)->ù m s a->ϡ H m s c.2 d->Rep K H m s (.ref a) (.exc c)
 |Ų {a:ag}{vs:List V}{l:List PV}:X7 K H m s vs l->Rep K H m s (.ref a) (.Ų a vs l)
inductive X7 (K:aa) (H:Hp) (m:Mp) (s:N'):List V->List PV->Prop
 |nil:X7 K H m s [] []
 |cons {v:V}{p:PV}{vs:List V}{l:List PV}:Rep K H m s v p->X7 K H m s vs l->X7 K H m s (v::vs) (p::l)
inductive Ya (K:aa) (H:Hp) (m:Mp) (s:N'):List (Key×V)->List (Key×PV)->Prop
 |nil:Ya K H m s [] []
 |cons {k:Key}{v:V}{p:PV}{vs:List (Key×V)}{l:List (Key×PV)}:Rep K H m s v p->Ya K H m s vs l->Ya K H m s ((k,v)::vs) ((k,p)::l)
end
structure ExtR(H:Hp)(m:Mp)(s:N')(H':Hp)(m':Mp)(s':N'):Prop where
 nx:s.nx<=s'.nx
 ad:∀n,n<s.nx->m'.ad n=m.ad n
 pu:∀a u,Rd H a u->ù m s a->Rd H' a u/\ù m' s' a
 el:∀a u,H a=Za u->(∀Ra,u≠.dK Ra)->ù m s a->H' a=Za u
structure Ext0(H:Hp)(m:Mp)(s:N')(H':Hp)(m':Mp)(s':N'):Prop extends ExtR H m s H' m' s' where
 df:∀n l,n<s.nx->qA s.cs n=Za (.YR l)->qA s'.cs n=Za (.YR l)/\∀o,H (m.ad n)=Za o->H' (m.ad n)=Za o
structure Ext(H:Hp)(m:Mp)(s:N')(H':Hp)(m':Mp)(s':N'):Prop extends Ext0 H m s H' m' s' where
 hd:m'.YN=m.YN
 hk:∀a∈m.YN,∀o,H a=Za o->(∀ps,o≠.Ņ ps)->H' a=Za o
def Ext.refl:Ext H m s H m s:=⟨⟨⟨ak _,λ_ _=>rfl,λ_ _ h p=>⟨h,p⟩,λ_ _ h _ _=>h⟩,λ_ _ _ h=>⟨h,λ_ h=>h⟩⟩,rfl,λ_ _ _ h _=>h⟩
theorem Ext0.trans(a:Ext0 H m s H1 m1 s1)(b:Ext0 H1 m1 s1 H2 m2 s2):Ext0 H m s H2 m2 s2 :=
 ⟨⟨aJ a.nx b.nx,λn h=>(b.ad n (az h a.nx)).trans (a.ad n h),λc u h p=>let⟨h1,p1⟩:=a.pu c u h p;b.pu c u h1 p1,λc x h n p=>b.el c x (a.el c x h n p) n (a.pu c _ (.inl h) p).2⟩,λn l hn h=>by obtain⟨h1,k1⟩:=a.df n l hn h;obtain⟨h2,k2⟩:=b.df n l (az hn a.nx) h1;rw[a.ad n hn] at k2;exact⟨h2,λo h=>k2 o (k1 o h)⟩⟩
theorem Ext.trans(a:Ext H m s H1 m1 s1)(b:Ext H1 m1 s1 H2 m2 s2):Ext H m s H2 m2 s2 :=
 ⟨a.toExt0.trans b.toExt0,b.hd.trans a.hd,λc hc o h n=>b.hk c (by rw[a.hd];exact hc) o (a.hk c hc o h n) n⟩
def Rd.same(k:YH H H')(h:Rd H a u):Rd H' a u:=h.elim (λh=>.inl (k _ _ h)) λ⟨o,h⟩=>.inr ⟨o,k _ _ h⟩
def Rd.ne(h:Rd H a u)(hb:H b=Zb):a≠b:=h.elim (λh=>mH h hb) λ⟨_,h⟩=>mH h hb
theorem Ext.same(k:YH H H'):Ext H m s H' m s:=⟨⟨⟨ak _,λ_ _=>rfl,λ_ _ h p=>⟨h.same k,p⟩,λ_ _ h _ _=>k _ _ h⟩,λ_ _ _ h=>⟨h,λo h=>k _ _ h⟩⟩,rfl,λ_ _ _ h _=>k _ _ h⟩
def ϡ.Yk{H H':Hp}{m m':Mp}{s s':N'}{g:Option Nat}{d:Option ag}(e:ExtR H m s H' m' s')(y:ϡ H m s g d):ϡ H' m' s' g d:=λn z=>by obtain⟨dx,h1,h2,h3,h4⟩:=y n z;exact⟨dx,h1,by rw[e.ad n h3];exact e.el _ _ h2 (by grind) h4,az h3 e.nx,(e.pu _ _ (.inl h2) h4).2⟩
mutual
theorem Rep.Yk{K}{H H'}{m m'}{s s'}(e:ExtR H m s H' m' s'):∀{v:V}{p:PV},Rep K H m s v p->Rep K H' m' s' v p
 |_,_,.Yh=>.Yh
 |_,_,.bl=>.bl
 |_,_,.int=>.int
 |_,_,.str=>.str
 |_,_,.tup h r=>.tup (h.imp (λz=>e.pu _ _ z.1 z.2) λz=>z) (X7.Yk e r)
 |_,_,.lst h p r=>.lst (e.el _ _ h (by intro _ z;cases z) p) (e.pu _ _ (.inl h) p).2 (X7.Yk e r)
 |_,_,.seq h r=>.seq (h.imp (λ⟨⟨o,z⟩,p⟩=>⟨⟨o,e.el _ _ z (by intro _ z;cases z) p⟩,(e.pu _ _ (.inl z) p).2⟩) λz=>z) (X7.Yk e r)
 |_,_,.Yl h p r=>.Yl (e.pu _ _ h p).1 (e.pu _ _ h p).2 (Ya.Yk e r)
 |_,_,.ref (n:=n) h=>by rw[<-e.ad _ h];exact .ref (az h e.nx)
 |_,_,.exc h p y=>.exc (e.el _ _ h (by intro _ z;cases z) p) (e.pu _ _ (.inl h) p).2 (y.Yk e)
 |_,_,.Ų r=>.Ų (X7.Yk e r)
theorem X7.Yk{K}{H H'}{m m'}{s s'}(e:ExtR H m s H' m' s'):∀{v:List V}{p:List PV},X7 K H m s v p->X7 K H' m' s' v p
 |_,_,.nil=>.nil
 |_,_,.cons a b=>.cons (Rep.Yk e a) (X7.Yk e b)
theorem Ya.Yk{K}{H H'}{m m'}{s s'}(e:ExtR H m s H' m' s'):∀{v:List (Key×V)}{p:List (Key×PV)},Ya K H m s v p->Ya K H' m' s' v p
 |_,_,.nil=>.nil
 |_,_,.cons a b=>.cons (Rep.Yk e a) (Ya.Yk e b)
end
def Rep.ext{K}{H H'}{m m'}{s s'}(e:Ext H m s H' m' s'){v}{p}(r:Rep K H m s v p):Rep K H' m' s' v p:=r.Yk e.toExtR
def X7.ext{K}{H H'}{m m'}{s s'}(e:Ext H m s H' m' s'){v}{p}(r:X7 K H m s v p):X7 K H' m' s' v p:=r.Yk e.toExtR
def Ya.ext{K}{H H'}{m m'}{s s'}(e:Ext H m s H' m' s'){v}{p}(r:Ya K H m s v p):Ya K H' m' s' v p:=r.Yk e.toExtR
mutual
inductive Old (k:Nat):PV->Prop
 |Yh:Old k .Yh
 |bl {b:Bool}:Old k (.bl b)
 |int {i:Int}:Old k (.int i)
 |str {x:Str}:Old k (.str x)
 |tup {l:List PV}:Olds k l->Old k (.tup l)
 |lst {l:List PV}:Olds k l->Old k (.lst l)
 |seq {l:List PV}:Olds k l->Old k (.seq l)
 |Yl {l:List (Key×PV)}:ĩ k l->Old k (.Yl l)
 |ref {n:Nat}:n<k->Old k (.ref n)
 |exc {c:Xc}:(∀n,c.2=Za n->n<k)->Old k (.exc c)
 |Ų {a:ag}{vs:List V}{l:List PV}:Olds k l->Old k (.Ų a vs l)
inductive Olds (k:Nat):List PV->Prop
 |nil:Olds k []
 |cons {p:PV}{l:List PV}:Old k p->Olds k l->Olds k (p::l)
inductive ĩ (k:Nat):List (Key×PV)->Prop
 |nil:ĩ k []
 |cons {q:Key}{p:PV}{l:List (Key×PV)}:Old k p->ĩ k l->ĩ k ((q,p)::l)
end
structure Sub(m:Mp)(s:N')(m':Mp)(s':N'):Prop where
 pu:∀a,ù m s a->ù m' s' a
 ad:∀n,n<s'.nx->m'.ad n=m.ad n
mutual
theorem Rep.sub{K}{H}{m m'}{s s'}(e:Sub m s m' s'):∀{v:V}{p:PV},Old s'.nx p->Rep K H m s v p->Rep K H m' s' v p
 |_,_,_,.Yh=>.Yh
 |_,_,_,.bl=>.bl
 |_,_,_,.int=>.int
 |_,_,_,.str=>.str
 |_,_,o,.tup h r=>.tup (h.imp (λz=>⟨z.1,e.pu _ z.2⟩) λz=>z) (X7.sub e (by cases o;assumption) r)
 |_,_,o,.lst h p r=>.lst h (e.pu _ p) (X7.sub e (by cases o;assumption) r)
 |_,_,o,.seq h r=>.seq (h.imp (λz=>⟨z.1,e.pu _ z.2⟩) λz=>z) (X7.sub e (by cases o;assumption) r)
 |_,_,o,.Yl h p r=>.Yl h (e.pu _ p) (Ya.sub e (by cases o;assumption) r)
 |_,_,o,.ref _=>by
  cases o with
  |ref o=>rw[<-e.ad _ o];exact .ref o
 |_,_,o,.exc h p y=>.exc h (e.pu _ p) λn z=>by
  cases o with
  |exc o =>
   obtain⟨dx,h1,h2,h3,h4⟩:=y n z;exact⟨dx,h1,by rw[e.ad n (o n z)];exact h2,o n z,e.pu _ h4⟩
 |_,_,o,.Ų r=>.Ų (X7.sub e (by cases o;assumption) r)
theorem X7.sub{K}{H}{m m'}{s s'}(e:Sub m s m' s'):∀{v:List V}{p:List PV},Olds s'.nx p->X7 K H m s v p->X7 K H m' s' v p
 |_,_,_,.nil=>.nil
 |_,_,o,.cons a b=>.cons (Rep.sub e (by cases o;assumption) a) (X7.sub e (by cases o;assumption) b)
theorem Ya.sub{K}{H}{m m'}{s s'}(e:Sub m s m' s'):∀{v:List (Key×V)}{p:List (Key×PV)},ĩ s'.nx p->Ya K H m s v p->Ya K H m' s' v p
 |_,_,_,.nil=>.nil
 |_,_,o,.cons a b=>.cons (Rep.sub e (by cases o;assumption) a) (Ya.sub e (by cases o;assumption) b)
end
mutual
theorem Rep.old{K}{H}{m}{s}:∀{v:V}{p:PV},Rep K H m s v p->Old s.nx p
 |_,_,.Yh=>.Yh
 |_,_,.bl=>.bl
 |_,_,.int=>.int
 |_,_,.str=>.str
 |_,_,.tup _ r=>.tup (X7.old r)
 |_,_,.lst _ _ r=>.lst (X7.old r)
 |_,_,.seq _ r=>.seq (X7.old r)
 |_,_,.Yl _ _ r=>.Yl (Ya.old r)
 |_,_,.ref h=>.ref h
 |_,_,.exc _ _ y=>.exc λn z=>let⟨_,_,_,h,_⟩:=y n z;h
 |_,_,.Ų r=>.Ų r.old
theorem X7.old{K}{H}{m}{s}:∀{v:List V}{p:List PV},X7 K H m s v p->Olds s.nx p
 |_,_,.nil=>.nil
 |_,_,.cons a b=>.cons (Rep.old a) (X7.old b)
theorem Ya.old{K}{H}{m}{s}:∀{v:List (Key×V)}{p:List (Key×PV)},Ya K H m s v p->ĩ s.nx p
 |_,_,.nil=>.nil
 |_,_,.cons a b=>.cons (Rep.old a) (Ya.old b)
end
def Ŏ(K:aa)(H:Hp)(m:Mp)(s:N')(Sj:List (Str×V))(fs:List (Str×PV)):Prop:=Sj.map (·.1)=fs.map (·.1)/\X7 K H m s (Sj.map (·.2)) (fs.map (·.2))
def ÁW(K:aa)(H:Hp)(m:Mp)(s:N')(Sj:List (List Key×V))(fs:List (List Key×PV)):Prop:=Sj.map (·.1)=fs.map (·.1)/\X7 K H m s (Sj.map (·.2)) (fs.map (·.2))
def ZJ(K:aa)(CB:ag)(H:Hp)(m:Mp)(s:N')(n:Nat):Cell->Prop
 |.lst l=>m.fp n=[m.ad n]/\∃vs,H (m.ad n)=Za (.lst vs)/\X7 K H m s vs l
 |.Yl l=>m.fp n=[m.ad n]/\∃vs,H (m.ad n)=Za (.dK vs)/\Ya K H m s vs l
 |.YR l=>m.fp n=[m.ad n]/\∃ob vs,H (m.ad n)=Za (.YQ ob (.dK vs))/\Ya K H m s vs l
 |.book pp L=>∃z L',My.Yn K CB H (m.ad n) z pp L'/\L'.map (·.1)=L/\m.fp n=My.ZS (m.ad n) z L'
 |.obj C fs=>m.fp n=[m.ad n]/\∃dx Sj,H (m.ad n)=Za (.ins C dx Sj)/\Ŏ K H m s Sj fs
 |.Z7 l=>m.fp n=[m.ad n]/\∃vs,H (m.ad n)=Za (.dT vs)/\ÁW K H m s vs l
structure SR(K:aa)(CB:ag)(H:Hp)(m:Mp)(s:N'):Prop where
 nd:(s.cs.map (·.1)).Nodup
 lt:∀n∈s.cs.map (·.1),n<s.nx
 ok:∀q∈s.cs,ZJ K CB H m s q.1 q.2
 dj:∀n∈s.cs.map (·.1),∀k∈s.cs.map (·.1),n≠k->∀a∈m.fp n,a∉m.fp k
 hx:∀n∈s.cs.map (·.1),∀a∈m.fp n,a∉m.YN
 hs:∀a∈m.YN,H a≠Zb/\∀xs o,H a≠Za (.tup xs)/\H a≠Za (.YQ o (.tup xs))/\H a≠Za (.YQ o (.lst xs))/\∀x,H a≠Za (.YQ o (.own x))
 tb:∀P q,Tab K P q->P∈m.YN/\O6 H P q
def SR.tbk{K}{CB}{H H'}{m}{s}(S:SR K CB H m s)(e:Ϭ H H'):∀P q,Tab K P q->P∈m.YN/\O6 H' P q:=λP q t=>⟨(S.tb P q t).1,e.2 P q (S.tb P q t).2⟩
def ZJ.kind{K}{CB}{H}{m}{s}{n}{c}(h:ZJ K CB H m s n c){a}(ha:a∈m.fp n):∃o,H a=Za o/\(∀xs,o≠.tup xs)/\(∀ob xs,o≠.YQ ob (.tup xs)/\o≠.YQ ob (.lst xs))/\¬Ϣ o:=by
 cases c with
 |lst l=>obtain⟨e,vs,h,_⟩:=h;rw[e,ax] at ha;subst ha;exact⟨_,h,(by grind),(λ_ _=>⟨(by grind),(by grind)⟩),Bp⟩
 |Yl l=>obtain⟨e,vs,h,_⟩:=h;rw[e,ax] at ha;subst ha;exact⟨_,h,(by grind),(λ_ _=>⟨(by grind),(by grind)⟩),FR⟩
 |YR l=>obtain⟨e,ob,vs,h,_⟩:=h;rw[e,ax] at ha;subst ha;exact⟨_,h,(by grind),(λ_ _=>⟨(by grind),(by grind)⟩),Qe⟩
 |obj C fs=>obtain⟨e,dx,vs,h,_⟩:=h;rw[e,ax] at ha;subst ha;exact⟨_,h,(by grind),(λ_ _=>⟨(by grind),(by grind)⟩),Lr⟩
 |Z7 l=>obtain⟨e,vs,h,_⟩:=h;rw[e,ax] at ha;subst ha;exact⟨_,h,(by grind),(λ_ _=>⟨(by grind),(by grind)⟩),Ál⟩
 |book pp L =>
  obtain⟨z,L',B,_,e⟩:=h;rw[e] at ha;unfold My.ZS at ha;have d:∀{c:ag}{Ra:List (Key×V)},H c=Za (.dK Ra)->∃o,H c=Za o/\(∀xs,o≠.tup xs)/\(∀ob xs,o≠.YQ ob (.tup xs)/\o≠.YQ ob (.lst xs))/\¬Ϣ o:=λh=>⟨_,h,(by grind),(λ_ _=>⟨(by grind),(by grind)⟩),FR⟩;simp only[ao] at ha;obtain rfl|rfl|rfl|rfl|rfl|rfl|ha:=ha
  .exact⟨_,B.ob,(by grind),(λ_ _=>⟨(by grind),(by grind)⟩),Lr⟩
  .exact d B.pp
  .exact d B.tt
  .exact d B.mm
  .exact d B.ll
  .obtain⟨T,e,_⟩:=B.hh;exact d e
  .obtain⟨q,hq,rfl⟩:=aq.mp ha;obtain⟨ts,_,h2,_⟩:=B.he q hq;exact d h2
def SR.YC{K}{CB}{H}{m}{s}(S:SR K CB H m s){a}(h:H a=Zb):ù m s a:=⟨λz=>(S.hs a z).1 h,λn hn ha=>by obtain⟨q,hq,rfl⟩:=aq.mp hn;obtain⟨o,e,_⟩:=(S.ok q hq).kind ha;rw[h] at e;grind⟩
def SR.YZ{K}{CB}{H}{m}{s}(S:SR K CB H m s){a}{xs}(h:H a=Za (.tup xs)):ù m s a:=⟨λz=>((S.hs a z).2 xs default).1 h,λn hn ha=>by obtain⟨q,hq,rfl⟩:=aq.mp hn;obtain⟨o,e,k,_⟩:=(S.ok q hq).kind ha;rw[h] at e;grind⟩
def SR.ă{K}{CB}{H}{m}{s}(S:SR K CB H m s){a}{ob}{xs}(h:H a=Za (.YQ ob (.tup xs))\/H a=Za (.YQ ob (.lst xs))):ù m s a:=⟨λz=>h.elim (λh=>((S.hs a z).2 xs ob).2.1 h) λh=>((S.hs a z).2 xs ob).2.2.1 h,λn hn ha=>by
 obtain⟨q,hq,rfl⟩:=aq.mp hn;obtain⟨o,e,_,k,_⟩:=(S.ok q hq).kind ha;obtain h|h:=h<;>(rw[h] at e;cases e)
 .exact(k _ _).1 rfl
 .exact(k _ _).2 rfl⟩
def Zz.Áo{K}{CB}{H H'}{m m'}{s s'}(S:SR K CB H m s)(e:ExtR H m s H' m' s'){t}{xs}(h:Zz K H t xs):Zz K H' t xs:=by
 obtain h|h:=h
 .exact .inl (e.pu _ _ h (h.elim (λh=>S.YZ h) λ⟨_,h⟩=>S.ă (.inl h))).1
 .exact .inr h
def Ŏ.ext{K}{H H'}{m m'}{s s'}(e:ExtR H m s H' m' s'){a}{b}(h:Ŏ K H m s a b):Ŏ K H' m' s' a b:=⟨h.1,h.2.Yk e⟩
theorem ZJ.keep{K}{CB}{H H'}{m m'}{s s'}{n}{c}(S:SR K CB H m s)(e:ExtR H m s H' m' s')(k:∀a∈m.fp n,∀o,H a=Za o->H' a=Za o)(ha:m'.ad n=m.ad n)(hf:m'.fp n=m.fp n)(h:ZJ K CB H m s n c):ZJ K CB H' m' s' n c:=by
 cases c with
 |lst l=>obtain⟨e1,vs,h,r⟩:=h;exact⟨by rw[ha,hf];exact e1,vs,by rw[ha];exact k _ (by rw[e1];simp) _ h,r.Yk e⟩
 |Yl l=>obtain⟨e1,vs,h,r⟩:=h;exact⟨by rw[ha,hf];exact e1,vs,by rw[ha];exact k _ (by rw[e1];simp) _ h,r.Yk e⟩
 |YR l=>obtain⟨e1,ob,vs,h,r⟩:=h;exact⟨by rw[ha,hf];exact e1,ob,vs,by rw[ha];exact k _ (by rw[e1];simp) _ h,r.Yk e⟩
 |obj C fs=>obtain⟨e1,dx,vs,h,r⟩:=h;exact⟨by rw[ha,hf];exact e1,dx,vs,by rw[ha];exact k _ (by rw[e1];simp) _ h,Ŏ.ext e r⟩
 |Z7 l=>obtain⟨e1,vs,h,r⟩:=h;exact⟨by rw[ha,hf];exact e1,vs,by rw[ha];exact k _ (by rw[e1];simp) _ h,⟨r.1,r.2.Yk e⟩⟩
 |book pp L =>
  obtain⟨z,L',B,e1,e2⟩:=h;rw[e2] at k;have kb:=k;refine⟨z,L',?_,e1,by rw[ha,hf];exact e2⟩;rw[ha];refine⟨kb _ (by simp[My.ZS]) _ B.ob,kb _ (by simp[My.ZS]) _ B.pp,kb _ (by simp[My.ZS]) _ B.tt,kb _ (by simp[My.ZS]) _ B.mm,kb _ (by simp[My.ZS]) _ B.ll,B.hh.keep (λo h=>kb _ (by simp[My.ZS]) _ h),λq hq=>?_,B.nd,B.p6,B.h8⟩;obtain⟨ts,h1,h2,h3⟩:=B.he q hq;refine⟨ts,h1,kb _ ?_ _ h2,λy hy=>(h3 y hy).Áo S e⟩;unfold My.ZS
  grind
theorem SR.same{K}{CB}{H H'}{m}{s}(S:SR K CB H m s)(k:YH H H'):SR K CB H' m s :=
 ⟨S.nd,S.lt,λq hq=>(S.ok q hq).keep S (Ext.same k).toExtR (λa _ o h=>k a o h) rfl rfl,S.dj,S.hx,λa ha=>by
  obtain⟨h1,h2⟩:=S.hs a ha;cases e:H a with
  |none=>exact absurd e h1
  |some o =>
   rw[k a o e];rw[e] at h2;exact⟨by simp,h2⟩,S.tbk (.same k)⟩
theorem SR.get{K}{CB}{H}{m}{s}(S:SR K CB H m s){n}{c}(h:s.get n=Za c):ZJ K CB H m s n c:=S.ok _ (oa h)
def SR.ÁB{K}{CB}{H}{m}{s}(S:SR K CB H m s){n}{c}(h:s.get n=Za c):n<s.nx:=S.lt _ (aq.mpr ⟨_,oa h,rfl⟩)
noncomputable def Mp.Zu(m:Mp)(n:Nat)(f':List ag):Mp:=⟨m.ad,λj=>if j=n then f' else m.fp j,m.YN⟩
def SR.hsk{K}{CB}{H H'}{m}{s}(S:SR K CB H m s)(k:∀a∈m.YN,∀o,H a=Za o->(∀ps,o≠.Ņ ps)->H' a=Za o)(kt:Ϭ H H'):∀a∈m.YN,H' a≠Zb/\∀xs o,H' a≠Za (.tup xs)/\H' a≠Za (.YQ o (.tup xs))/\H' a≠Za (.YQ o (.lst xs))/\∀x,H' a≠Za (.YQ o (.own x)):=λa ha=>by
 obtain⟨h1,h2⟩:=S.hs a ha;cases e:H a with
 |none=>exact absurd e h1
 |some o =>
  by_cases t:∃ps,o=.Ņ ps
  .obtain⟨ps,t⟩:=t;rw[t] at e;obtain⟨Ue,e'⟩:=kt.1 a ps e
   simp_all
  rw[k a ha o e λps z=>t ⟨ps,z⟩];rw[e] at h2;exact⟨by simp,h2⟩
def SR.ÀZ{K}{CB}{H}{m}{s}(S:SR K CB H m s){n}{c c'}(hn:s.get n=Za c)(H')(f')(k:∀a o,H a=Za o->a∉m.fp n->H' a=Za o)(R7:∀a∈f',a∈m.fp n\/H a=Zb)(Ye:ExtR H m s H' (m.Zu n f') (s.set n c')->ZJ K CB H' (m.Zu n f') (s.set n c') n c') :
  SR K CB H' (m.Zu n f') (s.set n c')/\ExtR H m s H' (m.Zu n f') (s.set n c')/\((∀l,c≠.YR l)->Ext H m s H' (m.Zu n f') (s.set n c')):=by
 have RF:n∈s.cs.map (·.1):=aq.mpr ⟨_,oa hn,rfl⟩;have hkd:∀a∈m.YN,∀o,H a=Za o->(∀ps,o≠.Ņ ps)->H' a=Za o:=λa ha o h _=>k a o h λz=>S.hx n RF a z ha;have htb:Ϭ H H':=.of λa o h od=>k a o h λz=>by
  obtain⟨o',e',_,_,no⟩:=(S.get hn).kind z
  grind
 have hx:ExtR H m s H' (m.Zu n f') (s.set n c'):=by
  refine⟨ak _,λ_ _=>rfl,λa u h p=>?_,λa u h _ p=>k _ _ h (p.2 n RF)⟩;have RB:∃o,H a=Za o:=h.elim (λh=>⟨_,h⟩) λ⟨o,h⟩=>⟨_,h⟩;refine⟨h.elim (λh=>.inl (k _ _ h (p.2 n RF))) λ⟨o,h⟩=>.inr ⟨o,k _ _ h (p.2 n RF)⟩,p.1,λj hj hm=>?_⟩;have hm:a∈(if j=n then f' else m.fp j):=hm;have TC:j∈s.cs.map (·.1):=by rw[<-qq (n:=n) (c:=c')];exact hj
  by_cases e:j=n
  .simp[e,Zc] at hm;obtain z|z:=R7 a hm
   .exact p.2 n RF z
   .grind
  .simp[Zd e] at hm;exact p.2 j TC hm
 refine⟨⟨?_,?_,λq hq=>?_,λj hj i hi RB a ha hb=>?_,λj hj a ha hb=>?_,S.hsk hkd htb,S.tbk htb⟩,hx,λZ8=>⟨⟨hx,λj l hj h=>?_⟩,rfl,hkd⟩⟩
 .show((pM n c' s.cs).map (·.1)).Nodup;rw[qq];exact S.nd
 .intro j hj;have TC:j∈s.cs.map (·.1):=by rw[<-qq (n:=n) (c:=c')];exact hj
  exact S.lt j TC
 .obtain rfl|⟨hq,RB⟩:=ES S.nd hq
  .exact Ye hx
  .refine(S.ok q hq).keep S hx (λa ha o h=>k a o h (S.dj _ (aq.mpr ⟨q,hq,rfl⟩) _ RF RB a ha)) rfl ?_;show(if q.1=n then f' else m.fp q.1)=_;rw[Zd RB]
 .have ha:a∈(if j=n then f' else m.fp j):=ha;have hb:a∈(if i=n then f' else m.fp i):=hb;have TC:j∈s.cs.map (·.1):=by rw[<-qq (n:=n) (c:=c')];exact hj
  have Vw:i∈s.cs.map (·.1):=by rw[<-qq (n:=n) (c:=c')];exact hi
  have RC:∀j∈s.cs.map (·.1),∀a∈m.fp j,H a≠none:=λj hj a ha z=>by obtain⟨q,hq,rfl⟩:=aq.mp hj;obtain⟨o,e,_⟩:=(S.ok q hq).kind ha;rw[z] at e;cases e
  by_cases e1:j=n
  .have e2:i≠n:=λz=>RB (e1.trans z.symm);simp[e1,Zc] at ha;simp[Zd e2] at hb;obtain z|z:=R7 a ha
   .exact S.dj _ RF _ Vw (λz=>e2 z.symm) a z hb
   .exact RC i Vw a hb z
  .simp[Zd e1] at ha;by_cases e2:i=n
   .simp[e2,Zc] at hb;obtain z|z:=R7 a hb
    .exact S.dj _ TC _ RF e1 a ha z
    .exact RC j TC a ha z
   .simp[Zd e2] at hb;exact S.dj _ TC _ Vw RB a ha hb
 .have ha:a∈(if j=n then f' else m.fp j):=ha;have TC:j∈s.cs.map (·.1):=by rw[<-qq (n:=n) (c:=c')];exact hj
  by_cases e1:j=n
  .rw[Zc e1] at ha;obtain z|z:=R7 a ha
   .exact S.hx n RF a z hb
   .exact(S.hs a hb).1 z
  .rw[Zd e1] at ha;exact S.hx j TC a ha hb
 .have Vu:j≠n:=λz=>by
   subst z;have h:s.get j=Za (.YR l):=h
   grind
  refine⟨(rK Vu).trans h,λo ho=>?_⟩;obtain⟨e1,_⟩:=S.ok _ (oa h);exact k _ _ ho (S.dj j (aq.mpr ⟨_,oa h,rfl⟩) n RF Vu _ (by rw[e1];simp))
def SR.put{K}{CB}{H}{m}{s}(S:SR K CB H m s){n}{c c'}(hn:s.get n=Za c)(Z8:∀l,c≠.YR l)(H')(f')(k:∀a o,H a=Za o->a∉m.fp n->H' a=Za o)(R7:∀a∈f',a∈m.fp n\/H a=Zb)(Ye:ExtR H m s H' (m.Zu n f') (s.set n c')->ZJ K CB H' (m.Zu n f') (s.set n c') n c'):SR K CB H' (m.Zu n f') (s.set n c')/\Ext H m s H' (m.Zu n f') (s.set n c') :=
 let⟨a,_,b⟩:=S.ÀZ hn H' f' k R7 Ye;⟨a,b Z8⟩
noncomputable def Mp.add(m:Mp)(n:Nat)(p:ag)(f:List ag):Mp:=⟨λj=>if j=n then p else m.ad j,λj=>if j=n then f else m.fp j,m.YN⟩
theorem SR.add{K}{CB}{H}{m}{s}(S:SR K CB H m s){c}(H')(p)(f)(k:YH H H')(hf:∀a∈f,H a=Zb)(Ye:Ext H m s H' (m.add s.nx p f) (s.add c)->ZJ K CB H' (m.add s.nx p f) (s.add c) s.nx c) :
  SR K CB H' (m.add s.nx p f) (s.add c)/\Ext H m s H' (m.add s.nx p f) (s.add c):=by
 have Rr:=λj hj=>ay (S.lt j hj);have RC:∀j∈s.cs.map (·.1),∀a∈m.fp j,H a≠none:=λj hj a ha z=>by
  obtain⟨q,hq,rfl⟩:=aq.mp hj;obtain⟨o,e,_⟩:=(S.ok q hq).kind ha
  grind
 have hx:Ext H m s H' (m.add s.nx p f) (s.add c):=by
  refine⟨⟨⟨fb _,λj hj=>?_,λa u h q=>⟨h.same k,q.1,λj hj hm=>?_⟩,λa u h _ _=>k _ _ h⟩,λj l hj h=>⟨?_,λo ho=>k _ _ ho⟩⟩,rfl,λa _ o h _=>k a o h⟩
  rotate_left 2
  .show qA ((s.nx,c)::s.cs) j=_;unfold qA;rw[Zd (λz=>ay hj z.symm)];exact h
  .show(if j=s.nx then p else m.ad j)=_;rw[Zd (ay hj)]
  .have hm:a∈(if j=s.nx then f else m.fp j):=hm;obtain e|hj:=ao.mp (hj)
   .rw[Zc e] at hm;have:=hf a hm;obtain h|⟨o,h⟩:=h<;>(rw[this] at h;cases h)
   .rw[Zd (Rr j hj)] at hm;exact q.2 j hj hm
 have SL:∀j∈s.cs.map (·.1),(m.add s.nx p f).fp j=m.fp j:=λj hj=>by show(if j=s.nx then f else m.fp j)=_;rw[Zd (Rr j hj)]
 have Tj:(m.add s.nx p f).fp s.nx=f:=by show(if s.nx=s.nx then f else _)=_;rw[Zc rfl]
 refine⟨⟨?_,?_,λq hq=>?_,λj hj i hi RB a ha hb=>?_,λj hj a ha hb=>?_,S.hsk hx.hk (.same k),S.tbk (.same k)⟩,hx⟩
 .exact aL.mpr ⟨λz=>Rr _ z rfl,S.nd⟩
 .intro j hj;obtain e|hj:=ao.mp (hj)
  .rw[e];exact ci _
  .exact cj (S.lt j hj)
 .obtain rfl|hq:=ao.mp (hq)
  .exact Ye hx
  .have Vm:q.1∈s.cs.map (·.1):=aq.mpr ⟨q,hq,rfl⟩;exact(S.ok q hq).keep S hx.toExtR (λa ha o h=>k a o h) (hx.ad _ (S.lt _ Vm)) (SL _ Vm)
 .obtain e|hj:=ao.mp (hj)<;>obtain e'|hi:=ao.mp (hi)
  .grind
  .rw[e,Tj] at ha;rw[SL i hi] at hb;exact RC i hi a hb (hf a ha)
  .rw[SL j hj] at ha;rw[e',Tj] at hb;exact RC j hj a ha (hf a hb)
  .rw[SL j hj] at ha;rw[SL i hi] at hb;exact S.dj j hj i hi RB a ha hb
 .obtain e|hj:=ao.mp (hj)
  .rw[e,Tj] at ha;exact(S.hs a hb).1 (hf a ha)
  .rw[SL j hj] at ha;exact S.hx j hj a ha hb
theorem SR.del{K}{CB}{H}{m}{s}(S:SR K CB H m s)(n)(Z8:∀l,s.get n≠Za (.YR l)):SR K CB H m (s.del n)/\Ext H m s H m (s.del n):=by
 have RF:∀j∈(s.del n).cs.map (·.1),j∈s.cs.map (·.1):=λj hj=>by obtain⟨q,hq,rfl⟩:=aq.mp hj;exact aq.mpr ⟨q,vj hq,rfl⟩
 have hx:Ext H m s H m (s.del n):=⟨⟨⟨ak _,λ_ _=>rfl,λa u h p=>⟨h,p.1,λj hj=>p.2 j (RF j hj)⟩,λ_ _ h _ _=>h⟩,λj l hj h=>⟨(uL (λz=>Z8 l (by rw[<-z];exact h))).trans h,λo h=>h⟩⟩,rfl,λ_ _ _ h _=>h⟩;exact⟨⟨HB S.nd,λj hj=>S.lt j (RF j hj),λq hq=>(S.ok q (vj hq)).keep S hx.toExtR (λ_ _ _ h=>h) rfl rfl,λj hj i hi=>S.dj j (RF j hj) i (RF i hi),λj hj=>S.hx j (RF j hj),S.hs,S.tb⟩,hx⟩
inductive Out (α:Type) where
 |ok (a:α) (s:N')|ex (c:Xc) (s:N')|bad
noncomputable def Out.bind{α β:Type}(o:Out α)(k:α->N'->Out β):Out β:=match o with
 |.ok a s=>k a s
 |.ex c s=>.ex c s
 |.bad=>.bad
abbrev En:=List (Option PV)
abbrev XE:=En->N'->Out PV
abbrev XT:=En->N'->Out Bool
abbrev XA:=En->N'->Out (List PV)
inductive SO where
 |nx (Z:En) (s:N')|rt (v:PV) (s:N')|bk (Z:En) (s:N')|ct (Z:En) (s:N')|ex (c:Xc) (s:N')|bad
abbrev XS:=En->N'->SO
def Yo{α β:Type}(K:aa)(CB:ag)(R:Hp->Mp->N'->β->α->Prop)(E:XK)(o:Out α)(H:Hp)(m:Mp)(s:N')(Q:β->Hp->Prop):Prop:=match o with
 |.ok v s'=>∀u H' m',Ext H m s H' m' s'->SR K CB H' m' s'->R H' m' s' u v->Q u H'
 |.ex c s'=>∀H' m',Ext H m s H' m' s'->SR K CB H' m' s'->∀d,ϡ H' m' s' c.2 d->E (.ref c.1) d H'
 |.bad=>False
def Yo.shift{α β:Type}{K}{CB}{R}{E}{o:Out α}{H H1}{m m1}{s s1}{Q:β->Hp->Prop}(e:Ext H m s H1 m1 s1)(h:Yo K CB R E o H m s Q):Yo K CB R E o H1 m1 s1 Q:=by
 cases o with
 |ok v s'=>exact λu H' m' x S r=>h u H' m' (e.trans x) S r
 |ex c s'=>exact λH' m' x S=>h H' m' (e.trans x) S
 |bad=>exact h
theorem Yo.bind{α β α' β':Type}{K}{CB}{R}{R'}{E}{o:Out α}{k:α->N'->Out α'}{H}{m}{s}{Q:β'->Hp->Prop}{Q1:β->Hp->Prop}(h:Yo K CB R' E (o.bind k) H m s Q)(f:∀v s1 u H1 m1,Ext H m s H1 m1 s1->SR K CB H1 m1 s1->R H1 m1 s1 u v->Yo K CB R' E (k v s1) H1 m1 s1 Q->Q1 u H1):Yo K CB R E o H m s Q1:=by
 cases o with
 |ok v s1=>exact λu H1 m1 x S r=>f v s1 u H1 m1 x S r (Yo.shift x h)
 |ex c s'=>exact h
 |bad=>exact h
def Yo.here{α β:Type}{K}{CB}{R}{E}{v:α}{H}{m}{s}{Q:β->Hp->Prop}{u:β}(h:Yo K CB R E (.ok v s) H m s Q)(S:SR K CB H m s)(r:R H m s u v):Q u H:=h u H m .refl S r
def Yo.new{α β:Type}{K}{CB}{R}{E}{v:α}{H}{m}{s}{Q:β->Hp->Prop}{u:β}{p}{o}(h:Yo K CB R E (.ok v s) H m s Q)(S:SR K CB H m s)(hp:H p=Zb)(r:Ext H m s (upd H p o) m s->SR K CB (upd H p o) m s->R (upd H p o) m s u v):Q u (upd H p o):=by
 have k:YH H (upd H p o):=My.sS hp;exact h u _ m (.same k) (S.same k) (r (.same k) (S.same k))
structure ER(K:aa)(H:Hp)(m:Mp)(s:N')(O:St)(Z:En):Prop where
 len:Z.length=O.length
 at_:∀(i:Nat)(p:PV),Z[i]?=Za (Za p)->∃u,O[i]?=Za (Za u)/\Rep K H m s u p
theorem ER.ext{K}{H H'}{m m'}{s s'}{O}{Z}(h:ER K H m s O Z)(e:Ext H m s H' m' s'):ER K H' m' s' O Z :=
 ⟨h.len,λi p q=>let⟨u,a,b⟩:=h.at_ i p q;⟨u,a,b.ext e⟩⟩
theorem ER.set{K}{H}{m}{s}{O}{Z}{u}{p}(h:ER K H m s O Z)(i)(r:Rep K H m s u p):ER K H m s (O.set i (Za u)) (Z.set i (Za p)):=by
 refine⟨by simp[h.len],λj q e=>?_⟩;rw[gG] at e ⊢;by_cases c:i=j
 .rw[Zc c] at e ⊢;by_cases d:i<Z.length
  .rw[Zc d] at e;rw[Zc (by rw[<-h.len];exact d)];grind
  .simp_all
 .rw[Zd c] at e ⊢;exact h.at_ j q e
def ER.cons{K}{H}{m}{s}{O}{Z}{u}{p}(h:ER K H m s O Z)(r:Rep K H m s u p):ER K H m s (Za u::O) (Za p::Z):=by
 refine⟨by simp[h.len],λj q e=>?_⟩;cases j with
 |zero=>simp at e;subst e;exact⟨u,rfl,r⟩
 |succ j=>exact h.at_ j q (by simpa using e)
theorem ER.start{K}{H}{m}{s}:∀{vs:List V}{ps:List PV},X7 K H m s vs ps->∀n,ER K H m s (vs.map Za++aQ n Zb) (ps.map Za++aQ n Zb)
 |_,_,.nil,n=>⟨by simp,λi p e=>by
   have e:(aQ n (Zb:Option PV))[i]?=Za (Za p):=by simpa using e
   rw[gO] at e;split at e<;>cases e⟩
 |_,_,.cons a b,n=>(ER.start b n).cons a
noncomputable def nM(ix:List Nat)(Z:En):En:=ix.map λi=>(Z[i]?).getD Zb
theorem ER.Zo{K}{H}{m}{s}{O}{Z}(h:ER K H m s O Z)(ix):ER K H m s (Zo ix O) (nM ix Z):=by
 refine⟨by simp[L2.Zo,nM],λj q e=>?_⟩;unfold nM at e;unfold L2.Zo;rw[aF] at e ⊢;cases c:ix[j]? with
 |none=>rw[c] at e;cases e
 |some i =>
  rw[c] at e;have e:(Z[i]?).getD Zb=Za q:=bL e;cases d:Z[i]? with
  |none=>rw[d] at e;cases e
  |some o =>
   rw[d] at e;subst e;obtain⟨u,h1,h2⟩:=h.at_ i q d
   simp_all
def ō(K:aa)(CB:ag)(E:XK)(f:XE):TE:=λO H Q=>∃Z s m,ER K H m s O Z/\SR K CB H m s/\Yo K CB (Rep K) E (f Z s) H m s Q
def ż(K:aa)(CB:ag)(E:XK)(f:XT):TT:=λO H Q=>∃Z s m,ER K H m s O Z/\SR K CB H m s/\Yo K CB (λ_ _ _ u v=>u=v) E (f Z s) H m s Q
def TDA(K:aa)(CB:ag)(E:XK)(f:XA):TA:=λO H Q=>∃Z s m,ER K H m s O Z/\SR K CB H m s/\Yo K CB (X7 K) E (f Z s) H m s Q
def YF(K:aa)(CB:ag)(E:XK)(o:SO)(H:Hp)(m:Mp)(s:N')(D:Ends):Prop:=match o with
 |.nx Yi s'=>∀Yy H' m',Ext H m s H' m' s'->SR K CB H' m' s'->ER K H' m' s' Yy Yi->D.nx Yy H'
 |.rt v s'=>∀u H' m',Ext H m s H' m' s'->SR K CB H' m' s'->Rep K H' m' s' u v->D.rt u H'
 |.bk Yi s'=>∀Yy H' m',Ext H m s H' m' s'->SR K CB H' m' s'->ER K H' m' s' Yy Yi->D.bk Yy H'
 |.ct Yi s'=>∀Yy H' m',Ext H m s H' m' s'->SR K CB H' m' s'->ER K H' m' s' Yy Yi->D.ct Yy H'
 |.ex c s'=>∀H' m',Ext H m s H' m' s'->SR K CB H' m' s'->∀d,ϡ H' m' s' c.2 d->E (.ref c.1) d H'
 |.bad=>False
def TDS(K:aa)(CB:ag)(E:XK)(g:XS):TS:=λD O H=>∃Z s m,ER K H m s O Z/\SR K CB H m s/\YF K CB E (g Z s) H m s D
def oE{K:aa}{CB:ag}{H:Hp}{O:St}{Zj:En->N'->Mp->Prop}{R:Prop}(k:∀Z s m,ER K H m s O Z->SR K CB H m s->Zj Z s m->R)(h:∃Z s m,ER K H m s O Z/\SR K CB H m s/\Zj Z s m):R:=h.elim λZ h=>h.elim λs h=>h.elim λm h=>k Z s m h.1 h.2.1 h.2.2
structure DE(X:Cx)(CB:ag)(E:XK)(e:a7)(f:XE):Prop where
 pe:PE X e (ō X.K CB E f)
structure DT(X:Cx)(CB:ag)(E:XK)(e:a7)(f:XT):Prop where
 pt:PT X e (ż X.K CB E f)
structure DW(X:Cx)(CB:ag)(E:XK)(e:a7)(f:XT):Prop where
 pw:PW X e (ż X.K CB E f)
structure DA(X:Cx)(CB:ag)(E:XK)(es:List a7)(f:XA):Prop where
 pa:PA X es (TDA X.K CB E f)
structure DS(X:Cx)(CB:ag)(E:XK)(st:bK)(g:XS):Prop where
 ps:PS X st (TDS X.K CB E g)
structure ϥ(X:Cx)(CB:ag)(E:XK)(st:List bK)(g:XS):Prop where
 pss:Ļ X st (TDS X.K CB E g)
def PE.mono(h:PE X e t)(k:∀O H Q,t' O H Q->t O H Q):PE X e t':=λQ9 s O H Q I q=>h Q9 s O H Q I (k O H Q q)
def PT.mono(h:PT X e t)(k:∀O H Q,t' O H Q->t O H Q):PT X e t':=λQ9 s O H Q I q=>h Q9 s O H Q I (k O H Q q)
def PW.mono(h:PW X e t)(k:∀O H Q,t' O H Q->t O H Q):PW X e t':=λw Q9 s O H Q I q=>h w Q9 s O H Q I (k O H Q q)
def PA.mono(h:PA X e t)(k:∀O H Q,t' O H Q->t O H Q):PA X e t':=λpos Q9 s O H Q I q=>h pos Q9 s O H Q I (k O H Q q)
def PS.mono(h:PS X e t)(k:∀D O H,t' D O H->t D O H):PS X e t':=λQ9 s O H D I q=>h Q9 s O H D I (k D O H q)
def Ļ.mono(h:Ļ X e t)(k:∀D O H,t' D O H->t D O H):Ļ X e t':=λQ9 s O H D I q=>h Q9 s O H D I (k D O H q)
def j'(i:Nat)(Z:En)(s:N'):Out PV:=match Z[i]? with
 |some (Za p)=>.ok p s
 |_=>.bad
def xC(p:PV)(_:En)(s:N'):Out PV:=.ok p s
def x1(f:XE)(F:PV->N'->Out PV)(Z:En)(s:N'):Out PV:=(f Z s).bind F
def x2(f g:XE)(F:PV->PV->N'->Out PV)(Z:En)(s:N'):Out PV:=(f Z s).bind λv s1=>(g Z s1).bind λw s2=>F v w s2
def J'(_:En)(s:N'):Out (List PV):=.ok [] s
def F'(f:XE)(g:XA)(Z:En)(s:N'):Out (List PV):=(f Z s).bind λv s1=>(g Z s1).bind λvs s2=>.ok (v::vs) s2
section
variable{X:Cx}{CB:ag}{E:XK}{a b c e:a7}{es:List a7}{f g h:XE}{fa:XA}{p pos:Pos}{x:Str}
def Ł(K:aa)(CB:ag)(E:XK)(r:R2)(F:PV->PV->N'->Out PV):Prop:=∀H m s v w x y Q,SR K CB H m s->Rep K H m s x v->Rep K H m s y w->Yo K CB (Rep K) E (F v w s) H m s Q->r x y H Q
def Op1(K:aa)(CB:ag)(E:XK)(r:V->Hp->VK->Prop)(F:PV->N'->Out PV):Prop:=∀H m s v x Q,SR K CB H m s->Rep K H m s x v->Yo K CB (Rep K) E (F v s) H m s Q->r x H Q
def OpN(K:aa)(CB:ag)(E:XK)(r:List V->Hp->VK->Prop)(F:List PV->N'->Out PV):Prop:=∀H m s v x Q,SR K CB H m s->X7 K H m s x v->Yo K CB (Rep K) E (F v s) H m s Q->r x H Q
def two{r}{F}(o:Ł X.K CB E r F){O}{H}{Q}(q:ō X.K CB E (x2 f g F) O H Q):tOp r (ō X.K CB E f) (ō X.K CB E g) O H Q:=by obtain⟨Z,s,m,er,S,P⟩:=q;exact⟨Z,s,m,er,S,P.bind λv s1 u H1 m1 e1 S1 r1 P1=>⟨Z,s1,m1,er.ext e1,S1,P1.bind λw s2 u2 H2 m2 e2 S2 r2 P2=>o H2 m2 s2 v w u u2 Q S2 (r1.ext e2) r2 P2⟩⟩
def mf(i)(hN:X.N[i]?=Za x:=by rfl)(hv:Vis X.env.scope x:=by first|exact eB rfl|exact gM (eB rfl)|exact gM (gM rfl))(hd:Î x:=by decide)(R5:(x==("__classdict__":Str))=false:=by decide):DE X CB E (.Name x pos) (j' i):=⟨(DQ hN hv hd R5).mono λO H Q=>oE λZ s m er S P=>by
 unfold j' at P;split at P
 .rename_i q hq;obtain⟨u,h1,h2⟩:=er.at_ i q hq;exact⟨u,h1,P.here S h2⟩
 .exact P.elim⟩
def mD{i}{j}:DE X CB E (.Constant (.int i) j pos) (xC (.int i)):=⟨YK.mono λO H Q=>oE λZ s m er S P=>P.here S .int⟩
def F9{i}{j}:DE X CB E (.Constant (.bool i) j pos) (xC (.bl i)):=⟨Àg.mono λO H Q=>oE λZ s m er S P=>P.here S .bl⟩
def GK{i}{j}:DE X CB E (.Constant (.str i) j pos) (xC (.str i)):=⟨é.mono λO H Q=>oE λZ s m er S P=>P.here S .str⟩
def D9{j}:DE X CB E (.Constant .none j pos) (xC .Yh):=⟨Àr.mono λO H Q=>oE λZ s m er S P=>P.here S .Yh⟩
def z3(ho:Zq X (dE op) r)(o:Ł X.K CB E r F)(ha:DE X CB E a f)(hb:DE X CB E b g):DE X CB E (.BinOp a op b pos) (x2 f g F):=⟨(ud ho ha.pe hb.pe).mono λO H Q q=>two o q⟩
def ÁJ(ho:UnR X (unaryOp op) r)(o:Op1 X.K CB E r F)(ha:DE X CB E a f):DE X CB E (.UnaryOp op a pos) (x1 f F):=⟨(OM ho ha.pe).mono λO H Q=>oE λZ s m er S P =>
 ⟨Z,s,m,er,S,P.bind λv s1 u H1 m1 e1 S1 r1 P1=>o H1 m1 s1 v u Q S1 r1 P1⟩⟩
def Àz(ho:Zq X (bO op) r)(o:Ł X.K CB E r F)(ha:DE X CB E a f)(hb:DE X CB E b g)(hm:cP op b=false):DE X CB E (.Compare a [op] [b] pos) (x2 f g F):=⟨(Hd ho ha.pe hb.pe hm).mono λO H Q q=>two o q⟩
def YJ(f:XE)(Z:En)(s:N'):Out Bool:=(f Z s).bind λv s1=>match v with
 |.bl b=>.ok b s1
 |_=>.bad
def ż.tst{O}{H}{Q}(q:ż X.K CB E (YJ f) O H Q):ō X.K CB E f O H λx H1=>∃k,x=.bl k/\Q k H1:=by obtain⟨Z,s,m,er,S,P⟩:=q;refine⟨Z,s,m,er,S,P.bind λv s1 u H1 m1 e1 S1 r1 P1=>?_⟩;cases r1<;>first|exact P1.elim|exact⟨_,rfl,P1.here S1 rfl⟩
def Àx(ho:Zq X (bO op) r)(o:Ł X.K CB E r F)(ha:DE X CB E a f)(hb:DE X CB E b g)(hm:cP op b=false):DT X CB E (.Compare a [op] [b] pos) (YJ (x2 f g F)):=⟨(vB ho ha.pe hb.pe hm).mono λO H Q q=>two o (ż.tst q)⟩
def vL(h:DE X CB E e f)(he:∀whole,isTrue e X.env whole=(do let v <-whole;fL e.pos;holding [v] (truthy v)):=by intro _;rfl):DT X CB E e (YJ f):=⟨(wx h.pe he).mono λO H Q q=>ż.tst q⟩
def Àn(f g h:XE)(F G:PV->PV->N'->Out PV)(Z:En)(s:N'):Out PV:=(f Z s).bind λv s1=>(g Z s1).bind λw s2=>(F v w s2).bind λz s3=>match z with
 |.bl true=>(h Z s3).bind λy s4=>G w y s4
 |.bl false=>.ok (.bl false) s3
 |_=>.bad
def ė(f:XT)(Z:En)(s:N'):Out Bool:=(f Z s).bind λb s1=>.ok (!b) s1
def Á2(f g:XT)(Z:En)(s:N'):Out Bool:=(f Z s).bind λb s1=>if b=true then g Z s1 else .ok false s1
def ϧ(f g:XT)(Z:En)(s:N'):Out Bool:=(f Z s).bind λb s1=>if b=true then .ok true s1 else g Z s1
variable{t u:XT}{rest:List a7}
def yP(h:DT X CB E a t):DT X CB E (.UnaryOp .Not a pos) (ė t):=⟨(A9 h.pt).mono λO H Q=>oE λZ s m er S P =>
 ⟨Z,s,m,er,S,P.bind λv s1 b H1 m1 e1 S1 r1 P1=>by cases r1;exact P1.here S1 rfl⟩⟩
def GI(h:DT X CB E a t):DW X CB E (.BoolOp .Or [a] pos) t:=⟨Li h.pt⟩
def D5(h:DT X CB E a t)(k:DW X CB E (.BoolOp .Or (b::rest) pos) u):DW X CB E (.BoolOp .Or (a::b::rest) pos) (ϧ t u):=⟨(OL h.pt k.pw).mono λO H Q=>oE λZ s m er S P =>
 ⟨Z,s,m,er,S,P.bind λv s1 b H1 m1 e1 S1 r1 P1=>by
  cases r1;refine vY (λc=>?_) λc=>?_
  .rw[Zc c] at P1;exact P1.here S1 rfl
  .rw[Zd c] at P1;exact⟨Z,s1,m1,er.ext e1,S1,P1⟩⟩⟩
def DW.dt(h:DW X CB E a t):DT X CB E a t:=⟨h.pw.pt⟩
def þ(f g:XE)(Z:En)(s:N'):Out PV:=(f Z s).bind λv s1=>match v with
 |.bl true=>g Z s1
 |.bl false=>.ok (.bl false) s1
 |_=>.bad
def Á1(f g:XE)(Z:En)(s:N'):Out PV:=(f Z s).bind λv s1=>match v with
 |.bl true=>.ok (.bl true) s1
 |.bl false=>g Z s1
 |_=>.bad
def ώ(f:XE)(Z:En)(s:N'):Out PV:=(f Z s).bind λv s1=>match v with
 |.bl b=>.ok (.bl (!b)) s1
 |_=>.bad
def GL(h:DE X CB E a f):DE X CB E (.BoolOp op [a] pos) f:=⟨GA h.pe⟩
def QJ(h:DE X CB E a f):DE X CB E (.UnaryOp .Not a pos) (ώ f):=⟨(PL h.pe).mono λO H Q=>oE λZ s m er S P =>
 ⟨Z,s,m,er,S,P.bind λv s1 b H1 m1 e1 S1 r1 P1=>by cases r1<;>first|exact P1.elim|exact⟨_,rfl,P1.here S1 .bl⟩⟩⟩
def GO(h:DE X CB E a f)(k:DE X CB E (.BoolOp .And (b::rest) pos) g):DE X CB E (.BoolOp .And (a::b::rest) pos) (þ f g):=⟨(Ln h.pe k.pe).mono λO H Q=>oE λZ s m er S P =>
 ⟨Z,s,m,er,S,P.bind λv s1 b H1 m1 e1 S1 r1 P1=>by
  cases r1 with
  |bl =>
   rename_i b;cases b
   .exact⟨_,rfl,NK (P1.here S1 .bl)⟩
   .exact⟨_,rfl,NJ ⟨Z,s1,m1,er.ext e1,S1,P1⟩⟩
  |_=>exact P1.elim⟩⟩
def yR:DA X CB E [] J':=⟨Yc.mono λO H Q=>oE λZ s m er S P=>P.here S .nil⟩
def mE(ha:DE X CB E e f)(hr:DA X CB E es fa)(hs:Č X e es:=by rfl):DA X CB E (e::es) (F' f fa):=⟨(mK ha.pe hr.pa hs).mono λO H Q=>oE λZ s m er S P =>
 ⟨Z,s,m,er,S,P.bind λv s1 u H1 m1 e1 S1 r1 P1=>⟨Z,s1,m1,er.ext e1,S1,P1.bind λw s2 u2 H2 m2 e2 S2 r2 P2=>P2.here S2 (.cons (r1.ext e2) r2)⟩⟩⟩
def mB(ha:DE X CB E e f)(hs:ar [e] X.env=(false,eval e X.env)::ar [] X.env:=by rfl):DA X CB E [e] (F' f J'):=mE ha yR hs
theorem X7.length{K}{H}{m}{s}:∀{vs:List V}{l:List PV},X7 K H m s vs l->vs.length=l.length
 |_,_,.nil=>rfl
 |_,_,.cons _ b=>congrArg Nat.succ b.length
def ϩ(h:n<=100000):n<=aG:=aJ h (Zf rfl)
def sz6(h:n<100000):n<aG:=az h (Zf rfl)
def Y7(fa:XA)(Z:En)(s:N'):Out PV:=(fa Z s).bind λvs s1=>if vs.length<=100000 then .ok (.tup vs) s1 else .bad
def ç(fa:XA)(Z:En)(s:N'):Out PV:=(fa Z s).bind λvs s1=>if vs.length<=100000 then .ok (.lst vs) s1 else .bad
def ġ(fa:XA)(Z:En)(s:N'):Out PV:=(fa Z s).bind λvs s1=>if vs.length<=100000 then .ok (.ref s1.nx) (s1.add (.lst vs)) else .bad
def qh{x1}(h:DA X CB E es fa):DE X CB E (.Tuple es x1 pos) (Y7 fa):=⟨(wy h.pa).mono λO H Q=>oE λZ s m er S P =>
 ⟨Z,s,m,er,S,P.bind λv s1 u H1 m1 e1 S1 r1 P1=>by
  split at P1
  .rename_i hl;exact⟨by rw[r1.length];exact ϩ hl,λp hp=>P1.new S1 hp λex S'=>.tup (.inl ⟨.inl mw,S'.YZ mw⟩) (r1.ext ex)⟩
  .exact P1.elim⟩⟩
def wD(h:DA X CB E es fa):DE X CB E (.List es pos) (ç fa):=⟨(Ll h.pa).mono λO H Q=>oE λZ s m er S P =>
 ⟨Z,s,m,er,S,P.bind λv s1 u H1 m1 e1 S1 r1 P1=>by
  split at P1
  .rename_i hl;exact⟨by rw[r1.length];exact ϩ hl,λp hp=>P1.new S1 hp λex S'=>.lst mw (S1.YC hp) (r1.ext ex)⟩
  .exact P1.elim⟩⟩
def SR.Âx{K}{H}{m}{s}{vs}{l}{p}(S:SR K CB H m s)(hp:H p=Zb)(r:X7 K H m s vs l):SR K CB (upd H p (.lst vs)) (m.add s.nx p [p]) (s.add (.lst l))/\Ext H m s (upd H p (.lst vs)) (m.add s.nx p [p]) (s.add (.lst l)) :=
 S.add _ p [p] (My.sS hp) (λa ha=>by rw[ax.mp ha];exact hp) λex=>by
  have e1:(m.add s.nx p [p]).ad s.nx=p:=by show(if s.nx=s.nx then p else _)=_;rw[Zc rfl]
  have e2:(m.add s.nx p [p]).fp s.nx=[p]:=by show(if s.nx=s.nx then [p] else _)=_;rw[Zc rfl]
  exact⟨by rw[e1,e2],vs,by rw[e1];exact mw,r.ext ex⟩
def SR.newD{K}{H H'}{m}{s}{vs}{l}{p}(S:SR K CB H m s)(hp:H p=Zb)(k:YH H H')(hd:H' p=Za (.dK vs))(r:Ya K H m s vs l):SR K CB H' (m.add s.nx p [p]) (s.add (.Yl l))/\Ext H m s H' (m.add s.nx p [p]) (s.add (.Yl l)) :=
 S.add _ p [p] k (λa ha=>by rw[ax.mp ha];exact hp) λex=>by
  have e1:(m.add s.nx p [p]).ad s.nx=p:=by show(if s.nx=s.nx then p else _)=_;rw[Zc rfl]
  have e2:(m.add s.nx p [p]).fp s.nx=[p]:=by show(if s.nx=s.nx then [p] else _)=_;rw[Zc rfl]
  exact⟨by rw[e1,e2],vs,by rw[e1];exact hd,r.ext ex⟩
def Mp.í{m:Mp}{n:Nat}{p:ag}{f:List ag}:(m.add n p f).ad n=p:=by show(if n=n then p else _)=_;grind
def Rep.new{K:aa}{H:Hp}{m:Mp}{s:N'}{p:ag}{f:List ag}{c:Cell}:Rep K H (m.add s.nx p f) (s.add c) (.ref p) (.ref s.nx):=by have h:Rep K H (m.add s.nx p f) (s.add c) (.ref ((m.add s.nx p f).ad s.nx)) (.ref s.nx):=.ref (ci _);rw[Mp.í] at h;exact h
def z5(h:DA X CB E es fa):DE X CB E (.List es pos) (ġ fa):=⟨(Ll h.pa).mono λO H Q=>oE λZ s m er S P =>
 ⟨Z,s,m,er,S,P.bind λv s1 u H1 m1 e1 S1 r1 P1=>by
  split at P1
  .rename_i hl;refine⟨by rw[r1.length];exact ϩ hl,λp hp=>?_⟩;obtain⟨S2,e2⟩:=S1.Âx hp r1;exact P1 _ _ _ e2 S2 .new
  .exact P1.elim⟩⟩
end
end L2
namespace Fra
def Ĕ(a b:Int):Prop:=aH a b=1
def æ(q:Int×Int):Prop:=0<q.2/\Ĕ q.1 q.2
noncomputable def red(q:Int×Int):Int×Int:=(q.1/(aH q.1 q.2:Int),q.2/(aH q.1 q.2:Int))
def Ĕ.symm(h:Ĕ a b):Ĕ b a:=by unfold Ĕ at *;rw[Int.gcd_comm];exact h
def rB(d:a∣a')(h:Ĕ a' b):Ĕ a b:=Nat.Coprime.coprime_dvd_left (fK.mpr d) h
def z7(h1:Ĕ a c)(h2:Ĕ b c):Ĕ (a*b) c:=by unfold Ĕ aH at *;rw[iN];exact Nat.Coprime.mul_left h1 h2
def DD(h:Ĕ a b)(d:a∣b*c):a∣c:=by have d':=fK.mpr d;rw[iN] at d';exact fK.mp (Nat.Coprime.dvd_of_dvd_mul_left h d')
def HC(h:Ĕ a b):Ĕ (a+k*b) b:=by
 have g1:(aH (a+k*b) b:Int)∣a+k*b:=fU ..;have g2:(aH (a+k*b) b:Int)∣b:=cm ..;have g3:(aH (a+k*b) b:Int)∣a:=by
  have:=Int.dvd_sub g1 (Int.dvd_trans g2 (Int.dvd_mul_left k b))
  grind
 have g4:=Int.dvd_gcd g3 g2;rw[h] at g4;exact Nat.dvd_one.mp g4
def zI(hp:æ p)(hq:æ q)(h:p.1*q.2=q.1*p.2):p=q:=by obtain⟨a,b⟩:=p;obtain⟨c,d⟩:=q;obtain⟨h1,h2⟩:=hp;obtain⟨h3,h4⟩:=hq;simp only at h h1 h2 h3 h4;have d1:=DD h2.symm ⟨c,by rw[h];grind⟩;have d2:=DD h4.symm ⟨a,by rw[<-h];exact bR _ _⟩;have e:=Int.dvd_antisymm (by lia) (by lia) d1 d2;subst e;have:=eA (by lia) h;rw[this]
def t7(h:0<q.2):æ (red q)/\(red q).1*q.2=q.1*(red q).2:=by
 obtain⟨a,b⟩:=q;simp only at h;have hg:0<aH a b:=bx _ (by lia);obtain⟨u,hu⟩:(aH a b:Int)∣a:=fU ..;obtain⟨v,hv⟩:(aH a b:Int)∣b:=cm ..;have eu:=jZ (by lia) hu;have ev:=jZ (by lia) hv;have hc:Ĕ u v:=by
  have e:aH ((aH a b:Int)*u) ((aH a b:Int)*v)=aH a b*aH u v:=by rw[jz];rfl
  have:aH a b*aH u v=aH a b*1:=by lia
  exact gE hg this
 have hv0:0<v:=by
  by_cases z:0<v
  .exact z
  .have:(aH a b:Int)*v<=0:=eZ (by lia) (by lia);lia
 unfold red;rw[eu,ev];refine⟨⟨hv0,hc⟩,?_⟩
 grind
def Pr(hp:æ p)(hq:0<q.2)(h:p.1*q.2=q.1*p.2):p=red q:=by
 obtain⟨r1,r2⟩:=t7 hq;apply zI hp r1;have e:p.1*(red q).2*q.2=(red q).1*p.2*q.2:=by rw[eY,h,eY q.1,<-r2,eY]
 exact eA (by lia) e
noncomputable def ÁT(p q:Int×Int):Int×Int :=
 let d:Int:=aH p.2 q.2;let t:=p.1*(q.2/d)+q.1*(p.2/d);let e:Int:=aH t d
 (t/e,p.2/d*(q.2/e))
def oG(p q:Int×Int):Int×Int:=red (p.1*q.2+q.1*p.2,p.2*q.2)
def Oy(hp:æ p)(hq:æ q):ÁT p q=oG p q:=by
 obtain⟨n1,b1⟩:=p;obtain⟨n2,b2⟩:=q;obtain⟨h1,h2⟩:=hp;obtain⟨h3,h4⟩:=hq;simp only at h1 h2 h3 h4;unfold ÁT oG;simp only;have hd:0<aH b1 b2:=bx _ (by lia);obtain⟨u,hu⟩:(aH b1 b2:Int)∣b1:=fU ..;obtain⟨v,hv⟩:(aH b1 b2:Int)∣b2:=cm ..;have huv:Ĕ u v:=by
  have e:aH ((aH b1 b2:Int)*u) ((aH b1 b2:Int)*v)=aH b1 b2*aH u v:=by rw[jz];rfl
  rw[<-hu,<-hv] at e;have:aH b1 b2*aH u v=aH b1 b2*1:=by lia
  exact gE hd this
 generalize hD:(aH b1 b2:Int)=d at *;have d0:0<d:=by lia
 subst hu;subst hv;rw[cL _ (by lia:d≠0),cL _ (by lia:d≠0)];have pos:∀{x:Int},0<d*x->0<x:=λ{x} hx=>by
  by_cases z:0<x
  .exact z
  .have:d*x<=0:=eZ (by lia) (by lia);lia
 have u0:=pos h1;have v0:=pos h3;have X2:Ĕ (n1*v+n2*u) u:=HC (z7 (rB (Int.dvd_refl _) (rB ⟨d,bR _ _⟩ h2.symm).symm) huv.symm);have X1:Ĕ (n1*v+n2*u) v:=by rw[Int.add_comm];exact HC (z7 (rB ⟨d,bR _ _⟩ h4.symm).symm huv)
 generalize hT:n1*v+n2*u=t at *;have he:0<aH t d:=bx _ (by lia);obtain⟨t',ht⟩:(aH t d:Int)∣t:=fU ..;obtain⟨e',hE⟩:(aH t d:Int)∣d:=cm ..;have cte:Ĕ t' e':=by
  have e:aH ((aH t d:Int)*t') ((aH t d:Int)*e')=aH t d*aH t' e':=by rw[jz];rfl
  rw[<-ht,<-hE] at e;have:aH t d*aH t' e'=aH t d*1:=by lia
  exact gE he this
 generalize hG:(aH t d:Int)=g at *;have g0:0<g:=by lia
 have e0:0<e':=by
  by_cases z:0<e'
  .exact z
  .have:g*e'<=0:=eZ (by lia) (by lia);lia
 have q1:t/g=t':=by rw[ht];exact cL _ (by lia)
 have q2:d*v/g=e'*v:=by rw[hE,bh];exact cL _ (by lia)
 rw[q1,q2];refine Pr ⟨bv u0 (bv e0 v0),?_⟩ (bv h1 h3) ?_
 .have d1:t'∣t:=⟨g,by rw[ht];exact bR _ _⟩;exact(z7 (rB d1 X2).symm (z7 cte.symm (rB d1 X1).symm)).symm
 .show t'*(d*u*(d*v))=(n1*(d*v)+n2*(d*u))*(u*(e'*v));have e1:n1*(d*v)+n2*(d*u)=d*t:=by rw[<-hT,Int.mul_add,fD,fD n2]
  rw[e1];have e2:d*t*(u*(e'*v))=d*(g*t')*(u*(e'*v)):=by rw[<-ht]
  have e3:t'*(d*u*(d*v))=t'*(d*u*(g*e'*v)):=by rw[<-hE]
  rw[e2,e3];simp[bh,fD,bR]
def Fk(hp:æ p)(hq:æ q):æ (oG p q):=(t7 (bv hp.1 hq.1)).1
end Fra
namespace L2
open PySem PySem.Spec PyProof.Rows
def YB(s:N'):PV->Option (List PV)
 |.lst l=>Za l
 |.seq l=>Za l
 |.ref n=>match s.get n with
  |some (.lst l)=>Za l
  |_=>Zb
 |_=>Zb
def Zv(s:N'):PV->Option (List (Key×PV))
 |.Yl l=>Za l
 |.ref n=>match s.get n with
  |some (.Yl l)=>Za l
  |some (.YR l)=>Za l
  |_=>Zb
 |_=>Zb
noncomputable def ZY:PV->Option Key
 |.int i=>Za (.inl i)
 |.str x=>Za (.inr x)
 |_=>Zb
noncomputable def toV:PV->Option V
 |.Yh=>Za .Yh
 |.bl b=>Za (.bl b)
 |.int i=>Za (.int i)
 |.str x=>Za (.str x)
 |_=>Zb
noncomputable def toVs:List PV->Option (List V)
 |[]=>Za []
 |p::l=>match toV p,toVs l with
  |some v,Za vs=>Za (v::vs)
  |_,_=>Zb
noncomputable def qM(l:List (Key×PV))(k:Key):Option PV:=(l.find? λkv=>decide (kv.1=k)).map (·.2)
noncomputable def zx(l:List (Key×PV))(k:Key)(p:PV):List (Key×PV) :=
 if(l.any λkv=>decide (kv.1=k))=true then l.map (λkv=>if kv.1=k then(kv.1,p) else kv) else l++[(k,p)]
noncomputable def yS(f:PV->Option k7):List PV->Option (List k7)
 |[]=>Za []
 |p::l=>match f p,yS f l with
  |some d,Za ds=>Za (d::ds)
  |_,_=>Zb
noncomputable def PV.data(s:N'):Nat->PV->Option k7
 |0,_=>Zb
 |_+1,.Yh=>Za .none
 |_+1,.bl b=>Za (.bool b)
 |_+1,.int i=>Za (.int i)
 |_+1,.str x=>if bA x=true then Za (.str x) else Zb
 |k+1,.tup l=>(yS (PV.data s k) l).map .tuple
 |k+1,.lst l=>(yS (PV.data s k) l).map .list
 |k+1,.seq l=>(yS (PV.data s k) l).map .list
 |k+1,.ref n=>match s.get n with
  |some (.lst l)=>(yS (PV.data s k) l).map .list
  |_=>Zb
 |_+1,_=>Zb
section
variable{K:aa}{CB:ag}{H:Hp}{m:Mp}{s:N'}{x:V}{v:PV}
def Rep.ls(S:SR K CB H m s)(r:Rep K H m s x v)(e:YB s v=Za l):∃a vs,x=.ref a/\YO K H a vs/\X7 K H m s vs l:=by
 cases r with
 |lst h _ q=>cases e;exact⟨_,_,rfl,YO.of h,q⟩
 |seq h q=>cases e;exact⟨_,_,rfl,h.elim (λz=>.inl (.inr z.1)) .inr,q⟩
 |ref h =>
  rename_i n;have e:(match s.get n with|some (.lst l)=>Za l|_=>Zb)=Za l:=e;split at e<;>cases e
  rename_i hg;obtain⟨_,vs,h1,h2⟩:=S.get hg;exact⟨_,vs,rfl,YO.of h1,h2⟩
 |_=>cases e
def Rep.tp(r:Rep K H m s x (.tup l)):∃a vs,x=.ref a/\Zz K H a vs/\X7 K H m s vs l:=by
 cases r with
 |tup h q=>exact⟨_,_,rfl,h.elim (λz=>.inl z.1) .inr,q⟩
def Rep.dc(S:SR K CB H m s)(r:Rep K H m s x v)(e:Zv s v=Za l):∃a vs,x=.ref a/\Rd H a (.dK vs)/\Ya K H m s vs l:=by
 cases r with
 |Yl h _ q=>cases e;exact⟨_,_,rfl,h,q⟩
 |ref h =>
  rename_i n;have e:(match s.get n with|some (.Yl l)=>Za l|some (.YR l)=>Za l|_=>Zb)=Za l:=e;split at e<;>cases e
  .rename_i hg;obtain⟨_,vs,h1,h2⟩:=S.get hg;exact⟨_,vs,rfl,.inl h1,h2⟩
  .rename_i hg;obtain⟨_,ob,vs,h1,h2⟩:=S.get hg;exact⟨_,vs,rfl,.inr ⟨ob,h1⟩,h2⟩
 |_=>cases e
theorem Rep.toV(r:Rep K H m s x v)(e:L2.toV v=Za z):x=z:=by cases r<;>first|cases e;rfl|cases e
theorem X7.toVs:∀{vs:List V}{l:List PV}{zs:List V},X7 K H m s vs l->L2.toVs l=Za zs->vs=zs
 |_,_,_,.nil,e=>by cases e;rfl
 |_,_,_,.cons a b,e=>by
  unfold L2.toVs at e;split at e<;>cases e
  rename_i h1 h2;rw[a.toV h1,b.toVs h2]
def Am{v}(e:L2.toV v=Za z):tX z=true:=by cases v<;>first|cases e;rfl|cases e
theorem xF:∀{l:List PV}{zs:List V},L2.toVs l=Za zs->zs.all tX=true
 |[],_,e=>by cases e;rfl
 |p::l,_,e=>by
  unfold L2.toVs at e;split at e<;>cases e
  rename_i h1 h2;rw[iV,Am h1,xF h2];rfl
theorem X7.get:∀{vs:List V}{l:List PV}{i:Nat}{p:PV},X7 K H m s vs l->l[i]?=Za p->∃u,vs[i]?=Za u/\Rep K H m s u p
 |_,_,_,_,.nil,e=>by simp at e
 |_,_,0,_,.cons a _,e=>by simp at e;subst e;exact⟨_,rfl,a⟩
 |_,_,i+1,p,.cons _ b,e=>by
  obtain⟨u,h1,h2⟩:=b.get (by simpa using e)
  simp_all
theorem X7.Z9(r:X7 K H m s vs l)(e:L2.Z9 l i=Za p):∃u,L2.Z9 vs i=Za u/\Rep K H m s u p:=by
 unfold L2.Z9 at e ⊢;rw[r.length];cases c:Œ l.length i with
 |none=>rw[c] at e;cases e
 |some j=>rw[c] at e;exact r.get e
theorem X7.append:∀{vs ws:List V}{l k:List PV},X7 K H m s vs l->X7 K H m s ws k->X7 K H m s (vs++ws) (l++k)
 |_,_,_,_,.nil,q=>q
 |_,_,_,_,.cons a b,q=>.cons a (b.append q)
theorem X7.drop:∀{vs:List V}{l:List PV}(n:Nat),X7 K H m s vs l->X7 K H m s (vs.drop n) (l.drop n)
 |_,_,0,r=>r
 |_,_,_+1,.nil=>.nil
 |_,_,n+1,.cons _ b=>b.drop n
theorem X7.take:∀{vs:List V}{l:List PV}(n:Nat),X7 K H m s vs l->X7 K H m s (vs.take n) (l.take n)
 |_,_,0,_=>.nil
 |_,_,_+1,.nil=>.nil
 |_,_,n+1,.cons a b=>.cons a (b.take n)
theorem X7.set:∀{vs:List V}{l:List PV}{u:V}{p:PV}(i:Nat),X7 K H m s vs l->Rep K H m s u p->X7 K H m s (vs.set i u) (l.set i p)
 |_,_,_,_,_,.nil,_=>.nil
 |_,_,_,_,0,.cons _ b,r=>.cons r b
 |_,_,_,_,i+1,.cons a b,r=>.cons a (b.set i r)
theorem X7.strs:∀{vs:List V}{ss:List Str},X7 K H m s vs (ss.map PV.str)->vs=ss.map V.str
 |_,[],.nil=>rfl
 |_,x::ss,.cons a b=>by cases a;rw[X7.strs (ss:=ss) b];rfl
theorem X7.ofStrs:∀(ss:List Str),X7 K H m s (ss.map V.str) (ss.map PV.str)
 |[]=>.nil
 |_::r=>.cons .str (X7.ofStrs r)
theorem Ya.keys:∀{vs:List (Key×V)}{l:List (Key×PV)},Ya K H m s vs l->vs.map (·.1)=l.map (·.1)
 |_,_,.nil=>rfl
 |_,_,.cons _ b=>by simp[b.keys]
theorem Ya.length(r:Ya K H m s vs l):vs.length=l.length:=by have:=congrArg cE r.keys;simpa using this
theorem Ya.val:∀{vs:List (Key×V)}{l:List (Key×PV)}(k:Key),Ya K H m s vs l->(∀p,qM l k=Za p->∃u,pE vs k=Za u/\Rep K H m s u p)/\(qM l k=Zb->pE vs k=Zb)
 |_,_,k,.nil=>⟨λp e=>(by cases e),λ_=>rfl⟩
 |_,_,k,.cons (k:=q) (p:=p0) (v:=v0) a b=>by
  by_cases e:q=k
  .refine⟨λp h=>⟨v0,wJ e,?_⟩,λh=>?_⟩
   .unfold qM at h;simp[e] at h;subst h;exact a
   .unfold qM at h;simp[e] at h
  .rw[wK e];have h2:∀{l:List (Key×PV)},qM ((q,p0)::l) k=qM l k:=λ{l}=>by unfold qM;simp[e]
   rw[h2];exact b.val k
theorem Ya.any(r:Ya K H m s vs l)(k):(vs.any λkv=>decide (kv.1=k))=l.any λkv=>decide (kv.1=k):=by
 have h:∀{β:Type}(l:List (Key×β)),(l.any λkv=>decide (kv.1=k))=(l.map (·.1)).any λj=>decide (j=k):=λl=>by rw[g7];rfl
 rw[h,h,r.keys]
theorem Ya.ś:∀{vs:List (Key×V)}{l:List (Key×PV)}{u:V}{p:PV}(k:Key),Ya K H m s vs l->Rep K H m s u p->Ya K H m s (vs.map λkv=>if kv.1=k then(kv.1,u) else kv) (l.map λkv=>if kv.1=k then(kv.1,p) else kv)
 |_,_,_,_,_,.nil,_=>.nil
 |_,_,u,p,k,.cons (k:=q) a b,r=>by
  rw[am,am];by_cases e:q=k
  .rw[Zc e,Zc e];exact .cons r (b.ś k r)
  .rw[Zd e,Zd e];exact .cons a (b.ś k r)
theorem Ya.append:∀{vs ws:List (Key×V)}{l k:List (Key×PV)},Ya K H m s vs l->Ya K H m s ws k->Ya K H m s (vs++ws) (l++k)
 |_,_,_,_,.nil,q=>q
 |_,_,_,_,.cons a b,q=>.cons a (b.append q)
def Ya.put(k)(q:Ya K H m s vs l)(r:Rep K H m s u p):Ya K H m s (rh vs k u) (zx l k p):=by
 unfold rh zx;rw[q.any];split
 .exact q.ś k r
 .exact q.append (.cons r .nil)
def qK(r:Rep K H m s x v)(e:ZY v=Za k):x=kV k:=by cases r<;>first|cases e;rfl|cases e
end
section
variable{X:Cx}{CB:ag}
theorem X7.Ā{sh:au}{H:Hp}{m:Mp}{s:N'}{k:Nat}(ih:∀{v:V}{p:PV}{u:ae}{d:k7},Rep X.K H m s v p->RelV v u->PV.data s k p=Za d->(∃as,Reads sh.heap u d as)/\d.canLay0=true/\d.depth<=k) :
  ∀{v:List V}{p:List PV}{u:List ae}{d:List k7},X7 X.K H m s v p->Vals v u->yS (PV.data s k) p=Za d->(∃as,ReadsAll sh.heap u.toArray.toList d as)/\lJ d=true/\PyData.depthAll d<=k
 |_,_,_,_,.nil,.nil,e=>by unfold yS at e;cases e;exact⟨⟨_,.nil⟩,rfl,aY _⟩
 |_,_,_,_,.cons a b,.cons r rs,e=>by
  unfold yS at e;split at e<;>cases e
  rename_i h1 h2;obtain⟨⟨as,r1⟩,r2,r3⟩:=ih a r h1;obtain⟨⟨bs,q1⟩,q2,q3⟩:=X7.Ā ih b rs h2;refine⟨⟨_,.cons r1 (by simpa using q1)⟩,by unfold lJ;rw[r2,q2];rfl,?_⟩;unfold PyData.depthAll;lia
theorem Rep.reads(I:Inv X Q9 O H sh)(S:SR X.K CB H m s):∀(k:Nat){v:V}{p:PV}{u:ae}{d:k7},Rep X.K H m s v p->RelV v u->PV.data s k p=Za d ->
  (∃as,Reads sh.heap u d as)/\d.canLay0=true/\d.depth<=k
 |0,_,p,_,_,_,_,e=>by cases p<;>(unfold PV.data at e;cases e)
 |k+1,_,_,_,_,.Yh,ru,e=>by cases ru;unfold PV.data at e;cases e;exact⟨⟨_,.none⟩,rfl,aY _⟩
 |k+1,_,_,_,_,.bl,ru,e=>by cases ru;unfold PV.data at e;cases e;exact⟨⟨_,.bool _⟩,rfl,aY _⟩
 |k+1,_,_,_,_,.int,ru,e=>by obtain⟨t,rfl⟩:=ru;cases e;exact⟨⟨_,.int _ _⟩,rfl,aY _⟩
 |k+1,_,_,_,_,.str,ru,e=>by
  obtain⟨t,rfl⟩:=ru;unfold PV.data at e;split at e<;>cases e
  rename_i h;exact⟨⟨_,.str _ _⟩,h,aY _⟩
 |k+1,_,_,_,_,.tup (l:=l) h q,ru,e=>by
  cases ru;unfold PV.data at e;cases c:yS (PV.data s k) l with
  |none=>rw[c] at e;cases e
  |some ds =>
   rw[c] at e;cases e;obtain⟨its,rv,⟨o,g1,g2,n,g3⟩,_⟩:=I.tuple (h.elim (λz=>(.inl z.1:Zz X.K H _ _)) .inr);obtain⟨⟨as,r1⟩,r2,r3⟩:=X7.Ā (Rep.reads I S k) q rv c;exact⟨⟨_,.tuple g1 g2 g3 r1⟩,r2,by unfold iX;lia⟩
 |k+1,_,_,_,_,.lst (l:=l) h _ q,ru,e=>by
  cases ru;unfold PV.data at e;cases c:yS (PV.data s k) l with
  |none=>rw[c] at e;cases e
  |some ds =>
   rw[c] at e;cases e;obtain⟨its,rv,⟨o,n,g1,g2,_,g3⟩,_⟩:=I.list (YO.of h);obtain⟨⟨as,r1⟩,r2,r3⟩:=X7.Ā (Rep.reads I S k) q rv c;exact⟨⟨_,.list g1 g2 g3 r1⟩,r2,by unfold iX;lia⟩
 |k+1,_,_,_,_,.seq (l:=l) h q,ru,e=>by
  cases ru;unfold PV.data at e;cases c:yS (PV.data s k) l with
  |none=>rw[c] at e;cases e
  |some ds =>
   rw[c] at e;cases e;obtain⟨its,rv,⟨o,n,g1,g2,_,g3⟩,_⟩:=I.list (h.elim (λz=>(.inl (.inr z.1):YO X.K H _ _)) .inr);obtain⟨⟨as,r1⟩,r2,r3⟩:=X7.Ā (Rep.reads I S k) q rv c;exact⟨⟨_,.list g1 g2 g3 r1⟩,r2,by unfold iX;lia⟩
 |k+1,_,_,_,_,.Yl _ _ _,_,e=>by cases e
 |k+1,_,_,_,_,.exc _ _ _,_,e=>by cases e
 |k+1,_,_,_,_,.Ų _,_,e=>by cases e
 |k+1,_,_,_,_,.ref _,ru,e=>by
  cases ru;unfold PV.data at e;split at e<;>first|cases e|skip
  rename_i l hg;cases c:yS (PV.data s k) l with
  |none=>rw[c] at e;cases e
  |some ds =>
   rw[c] at e;cases e;obtain⟨_,vs,h1,q⟩:=S.get hg;obtain⟨its,rv,⟨o,n,g1,g2,_,g3⟩,_⟩:=I.list (YO.of h1);obtain⟨⟨as,r1⟩,r2,r3⟩:=X7.Ā (Rep.reads I S k) q rv c;exact⟨⟨_,.list g1 g2 g3 r1⟩,r2,by unfold iX;lia⟩
def Bt(k:Nat)(n:Int):Prop:=n.natAbs<2^k
def Bt.mono(h:Bt k n)(hl:k<=l):Bt l n:=az h (b8 (Zf rfl) hl)
def Bt.mul(h:Bt k n)(g:Bt l m):Bt (k+l) (n*m):=by
 unfold Bt at *;rw[iN,lN];by_cases z:m.natAbs=0
 .rw[z,Nat.mul_zero];exact lO (cy k) (cy l)
 .exact az (Nat.mul_lt_mul_of_pos_right h (Nat.pos_of_ne_zero z)) (lZ _ (fC g))
def Bt.add(h:Bt k n)(g:Bt k m):Bt (k+1) (n+m):=by unfold Bt at *;have:=Int.natAbs_add_le n m;lia
def Bt.neg(h:Bt k n):Bt k (-n):=by unfold Bt at *;rw[iM];exact h
def Bt.div(h:Bt k n):Bt k (n/d):=aX (Int.natAbs_ediv_le_natAbs n d) h
def Bt.dvd(h:Bt k n)(hn:n≠0)(hd:d∣n):Bt k d:=aX (Nat.le_of_dvd (by lia) (fK.mpr hd)) h
def Bt.log(h:Bt 9000 n)(h0:0<n):n.natAbs.log2<9000:=(Nat.log2_lt (by lia)).mpr h
def Fj(h:Bt 20000 i):cA i<=2^20:=by
 unfold cA;split
 .exact aY _
 .rename_i z;have:=(Nat.log2_lt (by grind)).mpr h;lia
def Ç:Zq X (dE .Mult) (rI (λi j=>Bt 20000 i/\Bt 20000 j) λi j=>.int (i*j)):=opI λ_ _ _ _ _ _ _ hc q=>mul_int q (.of_bits (Fj hc.1) (Fj hc.2))
def Mc(K:aa):R2:=λx y H Q=>∃l b xs zs,x=.ref l/\y=.ref b/\YO K H l xs/\YO K H b zs/\xs.length+zs.length<=aG/\∀p,H p=Zb->Q (.ref p) (upd H p (.lst (xs++zs)))
def No:Zq X (dE .Add) (Mc X.K):=by
 rintro Q9 s O H x y v u Q I rx ry ⟨l,b,xs,zs,rfl,rfl,hH,hB,hz,q⟩
 cases rx;cases ry;obtain⟨its,r,ht,_⟩:=I.list hH;obtain⟨Sf,r2,Vj,_⟩:=I.list hB;have l1:=r.length;have l2:=r2.length;obtain⟨⟨cls,dd,data,sl⟩,n,ho,hc,_,hd⟩:=ht;obtain⟨⟨cls2,dd2,data2,U6⟩,n2,TB,TF,_,VD⟩:=Vj;subst hc hd TF VD;refine concat_meets ⟨_,ho,rfl⟩ ⟨_,TB,rfl⟩ noFill_list_add seq_list_add PySem.F.slot_list_add PySem.F.entry_list_add (PySem.F.args_list_add_2 _ _) (list_addW l b its.toArray Sf.toArray n n2 dd dd2 sl U6 (by grind)) ⟨ho,TB,?_⟩;have ea:its.toArray++Sf.toArray=(its++Sf).toArray:=by simp
 rw[ea];exact⟨.ref _,_,I.Àw (r.append r2) (by grind),rfl,q _ I.fresh⟩
def Ps:V->List V->Hp->VK->Prop:=λx vs H Q=>∃(l:ag)(ss:List Str)(y:Str)(j:Nat),x=.ref l/\vs=[.str y]/\H l=Za (.lst (ss.map V.str))/\ss[j]?=Za y/\(∀m,m<j->ss[m]?≠Za y)/\ss.length<1000/\Q (.int (j:Nat)) H
def Kc:MtM X "list.index" Ps:=by
 rintro Q9 s O H x vs v us Q I rx rv ⟨l,ss,y,j,rfl,rfl,hH,hj,SW,Re,q⟩
 cases rx;obtain⟨u,rfl,ru⟩:=rv.one;obtain⟨t,rfl⟩:=ru;obtain⟨z,its,n,r,hl,e⟩:=I.Àv hH;rw[ac] at hl;have W3:∀m (hm:m<its.toArray.size),∃z tz,its.toArray[m]=.str z tz/\ss[m]?=Za z:=λm hm=>by
  have TV:m<ss.length:=by rw[hl];simpa using hm
  obtain⟨u,hu,ru⟩:=r.get (i:=m) (x:=.str ss[m]) (by simp[TV]);obtain⟨tz,rfl⟩:=ru;refine⟨ss[m],tz,?_,by simp[TV]⟩;have:its[m]?=Za its.toArray[m]:=by simp[show m<its.length by simpa using hm]
  grind
 have jl:j<its.toArray.size:=by
  have:=(aR.mp hj).1
  grind
 refine jo jU ⟨_,e,rfl⟩ PySem.F.entry_list_index (PySem.F.args_list_index_2 _ _)
  (SeqAt.list_indexAt l its.toArray n _ _ (.str y t) (λv=>match v with|.str z _=>decide (z=y)|_=>false) j jl (by grind) ?_ ?_) ⟨e,λw hw=>?_,⟨.int j,H,I.tok _,⟨_,rfl⟩,q⟩⟩
 .obtain⟨z',tz,e1,e2⟩:=W3 j jl;rw[e1]
  grind
 .intro m hm Rr;obtain⟨z',tz,e1,e2⟩:=W3 m hm;rw[e1];exact Zh λw=>SW m Rr (by rw[e2,w])
 .obtain⟨m,hm,rfl⟩:=Array.getElem_of_mem hw;obtain⟨z',tz,e1,e2⟩:=W3 m hm;rw[e1];exact GH (show RelV (.str z') (.str z' tz) from⟨tz,rfl⟩) (show RelV (.str y) (.str y t) from⟨t,rfl⟩) rfl rfl
def QW:R2:=λx y H Q=>∃a v,x=.ref a/\Y3 H a y (Za v)/\Q v H
def NI(hu:X.A.units+1<fj):Ϯ X QW:=by
 intro Ri Rv Q9 s O H x y v u Q I rx ry h hs;obtain⟨a,z,rfl,g,q⟩:=h;obtain rfl:v=aU a:=rx;have hT:=yo I g;apply af;refine af (wpAny_specialOf hT jB.lookup ?_);have Ry:aO (model X.prog X.w) X.A (subscripted Rv false (.ref a) u) (λr Rg=>aO (model X.prog X.w) X.A (letTemporaryGo Ri (.ref a) r >>= λ_=>pure r) (EP X Q9 O Q) X.xe Rg) X.xe s:=by rw[hs];exact wpAny_operating (a6 (Cw hu I g ry λw' s3 I3 RP=>(⟨z,H,I3,RP,q⟩:EP X Q9 O Q w' s3)) (λr Rg UV=>af (wpAny_letTemporaryGo (aE UV))) λ_ _ x=>x)
 first
  |exact aE (af Ry)
  |exact af (aE (af Ry))
  |exact af Ry
def Âq:R2:=λy x H Q=>∃a o,x=.ref a/\Y3 H a y o/\Q (.bl o.isSome) H
def MX:R2:=λy x H Q=>∃a o,x=.ref a/\Y3 H a y o/\Q (.bl (!o.isSome)) H
def FM(hu:X.A.units+1<fj):Zq X (bO .In) Âq:=by
 rintro Q9 s O H y x v u Q I ry rx ⟨a,o,rfl,g,q⟩
 obtain rfl:u=aU a:=rx;exact ÁL hu I g ry λs3 I3=>⟨.bl o.isSome,H,I3,rfl,q⟩
def Be(hu:X.A.units+1<fj):Zq X (bO .NotIn) MX:=by
 rintro Q9 s O H y x v u Q I ry rx ⟨a,o,rfl,g,q⟩
 obtain rfl:u=aU a:=rx;exact Om hu I g ry λs3 I3=>⟨.bl (!o.isSome),H,I3,rfl,q⟩
def IZ:YM X (.builtin "len") (λxs H Q=>∃a Ra,xs=[V.ref a]/\Rd H a (.dK Ra)/\Q (.int Ra.length) H):=by
 rintro Q9 s O H xs us Q I r ⟨a,Ra,rfl,ha,q⟩
 obtain⟨u,rfl,rfl⟩:=re r;exact O1 I ha λt s' I'=>⟨.int Ra.length,H,I',⟨t,rfl⟩,q⟩
def QX(K:aa)(CB:ag)(neg:Bool):R2:=λx y H Q=>∃m s v w d e,SR K CB H m s/\Rep K H m s x v/\Rep K H m s y w/\PV.data s 12 v=Za d/\PV.data s 12 w=Za e/\Q (.bl (if neg then !cH d e else cH d e)) H
def P5{CB}(hu:X.A.units+12<fj):Zq X (bO .Eq) (QX X.K CB false):=by
 rintro Q9 s O H x y v u Q I rx ry ⟨m,t,p,q,d,e,S,r1,r2,e1,e2,k⟩
 obtain⟨⟨as,a1⟩,a2,a3⟩:=r1.reads I S 12 rx e1;obtain⟨⟨bs,b1⟩,b2,b3⟩:=r2.reads I S 12 ry e2;exact SeqAt.rcAt_reads a1 b1 a2 b2 (by lia) _ _ _ _ ⟨.bl _,H,I,rfl,k⟩
def PY{CB}(hu:X.A.units+12<fj):Zq X (bO .NotEq) (QX X.K CB true):=by
 rintro Q9 s O H x y v u Q I rx ry ⟨m,t,p,q,d,e,S,r1,r2,e1,e2,k⟩
 obtain⟨⟨as,a1⟩,a2,a3⟩:=r1.reads I S 12 rx e1;obtain⟨⟨bs,b1⟩,b2,b3⟩:=r2.reads I S 12 ry e2;exact SeqAt.rcNeAt_reads a1 b1 a2 b2 (by lia) _ _ _ _ ⟨.bl _,H,I,rfl,k⟩
end
def qE(i j:Int):Prop:=(Bt 20000 i/\Bt 20000 j)\/ž i j
def zZ(j:Int):Prop:=0<j/\Bt 9000 j
noncomputable instance (i j:Int):Decidable (qE i j):=dy _
noncomputable instance (j:Int):Decidable (zZ j):=dy _
def YG(v w:PV)(s:N'):Out PV:=match v,w with
 |.int i,.int j=>.ok (.int (i+j)) s
 |.str x,.str y=>if x.length+y.length<=100000 then .ok (.str (x++y)) s else .bad
 |v,w=>match YB s v,YB s w with
  |some l,Za k=>if l.length+k.length<=100000 then .ok (.lst (l++k)) s else .bad
  |_,_=>.bad
noncomputable def Ó(v w:PV)(s:N'):Out PV:=match v,w with
 |.int i,.int j=>.ok (.int (i-j)) s
 |_,_=>.bad
def Yr(v w:PV)(s:N'):Out PV:=match v,w with
 |.int i,.int j=>if qE i j then .ok (.int (i*j)) s else .bad
 |.lst l,.int k=>if -(2^63)<=k/\k<2^63/\l.length*k.toNat<=100000 then .ok (.lst (aQ k.toNat l).flatten) s else .bad
 |_,_=>.bad
def Å(v w:PV)(s:N'):Out PV:=match v,w with
 |.int i,.int j=>if zZ j then .ok (.int (i/j)) s else .bad
 |_,_=>.bad
noncomputable def ZZ(v w:PV)(s:N'):Out PV:=match v,w with
 |.int i,.int j=>if 0<j then .ok (.int (i%j)) s else .bad
 |_,_=>.bad
noncomputable def á(v w:PV)(s:N'):Out PV:=match v,w with
 |.int i,.int j=>if 0<=j/\j<=1000000/\i.natAbs<2^64 then .ok (.int (i^j.toNat)) s else .bad
 |_,_=>.bad
noncomputable def Ŝ(p:Int->Int->Bool)(v w:PV)(s:N'):Out PV:=match v,w with
 |.int i,.int j=>.ok (.bl (p i j)) s
 |_,_=>.bad
abbrev fLt:=Ŝ λi j=>decide (i<j)
abbrev fGt:=Ŝ λi j=>decide (j<i)
abbrev fGe:=Ŝ λi j=>decide (j<=i)
def ZP(neg:Bool)(v w:PV)(s:N'):Out PV:=match PV.data s 12 v,PV.data s 12 w with
 |some d,Za e=>.ok (.bl (if neg then !cH d e else cH d e)) s
 |_,_=>.bad
abbrev Ô:=ZP false
abbrev œ:=ZP true
noncomputable def PV.ϗ:PV->Bool
 |.Yh=>true
 |_=>false
def fIs(v w:PV)(s:N'):Out PV:=match w with
 |.Yh=>.ok (.bl v.ϗ) s
 |_=>.bad
def Ċ(v w:PV)(s:N'):Out PV:=match w with
 |.Yh=>.ok (.bl (!v.ϗ)) s
 |_=>.bad
def GQ(neg b:Bool):Bool:=if neg then !b else b
def rm(neg:Bool)(v w:PV)(s:N'):Out PV:=match Zv s w with
 |some l=>match ZY v with
  |some k=>.ok (.bl (GQ neg (qM l k).isSome)) s
  |none=>.bad
 |none=>match toV v with
  |none=>.bad
  |some x=>match w with
   |.tup l=>match toVs l with
    |some zs=>.ok (.bl (GQ neg (inV x zs))) s
    |none=>.bad
   |w=>match YB s w with
    |some l=>match toVs l with
     |some zs=>.ok (.bl (GQ neg (inV x zs))) s
     |none=>.bad
    |none=>.bad
abbrev fIn:=rm false
abbrev yO:=rm true
def Yb(v w:PV)(s:N'):Out PV:=match v with
 |.tup l=>match w with
  |.int i=>match Z9 l i with
   |some p=>.ok p s
   |none=>.bad
  |_=>.bad
 |.str x=>match w with
  |.int i=>match Z9 x.cps.toList i with
   |some c=>if x.length<=100000 then .ok (.str ⟨#[c]⟩) s else .bad
   |none=>.bad
  |_=>.bad
 |v=>match YB s v with
  |some l=>match w with
   |.int i=>match Z9 l i with
    |some p=>.ok p s
    |none=>.bad
   |_=>.bad
  |none=>match Zv s v with
   |some l=>match ZY w with
    |some k=>match qM l k with
     |some p=>.ok p s
     |none=>.bad
    |none=>.bad
   |none=>.bad
def ň(v:PV)(s:N'):Out PV:=match v with
 |.int i=>.ok (.int (-i)) s
 |_=>.bad
section
variable{X:Cx}{CB:ag}{E:XK}
def Áh:Ł X.K CB E (λx y H Q=>ϊ (λi j=>V.int (i+j)) x y H Q\/(∃i j,x=V.str i/\y=V.str j/\i.length+j.length<=aG/\Q (V.str (i++j)) H)\/Mc X.K x y H Q) YG:=by
 intro H m s v w x y Q S rx ry P;unfold YG at P;split at P
 .cases rx;cases ry;exact .inl ⟨_,_,rfl,rfl,P.here S .int⟩
 .cases rx;cases ry;split at P
  .rename_i h;exact .inr (.inl ⟨_,_,rfl,rfl,ϩ h,P.here S .str⟩)
  .exact P.elim
 .split at P
  .rename_i l k h1 h2;split at P
   .rename_i h;obtain⟨a,vs,rfl,q1,r1⟩:=rx.ls S h1;obtain⟨b,ws,rfl,q2,r2⟩:=ry.ls S h2;exact .inr (.inr ⟨a,b,vs,ws,rfl,rfl,q1,q2,by rw[r1.length,r2.length];exact ϩ h,λp hp=>P.new S hp λex S'=>.lst mw (S.YC hp) ((r1.append r2).ext ex)⟩)
   .exact P.elim
  .exact P.elim
def Np:Zq X (dE .Add) (λx y H Q=>ϊ (λi j=>V.int (i+j)) x y H Q\/(∃i j,x=V.str i/\y=V.str j/\i.length+j.length<=aG/\Q (V.str (i++j)) H)\/Mc X.K x y H Q):=ϕ.or (Ś.or No)
def Áa:Ł X.K CB E (ϊ λi j=>V.int (i-j)) Ó:=by
 intro H m s v w x y Q S rx ry P;unfold Ó at P;split at P
 .cases rx;cases ry;exact⟨_,_,rfl,rfl,P.here S .int⟩
 .exact P.elim
theorem X7.rep{K}{H}{m}{s}{vs}{l}(r:X7 K H m s vs l):∀n,X7 K H m s (aQ n vs).flatten (aQ n l).flatten
 |0=>.nil
 |n+1=>by rw[eK,eK,gH,gH];exact r.append (r.rep n)
def Ád:Ł X.K CB E (λx y H Q=>(rI (λi j=>Bt 20000 i/\Bt 20000 j) (λi j=>V.int (i*j)) x y H Q\/rI ž (λi j=>V.int (i*j)) x y H Q)\/QS x y H Q) Yr:=by
 intro H m s v w x y Q S rx ry P;unfold Yr at P;split at P
 .cases rx;cases ry;split at P
  .rename_i h;obtain h|h:=h
   .exact .inl (.inl ⟨_,_,rfl,rfl,h,P.here S .int⟩)
   .exact .inl (.inr ⟨_,_,rfl,rfl,h,P.here S .int⟩)
  .exact P.elim
 .split at P
  .rename_i h;cases rx with
   |lst h1 _ r1 =>
    cases ry;exact .inr ⟨_,_,_,rfl,rfl,h1,h.1,h.2.1,by rw[r1.length];exact ϩ h.2.2,λp hp=>P.new S hp λex S'=>.lst mw (S.YC hp) ((r1.rep _).ext ex)⟩
  .exact P.elim
 .exact P.elim
def Nn:Zq X (dE .Mult) (λx y H Q=>(rI (λi j=>Bt 20000 i/\Bt 20000 j) (λi j=>V.int (i*j)) x y H Q\/rI ž (λi j=>V.int (i*j)) x y H Q)\/QS x y H Q):=(Ç.or PZ).or PU
def Ág:Ł X.K CB E (rI (λ_ j=>0<j/\j.natAbs.log2<9000) λi j=>V.int (i/j)) Å:=by
 intro H m s v w x y Q S rx ry P;unfold Å at P;split at P
 .cases rx;cases ry;split at P
  .rename_i h;exact⟨_,_,rfl,rfl,⟨h.1,h.2.log h.1⟩,P.here S .int⟩
  .exact P.elim
 .exact P.elim
def Áe:Ł X.K CB E (rI (λ_ j=>0<j) λi j=>V.int (i%j)) ZZ:=by
 intro H m s v w x y Q S rx ry P;unfold ZZ at P;split at P
 .cases rx;cases ry;split at P
  .rename_i h;exact⟨_,_,rfl,rfl,h,P.here S .int⟩
  .exact P.elim
 .exact P.elim
def Áb:Ł X.K CB E (rI ÁZ λi j=>V.int (i^j.toNat)) á:=by
 intro H m s v w x y Q S rx ry P;unfold á at P;split at P
 .cases rx;cases ry;split at P
  .rename_i h;exact⟨_,_,rfl,rfl,h,P.here S .int⟩
  .exact P.elim
 .exact P.elim
def Mi:Ł X.K CB E (ϊ λi j=>V.bl (p i j)) (Ŝ p):=by
 intro H m s v w x y Q S rx ry P;unfold Ŝ at P;split at P
 .cases rx;cases ry;exact⟨_,_,rfl,rfl,P.here S .bl⟩
 .exact P.elim
def OS:Ł X.K CB E (QX X.K CB neg) (ZP neg):=by
 intro H m s v w x y Q S rx ry P;unfold ZP at P;split at P
 .rename_i d e h1 h2;exact⟨m,s,v,w,d,e,S,rx,ry,h1,h2,P.here S .bl⟩
 .exact P.elim
def IK{K}{H}{m}{s}{x}{v}(r:Rep K H m s x v):decide (x=V.Yh)=v.ϗ:=by cases r<;>first|rfl|exact Zh (by grind)
def Qc:Ł X.K CB E (λx y H Q=>y=V.Yh/\Q (V.bl (!decide (x=V.Yh))) H) Ċ:=by
 intro H m s v w x y Q S rx ry P;unfold Ċ at P;split at P
 .cases ry;refine⟨rfl,?_⟩;rw[IK rx];exact P.here S .bl
 .exact P.elim
def QY(neg:Bool):R2:=λy x H Q=>∃a o,x=.ref a/\Y3 H a y o/\Q (.bl (GQ neg o.isSome)) H
def Áf:Ł X.K CB E (λx y H Q=>QY neg x y H Q\/rIn X.K neg x y H Q) (rm neg):=by
 intro H m s v w x y Q S rx ry P;unfold rm at P;split at P
 .rename_i l hl;split at P
  .rename_i k hk;obtain⟨a,vs,rfl,q,r⟩:=ry.dc S hl;refine .inl ⟨a,pE vs k,rfl,.inl ⟨vs,k,q,qK rx hk,rfl⟩,?_⟩;obtain⟨r1,r2⟩:=r.val k;cases c:qM l k with
   |none=>rw[r2 c];rw[c] at P;exact P.here S .bl
   |some p=>obtain⟨u,e,_⟩:=r1 p c;rw[e];rw[c] at P;exact P.here S .bl
  .exact P.elim
 .split at P
  .exact P.elim
  .rename_i z hz;have ez:=rx.toV hz;subst ez;split at P
   .split at P
    .rename_i l zs Vf;obtain⟨a,vs,rfl,q,r⟩:=ry.tp;have e:=r.toVs Vf;subst e;exact .inr ⟨a,vs,rfl,.inr q,Am hz,xF Vf,P.here S .bl⟩
    .exact P.elim
   .split at P
    .rename_i l hl;split at P
     .rename_i zs Vf;obtain⟨a,vs,rfl,q,r⟩:=ry.ls S hl;have e:=r.toVs Vf;subst e;exact .inr ⟨a,vs,rfl,.inl q,Am hz,xF Vf,P.here S .bl⟩
     .exact P.elim
    .exact P.elim
def P0(hu:X.A.units+1<fj):Zq X (bO .In) (λx y H Q=>QY false x y H Q\/rIn X.K false x y H Q):=(FM hu).or Iq
def Ip(hu:X.A.units+1<fj):Zq X (bO .NotIn) (λx y H Q=>QY true x y H Q\/rIn X.K true x y H Q):=(Be hu).or C0
def Âu:Ł X.K CB E (λx y H Q=>(QT X.K x y H Q\/QU x y H Q)\/(QV X.K x y H Q\/QW x y H Q)) Yb:=by
 intro H m s v w x y Q S rx ry P;unfold Yb at P;split at P
 .split at P
  .split at P
   .rename_i p hp;cases ry;obtain⟨a,vs,rfl,q,r⟩:=rx.tp;obtain⟨u,e,ru⟩:=r.Z9 hp;exact .inl (.inl ⟨a,vs,_,u,rfl,rfl,q,e,P.here S ru⟩)
   .exact P.elim
  .exact P.elim
 .split at P
  .split at P
   .rename_i c hc;split at P
    .rename_i hl;cases rx;cases ry;exact .inl (.inr ⟨_,_,c,rfl,rfl,ϩ hl,hc,P.here S .str⟩)
    .exact P.elim
   .exact P.elim
  .exact P.elim
 .split at P
  .rename_i l hl;split at P
   .split at P
    .rename_i p hp;cases ry;obtain⟨a,vs,rfl,q,r⟩:=rx.ls S hl;obtain⟨u,e,ru⟩:=r.Z9 hp;exact .inr (.inl ⟨a,vs,_,u,rfl,rfl,q,e,P.here S ru⟩)
    .exact P.elim
   .exact P.elim
  .split at P
   .rename_i l hl;split at P
    .rename_i k hk;split at P
     .rename_i p hp;obtain⟨a,vs,rfl,q,r⟩:=rx.dc S hl;obtain⟨u,e,ru⟩:=(r.val k).1 p hp;exact .inr (.inr ⟨a,u,rfl,.inl ⟨vs,k,q,qK ry hk,e.symm⟩,P.here S ru⟩)
     .exact P.elim
    .exact P.elim
   .exact P.elim
def ÂF(hu:X.A.units+1<fj):Ϯ X (λx y H Q=>(QT X.K x y H Q\/QU x y H Q)\/(QV X.K x y H Q\/QW x y H Q)):=(YU.or Bs).or (ϻ.or (NI hu))
def Ác:Op1 X.K CB E (rU λi=>V.int (-i)) ň:=by
 intro H m s v x Q S rx P;unfold ň at P;split at P
 .cases rx;exact⟨_,rfl,P.here S .int⟩
 .exact P.elim
variable{a b c e:a7}{es:List a7}{f g h:XE}{fa:XA}{p pos Rc Rb:Pos}{x:Str}
def oA(ha:DE X CB E a f)(hb:DE X CB E b g):DE X CB E (.BinOp a .Add b pos) (x2 f g YG):=z3 Np Áh ha hb
def yQ(ha:DE X CB E a f)(hb:DE X CB E b g):DE X CB E (.BinOp a .Sub b pos) (x2 f g Ó):=z3 PQ Áa ha hb
def nL(ha:DE X CB E a f)(hb:DE X CB E b g):DE X CB E (.BinOp a .Mult b pos) (x2 f g Yr):=z3 Nn Ád ha hb
def uk(ha:DE X CB E a f)(hb:DE X CB E b g):DE X CB E (.BinOp a .FloorDiv b pos) (x2 f g Å):=z3 sU Ág ha hb
def wC(ha:DE X CB E a f)(hb:DE X CB E b g):DE X CB E (.BinOp a .Mod b pos) (x2 f g ZZ):=z3 Lq Áe ha hb
def BE(ha:DE X CB E a f)(hb:DE X CB E b g):DE X CB E (.BinOp a .Pow b pos) (x2 f g á):=z3 PX Áb ha hb
def QK(ha:DE X CB E a f):DE X CB E (.UnaryOp .USub a pos) (x1 f ň):=ÁJ K7 Ác ha
def Áy(hr:Yp k A):A.units+12<fj:=aX (l7 (by grind) _) hr.units
def mR(ha:DE X CB E a f)(hb:DE X CB E b g)(hr:Yp jr X.A:=by assumption)(hs:HN b:=by exact λ_ _=>rfl):DE X CB E (.Subscript a b pos) (x2 f g Yb):=⟨(sI (ÂF (oS hr)) ha.pe hb.pe hs).mono λO H Q q=>two Âu q⟩
structure Ğ(X:Cx)(CB:ag)(E:XK)(op:CmpOp)(F:PV->PV->N'->Out PV):Prop where
 ex:∃r,Zq X (bO op) r/\Ł X.K CB E r F
def ÂP:Ğ X CB E .Lt fLt:=⟨_,ON,Mi⟩
def O3:Ğ X CB E .Gt fGt:=⟨_,OP,Mi⟩
def ÁQ:Ğ X CB E .GtE fGe:=⟨_,Mg,Mi⟩
def CH(hr:Yp jr X.A:=by assumption):Ğ X CB E .Eq Ô:=⟨_,P5 (Áy hr),OS⟩
def Js(hr:Yp jr X.A:=by assumption):Ğ X CB E .NotEq œ:=⟨_,PY (Áy hr),OS⟩
def LU:Ğ X CB E .IsNot Ċ:=⟨_,Nj,Qc⟩
def ÁP(hr:Yp jr X.A:=by assumption):Ğ X CB E .In fIn:=⟨_,P0 (oS hr),Áf⟩
def Os(hr:Yp jr X.A:=by assumption):Ğ X CB E .NotIn yO:=⟨_,Ip (oS hr),Áf⟩
def BR(r:Ğ X CB E op F)(ha:DE X CB E a f)(hb:DE X CB E b g)(hm:cP op b=false:=by first|exact vF _|with_unfolding_all rfl):DE X CB E (.Compare a [op] [b] pos) (x2 f g F):=let⟨_,r1,r2⟩:=r.ex;L2.Àz r1 r2 ha hb hm
def pf(r:Ğ X CB E op F)(ha:DE X CB E a f)(hb:DE X CB E b g)(hm:cP op b=false:=by first|exact vF _|with_unfolding_all rfl):DT X CB E (.Compare a [op] [b] pos) (YJ (x2 f g F)):=let⟨_,r1,r2⟩:=r.ex;L2.Àx r1 r2 ha hb hm
abbrev XO':=En->N'->Out (Option Int)
def TDO(K:aa)(CB:ag)(E:XK)(f:XO'):TO:=λO H Q=>∃Z s m,ER K H m s O Z/\SR K CB H m s/\Yo K CB (λ_ _ _ u v=>u=v) E (f Z s) H m s Q
structure DO(X:Cx)(CB:ag)(E:XK)(e:Option a7)(f:XO'):Prop where
 po:PO X e (TDO X.K CB E f)
def Ę(_:En)(s:N'):Out (Option Int):=.ok Zb s
def Ì(f:XE)(Z:En)(s:N'):Out (Option Int):=(f Z s).bind λv s1=>match v with
 |.int i=>.ok (Za i) s1
 |_=>.bad
def PO.mono{e}{t t':TO}(h:PO X e t)(k:∀O H Q,t' O H Q->t O H Q):PO X e t':=λQ9 s O H Q I q=>h Q9 s O H Q I (k O H Q q)
def zW:DO X CB E Zb Ę:=⟨Ϸ.mono λO H Q=>oE λZ s m er S P=>P.here S rfl⟩
def zV(h:DE X CB E e f):DO X CB E (Za e) (Ì f):=⟨(M5 h.pe).mono λO H Q=>oE λZ s m er S P=>⟨Z,s,m,er,S,P.bind λv s1 u H1 m1 e1 S1 r1 P1=>by cases r1<;>first|exact P1.elim|exact⟨_,rfl,P1.here S1 rfl⟩⟩⟩
def DC(l:List PV)(lo hi:Option Int):List PV:=(l.drop (HT.YY l.length 0 lo)).take (HT.YY l.length l.length hi-HT.YY l.length 0 lo)
def fSl(v:PV)(lo hi:Option Int)(s:N'):Out PV:=match v with
 |.tup l=>if HT.YY l.length 0 lo=0/\HT.YY l.length l.length hi=l.length then .bad else .ok (.tup (DC l lo hi)) s
 |v=>match YB s v with
  |some l=>.ok (.lst (DC l lo hi)) s
  |none=>.bad
def Ϧ(f:XE)(lo hi:XO')(Z:En)(s:N'):Out PV:=(f Z s).bind λv s1=>(lo Z s1).bind λl s2=>(hi Z s2).bind λu s3=>fSl v l u s3
def X7.cut{K}{H}{m}{s}{vs}{l}(r:X7 K H m s vs l)(lo hi):X7 K H m s (LR vs lo hi) (DC l lo hi):=by unfold LR DC;rw[r.length];exact(r.drop _).take _
def Jm{lo hi}{fl fh:XO'}{p2}(ha:DE X CB E a f)(hl:DO X CB E lo fl)(hh:DO X CB E hi fh):DE X CB E (.Subscript a (.Slice lo hi Zb p2) pos) (Ϧ f fl fh) :=
 ⟨(JX (ϴ.or Pk) ha.pe hl.po hh.po).mono λO H Q=>oE λZ s m er S P=>⟨Z,s,m,er,S,P.bind λv s1 u H1 m1 e1 S1 r1 P1=>⟨Z,s1,m1,er.ext e1,S1,P1.bind λl s2 l' H2 m2 e2 S2 r2 P2=>by
  cases r2;refine⟨Z,s2,m2,(er.ext e1).ext e2,S2,P2.bind λk s3 k' H3 m3 e3 S3 r3 P3=>?_⟩;cases r3;have r1:=(r1.ext e2).ext e3;unfold fSl at P3;split at P3
  .split at P3
   .exact P3.elim
   .rename_i hn;obtain⟨a,vs,rfl,q,r⟩:=r1.tp;exact .inr ⟨a,vs,rfl,q,by rw[r.length];exact hn,λp hp=>P3.new S3 hp λex S'=>.tup (.inl ⟨.inl mw,S'.YZ mw⟩) ((r.cut _ _).ext ex)⟩
  .split at P3
   .rename_i l hl;obtain⟨a,vs,rfl,q,r⟩:=r1.ls S3 hl;exact .inl ⟨a,vs,rfl,q,λp hp=>P3.new S3 hp λex S'=>.lst mw (S3.YC hp) ((r.cut _ _).ext ex)⟩
   .exact P3.elim⟩⟩⟩
def xB(fa:XA)(F:List PV->N'->Out PV)(Z:En)(s:N'):Out PV:=(fa Z s).bind F
def nOf(o:OpN X.K CB E r F)(q:ō X.K CB E (xB fa F) O H Q):tCB r (TDA X.K CB E fa) O H Q:=by obtain⟨Z,s,m,er,S,P⟩:=q;exact⟨Z,s,m,er,S,P.bind λv s1 u H1 m1 e1 S1 r1 P1=>o H1 m1 s1 v u Q S1 r1 P1⟩
structure Đ(X:Cx)(CB:ag)(E:XK)(fv:ae)(F:List PV->N'->Out PV):Prop where
 ex:∃r,YM X fv r/\OpN X.K CB E r F
def nG{id:String}{F}(r:Đ X CB E (.builtin id) F)(ha:DA X CB E (e::es) fa)(hg:Gl X x:=by rfl)(hm:X.mg x=none:=by first|exact T.Zy|exact T.Ŵ|exact T.YS|exact T.ø|exact T.ŉ|exact T.ċ|exact T.ð|exact T.Ŋ|exact T.Àj|exact T.Ài|exact T.š|exact T.ÀA)(hv:bu x=Za (.builtin id):=by first|exact Ec|exact vv|exact QQ|exact LY|exact bt_any|exact bt_max)(hn:x≠"__name__":=by decide)(RM:Î x:=by decide)(hs:Č X e es:=by rfl)(Rq:(bM pos (ar es X.env)).any (·.1)=false:=by rfl):DE X CB E (.Call (.Name x p) (e::es) [] pos) (xB fa F) :=
 let⟨_,r1,r2⟩:=r.ex;⟨(pF r1 hg hm hv ha.pa hn RM hs Rq).mono λO H Q q=>nOf r2 q⟩
def sO(r:Đ X CB E (.type T) F)(ha:DA X CB E (e::es) fa)(hg:Gl X x:=by rfl)(hm:X.mg x=none:=by first|exact T.Zy|exact T.Ŵ|exact T.YS|exact T.ø|exact T.ŉ|exact T.ċ|exact T.ð|exact T.Ŋ|exact T.Àj|exact T.Ài|exact T.š|exact T.ÀA)(hv:bu x=Za (.type T):=by first|exact LW|exact Fi|exact LX|exact Ae|exact ã)(hn:x≠"__name__":=by decide)(RM:Î x:=by decide)(hs:Č X e es:=by rfl)(Rq:(bM pos (ar es X.env)).any (·.1)=false:=by rfl):DE X CB E (.Call (.Name x p) (e::es) [] pos) (xB fa F) :=
 let⟨_,r1,r2⟩:=r.ex;⟨(xO r1 hg hm hv ha.pa hn RM hs Rq).mono λO H Q q=>nOf r2 q⟩
def ZH(vs:List PV)(s:N'):Out PV:=match vs with
 |[.tup l]=>.ok (.int l.length) s
 |[.str x]=>if x.length<=100000 then .ok (.int x.length) s else .bad
 |[v]=>match YB s v with
  |some l=>.ok (.int l.length) s
  |none=>match Zv s v with
   |some l=>.ok (.int l.length) s
   |none=>.bad
 |_=>.bad
def Zy:Đ X CB E (.builtin "len") ZH:=⟨_,ķ.or (â.or IZ),by
 intro H m s v x Q S rx P;unfold ZH at P;split at P
 .cases rx with
  |cons r n =>
   cases n;obtain⟨a,vs,rfl,q,r⟩:=r.tp;rw[<-r.length] at P;exact .inl ⟨a,vs,rfl,.inr q,P.here S .int⟩
 .cases rx with
  |cons r n =>
   cases n;cases r;split at P
   .rename_i h;exact .inr (.inl ⟨_,rfl,ϩ h,P.here S .int⟩)
   .exact P.elim
 .cases rx with
  |cons r n =>
   cases n;split at P
   .rename_i l hl;obtain⟨a,vs,rfl,q,r⟩:=r.ls S hl;rw[<-r.length] at P;exact .inl ⟨a,vs,rfl,.inl q,P.here S .int⟩
   .split at P
    .rename_i l hl;obtain⟨a,vs,rfl,q,r⟩:=r.dc S hl;rw[<-r.length] at P;exact .inr (.inr ⟨a,vs,rfl,q,P.here S .int⟩)
    .exact P.elim
 .exact P.elim⟩
noncomputable def ĝ(vs:List PV)(s:N'):Out PV:=match vs with
 |[.int i]=>.ok (.int (if i<0 then -i else i)) s
 |_=>.bad
def ð:Đ X CB E (.builtin "abs") ĝ:=⟨_,KY,by
 intro H m s v x Q S rx P;unfold ĝ at P;split at P
 .cases rx with
  |cons r n=>cases n;cases r;exact⟨_,rfl,P.here S .int⟩
 .exact P.elim⟩
noncomputable def Ĵ(vs:List PV)(s:N'):Out PV:=match vs with
 |[.int i]=>.ok (.int i) s
 |[.bl b]=>.ok (.int (if b=true then 1 else 0)) s
 |_=>.bad
def ŉ:Đ X CB E (.type "int") Ĵ:=⟨_,Ja,by
 intro H m s v x Q S rx P;unfold Ĵ at P;split at P
 .cases rx with
  |cons r n=>cases n;cases r;exact .inl ⟨_,rfl,P.here S .int⟩
 .cases rx with
  |cons r n=>cases n;cases r;exact .inr ⟨_,rfl,P.here S .int⟩
 .exact P.elim⟩
def ĳ(vs:List PV)(s:N'):Out PV:=match vs with
 |[v]=>match YB s v with
  |some l=>.ok (.tup l) s
  |none=>.bad
 |_=>.bad
def ø:Đ X CB E (.type "tuple") ĳ:=⟨_,BF,by
 intro H m s v x Q S rx P;unfold ĳ at P;split at P
 .cases rx with
  |cons r n =>
   cases n;split at P
   .rename_i l hl;obtain⟨a,vs,rfl,q,r⟩:=r.ls S hl;exact⟨a,vs,rfl,.inl ⟨q,λp hp=>P.new S hp λex S'=>.tup (.inl ⟨.inl mw,S'.YZ mw⟩) (r.ext ex)⟩⟩
   .exact P.elim
 .exact P.elim⟩
def Ϙ(vs:List PV)(s:N'):Out PV:=match vs with
 |[.tup l]=>.ok (.lst l) s
 |[v]=>match YB s v with
  |some l=>.ok (.lst l) s
  |none=>.bad
 |_=>.bad
noncomputable def uc:List PV->Option (List Str)
 |[]=>Za []
 |.str x::l=>(uc l).map (x::·)
 |_=>Zb
theorem vo:∀{l:List PV}{ss:List Str},uc l=Za ss->l=ss.map PV.str
 |[],_,e=>by cases e;rfl
 |p::l,ss,e=>by
  unfold uc at e;split at e
  .rename_i h;cases h
  .rename_i x l' h;cases h;cases c:uc l with
   |none=>rw[c] at e;cases e
   |some t=>rw[c] at e;cases e;rw[vo c];rfl
  .cases e
def vR(ss):uc (ss.map PV.str)=Za ss:=by
 induction ss with
 |nil=>rfl
 |cons x r ih=>rw[am];unfold uc;rw[ih];rfl
noncomputable def keysOf:List (Key×PV)->Option (List Str)
 |[]=>Za []
 |(.inr x,_)::l=>(keysOf l).map (x::·)
 |_=>Zb
theorem Cn:∀{l:List (Key×PV)}{ss:List Str},keysOf l=Za ss->l.map (·.1)=ss.map ap
 |[],_,e=>by cases e;rfl
 |p::l,ss,e=>by
  unfold keysOf at e;split at e
  .rename_i h;cases h
  .rename_i x _ l' h;cases h;cases c:keysOf l with
   |none=>rw[c] at e;cases e
   |some t=>rw[c] at e;cases e;rw[am,Cn c];rfl
  .cases e
def mY(vs:List PV)(s:N'):Out PV:=match vs with
 |[v]=>match YB s v with
  |some l=>match uc l with
   |some ss=>if ss.length<64 then .ok (.lst ((Yu ss).map PV.str)) s else .bad
   |none=>.bad
  |none=>match Zv s v with
   |some l=>match keysOf l with
    |some ss=>if ss.length<64 then .ok (.lst ((Yu ss).map PV.str)) s else .bad
    |none=>.bad
   |none=>.bad
 |_=>.bad
def YS(hc:X.calm=true):Đ X CB E (.builtin "sorted") mY:=⟨_,Ķ.or (qN hc),by
 intro H m s v x Q S rx P;unfold mY at P;split at P
 .cases rx with
  |cons r n =>
   cases n;split at P
   .rename_i l hl;split at P
    .rename_i ss hs;split at P
     .rename_i T0;obtain⟨a,vs,rfl,q,r⟩:=r.ls S hl;have e:=vo hs;subst e;rw[r.strs] at q;exact .inl ⟨a,ss,rfl,q,T0,λp hp=>P.new S hp λex S'=>.lst mw (S.YC hp) (.ofStrs _)⟩
     .exact P.elim
    .exact P.elim
   .split at P
    .rename_i l hl;split at P
     .rename_i ss hs;split at P
      .rename_i T0;obtain⟨a,vs,rfl,q,r⟩:=r.dc S hl;exact .inr ⟨a,vs,ss,rfl,q,r.keys.trans (Cn hs),T0,λp hp=>P.new S hp λex S'=>.lst mw (S.YC hp) (.ofStrs _)⟩
      .exact P.elim
     .exact P.elim
    .exact P.elim
 .exact P.elim⟩
noncomputable def Ag:List PV->Option (List Bool)
 |[]=>Za []
 |.bl x::l=>(Ag l).map (x::·)
 |_=>Zb
theorem Af{K}{H}{m}{s}:∀{vs:List V}{l:List PV}{bs:List Bool},X7 K H m s vs l->Ag l=Za bs->vs=bs.map V.bl
 |_,_,_,.nil,e=>by cases e;rfl
 |_,_,_,.cons (l:=l) a b,e=>by
  unfold Ag at e;split at e
  .rename_i h;cases h
  .rename_i h;cases h;cases a;cases c:Ag l with
   |none=>rw[c] at e;cases e
   |some t=>rw[c] at e;cases e;rw[Af b c];rfl
  .cases e
def ϙ(vs:List PV)(s:N'):Out PV:=match vs with
 |[v]=>match YB s v with
  |some l=>match Ag l with
   |some bs=>.ok (.bl (bs.all id)) s
   |none=>.bad
  |none=>.bad
 |_=>.bad
def Ŋ(hc:X.calm=true):Đ X CB E (.builtin "all") ϙ:=⟨_,Fh,by
 intro H m s v x Q S rx P;unfold ϙ at P;split at P
 .cases rx with
  |cons r n =>
   cases n;split at P
   .rename_i l hl;split at P
    .rename_i bs hb;obtain⟨a,vs,rfl,q,r⟩:=r.ls S hl;have e:=Af r hb;subst e;exact⟨a,bs,rfl,q,hc,P.here S .bl⟩
    .exact P.elim
   .exact P.elim
 .exact P.elim⟩
def Ģ(f:XE)(fa:XA)(Z:En)(s:N'):Out PV:=(f Z s).bind λv s1=>match v with
 |.str z=>(fa Z s1).bind λvs s2=>match vs with
  |[w]=>match YB s2 w with
   |some l=>match uc l with
    |some ys=>if(ys.map (·.length)).sum+ys.length*z.length<=16777216 then .ok (.str (Txt.join z ys)) s2 else .bad
    |none=>.bad
   |none=>.bad
  |_=>.bad
 |_=>.bad
def Of(ho:DE X CB E a f)(ha:DA X CB E (e::es) fa)(RG:cz a "join" X.env (eval a X.env)=eval a X.env:=by rfl)(SD:((bM Rb (ar (e::es) X.env)).all (λx=>!x.1)&&(ed Rb (cI [] X.env)).all (λx=>x.1.isSome)
   && decide ((e::es).length+([]:List fP).length+(if([]:List fP).isEmpty then 0 else 1)<30))=true:=by rfl)(RE:(Rc.endLine==Rb.line)=true:=by rfl)(hs:Č X e es:=by rfl)(RL:(bM Rb (ar es X.env)).any (·.1)=false:=by rfl) :
  DE X CB E (.Call (.Attribute a "join" Rc) (e::es) [] Rb) (Ģ f fa) :=
 ⟨(Mf PySem.F.plainAttrs_str PySem.F.slot_str_join PySem.F.type_str_join Nz ho.pe ha.pa RG SD RE hs RL).mono λO H Q=>oE λZ s m er S P=>⟨Z,s,m,er,S,P.bind λv s1 u H1 m1 e1 S1 r1 P1=>by
  split at P1
  .cases r1;refine⟨rfl,Z,s1,m1,er.ext e1,S1,P1.bind λvs s2 us H2 m2 e2 S2 r2 P2=>?_⟩;split at P2
   .cases r2 with
    |cons r n =>
     cases n;split at P2
     .rename_i l hl;split at P2
      .rename_i ys hy;split at P2
       .rename_i hz;obtain⟨b,vs,rfl,q,r⟩:=r.ls S2 hl;have e:=vo hy;subst e;rw[r.strs] at q;exact⟨_,b,ys,rfl,rfl,q,hz,P2.here S2 .str⟩
       .exact P2.elim
      .exact P2.elim
     .exact P2.elim
   .exact P2.elim
  .exact P1.elim⟩⟩
def Zw(f:XE)(fa:XA)(Z:En)(s:N'):Out PV:=(f Z s).bind λv s1=>match v with
 |.ref n=>match s1.get n with
  |some (.lst _)=>(fa Z s1).bind λvs s2=>match vs with
   |[w]=>match s2.get n with
    |some (.lst l)=>if l.length<100000 then .ok .Yh (s2.set n (.lst (l++[w]))) else .bad
    |_=>.bad
   |_=>.bad
  |_=>.bad
 |_=>.bad
def SR.putL{K}{H}{m}{s}{n}{l l'}{RI}(S:SR K CB H m s)(hn:s.get n=Za (.lst l))(r:X7 K H m s RI l') :
  SR K CB (upd H (m.ad n) (.lst RI)) (m.Zu n [m.ad n]) (s.set n (.lst l'))/\Ext H m s (upd H (m.ad n) (.lst RI)) (m.Zu n [m.ad n]) (s.set n (.lst l')):=by
 obtain⟨e1,vs,h1,_⟩:=S.get hn;refine S.put hn (by grind) _ _ (λa o h ha=>?_) (λa ha=>.inl (by rw[e1];exact ha)) λex=>⟨by show(if n=n then [m.ad n] else m.fp n)=_;rw[Zc rfl];rfl,RI,mw,r.Yk ex⟩;rw[e1,ax] at ha;rw[mq ha];exact h
def SR.putD{K}{H}{m}{s}{n}{l l'}{RI}(S:SR K CB H m s)(hn:s.get n=Za (.Yl l))(r:Ya K H m s RI l') :
  SR K CB (upd H (m.ad n) (.dK RI)) (m.Zu n [m.ad n]) (s.set n (.Yl l'))/\Ext H m s (upd H (m.ad n) (.dK RI)) (m.Zu n [m.ad n]) (s.set n (.Yl l')):=by
 obtain⟨e1,vs,h1,_⟩:=S.get hn;refine S.put hn (by grind) _ _ (λa o h ha=>?_) (λa ha=>.inl (by rw[e1];exact ha)) λex=>⟨by show(if n=n then [m.ad n] else m.fp n)=_;rw[Zc rfl];rfl,RI,mw,r.Yk ex⟩;rw[e1,ax] at ha;rw[mq ha];exact h
def Cu(ho:DE X CB E a f)(ha:DA X CB E (e::es) fa)(RG:cz a "append" X.env (eval a X.env)=eval a X.env:=by rfl)(SD:((bM Rb (ar (e::es) X.env)).all (λx=>!x.1)&&(ed Rb (cI [] X.env)).all (λx=>x.1.isSome)
   && decide ((e::es).length+([]:List fP).length+(if([]:List fP).isEmpty then 0 else 1)<30))=true:=by rfl)(RE:(Rc.endLine==Rb.line)=true:=by rfl)(hs:Č X e es:=by rfl)(RL:(bM Rb (ar es X.env)).any (·.1)=false:=by rfl) :
  DE X CB E (.Call (.Attribute a "append" Rc) (e::es) [] Rb) (Zw f fa) :=
 ⟨(Mf jV k9 PySem.F.type_list_append Ch ho.pe ha.pa RG SD RE hs RL).mono λO H Q=>oE λZ s m er S P=>⟨Z,s,m,er,S,P.bind λv s1 u H1 m1 e1 S1 r1 P1=>by
  split at P1
  .split at P1
   .rename_i n _ _ hg;obtain⟨_,S7,h0,_⟩:=S1.get hg;cases r1 with
    |ref hn =>
    refine⟨.inl ⟨rfl,S7,YO.of h0⟩,Z,s1,m1,er.ext e1,S1,P1.bind λvs s2 us H2 m2 e2 S2 r2 P2=>?_⟩;split at P2
    .cases r2 with
     |cons r n' =>
      cases n';split at P2
      .rename_i l SK;split at P2
       .rename_i hl;obtain⟨f1,vs1,h1,q1⟩:=S2.get SK;obtain⟨S3,e3⟩:=S2.putL SK (q1.append (.cons r .nil));rw[<-e2.ad _ hn];exact⟨_,vs1,_,rfl,rfl,h1,by rw[q1.length];exact sz6 hl,P2 _ _ _ e3 S3 .Yh⟩
       .exact P2.elim
      .exact P2.elim
    .exact P2.elim
   .exact P1.elim
  .exact P1.elim⟩⟩
def Ù(f g h:XE)(Z:En)(s:N'):Out PV:=(f Z s).bind λv s1=>match Zv s1 v with
 |some _=>(g Z s1).bind λw s2=>(h Z s2).bind λz s3=>match Zv s3 v with
  |some l=>match ZY w with
   |some k=>.ok ((qM l k).getD z) s3
   |none=>.bad
  |none=>.bad
 |none=>.bad
def GN(ho:DE X CB E a f)(he:DE X CB E b g)(hf:DE X CB E c h)(hr:Yp jr X.A:=by assumption)(mm:M2 X a "get" Rc b c Rb:=by exact⟨rfl,rfl,rfl,rfl⟩):DE X CB E (.Call (.Attribute a "get" Rc) [b,c] [] Rb) (Ù f g h) :=
 ⟨(Au (oS hr) ho.pe he.pe hf.pe mm).mono λO H Q=>oE λZ s m er S P=>⟨Z,s,m,er,S,P.bind λv s1 u H1 m1 e1 S1 r1 P1=>by
  split at P1
  .rename_i l0 Uo;obtain⟨a,S7,rfl,q0,_⟩:=r1.dc S1 Uo;refine⟨a,rfl,.inl ⟨S7,q0⟩,Z,s1,m1,er.ext e1,S1,P1.bind λw s2 u2 H2 m2 e2 S2 r2 P2=>⟨Z,s2,m2,(er.ext e1).ext e2,S2,P2.bind λz s3 u3 H3 m3 e3 S3 r3 P3=>?_⟩⟩;split at P3
   .rename_i l hl;split at P3
    .rename_i k hk;obtain⟨a',vs,⟨⟩,q,r⟩:=((r1.ext e2).ext e3).dc S3 hl;refine⟨pE vs k,.inl ⟨vs,k,q,qK (r2.ext e3) hk,rfl⟩,?_⟩;obtain⟨v1,v2⟩:=r.val k;cases cc:qM l k with
     |none=>rw[v2 cc];rw[cc] at P3;exact P3.here S3 r3
     |some p=>obtain⟨u,e,ru⟩:=v1 p cc;rw[e];rw[cc] at P3;exact P3.here S3 ru
    .exact P3.elim
   .exact P3.elim
  .exact P1.elim⟩⟩
def Ϗ(_:En)(s:N'):Out PV:=.ok (.ref s.nx) (s.add (.Yl []))
def Od:DE X CB E (.Dict [] [] pos) Ϗ:=⟨ZL.mono λO H Q=>oE λZ s m er S P p hp=>by obtain⟨S2,e2⟩:=S.newD hp (My.sS hp) mw .nil;exact P _ _ _ e2 S2 .new⟩
end
noncomputable def Out.so{α:Type}(o:Out α)(k:α->N'->SO):SO:=match o with
 |.ok a s=>k a s
 |.ex c s=>.ex c s
 |.bad=>.bad
def SO.Ê:SO->SO
 |.ex _ _=>.bad
 |o=>o
def YF.shift{K}{CB}{E}{o}{H H1}{m m1}{s s1}{D}(e:Ext H m s H1 m1 s1)(h:YF K CB E o H m s D):YF K CB E o H1 m1 s1 D:=by
 cases o with
 |nx=>exact λYy H' m' x=>h Yy H' m' (e.trans x)
 |rt=>exact λYy H' m' x=>h Yy H' m' (e.trans x)
 |bk=>exact λYy H' m' x=>h Yy H' m' (e.trans x)
 |ct=>exact λYy H' m' x=>h Yy H' m' (e.trans x)
 |ex=>exact λH' m' x=>h H' m' (e.trans x)
 |bad=>exact h
theorem Yo.so{α β:Type}{K}{CB}{R}{E}{o:Out α}{k:α->N'->SO}{H}{m}{s}{D}{Q1:β->Hp->Prop}(h:YF K CB E (o.so k) H m s D)(f:∀v s1 u H1 m1,Ext H m s H1 m1 s1->SR K CB H1 m1 s1->R H1 m1 s1 u v->YF K CB E (k v s1) H1 m1 s1 D->Q1 u H1):Yo K CB R E o H m s Q1:=by
 cases o with
 |ok v s1=>exact λu H1 m1 x S r=>f v s1 u H1 m1 x S r (YF.shift x h)
 |ex c s'=>exact h
 |bad=>exact h
def YF.next{K}{CB}{E}{Z}{H}{m}{s}{D}{O}(h:YF K CB E (.nx Z s) H m s D)(S:SR K CB H m s)(er:ER K H m s O Z):D.nx O H:=h O H m .refl S er
theorem YF.Ê{K}{CB}{E}{o}{H}{m}{s}{D}(h:YF K CB E o.Ê H m s D):YF K CB E0 o H m s D:=by cases o<;>first|exact h|exact bo h
def Yd(i:Nat)(f:XE)(Z:En)(s:N'):SO:=(f Z s).so λv s1=>.nx (Z.set i (Za v)) s1
def YA(f:XE)(Z:En)(s:N'):SO:=(f Z s).so λv s1=>.rt v s1
def Ū(_:En)(s:N'):SO:=.rt .Yh s
def Ń(f:XE)(Z:En)(s:N'):SO:=(f Z s).so λ_ s1=>.nx Z s1
def å(t:XT)(g h:XS)(Z:En)(s:N'):SO:=(t Z s).so λb s1=>if b=true then g Z s1 else h Z s1
def Y'(Z:En)(s:N'):SO:=.nx Z s
def X6(g h:XS)(Z:En)(s:N'):SO:=match g Z s with
 |.nx Yi s'=>h Yi s'
 |o=>o
section
variable{X:Cx}{CB:ag}{E:XK}{a b c e:a7}{es:List a7}{f g h:XE}{fa:XA}{t:XT}{p pos Rm:Pos}{x:Str}{st:bK}{rest Ss Sx:List bK}{u v:XS}
theorem PS.ě{t}(h:PS X.ě st t):PS X st t:=λQ9 s O H D I hw=>a6 (h Q9 s O H D (I.ñ _) hw) (λ_ _ q=>q.Zn) λ_ _ z=>bo z
def mQ(i)(he:DE X CB E e f)(hN:X.N.Nodup:=by exact ‹K' _ _ _›.nd)(hi:X.N[i]?=Za x:=by rfl)(hx:Loc X.env.scope x:=by first|exact eB rfl|exact gM rfl)(hs:cN e (Za (.Name x Rm)) pos.line X.env=pure false:=by rfl)(hf:X.fn x=true\/X.env.scope.names.lookup x=Za .local:=by first|exact .inl rfl|exact .inr rfl|assumption):DS X CB E (.Assign [.Name x Rm] e pos) (Yd i f) :=
 ⟨(sT hN hi hx he.pe hs hf).mono λD O H=>oE λZ s m er S P=>⟨Z,s,m,er,S,Yo.so P λv s1 u H1 m1 e1 S1 r1 P1=>P1.next S1 ((er.ext e1).set i r1)⟩⟩
def m8(he:DE X CB E e f):DS X CB E (.Return (Za e) pos) (YA f) :=
 ⟨(ra he.pe).mono λD O H=>oE λZ s m er S P=>⟨Z,s,m,er,S,Yo.so P λv s1 u H1 m1 e1 S1 r1 P1=>P1 u H1 m1 .refl S1 r1⟩⟩
def N0:DS X CB E (.Return Zb pos) Ū:=⟨ϵ.mono λD O H=>oE λZ s m er S P=>P .Yh H m .refl S .Yh⟩
def BO(he:DE X CB E e f)(hs:cN e Zb pos.line X.env=pure false:=by rfl):DS X CB E (.Expr e pos) (Ń f) :=
 ⟨(pN he.pe hs).mono λD O H=>oE λZ s m er S P=>⟨Z,s,m,er,S,Yo.so P λv s1 u H1 m1 e1 S1 r1 P1=>P1.next S1 (er.ext e1)⟩⟩
def rn(hc:DT X CB E c t)(ha:ϥ X CB E Ss u)(hb:ϥ X CB E Sx v):DS X CB E (.If c Ss Sx pos) (å t u v) :=
 ⟨(wQ hc.pt ha.pss hb.pss).mono λD O H=>oE λZ s m er S P=>⟨Z,s,m,er,S,Yo.so P λv s1 u H1 m1 e1 S1 r1 P1=>by
  cases r1;refine vY (λc=>?_) λc=>?_
  .rw[Zc c] at P1;exact⟨Z,s1,m1,er.ext e1,S1,P1⟩
  .rw[Zd c] at P1;exact⟨Z,s1,m1,er.ext e1,S1,P1⟩⟩⟩
def ot:ϥ X CB E [] Y':=⟨Ze.mono λD O H=>oE λZ s m er S P=>P.next S er⟩
def mG(h:DS X CB E st u):ϥ X CB E [st] u:=⟨mW h.ps⟩
def ms(h:DS X CB E st u)(k:ϥ X CB E rest v):ϥ X CB E (st::rest) (X6 u v) :=
 ⟨(mT h.ps k.pss).mono λD O H=>oE λZ s m er S P=>⟨Z,s,m,er,S,by
  unfold X6 at P;cases c:u Z s with
  |nx Yi s'=>rw[c] at P;exact λYy H' m' x S' er'=>⟨Yi,s',m',er',S',YF.shift x P⟩
  |rt=>rw[c] at P;exact P
  |bk=>rw[c] at P;exact P
  |ct=>rw[c] at P;exact P
  |ex=>rw[c] at P;exact P
  |bad=>rw[c] at P;exact P⟩⟩
abbrev XG:=PV->En->N'->Option En
abbrev XGs:=List PV->En->N'->Option En
def TDG(K:aa)(CB:ag)(h:XG):TG:=λv O H Q=>∃Z s m q Yi,ER K H m s O Z/\SR K CB H m s/\Rep K H m s v q/\h q Z s=Za Yi/\∀Yy,ER K H m s Yy Yi->Q Yy H
def ÂS(K:aa)(CB:ag)(h:XGs):ϭ:=λv O H Q=>∃Z s m q Yi,ER K H m s O Z/\SR K CB H m s/\X7 K H m s v q/\h q Z s=Za Yi/\∀Yy,ER K H m s Yy Yi->Q Yy H
structure DG(X:Cx)(CB:ag)(tg:a7)(h:XG):Prop where
 pg:PG X tg (TDG X.K CB h)
structure DGs(X:Cx)(CB:ag)(tg:List a7)(h:XGs):Prop where
 pgs:PGs X tg (ÂS X.K CB h)
def PG.mono{tg}{t t':TG}(h:PG X tg t)(k:∀v O H Q,t' v O H Q->t v O H Q):PG X tg t':=λQ9 s O H v u Q I r q=>h Q9 s O H v u Q I r (k v O H Q q)
def PGs.mono{tg}{t t':ϭ}(h:PGs X tg t)(k:∀v O H Q,t' v O H Q->t v O H Q):PGs X tg t':=λQ9 s O H v u Q I r q=>h Q9 s O H v u Q I r (k v O H Q q)
def PG.or{tg}{t t':TG}(h:PG X tg t)(h':PG X tg t'):PG X tg (λv O H Q=>t v O H Q\/t' v O H Q):=λQ9 s O H v u Q I r q=>q.elim (h Q9 s O H v u Q I r) (h' Q9 s O H v u Q I r)
def X9(i:Nat)(q:PV)(Z:En)(_:N'):Option En:=Za (Z.set i (Za q))
def Zs(q:List PV)(Z:En)(_:N'):Option En:=match q with
 |[]=>Za Z
 |_=>Zb
def Yj(h:XG)(k:XGs)(q:List PV)(Z:En)(s:N'):Option En:=match q with
 |p::r=>(h p Z s).bind λYi=>k r Yi s
 |[]=>Zb
def Zr(n:Nat)(k:XGs)(q:PV)(Z:En)(s:N'):Option En:=match q with
 |.tup l=>if l.length=n then k l Z s else Zb
 |q=>match YB s q with
  |some l=>if l.length=n then k l Z s else Zb
  |none=>Zb
def m9(i)(hN:X.N.Nodup:=by exact ‹K' _ _ _›.nd)(hi:X.N[i]?=Za x:=by rfl)(hx:Loc X.env.scope x:=by first|exact eB rfl|exact gM rfl)(hf:X.fn x=true\/X.env.scope.names.lookup x=Za .local:=by first|exact .inl rfl|exact .inr rfl|assumption):DG X CB (.Name x pos) (X9 i) :=
 ⟨(Hb hN hi hx hf).mono λv O H Q ⟨Z,s,m,q,Yi,er,S,r,e,k⟩=>by cases e;exact k _ (er.set i r)⟩
def rA:DGs X CB [] Zs:=⟨ϸ.mono λv O H Q ⟨Z,s,m,q,Yi,er,S,r,e,k⟩=>by
 unfold Zs at e;split at e<;>cases e
 cases r;exact⟨rfl,k _ er⟩⟩
def nF{h:XG}{k:XGs}(h1:DG X CB e h)(h2:DGs X CB es k)(hs:(cO (e::es) X.env).map (·.2)=assign e X.env::(cO es X.env).map (·.2):=by rfl):DGs X CB (e::es) (Yj h k) :=
 ⟨(JV h1.pg h2.pgs hs).mono λv O H Q h=>by
  obtain⟨Z,s,m,q,Yi,er,S,r,e,kk⟩:=h;unfold Yj at e;split at e
  .rename_i p r';cases r with
   |cons a b =>
    cases c:h p Z s with
    |none=>rw[c] at e;cases e
    |some ò =>
     rw[c] at e;exact⟨_,_,rfl,Z,s,m,p,ò,er,S,a,c,λŕ er1=>⟨ò,s,m,r',Yi,er1,S,b,e,kk⟩⟩
  .cases e⟩
def uj{k:XGs}{n k0}(h:DGs X CB es k)(hc:X.calm=true:=by rfl)(hn:(cO es X.env).length=n:=by rfl)(RW:(cO es X.env).findIdx? (·.1)=none:=by rfl):DG X CB (.Tuple es k0 pos) (Zr n k) :=
 ⟨((PD hc h.pgs hn RW).or (PH hc h.pgs hn RW)).mono λv O H Q h=>by
  obtain⟨Z,s,m,q,Yi,er,S,r,e,kk⟩:=h;unfold Zr at e;split at e
  .split at e
   .rename_i hl;obtain⟨a,vs,rfl,q1,r1⟩:=r.tp;exact .inl ⟨a,vs,rfl,q1,r1.length.trans hl,Z,s,m,_,Yi,er,S,r1,e,kk⟩
   .cases e
  .split at e
   .rename_i l Uo;split at e
    .rename_i hl;obtain⟨a,vs,rfl,q1,r1⟩:=r.ls S Uo;exact .inr ⟨a,vs,rfl,q1,r1.length.trans hl,Z,s,m,_,Yi,er,S,r1,e,kk⟩
    .cases e
   .cases e⟩
def è(f:XE)(h:XG)(Z:En)(s:N'):SO:=(f Z s).so λv s1=>match h v Z s1 with
 |some Yi=>.nx Yi s1
 |none=>.bad
def BC{h:XG}{tg}(he:DE X CB E e f)(hg:DG X CB tg h)(hs:g9 [tg] e pos.line X.env=pure false:=by rfl)(hw:hJ [tg] e X.env=pure none:=by rfl)(h1:(cO [tg] X.env).map (·.2)=[assign tg X.env]:=by rfl):DS X CB E (.Assign [tg] e pos) (è f h) :=
 ⟨(Lk he.pe hg.pg hs hw h1).mono λD O H=>oE λZ s m er S P=>⟨Z,s,m,er,S,Yo.so P λv s1 u H1 m1 e1 S1 r1 P1=>by
  split at P1
  .rename_i Yi ē;exact⟨Z,s1,m1,v,Yi,er.ext e1,S1,r1,ē,λYy er'=>P1.next S1 er'⟩
  .exact P1.elim⟩⟩
def Àl(i j:Nat)(fa:XA)(Z:En)(s:N'):SO:=(fa Z s).so λvs s1=>match vs with
 |[v,w]=>.nx ((Z.set i (Za v)).set j (Za w)) s1
 |_=>.bad
def QE{kt k2 pt2}(hc:X.calm=true)(hN:X.N.Nodup)(hi:X.N[i]?=Za x)(hj:X.N[j]?=Za y)(Vv:i≠j)(hx:X.env.scope.names.lookup x=Za .local)(hy:X.env.scope.names.lookup y=Za .local)(ha:DA X CB E [a,b] fa)(hw:hJ [.Tuple [.Name x px,.Name y py] kt pt] (.Tuple [a,b] k2 pt2) X.env=pure (Za [x,y]))(hs:g9 [.Tuple [.Name x px,.Name y py] kt pt] (.Tuple [a,b] k2 pt2) pos.line X.env=pure false:=by rfl):DS X CB E (.Assign [.Tuple [.Name x px,.Name y py] kt pt] (.Tuple [a,b] k2 pt2) pos) (Àl i j fa) :=
 ⟨(Px hc hN hi hj Vv hx hy ha.pa hw hs).mono λD O H=>oE λZ s m er S P=>⟨Z,s,m,er,S,Yo.so P λv s1 u H1 m1 e1 S1 r1 P1=>by
  split at P1
  .cases r1 with
   |cons a b =>
    cases b with
    |cons b c=>cases c;exact⟨_,_,rfl,P1.next S1 (((er.ext e1).set i a).set j b)⟩
  .exact P1.elim⟩⟩
def tY(o i v:PV)(s:N'):Option N':=match o with
 |.ref n=>match s.get n with
  |some (.lst l)=>match i with
   |.int k=>match Œ l.length k with
    |some j=>Za (s.set n (.lst (l.set j v)))
    |none=>Zb
   |_=>Zb
  |some (.Yl l)=>match ZY i with
   |some k=>if l.length<100000 then Za (s.set n (.Yl (zx l k v))) else Zb
   |none=>Zb
  |_=>Zb
 |_=>Zb
def û(fo fi fv:XE)(Z:En)(s:N'):SO:=(fv Z s).so λv s1=>(fo Z s1).so λo s2=>(fi Z s2).so λi s3=>match tY o i v s3 with
 |some s4=>.nx Z s4
 |none=>.bad
def OK:V->V->V->Hp->(Hp->Prop)->Prop:=λo i v H Q=>∃a H',o=.ref a/\Ö H a i v H'/\Q H'
def JD(hu:X.A.units+1<fj):Ő X OK:=by
 rintro Q9 s O H o i v ov iv u Q I ro ri rv ⟨a,H',rfl,g,q⟩
 obtain rfl:ov=aU a:=ro;exact Cv hu I g ri rv λs4 I4=>⟨H',I4,q⟩
def Ő.or{t t':Oz}(h:Ő X t)(h':Ő X t'):Ő X (λo i v H Q=>t o i v H Q\/t' o i v H Q):=λQ9 s O H o i v ov iv u Q I r1 r2 r3 q=>q.elim (h Q9 s O H o i v ov iv u Q I r1 r2 r3) (h' Q9 s O H o i v ov iv u Q I r1 r2 r3)
def Pt{K}{H}{m}{s s'}{o i v}{xo xi xv}(S:SR K CB H m s)(ro:Rep K H m s xo o)(ri:Rep K H m s xi i)(rv:Rep K H m s xv v)(e:tY o i v s=Za s'){Q}(hq:∀H' m',Ext H m s H' m' s'->SR K CB H' m' s'->Q H'):OJ xo xi xv H Q\/OK xo xi xv H Q:=by
 unfold tY at e;split at e
 .split at e
  .rename_i l hg;split at e
   .split at e
    .rename_i j hj;cases e;cases ro;cases ri;obtain⟨_,vs,h1,q1⟩:=S.get hg;obtain⟨S2,e2⟩:=S.putL hg (q1.set j rv);exact .inl ⟨_,vs,_,j,rfl,rfl,h1,by rw[q1.length];exact hj,hq _ _ e2 S2⟩
    .cases e
   .cases e
  .rename_i l hg;split at e
   .rename_i k hk;split at e
    .rename_i hl;cases e;cases ro;obtain⟨_,vs,h1,q1⟩:=S.get hg;obtain⟨S2,e2⟩:=S.putD hg (q1.put k rv);exact .inr ⟨_,_,rfl,.inl ⟨vs,k,h1,qK ri hk,by rw[q1.length];exact sz6 hl,rfl⟩,hq _ _ e2 S2⟩
    .cases e
   .cases e
  .cases e
 .cases e
def BB{RK}(ho:DE X CB E a f)(hi:DE X CB E b g)(hv:DE X CB E e h){jr}(hr:Yp jr X.A:=by assumption)(hs:g9 [iC a b RK] e pos.line X.env=pure false:=by rfl)(hw:hJ [iC a b RK] e X.env=pure none:=by rfl)(h1:(cO [iC a b RK] X.env).map (·.2)=[assign (iC a b RK) X.env]:=by rfl)(ha:∀v,assign (.Subscript a b RK) X.env v=(do
   let ov <-holding [v] (eval a X.env);let iv <-holding [v,ov] (eval b X.env)
   fL RK
   holding [v,ov,iv] (kK ov iv v)
   release [v,ov,iv] []):=by intro _;rfl):DS X CB E (.Assign [.Subscript a b RK] e pos) (û f g h) :=
 ⟨(Lk hv.pe (PF ho.pe hi.pe (set_list.or (JD (oS hr))) ha) hs hw h1).mono λD O H=>oE λZ s m er S P=>⟨Z,s,m,er,S,Yo.so P λv s1 u H1 m1 e1 S1 r1 P1 =>
  ⟨Z,s1,m1,er.ext e1,S1,Yo.so P1 λo s2 uo H2 m2 e2 S2 r2 P2=>⟨Z,s2,m2,(er.ext e1).ext e2,S2,Yo.so P2 λi s3 ui H3 m3 e3 S3 r3 P3=>by
   split at P3
   .rename_i s4 h4;exact Pt S3 (r2.ext e3) r3 ((r1.ext e2).ext e3) h4 λH' m' x S'=>P3 O H' m' x S' ((((er.ext e1).ext e2).ext e3).ext x)
   .exact P3.elim⟩⟩⟩⟩
def ql(K:aa)(CB:ag)(J:It)(l:List PV)(H0:Hp)(m0:Mp)(s0:N'):Prop:=∀i H m s,Ext0 H0 m0 s0 H m s->SR K CB H m s ->
 (∀q,l[i]?=Za q->J.go i H/\∀x H',J.yld i H x H'->Ext H m s H' m s/\SR K CB H' m s/\Rep K H' m s x q)/\(l.length<=i->J.stop i H)
def Ž(K:aa)(CB:ag)(E:XK)(f:XA):TI:=λO H R=>∃Z s m,ER K H m s O Z/\SR K CB H m s/\match f Z s with
 |.ok l s'=>∀J H' m',Ext H m s H' m' s'->SR K CB H' m' s'->ql K CB J l H' m' s'->R J H'
 |.ex c s'=>∀H' m',Ext H m s H' m' s'->SR K CB H' m' s'->∀d,ϡ H' m' s' c.2 d->E (.ref c.1) d H'
 |.bad=>False
structure DI(X:Cx)(CB:ag)(E:XK)(tg e:a7)(f:XA):Prop where
 pi:PI X tg e (Ž X.K CB E f)
def PI.mono{tg}{t t':TI}(h:PI X tg e t)(k:∀O H R,t' O H R->t O H R):PI X tg e t':=λQ9 s O H R I q=>h Q9 s O H R I (k O H R q)
end
section
variable{X:Cx}{CB:ag}{E:XK}{a b c e tg:a7}{es:List a7}{f h:XE}{fa fi:XA}{t:XT}{p pos:Pos}{x:Str}{Ss:List bK}{u v:XS}
def Yw(f:XE)(Z:En)(s:N'):Out (List PV):=(f Z s).bind λv s1=>match v with
 |.lst l=>.ok l s1
 |.seq l=>.ok l s1
 |.tup l=>.ok l s1
 |_=>.bad
def OV{K}{H0}{m0}{s0}{b}{q}{l}(r:Rep K H0 m0 s0 (.ref b) q)(hl:∀s,YB s q=Za l):ql K CB (Itl K b) l H0 m0 s0:=by intro i H m s ex S;obtain⟨b',vs,⟨⟩,hq,rs⟩:=(r.Yk ex.toExtR).ls S (hl s);refine⟨λq' R6=>?_,λhi=>⟨vs,hq,by rw[rs.length];exact hi⟩⟩;obtain⟨u,hu,ru⟩:=rs.get R6;refine⟨⟨vs,u,hq,hu⟩,λx H' ⟨e1,e2⟩=>?_⟩;subst e1;have e3:=e2 vs hq;rw[hu] at e3;cases e3;exact⟨.refl,S,ru⟩
def Áq{K}{H0}{m0}{s0}{b}{l}(r:Rep K H0 m0 s0 (.ref b) (.tup l)):ql K CB (Itt K b) l H0 m0 s0:=by intro i H m s ex S;obtain⟨b',vs,⟨⟩,hq,rs⟩:=(r.Yk ex.toExtR).tp;refine⟨λq' R6=>?_,λhi=>⟨vs,hq,by rw[rs.length];exact hi⟩⟩;obtain⟨u,hu,ru⟩:=rs.get R6;refine⟨⟨vs,u,hq,hu⟩,λx H' ⟨e1,e2⟩=>?_⟩;subst e1;have e3:=e2 vs hq;rw[hu] at e3;cases e3;exact⟨.refl,S,ru⟩
def iLT(K:aa)(tl:TE):TI:=λO H R=>tl O H λx H1=>(∃a,x=.ref a/\(∃xs,YO K H1 a xs)/\R (Itl K a) H1)\/(∃a,x=.ref a/\(∃xs,Zz K H1 a xs)/\R (Itt K a) H1)
def À0(hl:PE X e tl):PI X tg e (iLT X.K tl):=by
 refine λQ9 s O H R I h=>Yq (hl Q9 s O H _ I h) λv s1=>e4 λx H1 I1 r1 q1=>?_;rcases q1 with⟨a,e,⟨xs,hq⟩,q⟩|⟨a,e,⟨xs,hq⟩,q⟩
 .subst e;cases r1;obtain⟨its,rv,p,hz⟩:=I1.list hq;apply gX p.isList;refine⟨s1.heap.objs.size,[s1.heap.objs.size],_,_,H1,rfl,I1.kept λb o e=>aj _ e,BY a _,⟨_,aP _ rfl,rfl,rfl⟩,λb hb=>?_,q⟩;have e:b=s1.heap.objs.size:=by simpa using hb
  subst e;exact I1.Ĳ (ak _) (I1.Ye.fresh (ak _))
 .subst e;cases r1;obtain⟨its,rv,p,hz⟩:=I1.tuple hq;apply wpAny_pyIter_tuple (p);refine⟨s1.heap.objs.size,[s1.heap.objs.size],_,_,H1,rfl,I1.kept λb o e=>aj _ e,Fu a _,⟨_,aP _ rfl,rfl,rfl⟩,λb hb=>?_,q⟩;have e:b=s1.heap.objs.size:=by simpa using hb
  subst e;exact I1.Ĳ (ak _) (I1.Ye.fresh (ak _))
theorem Ž.bind(q:Ž X.K CB E (λZ s=>(f Z s).bind F) O H R)(k:∀v s1 u H1 m1,SR X.K CB H1 m1 s1->Rep X.K H1 m1 s1 u v->(match F v s1 with
  |.ok l s'=>∀J H' m',Ext H1 m1 s1 H' m' s'->SR X.K CB H' m' s'->ql X.K CB J l H' m' s'->R J H'
  |.ex c s'=>∀H' m',Ext H1 m1 s1 H' m' s'->SR X.K CB H' m' s'->∀d,ϡ H' m' s' c.2 d->E (.ref c.1) d H'
  |.bad=>False)->Q u H1):ō X.K CB E f O H Q:=by
 obtain⟨Z,s,m,er,S,P⟩:=q;refine⟨Z,s,m,er,S,?_⟩;cases c:f Z s with
 |ok v s1 =>
  simp[c,Out.bind] at P;refine λu H1 m1 e1 S1 r1=>k v s1 u H1 m1 S1 r1 ?_;cases d:F v s1 with
  |ok l s'=>rw[d] at P;exact λJ H' m' x=>P J H' m' (e1.trans x)
  |ex c' s'=>rw[d] at P;exact λH' m' x=>P H' m' (e1.trans x)
  |bad=>rw[d] at P;exact P
 |ex c' s'=>simp[c] at P;exact P
 |bad=>simp[c,Out.bind] at P
def qF(hl:DE X CB E e f):DI X CB E tg e (Yw f):=⟨(À0 hl.pe).mono λO H R q=>Ž.bind q λv s1 u H1 m1 S1 r1 P=>by
 cases r1 with
 |lst h1 h2 h3=>exact .inl ⟨_,rfl,⟨_,YO.of h1⟩,P _ _ _ .refl S1 (OV (.lst h1 h2 h3) λ_=>rfl)⟩
 |seq h1 h3=>exact .inl ⟨_,rfl,⟨_,h1.elim (λz=>.inl (.inr z.1)) .inr⟩,P _ _ _ .refl S1 (OV (.seq h1 h3) λ_=>rfl)⟩
 |tup h1 h3=>exact .inr ⟨_,rfl,⟨_,h1.elim (λz=>.inl z.1) .inr⟩,P _ _ _ .refl S1 (Áq (.tup h1 h3))⟩
 |_=>exact P.elim⟩
noncomputable def Âk(x:Str):List PV:=x.cps.toList.map λc=>PV.str ⟨#[c]⟩
def Àm(f:XE)(Z:En)(s:N'):Out (List PV):=(f Z s).bind λv s1=>match v with
 |.str x=>.ok (Âk x) s1
 |_=>.bad
noncomputable def vz(lo:Int)(n:Nat):List PV:=(br n).map λ(k:Nat)=>PV.int (lo+k)
def Zl(fa:XA)(Z:En)(s:N'):Out (List PV):=(fa Z s).bind λvs s1=>match vs with
 |[.int j]=>if -(2^62)<=j/\j<2^62 then .ok (vz 0 j.toNat) s1 else .bad
 |_=>.bad
def Ár{K}{lo}{n}{H0}{m0}{s0}:ql K CB (Itr lo n) (vz lo n) H0 m0 s0:=by
 refine λi H m s ex S=>⟨λq hq=>?_,λhi=>?_⟩
 .unfold vz at hq;rw[aF] at hq;by_cases hi:i<n
  .rw[lP hi] at hq;cases hq;exact⟨hi,λx H' ⟨e1,e2⟩=>by subst e1 e2;exact⟨.refl,S,.int⟩⟩
  .simp_all
 .unfold vz at hi;rw[ac,List.length_range] at hi;exact hi
def Ž.Ϟ(q:Ž X.K CB E (λZ s=>(fa Z s).bind F) O H R)(k:∀v s1 u H1 m1,SR X.K CB H1 m1 s1->X7 X.K H1 m1 s1 u v->(match F v s1 with
  |.ok l s'=>∀J H' m',Ext H1 m1 s1 H' m' s'->SR X.K CB H' m' s'->ql X.K CB J l H' m' s'->R J H'
  |.ex c s'=>∀H' m',Ext H1 m1 s1 H' m' s'->SR X.K CB H' m' s'->∀d,ϡ H' m' s' c.2 d->E (.ref c.1) d H'
  |.bad=>False)->Q u H1):TDA X.K CB E fa O H Q:=by
 obtain⟨Z,s,m,er,S,P⟩:=q;refine⟨Z,s,m,er,S,?_⟩;cases c:fa Z s with
 |ok v s1 =>
  simp[c,Out.bind] at P;refine λu H1 m1 e1 S1 r1=>k v s1 u H1 m1 S1 r1 ?_;cases d:F v s1 with
  |ok l s'=>rw[d] at P;exact λJ H' m' x=>P J H' m' (e1.trans x)
  |ex c' s'=>rw[d] at P;exact λH' m' x=>P H' m' (e1.trans x)
  |bad=>rw[d] at P;exact P
 |ex c' s'=>simp[c] at P;exact P
 |bad=>simp[c,Out.bind] at P
def qw(ha:DA X CB E [a] fa)(hg:Gl X "range":=by rfl)(hm:X.mg "range"=none:=by exact T.Àd)(hs:ar [a] X.env=[(false,eval a X.env)]:=by rfl):DI X CB E tg (.Call (.Name "range" p) [a] [] pos) (Zl fa) :=
 ⟨(Ik hg hm ha.pa hs).mono λO H R q=>Ž.Ϟ q λv s1 u H1 m1 S1 r1 P=>by
  split at P
  .rename_i l s' hF;split at hF
   .split at hF<;>cases hF
    rename_i hj;cases r1 with
    |cons r n=>cases n;cases r;exact⟨_,rfl,hj.1,hj.2,P _ _ _ .refl S1 Ár⟩
   .cases hF
  .rename_i hF;split at hF
   .split at hF<;>cases hF
   .cases hF
  .exact P.elim⟩
noncomputable def wn:Key->PV
 |.inl i=>.int i
 |.inr x=>.str x
def ī(f:XE)(Z:En)(s:N'):Out (List PV):=(f Z s).bind λv s1=>match v with
 |.Yl l=>.ok (l.map λkv=>wn kv.1) s1
 |_=>.bad
def Áx(tl:TE):TI:=λO H R=>tl O H λx H1=>∃d Ra,x=.ref d/\((H1 d=Za (.dK Ra)/\∀ob,R (Itd d ob Ra) (upd H1 d (.YQ ob (.dK Ra))))\/∃ob,H1 d=Za (.YQ ob (.dK Ra))/\R (Itd d ob Ra) H1)
def zy(hl:PE X e tl):PI X tg e (Áx tl):=by
 refine λQ9 s O H R I h=>Yq (hl Q9 s O H _ I h) λv s1=>e4 λx H1 I1 r1 q1=>?_;obtain⟨d,Ra,rfl,q1⟩:=q1;cases r1;have hd:Rd H1 d (.dK Ra):=q1.elim (λz=>.inl z.1) λ⟨ob,z,_⟩=>.inr ⟨ob,z⟩;obtain⟨z,Ug,vs,rel,dd⟩:=vt I1.Ye hd;obtain⟨ep,at_⟩:=dd.dictAt;obtain⟨ob,es,ho,Uv,Tk,TQ⟩:=id at_;apply wpAny_pyIter_dict Ug at_;have hl:=rel.length;have I2:Inv X Q9 O H1 { s1 with heap:=s1.heap.push { cls:=.type "dict_keyiterator",data:=.fields #[.ref d,.int 0 0,.int vs.length 0,.int ep 0] } }:=I1.kept λb o e=>aj _ e;have RB:s1.heap.objs.size≠d:=λz=>by
  have:=aw ho;rw[z] at this
  grind
 have R4:(0<=Ra.length/\(s1.heap.push { cls:=.type "dict_keyiterator",data:=.fields #[.ref d,.int 0 0,.int vs.length 0,.int ep 0] }).IsKeyIter s1.heap.objs.size d 0 Ra.length ep):=by refine⟨aY _,{ cls:=.type "dict_keyiterator",data:=.fields #[.ref d,.int 0 0,.int vs.length 0,.int ep 0] },aP _ rfl,rfl,?_⟩;rw[hl];rfl
 rcases q1 with⟨VE,q⟩|⟨S9,VE,q⟩
 .refine⟨s1.heap.objs.size,[s1.heap.objs.size],_,Itd d ob Ra,_,rfl,I2.freeze VE (aj _ ho),BZ d _ ob Ra es ep Tk,R4,λb hb=>?_,q ob⟩;have e:b=s1.heap.objs.size:=by simpa using hb
  subst e;apply I1.Ĳ (ak _);rw[mq RB];exact I1.Ye.fresh (ak _)
 .have e0:S9=ob:=by
   obtain⟨e1,_⟩:=(I1.Ye d _ VE)
   grind
  subst e0;refine⟨s1.heap.objs.size,[s1.heap.objs.size],_,Itd d S9 Ra,_,rfl,I2,BZ d _ S9 Ra es ep Tk,R4,λb hb=>?_,q⟩;have e:b=s1.heap.objs.size:=by simpa using hb
  subst e;exact I1.Ĳ (ak _) (I1.Ye.fresh (ak _))
def Qp{K}{H}{m}{s}(k):Rep K H m s (kV k) (wn k):=by
 obtain i|x:=k
 .exact .int
 .exact .str
theorem Ya.get:∀{K:aa}{H:Hp}{m:Mp}{s:N'}{vs:List (Key×V)}{l:List (Key×PV)}{i:Nat}{q:Key×PV},Ya K H m s vs l->l[i]?=Za q->∃w,vs[i]?=Za w/\w.1=q.1
 |_,_,_,_,_,_,_,_,.nil,e=>by simp at e
 |_,_,_,_,_,_,0,_,.cons _ _,e=>by simp at e;subst e;exact⟨_,rfl,rfl⟩
 |_,_,_,_,_,_,i+1,q,.cons _ b,e=>by
  obtain⟨w,h1,h2⟩:=b.get (by simpa using e)
  simp_all
def Mm{K}{H0}{m0}{s0}{d}{ob}{Ra}{l}(hd:∀H m s,Ext0 H0 m0 s0 H m s->SR K CB H m s->H d=Za (.YQ ob (.dK Ra)))(r:Ya K H0 m0 s0 Ra l):ql K CB (Itd d ob Ra) (l.map λkv=>wn kv.1) H0 m0 s0:=by
 intro i H m s ex S;have h:=hd H m s ex S;refine⟨λq hq=>?_,λhi=>⟨by rw[r.length];simpa using hi,h⟩⟩;rw[aF] at hq;cases c:l[i]? with
 |none=>rw[c] at hq;cases hq
 |some kv =>
  rw[c] at hq;cases hq;obtain⟨w,h1,h2⟩:=r.get c;refine⟨⟨(aR.mp h1).1,h⟩,λx H' ⟨e1,kv',e2,e3⟩=>?_⟩;subst e1 e3;rw[h1] at e2;cases e2;rw[h2];exact⟨.refl,S,Qp _⟩
def Ext.freeze{K}{H}{m}{s}{d}{ob}{Ra}(S:SR K CB H m s)(hd:H d=Za (.dK Ra))(hp:ù m s d):Ext H m s (upd H d (.YQ ob (.dK Ra))) m s:=by
 refine⟨⟨⟨ak _,λ_ _=>rfl,λa u h p=>⟨?_,p⟩,λa u h n p=>?_⟩,λj l hj h=>⟨h,λo ho=>?_⟩⟩,rfl,λa ha o h _=>?_⟩
 .by_cases e:a=d
  .subst e;obtain h|⟨o,h⟩:=h
   .rw[hd] at h;cases h;exact .inr ⟨ob,mw⟩
   .grind
  .exact h.elim (λh=>.inl (by rw[mq e];exact h)) λ⟨o,h⟩=>.inr ⟨o,by rw[mq e];exact h⟩
 .rw[mq (DV h hd (n _))];exact h
 .obtain⟨e1,_⟩:=S.ok _ (oa h);rw[mq (λz=>hp.2 j (aq.mpr ⟨_,oa h,rfl⟩) (by rw[e1,z];simp))];exact ho
 .rw[mq (λz=>hp.1 (by grind))];exact h
def SR.Àa{K}{H}{m}{s}{d}{ob}{Ra}(S:SR K CB H m s)(hd:H d=Za (.dK Ra))(hp:ù m s d):SR K CB (upd H d (.YQ ob (.dK Ra))) m s:=by refine⟨S.nd,S.lt,λq hq=>(S.ok q hq).keep S (Ext.freeze S hd hp).toExtR (λa ha o h=>?_) rfl rfl,S.dj,S.hx,S.hsk (Ext.freeze S hd hp).hk (.upd hd FR),S.tbk (.upd hd FR)⟩;have:a≠d:=λz=>hp.2 q.1 (aq.mpr ⟨q,hq,rfl⟩) (z▸ha);rw[mq this];exact h
def N5(hl:DE X CB E e f):DI X CB E tg e (ī f):=⟨(zy hl.pe).mono λO H R q=>Ž.bind q λv s1 u H1 m1 S1 r1 P=>by
 cases r1 with
 |Yl h1 h2 h3 =>
  rename_i d vs l;obtain h1|⟨ob,h1⟩:=h1
  .refine⟨d,vs,rfl,.inl ⟨h1,λob=>P _ _ m1 (.freeze S1 h1 h2) (S1.Àa h1 h2) (Mm (λH m s ex S=>ex.el _ _ mw (by intro _ z;cases z) h2) (h3.ext (.freeze S1 h1 h2)))⟩⟩
  .exact⟨d,vs,rfl,.inr ⟨ob,h1,P _ _ m1 .refl S1 (Mm (λH m s ex S=>ex.el _ _ h1 (by intro _ z;cases z) h2) h3)⟩⟩
 |_=>exact P.elim⟩
noncomputable def nZ(body:PV->XS):List PV->XS
 |[],Z,s=>.nx Z s
 |q::l,Z,s=>match body q Z s with
  |.nx Yi s'=>nZ body l Yi s'
  |.ct Yi s'=>nZ body l Yi s'
  |.bk Yi s'=>.nx Yi s'
  |o=>o
def nr(y:XG)(u:XS)(q:PV)(Z:En)(s:N'):SO:=match y q Z s with
 |some Yi=>u Yi s
 |none=>.bad
def À(fi:XA)(y:XG)(body:XS)(Z:En)(s:N'):SO:=((fi Z s).so λl s1=>nZ (nr y body) l Z s1).Ê
def E9(S1:SR X.K CB H1 m1 s1)(er:ER X.K H1 m1 s1 O Z)(it:ql X.K CB J l H1 m1 s1)(P:YF X.K CB E0 (nZ (nr y u) l Z s1) H1 m1 s1 D) :
  ∃W:Nat->Nat->St->Hp->Prop,(∃m,W 0 m O H1)/\∀i m O H,W i m O H ->
   (J.stop i H/\D.nx O H)\/(J.go i H/\∃N:St->Hp->Prop,(∀Yy H',N Yy H'->∃m',m'<m/\W (i+1) m' Yy H')/\∀x H',J.yld i H x H'->(TDG X.K CB y) x O H' λĖ H2=>(TDS X.K CB E0 u) { D with nx:=N,ct:=N,bk:=D.nx } Ė H2):=by
 refine⟨λi k Yy H'=>∃Yi s' m',ER X.K H' m' s' Yy Yi/\SR X.K CB H' m' s'/\Ext H1 m1 s1 H' m' s'/\i<=l.length/\k=l.length-i/\YF X.K CB E0 (nZ (nr y u) (l.drop i) Yi s') H' m' s' D,⟨l.length,Z,s1,m1,er,S1,.refl,aY _,rfl,P⟩,?_⟩
 rintro i k Yy H' ⟨Yi,s',m',er',S',Wo,Vw,rfl,P'⟩
 obtain⟨Uf,Tu⟩:=it i H' m' s' Wo.toExt0 S';by_cases Rr:i<l.length
 .right;have hq:=aA Rr;obtain⟨go,yl⟩:=Uf _ hq;rw[eI Rr] at P';refine⟨go,λĖ H2=>∃Ŗ s2 m2,ER X.K H2 m2 s2 Ė Ŗ/\SR X.K CB H2 m2 s2/\Ext H1 m1 s1 H2 m2 s2/\YF X.K CB E0 (nZ (nr y u) (l.drop (i+1)) Ŗ s2) H2 m2 s2 D,λĖ H2 ⟨Ŗ,s2,m2,a1,a2,a3,a4⟩=>⟨l.length-(i+1),by omega,Ŗ,s2,m2,a1,a2,a3,Rr,rfl,a4⟩,λx H2 hy=>?_⟩;obtain⟨e2,S2,r2⟩:=yl x H2 hy;unfold nZ at P';have hbo:nr y u l[i] Yi s'=match y l[i] Yi s' with|some Yi=>u Yi s'|none=>.bad:=rfl
  rw[hbo] at P';cases hyq:y l[i] Yi s' with
  |none=>rw[hyq] at P';exact P'.elim
  |some Ŗ =>
   rw[hyq] at P';have P':=YF.shift e2 P';dsimp only at P';refine⟨Yi,s',m',l[i],Ŗ,er'.ext e2,S2,r2,hyq,λĖ VQ=>⟨Ŗ,s',m',VQ,S2,?_⟩⟩;cases cb:u Ŗ s' with
   |nx ρ3 s3=>rw[cb] at P';exact λĕ H3 m3 e3 S3 Tq=>⟨ρ3,s3,m3,Tq,S3,(Wo.trans e2).trans e3,YF.shift e3 P'⟩
   |ct ρ3 s3=>rw[cb] at P';exact λĕ H3 m3 e3 S3 Tq=>⟨ρ3,s3,m3,Tq,S3,(Wo.trans e2).trans e3,YF.shift e3 P'⟩
   |bk ρ3 s3=>rw[cb] at P';exact P'
   |rt v3 s3=>rw[cb] at P';exact P'
   |ex c3 s3=>rw[cb] at P';exact P'
   |bad=>rw[cb] at P';exact P'
 .left;have Sh:=fS Rr;rw[ft Sh] at P';exact⟨Tu Sh,P'.next S' er'⟩
def rb(hi:DI X.ě CB E0 tg e fi)(hg:DG X.ě CB tg y)(hb:ϥ X.ě CB E0 Ss u)(hc:X.calm=true:=by rfl)(hs:∀x,bI e X.env x=pure x:=by intro _;rfl):DS X CB E (.For tg e Ss [] pos) (À fi y u) :=
 ⟨PS.ě ((Lj (X:=X.ě) gK hc hi.pi hg.pg hb.pss hs).mono λD O H=>oE λZ s m er S P=>by
  have P:=YF.Ê P;refine⟨Z,s,m,er,S,?_⟩;cases c:fi Z s with
  |bad=>rw[c] at P;exact P
  |ex c' s'=>rw[c] at P;exact P
  |ok l s1 =>
   rw[c] at P;exact λJ H1 m1 e1 S1 it=>E9 S1 (er.ext e1) it (YF.shift e1 P))⟩
def m7(c:XT)(b:XS):Nat->XS
 |0,_,_=>.bad
 |n+1,Z,s=>(c Z s).so λt s1=>if t=true then(match b Z s1 with
  |.nx Yi s'=>m7 c b n Yi s'
  |.ct Yi s'=>m7 c b n Yi s'
  |.bk Yi s'=>.nx Yi s'
  |o=>o) else .nx Z s1
open Classical in
def ua(c:XT)(b:XS)(Z:En)(s:N'):SO:=if h:∃n,m7 c b n Z s≠.bad then(m7 c b h.choose Z s).Ê else .bad
def AA{c}(hc:DT X.ě CB E0 c t)(hb:ϥ X.ě CB E0 Ss u):DS X CB E (.While c Ss [] pos) (ua t u) :=
 ⟨PS.ě ((EX gK hc.pt hb.pss).mono λD O H=>oE λZ s m er S P=>by
  unfold ua at P;split at P
  .rename_i h;have P:=YF.Ê P;refine⟨λn Yy H'=>∃Yi s' m',ER X.K H' m' s' Yy Yi/\SR X.K CB H' m' s'/\YF X.K CB E0 (m7 t u n Yi s') H' m' s' D,⟨_,Z,s,m,er,S,P⟩,?_⟩
   rintro n Yy H' ⟨Yi,s',m',er',S',P'⟩
   cases n with
   |zero=>exact P'.elim
   |succ n =>
    refine⟨Yi,s',m',er',S',Yo.so P' λb s1 b' H1 m1 e1 S1 r1 P1=>?_⟩;cases r1;refine vY (λcb=>?_) λcb=>?_
    .rw[Zc cb] at P1;refine⟨λĖ H2=>∃Ŗ s2 m2,ER X.K H2 m2 s2 Ė Ŗ/\SR X.K CB H2 m2 s2/\YF X.K CB E0 (m7 t u n Ŗ s2) H2 m2 s2 D,λĖ H2 q=>⟨n,ci _,q⟩,Yi,s1,m1,er'.ext e1,S1,?_⟩;cases cu:u Yi s1 with
     |nx ρ3 s3=>rw[cu] at P1;exact λĕ H3 m3 e3 S3 Tq=>⟨ρ3,s3,m3,Tq,S3,YF.shift e3 P1⟩
     |ct ρ3 s3=>rw[cu] at P1;exact λĕ H3 m3 e3 S3 Tq=>⟨ρ3,s3,m3,Tq,S3,YF.shift e3 P1⟩
     |bk ρ3 s3=>rw[cu] at P1;exact P1
     |rt v3 s3=>rw[cu] at P1;exact P1
     |ex c3 s3=>rw[cu] at P1;exact P1
     |bad=>rw[cu] at P1;exact P1
    .rw[Zd cb] at P1;exact P1.next S1 (er'.ext e1)
  .exact P.elim)⟩
theorem uw{c}{b}:∀{n:Nat}{Z:En}{s:N'},m7 c b n Z s≠.bad->m7 c b (n+1) Z s=m7 c b n Z s
 |0,_,_,h=>absurd rfl h
 |n+1,Z,s,h=>by
  unfold m7 at h ⊢;cases hc:c Z s with
  |ok t s1 =>
   rw[hc] at h;simp only[Out.so] at h ⊢;by_cases ht:t=true
   .rw[Zc ht] at h ⊢;rw[Zc ht];cases hb:b Z s1 with
    |nx Yi s'=>rw[hb] at h;exact uw h
    |ct Yi s'=>rw[hb] at h;exact uw h
    |_=>rfl
   .rw[Zd ht,Zd ht]
  |ex=>rfl
  |bad=>rfl
def BV{c}{b}{n k}{Z}{s}(h:m7 c b n Z s≠.bad):m7 c b (n+k) Z s=m7 c b n Z s:=by
 induction k with
 |zero=>rfl
 |succ k ih=>rw[<-kI,uw (by rw[ih];exact h),ih]
def xD{c}{b}{n}{Z}{s}{o}(h:m7 c b n Z s=o)(ho:o≠.bad):ua c b Z s=o.Ê:=by
 have hx:∃n,m7 c b n Z s≠.bad:=⟨n,by rw[h];exact ho⟩;unfold ua;have h1:=BV (k:=n) hx.choose_spec;have h2:=BV (k:=hx.choose) (show m7 c b n Z s≠.bad by rw[h];exact ho);rw[Nat.add_comm] at h2
 simp_all
end
noncomputable def n9(c:XT)(e:XE)(cap:En):List PV->N'->Out (List PV)
 |[],s=>.ok [] s
 |q::l,s=>match c (Za q::cap) s with
  |.ok true s1=>match e (Za q::cap) s1 with
   |.ok v s2=>match n9 c e cap l s2 with
    |.ok vs s3=>.ok (v::vs) s3
    |_=>.bad
   |_=>.bad
  |.ok false s1=>n9 c e cap l s1
  |_=>.bad
def oU:n9 c e cap (q::l) s=match c (Za q::cap) s with
  |.ok true s1=>match e (Za q::cap) s1 with
   |.ok v s2=>match n9 c e cap l s2 with
    |.ok vs s3=>.ok (v::vs) s3
    |_=>.bad
   |_=>.bad
  |.ok false s1=>n9 c e cap l s1
  |_=>.bad:=rfl
theorem vk:∀{l:List PV}{s s':N'}{k:Xc},n9 c e cap l s≠.ex k s'
 |[],_,_,_,h=>by cases h
 |q::l,s,s',k,h=>by
  unfold n9 at h;split at h
  .split at h
   .split at h<;>cases h
   .cases h
  .exact vk h
  .cases h
def nI(_:En)(s:N'):Out Bool:=.ok true s
def o9(fi:XA)(ix:List Nat)(c:XT)(e:XE)(Z:En)(s:N'):Out PV:=(fi Z s).bind λl s1=>if l.length<=100000 then(n9 c e (nM ix Z) l s1).bind λvs s2=>.ok (.lst vs) s2 else .bad
structure Ŀ(X:Cx)(CB:ag)(Rt:List a7)(t:XT):Prop where
 ř:Gk X Rt (ż X.K CB E0 t)
section
variable{X:Cx}{CB:ag}{E:XK}{a b c e Rx iter:a7}{Rt:List a7}{f h:XE}{fi:XA}{t:XT}{p px pos:Pos}{x:Str}{u v:XS}{scope:di}{fr:List Str}{ix:List Nat}
def rG:Ŀ X CB [] nI:=⟨λQ9 s O H Q I ⟨Z,s',m,er,S,P⟩=>At Q9 s O H Q I (P.here S rfl)⟩
def AB(h:DT X CB E0 c t):Ŀ X CB [c] t:=⟨JT h.pt⟩
def Mp.hide(m:Mp)(d:ag):Mp:=⟨m.ad,m.fp,d::m.YN⟩
def Mp.bare(m:Mp)(l:List ag):Mp:=⟨m.ad,m.fp,l⟩
theorem Ext0.hide(hd:H d=Zb):Ext0 H m s (upd H d o) (m.hide d) s :=
 ⟨⟨ak _,λ_ _=>rfl,λa u h p=>⟨h.same (My.sS hd),λz=>(ao.mp z).elim (h.ne hd) p.1,p.2⟩,λa u h _ _=>My.sS hd _ _ h⟩,λj l _ h=>⟨h,λo ho=>My.sS hd _ _ ho⟩⟩
theorem SR.hide{K}{H}{m}{s}{d}{xs}(S:SR K CB H m s)(hd:H d=Zb):SR K CB (upd H d (.lst xs)) (m.hide d) s:=by
 have k:=My.sS (o:=.lst xs) hd;have S1:=S.same k;have e0:Ext0 H m s (upd H d (.lst xs)) (m.hide d) s:=Ext0.hide hd;have RB:∀n∈s.cs.map (·.1),∀a∈m.fp n,a≠d:=λn hn a ha z=>by
  obtain⟨q,hq,rfl⟩:=aq.mp hn;obtain⟨o,e,_⟩:=(S.ok q hq).kind ha
  grind
 refine⟨S.nd,S.lt,λq hq=>?_,S.dj,λn hn a ha hb=>(ao.mp hb).elim (RB n hn a ha) (S.hx n hn a ha),λa ha=>?_,λP q t=>⟨ah _ (S1.tb P q t).1,(S1.tb P q t).2⟩⟩
 .have:=S.ok q hq;cases c:q.2 with
  |lst l=>rw[c] at this;obtain⟨a1,vs,a2,a3⟩:=this;exact⟨a1,vs,k _ _ a2,a3.Yk e0.toExtR⟩
  |Yl l=>rw[c] at this;obtain⟨a1,vs,a2,a3⟩:=this;exact⟨a1,vs,k _ _ a2,a3.Yk e0.toExtR⟩
  |YR l=>rw[c] at this;obtain⟨a1,ob,vs,a2,a3⟩:=this;exact⟨a1,ob,vs,k _ _ a2,a3.Yk e0.toExtR⟩
  |obj C fs=>rw[c] at this;obtain⟨a1,dx,vs,a2,a3,a4⟩:=this;exact⟨a1,dx,vs,k _ _ a2,a3,a4.Yk e0.toExtR⟩
  |Z7 l=>rw[c] at this;obtain⟨a1,vs,a2,a3,a4⟩:=this;exact⟨a1,vs,k _ _ a2,a3,a4.Yk e0.toExtR⟩
  |book pp L =>
   have:=S1.ok q hq;rw[c] at this;exact this
 .obtain rfl|ha:=ao.mp ha
  .rw[mw];exact⟨by simp,λ_ _=>⟨by simp,by simp,by simp,by simp⟩⟩
  .exact S1.hs a ha
def Ext0.Ř{K}{H}{m}{s}{d}{o u0}(S:SR K CB H m s)(hd:d∈m.YN)(hu:H d=Za u0)(SW:¬Ϣ u0):Ext0 H m s (upd H d o) m s:=by
 have ne:∀a,ù m s a->a≠d:=λa p z=>p.1 (z▸hd);refine⟨⟨ak _,λ_ _=>rfl,λa u h p=>⟨?_,p⟩,λa u h _ p=>by rw[mq (ne a p)];exact h⟩,λj l _ h=>⟨h,λo ho=>?_⟩⟩
 rotate_left
 .obtain⟨e1,_⟩:=S.ok _ (oa h);rw[mq (λz=>S.hx j (aq.mpr ⟨_,oa h,rfl⟩) (m.ad j) (by rw[e1];simp) (by rw[z];exact hd))];exact ho
 exact h.elim (λh=>.inl (by rw[mq (ne a p)];exact h)) λ⟨o,h⟩=>.inr ⟨o,by rw[mq (ne a p)];exact h⟩
theorem SR.Ř{K}{H}{m}{s}{d}{xs ys}(S:SR K CB H m s)(hd:d∈m.YN)(hl:H d=Za (.lst xs)):SR K CB (upd H d (.lst ys)) m s:=by
 have e0:Ext0 H m s (upd H d (.lst ys)) m s:=Ext0.Ř S hd hl Bp;have nt:∀t us,Zz K H t us->Zz K (upd H d (.lst ys)) t us:=λt us h=>by
  obtain h|h:=h
  .refine .inl (e0.pu _ _ h ?_).1;exact h.elim (λh=>S.YZ h) λ⟨_,h⟩=>S.ă (.inl h)
  .exact .inr h
 refine⟨S.nd,S.lt,λq hq=>?_,S.dj,S.hx,λa ha=>?_,S.tbk (.upd hl Bp)⟩
 .have hn:q.1∈s.cs.map (·.1):=aq.mpr ⟨q,hq,rfl⟩;have kp:∀a∈m.fp q.1,∀o,H a=Za o->upd H d (.lst ys) a=Za o:=λa ha o h=>by rw[mq (λz=>S.hx _ hn a ha (by rw[z];exact hd))];exact h
  have:=S.ok q hq;cases c:q.2 with
  |lst l=>rw[c] at this;obtain⟨a1,vs,a2,a3⟩:=this;exact⟨a1,vs,kp _ (by rw[a1];simp) _ a2,a3.Yk e0.toExtR⟩
  |Yl l=>rw[c] at this;obtain⟨a1,vs,a2,a3⟩:=this;exact⟨a1,vs,kp _ (by rw[a1];simp) _ a2,a3.Yk e0.toExtR⟩
  |YR l=>rw[c] at this;obtain⟨a1,ob,vs,a2,a3⟩:=this;exact⟨a1,ob,vs,kp _ (by rw[a1];simp) _ a2,a3.Yk e0.toExtR⟩
  |obj C fs=>rw[c] at this;obtain⟨a1,dx,vs,a2,a3,a4⟩:=this;exact⟨a1,dx,vs,kp _ (by rw[a1];simp) _ a2,a3,a4.Yk e0.toExtR⟩
  |Z7 l=>rw[c] at this;obtain⟨a1,vs,a2,a3,a4⟩:=this;exact⟨a1,vs,kp _ (by rw[a1];simp) _ a2,a3,a4.Yk e0.toExtR⟩
  |book pp L =>
   rw[c] at this;obtain⟨z,L',B,e1,e2⟩:=this;rw[e2] at kp;have kb:=kp;refine⟨z,L',⟨kb _ (by simp[My.ZS]) _ B.ob,kb _ (by simp[My.ZS]) _ B.pp,kb _ (by simp[My.ZS]) _ B.tt,kb _ (by simp[My.ZS]) _ B.mm,kb _ (by simp[My.ZS]) _ B.ll,B.hh.keep (λo h=>kb _ (by simp[My.ZS]) _ h),λq' R6=>?_,B.nd,B.p6,B.h8⟩,e1,e2⟩;obtain⟨ts,h1,h2,h3⟩:=B.he q' R6;refine⟨ts,h1,kb _ ?_ _ h2,λy hy=>nt _ _ (h3 y hy)⟩;unfold My.ZS
   grind
 .by_cases e:a=d
  .subst e;rw[mw];exact⟨by simp,λ_ _=>⟨by simp,by simp,by simp,by simp⟩⟩
  .rw[mq e];exact S.hs a ha
def Ext0.show(hm:m.YN=d::l):Ext0 H m s H (m.bare l) s :=
 ⟨⟨ak _,λ_ _=>rfl,λa u h p=>⟨h,λz=>p.1 (by rw[hm];exact ah _ z),p.2⟩,λa u h _ _=>h⟩,λj l _ h=>⟨h,λo h=>h⟩⟩
theorem SR.show{K}{H}{m}{s}{d}{l}{u0}(S:SR K CB H m s)(hm:m.YN=d::l)(hu:H d=Za u0)(SW:¬Ϣ u0):SR K CB H (m.bare l) s:=by
 have e0:Ext0 H m s H (m.bare l) s:=Ext0.show hm;refine⟨S.nd,S.lt,λq hq=>?_,S.dj,λn hn a ha hb=>S.hx n hn a ha (by rw[hm];exact ah _ hb),λa ha=>S.hs a (by rw[hm];exact ah _ ha),λP q t=>⟨?_,(S.tb P q t).2⟩⟩
 rotate_left
 .obtain⟨h1,ps,h2,_⟩:=S.tb P q t;rw[hm] at h1;obtain z|z:=ao.mp h1
  .rw[z,hu] at h2;cases h2;exact absurd (.inl ⟨_,rfl⟩) SW
  .exact z
 have:=S.ok q hq;cases c:q.2 with
 |lst l=>rw[c] at this;obtain⟨a1,vs,a2,a3⟩:=this;exact⟨a1,vs,a2,a3.Yk e0.toExtR⟩
 |Yl l=>rw[c] at this;obtain⟨a1,vs,a2,a3⟩:=this;exact⟨a1,vs,a2,a3.Yk e0.toExtR⟩
 |YR l=>rw[c] at this;obtain⟨a1,ob,vs,a2,a3⟩:=this;exact⟨a1,ob,vs,a2,a3.Yk e0.toExtR⟩
 |obj C fs=>rw[c] at this;obtain⟨a1,dx,vs,a2,a3,a4⟩:=this;exact⟨a1,dx,vs,a2,a3,a4.Yk e0.toExtR⟩
 |Z7 l=>rw[c] at this;obtain⟨a1,vs,a2,a3,a4⟩:=this;exact⟨a1,vs,a2,a3,a4.Yk e0.toExtR⟩
 |book pp L=>rw[c] at this;exact this
theorem ER.Yk{K}{H H'}{m m'}{s s'}{O}{Z}(h:ER K H m s O Z)(e:ExtR H m s H' m' s'):ER K H' m' s' O Z :=
 ⟨h.len,λi p q=>let⟨u,a,b⟩:=h.at_ i p q;⟨u,a,b.Yk e⟩⟩
structure ğ(K:aa)(CB:ag)(D:ag)(H1:Hp)(m1:Mp)(s1:N')(cap:St)(Z:En)(ys:List V)(done:List PV)(H2:Hp)(m2:Mp)(s2:N'):Prop where
 YN:m2.YN=D::m1.YN
 at_:H2 D=Za (.lst ys)
 sr:SR K CB H2 m2 s2
 er:ER K H2 m2 s2 cap Z
 rs:X7 K H2 m2 s2 ys done
 ex:Ext H1 m1 s1 H2 (m2.bare m1.YN) s2
 e0:Ext0 H1 m1 s1 H2 m2 s2
def ğ.start{K}{D}{H1}{m1}{s1}{cap}{Z}(S:SR K CB H1 m1 s1)(er:ER K H1 m1 s1 cap Z)(hD:H1 D=Zb):ğ K CB D H1 m1 s1 cap Z [] [] (upd H1 D (.lst [])) (m1.hide D) s1 :=
 ⟨rfl,mw,S.hide hD,er.Yk (Ext0.hide hD).toExtR,.nil,Ext.same (My.sS hD),Ext0.hide hD⟩
def Ext.into{K}{D}{H1 H2 H5}{m1 m2 m5}{s1 s2 s5}(YN:m2.YN=D::m1.YN)(S2:SR K CB H2 m2 s2)(hD:H1 D=Zb)(a:Ext H1 m1 s1 H2 (m2.bare m1.YN) s2)(b:Ext H2 m2 s2 H5 m5 s5):Ext H1 m1 s1 H5 (m5.bare m1.YN) s5:=by
 have pr:∀c u,Rd H1 c u->ù m1 s1 c->Rd H2 c u/\ù m2 s2 c:=λc u h p=>by obtain⟨h1,p1⟩:=a.pu c u h p;refine⟨h1,λz=>?_,p1.2⟩;rw[YN] at z;exact(ao.mp z).elim (h.ne hD) p.1
 refine⟨⟨⟨aJ a.nx b.nx,λn h=>(b.ad n (az h a.nx)).trans (a.ad n h),λc u h p=>?_,λc u h n p=>?_⟩,λj l hj h=>?_⟩,rfl,λc hc o h n=>?_⟩
 .obtain⟨h1,p1⟩:=pr c u h p;obtain⟨h2,p2⟩:=b.pu c u h1 p1;exact⟨h2,p.1,p2.2⟩
 .obtain⟨_,p1⟩:=pr c _ (.inl h) p;exact b.el c u (a.el c u h n p) n p1
 .obtain⟨h1,k1⟩:=a.df j l hj h;obtain⟨h2,k2⟩:=b.df j l (az hj a.nx) h1;have e:m2.ad j=m1.ad j:=a.ad j hj
  simp_all
 .exact b.hk c (by grind) o (a.hk c hc o h n) n
def ğ.step{K}{D}{H1 H2 H5}{m1 m2 m5}{s1 s2 s5}{cap}{Z}{ys}{done}(C:ğ K CB D H1 m1 s1 cap Z ys done H2 m2 s2)(hD:H1 D=Zb)(b:Ext H2 m2 s2 H5 m5 s5)(S5:SR K CB H5 m5 s5):ğ K CB D H1 m1 s1 cap Z ys done H5 m5 s5 :=
 ⟨b.hd.trans C.YN,b.hk D (by rw[C.YN];exact al) _ C.at_ (by grind),S5,C.er.ext b,C.rs.ext b,Ext.into C.YN C.sr hD C.ex b,C.e0.trans b.toExt0⟩
def ğ.push{K}{D}{H1 H2}{m1 m2}{s1 s2}{cap}{Z}{ys}{done}{v}{q}(C:ğ K CB D H1 m1 s1 cap Z ys done H2 m2 s2)(hD:H1 D=Zb)(r:Rep K H2 m2 s2 v q):ğ K CB D H1 m1 s1 cap Z (ys++[v]) (done++[q]) (upd H2 D (.lst (ys++[v]))) m2 s2:=by
 have hm:D∈m2.YN:=by rw[C.YN];exact al
 have e0:Ext0 H2 m2 s2 (upd H2 D (.lst (ys++[v]))) m2 s2:=Ext0.Ř C.sr hm C.at_ Bp;refine⟨C.YN,mw,C.sr.Ř hm C.at_,C.er.Yk e0.toExtR,(C.rs.append (.cons r .nil)).Yk e0.toExtR,⟨⟨⟨C.ex.nx,C.ex.ad,λc u h p=>?_,λc u h n p=>?_⟩,λj l hj h=>⟨(C.ex.df j l hj h).1,λo ho=>?_⟩⟩,rfl,λc hc o h n=>?_⟩,C.e0.trans e0⟩
 .obtain⟨h1,p1⟩:=C.ex.pu c u h p;have ne:=h.ne hD;exact⟨h1.elim (λh=>.inl (by rw[mq ne];exact h)) λ⟨o,h⟩=>.inr ⟨o,by rw[mq ne];exact h⟩,p1⟩
 .rw[mq (mH h hD)];exact C.ex.el c u h n p
 .rw[mq (mH ho hD)];exact(C.ex.df j l hj h).2 o ho
 .rw[mq (mH h hD)];exact C.ex.hk c hc o h n
theorem ğ.done{K}{D}{H1 H2}{m1 m2}{s1 s2}{cap}{Z}{ys}{done}(C:ğ K CB D H1 m1 s1 cap Z ys done H2 m2 s2):SR K CB H2 (m2.bare m1.YN) s2/\(D∉m1.YN->Rep K H2 (m2.bare m1.YN) s2 (.ref D) (.lst done)):=by refine⟨C.sr.show C.YN C.at_ Bp,λhn=>.lst C.at_ ⟨hn,λn hh z=>C.sr.hx n hh D z (by rw[C.YN];exact al)⟩ (C.rs.Yk (Ext0.show C.YN).toExtR)⟩
def AC{O}{H1}{m1}{s1}{Z}{J:It}{l}{D}{Q}{t}(S1:SR X.K CB H1 m1 s1)(er:ER X.K H1 m1 s1 O Z)(it:ql X.K CB J l H1 m1 s1)(hD:H1 D=Zb)(Re:l.length<=100000)(P:Yo X.K CB (Rep X.K) E ((n9 t f (nM ix Z) l s1).bind λvs s2=>.ok (.lst vs) s2) H1 m1 s1 Q):ď J (ż X.K CB E0 t) (ō X.K CB E0 f) (Zo ix O) D H1 Q:=by
 refine⟨λi k ys H2=>∃done m2 s2,ğ X.K CB D H1 m1 s1 (Zo ix O) (nM ix Z) ys done H2 m2 s2/\i<=l.length/\ys.length<=i/\k=l.length-i/\(n9 t f (nM ix Z) l s1).bind (λvs s2=>.ok (PV.lst vs) s2)=(n9 t f (nM ix Z) (l.drop i) s2).bind λvs s2=>.ok (.lst (done++vs)) s2,⟨l.length,[],m1.hide D,s1,ğ.start S1 (er.Zo ix) hD,aY _,aY _,rfl,?_⟩,?_⟩
 .simp
 rintro i k ys H2 ⟨done,m2,s2,C,hi,hy,rfl,eq⟩
 obtain⟨Uf,Tu⟩:=it i H2 m2 s2 C.e0 C.sr;by_cases Rr:i<l.length
 .right;have hq:=aA Rr;obtain⟨go,yl⟩:=Uf _ hq;refine⟨go,λx H3 Vg=>?_⟩;obtain⟨e3,S3,r3⟩:=yl x H3 Vg;have C3:=C.step hD e3 S3;rw[eI Rr] at eq;rw[eq] at P;rw[oU] at P eq;refine⟨Za l[i]::nM ix Z,s2,m2,C3.er.cons r3,S3,?_⟩;cases ct:t (Za l[i]::nM ix Z) s2 with
  |bad=>rw[ct] at P;exact P.elim
  |ex c3 s3=>rw[ct] at P;exact P.elim
  |ok bt s3 =>
   rw[ct] at P eq
   rintro b4 H4 m4 e4 S4 rfl
   have C4:=C3.step hD e4 S4;cases b4 with
   |false =>
    exact NK ⟨l.length-(i+1),by omega,done,m4,s3,C4,Rr,by omega,rfl,eq⟩
   |true =>
    refine NJ ⟨Za l[i]::nM ix Z,s3,m4,C4.er.cons (r3.ext e4),S4,?_⟩;dsimp only at P eq;cases cf:f (Za l[i]::nM ix Z) s3 with
    |bad=>rw[cf] at P;exact P.elim
    |ex c5 s5=>rw[cf] at P;exact P.elim
    |ok v s5 =>
     rw[cf] at eq;intro w H5 m5 e5 S5 r5;have C5:=C4.step hD e5 S5;refine⟨C5.at_,aX (aJ hy (aJ hi Re)) (Zf rfl),l.length-(i+1),by omega,done++[v],m5,s5,C5.push hD r5,Rr,by simp;omega,rfl,?_⟩;rw[eq];dsimp only;cases hh:n9 t f (nM ix Z) (l.drop (i+1)) s5 with
     |ok vs s6=>simp[Out.bind]
     |ex c6 s6=>exact absurd hh vk
     |bad=>rfl
 .left;have Sh:=fS Rr;rw[ft Sh] at eq;rw[eq] at P;obtain⟨VX,rd⟩:=C.done;refine⟨Tu Sh,C.at_,P (.ref D) H2 (m2.bare m1.YN) C.ex VX ?_⟩;rw[bW];exact rd λz=>(S1.hs D z).1 hD
def z8{t}(q:ō X.K CB E (o9 fi ix t f) O H Q):Jh (Ž X.K CB E fi) ix (ż X.K CB E0 t) (ō X.K CB E0 f) O H Q:=by
 obtain⟨Z,s,m,er,S,P⟩:=q;refine⟨Z,s,m,er,S,?_⟩;unfold o9 at P;cases c:fi Z s with
 |bad=>rw[c] at P;exact P
 |ex c' s'=>rw[c] at P;exact P
 |ok l s1 =>
  rw[c] at P;dsimp only[Out.bind] at P;split at P
  .rename_i Re;exact λJ H1 m1 e1 S1 it D hD=>AC S1 (er.ext e1) it hD Re (Yo.shift e1 P)
  .exact P.elim
def qL(hi:DI X CB E (.Name x px) iter fi)(he:∀cl C Rg Rh fp,DE (Õ X scope cl C (x::fr) Rg Rh fp) CB E0 Rx f)(ht:∀cl C Rg Rh fp,Ŀ (Õ X scope cl C (x::fr) Rg Rh fp) CB Rt t:=by exact λ_ _ _ _ _=>rG)(hc:X.calm=true:=by rfl)(S:Y8 X.N X.env.scope scope x fr ix:=by exact Op ‹K' _ _ _›)(hs:∀v,bI iter X.env v=pure v:=by intro _;rfl):DE X CB E (.ListComp Rx [⟨.Name x px,iter,Rt,0⟩] scope pos) (o9 fi ix t f) :=
 ⟨(zB hc S hi.pi (λcl C Rg Rh fp=>(ht cl C Rg Rh fp).ř) (λcl C Rg Rh fp=>(he cl C Rg Rh fp).pe) hs).mono λO H Q q=>z8 q⟩
def wa(hi:DI X CB E (.Name x px) iter fi)(he:∀cl C Rg Rh fp,DE (Õ X scope cl C (x::fr) Rg Rh fp) CB E0 Rx f)(ht:∀cl C Rg Rh fp,Ŀ (Õ X scope cl C (x::fr) Rg Rh fp) CB Rt t:=by exact λ_ _ _ _ _=>rG)(hN:X.N.Nodup:=by exact ‹K' _ _ _›.nd)(TD:X.N[i]?=Za y:=by rfl)(Tf:X.env.scope.names.lookup y=Za .local:=by rfl)(hc:X.calm=true:=by rfl)(S:Y8 X.N X.env.scope scope x fr ix:=by exact Op ‹K' _ _ _›)(Td:cN (.ListComp Rx [⟨.Name x px,iter,Rt,0⟩] scope pos) (Za (.Name y py)) RU.line X.env=pure true:=by rfl)(hs:∀v,bI iter X.env v=pure v:=by intro _;rfl):DS X CB E (.Assign [.Name y py] (.ListComp Rx [⟨.Name x px,iter,Rt,0⟩] scope pos) RU) (Yd i (o9 fi ix t f)) :=
 ⟨(vW hN TD Tf hc S hi.pi (λcl C Rg Rh fp=>(ht cl C Rg Rh fp).ř) (λcl C Rg Rh fp=>(he cl C Rg Rh fp).pe) Td hs).mono λD O H=>oE λZ s m er S P =>
  z8 ⟨Z,s,m,er,S,Yo.so P λv s1 u H1 m1 e1 S1 r1 P1=>P1.next S1 ((er.ext e1).set i r1)⟩⟩
end
abbrev XF:=List PV->N'->Out PV
def YX(K:aa)(CB:ag)(n:Nat)(D:XF):Sp:=λvs H Q E=>vs.length=n/\∃ps s m,X7 K H m s vs ps/\SR K CB H m s/\Yo K CB (Rep K) E (D ps s) H m s Q
def V'(n:Nat)(D:XF)(fa:XA)(Z:En)(s:N'):Out PV:=(fa Z s).bind λvs s1=>if vs.length=n then D vs s1 else .bad
noncomputable def ZG(N:Nat)(g:XS)(vs:List PV)(s:N'):Out PV:=match g (vs.map Za++aQ (N-vs.length) Zb) s with
 |.nx _ s'=>.ok .Yh s'
 |.rt v s'=>.ok v s'
 |.ex c s'=>.ex c s'
 |_=>.bad
section
variable{X:Cx}{CB:ag}{E:XK}{a b c e tg:a7}{es:List a7}{f h:XE}{fa:XA}{p py pos Rc:Pos}{x y:Str}{st:bK}{Ss:List bK}{u v:XS}{scope:di}{ix:List Nat}{n k:Nat}{D:XF}{ps:List Str}
def mX(F:Fn X.prog X.w X.K X.mg X.base x k ps (YX X.K CB n D))(ha:DA X CB E (e::es) fa)(hr:Yp jr X.A:=by assumption)(hk:k<=jr:=by first|decide|lia)(hg:Gl X x:=by rfl)(hx:oK (YW X.prog X.w) X E:=by first|exact pH|exact rW)(RM:Î x:=by decide)(he:Č X e es:=by rfl)(Rq:(bM pos (ar es X.env)).any (·.1)=false:=by rfl):DE X CB E (.Call (.Name x p) (e::es) [] pos) (V' n D fa) :=
 ⟨(wR F (hr.mono hk) hg hx ha.pa RM he Rq).mono λO H Q=>oE λZ s m er S P=>⟨Z,s,m,er,S,P.bind λv s1 u H1 m1 e1 S1 r1 P1=>by
  split at P1
  .rename_i hl;rw[bW];exact⟨by rw[r1.length];exact hl,v,s1,m1,r1,S1,P1⟩
  .exact P1.elim⟩⟩
def ý(n:Nat)(D:XF)(f:XE)(fa:XA)(Z:En)(s:N'):Out PV:=(f Z s).bind λo s1=>match o with
 |.ref k=>match s1.get k with
  |some (.book _ _)=>(fa Z s1).bind λvs s2=>if vs.length+1=n then D (.ref k::vs) s2 else .bad
  |_=>.bad
 |_=>.bad
def Eb(ho:DE X CB E a f)(M:Mt X.prog X.w X.K X.mg X.base CB m k ps (YX X.K CB n D))(ha:DA X CB E (e::es) fa)(SW:∀z,(My.bf z).lookup m=none:=by exact λz=>My.um z)(hr:Yp jr X.A:=by assumption)(hk:k<=jr:=by first|decide|lia)(hx:oK (YW X.prog X.w) X E:=by first|exact pH|exact rW)(RW:Č X e es:=by rfl)(Rq:(bM pos (ar es X.env)).any (·.1)=false:=by rfl)(ht:eval (.Call (.Attribute a m Rc) (e::es) [] pos) X.env=(do
   let ov <-eval a X.env
   fL Rc.atName
   let(f,first) <-holding [ov] (fE ov m pl)
   ip pos f first (bM pos (ar (e::es) X.env)) (ed pos (cI [] X.env))):=by rfl):DE X CB E (.Call (.Attribute a m Rc) (e::es) [] pos) (ý n D f fa) :=
 ⟨(tV ho.pe M (hr.mono hk) hx ha.pa RW Rq ht).mono λO H Q=>oE λZ s m er S P=>⟨Z,s,m,er,S,P.bind λv s1 u H1 m1 e1 S1 r1 P1=>by
  split at P1
  .split at P1
   .rename_i hg;obtain⟨z,L',B,_,_⟩:=S1.get hg;cases r1 with
    |ref hn =>
    refine⟨_,_,_,rfl,B.ob,SW z,Z,s1,m1,er.ext e1,S1,P1.bind λvs s2 us H2 m2 e2 S2 r2 P2=>?_⟩;split at P2
    .rename_i hl;rw[bW];refine⟨by rw[bw,r2.length];exact hl,_,s2,m2,.cons ?_ r2,S2,P2⟩;exact(Rep.ref hn).ext e2
    .exact P2.elim
   .exact P1.elim
  .exact P1.elim⟩⟩
def wF(ho:DE X CB E a f)(M:Mt X.prog X.w X.K X.mg X.base CB m k ps (YX X.K CB n D))(SW:∀z,(My.bf z).lookup m=none:=by exact λz=>My.um z)(hr:Yp jr X.A:=by assumption)(hk:k<=jr:=by first|decide|lia)(hx:oK (YW X.prog X.w) X E:=by first|exact pH|exact rW)(ht:eval (.Call (.Attribute a m Rc) [] [] pos) X.env=(do
   let ov <-eval a X.env
   fL Rc.atName
   let(f,first) <-holding [ov] (fE ov m pl)
   ip pos f first (bM pos (ar [] X.env)) (ed pos (cI [] X.env))):=by rfl):DE X CB E (.Call (.Attribute a m Rc) [] [] pos) (ý n D f J') :=
 ⟨(PM ho.pe M (hr.mono hk) hx ht).mono λO H Q=>oE λZ s m er S P=>⟨Z,s,m,er,S,P.bind λv s1 u H1 m1 e1 S1 r1 P1=>by
  split at P1
  .split at P1
   .rename_i hg;obtain⟨z,L',B,_,_⟩:=S1.get hg;cases r1 with
    |ref hn =>
    refine⟨_,_,_,rfl,B.ob,SW z,?_⟩;simp only[J',Out.bind] at P1;split at P1
    .rename_i hl;exact⟨hl,_,s1,m1,.cons (.ref hn) .nil,S1,P1⟩
    .exact P1.elim
   .exact P1.elim
  .exact P1.elim⟩⟩
def ϐ(_:En)(s:N'):Out PV:=.ok (.ref s.nx) (s.add (.book [] []))
def Ld(K:aa)(C:ag):Sp:=λvs H Q _=>∃(p dx:ag),vs=[.ref p]/\H p=Za (.ins C dx [])/\∀z H',(∀c∈[z.dp,z.dt,z.dm,z.dl,z.dh],H c=Zb)->My.Yn K C H' p z [] []->(∀c o,H c=Za o->c≠p->H' c=Za o)->Q .Yh H'
def Oj(M:MkB X.prog X.w X.K X.mg X.base x CB k ps (Ld X.K CB))(hr:Yp jr X.A:=by assumption)(hk:k+1<=jr:=by first|decide|lia)(hg:Gl X x:=by rfl)(hx:oK (YW X.prog X.w) X E:=by first|exact pH|exact rW)(RM:Î x:=by decide):DE X CB E (.Call (.Name x p) [] [] pos) ϐ :=
 ⟨(PN M (hr.mono hk) hg hx RM).mono λO H Q=>oE λZ s m er S P b dx hb Xt RB=>by
  refine⟨b,dx,rfl,mw,λz H' hz B kp=>⟨rfl,?_⟩⟩;have hk:YH H H':=λc o h=>by have h1:=mH h hb;have h2:=mH h Xt;exact kp c o (by rw[mq h1,mq h2];exact h) h1
  have hzn:=λc hc=>by
   have h:=hz c hc;have n1:c≠b:=λe=>by rw[e,mw] at h;grind
   have n2:c≠dx:=λe=>by rw[mq n1,e,mw] at h;grind
   rw[mq n1,mq n2] at h;exact h
  obtain⟨S2,e2⟩:=S.add (c:=.book [] []) H' b (My.ZS b z []) hk (λa ha=>by
   obtain rfl|ha:=ao.mp ha
   .exact hb
   .exact hzn a (by simpa using ha)) λex=>by
    refine⟨z,[],?_,rfl,?_⟩
    .rw[Mp.í];exact B
    .rw[Mp.í];show(if s.nx=s.nx then _ else _)=_;rw[Zc rfl]
  exact P _ _ _ e2 S2 .new⟩
def og{P}{w}{K}{mg}{base}{qual}{fa}{fd}{N}(F:Z' K x qual st fa fd)(S:K' N ps (mC st))(hps:ps.length=n)(hb:∀(Rk:ae)(A:bX)(outer:List Env)(s:au)(H:Hp)(E:XK),Yp k (A.deeper (dZ qual (mC st) s.heap.objs.size fa Rk))->K' N ps (mC st)->ϥ (DB (YW P w) P w K mg base N qual (mC st) fa Rk A outer s H E) CB E (ou st) u) :
  Yt P w K mg base (YW P w) (k+1) fa fd ps (YX K CB n (ZG N.length u)):=by
 refine F.Ϫ S (λvs H Q E h=>by rw[hps];exact h.1) (λRk A outer s H vs Q E hr h=>?_);obtain⟨hl,Ue,s',m,r,S',P'⟩:=h;refine⟨_,(hb Rk A outer s H E hr S).pss,Ue.map Za++aQ (N.length-Ue.length) Zb,s',m,?_,S',?_⟩
 .unfold start;rw[r.length];exact ER.start r _
 .unfold ZG at P';cases cc:u (Ue.map Za++aQ (N.length-Ue.length) Zb) s' with
  |nx ò s1=>rw[cc] at P';exact λYy H' m' x S1 er=>P' .Yh H' m' x S1 .Yh
  |rt v1 s1=>rw[cc] at P';exact λu' H' m' x S1 r1=>P' u' H' m' x S1 r1
  |ex c1 s1=>rw[cc] at P';exact P'
  |bk=>rw[cc] at P';exact P'.elim
  |ct=>rw[cc] at P';exact P'.elim
  |bad=>rw[cc] at P';exact P'.elim
open Classical in
noncomputable def N'.only(s:N')(n:Nat):N':=⟨s.nx,s.cs.filter λq=>decide (q.1<n)⟩
def ÀD(f:XE)(Z:En)(s:N'):Out PV:=(f Z s).bind λv s1=>.ok v (s1.only s.nx)
def à(v:PV)(s:N'):Out PV:=match v with
 |.ref n=>match s.get n with
  |some (.lst l)=>.ok (.lst l) (s.del n)
  |some (.Yl l)=>.ok (.Yl l) (s.del n)
  |_=>.bad
 |_=>.bad
def ł(f:XE)(Z:En)(s:N'):Out PV:=(f Z s).bind à
def SR.YQ{K}{H}{m}{s s'}{x}{v w}(S:SR K CB H m s)(r:Rep K H m s x v)(e:à v s=.ok w s'):SR K CB H m s'/\Ext H m s H m s'/\Rep K H m s' x w:=by
 unfold à at e;split at e
 .rename_i n;have pu:∀c,s.get n=Za c->m.fp n=[m.ad n]->ù m (s.del n) (m.ad n):=λc hg e1=>by have RF:n∈s.cs.map (·.1):=aq.mpr ⟨_,oa hg,rfl⟩;refine⟨S.hx n RF _ (by rw[e1];simp),λj hj z=>?_⟩;obtain⟨q,hq,rfl⟩:=aq.mp hj;have RB:=HA S.nd hq;exact S.dj n RF q.1 (aq.mpr ⟨q,vj hq,rfl⟩) (λz=>RB z.symm) _ (by rw[e1];simp) z
  split at e
  .rename_i l hg;cases e;cases r;obtain⟨e1,vs,h1,h2⟩:=S.get hg;have Z8:∀l,s.get n≠Za (.YR l):=λl z=>by grind
   exact⟨(S.del n Z8).1,(S.del n Z8).2,.lst h1 (pu _ hg e1) (h2.ext (S.del n Z8).2)⟩
  .rename_i l hg;cases e;cases r;obtain⟨e1,vs,h1,h2⟩:=S.get hg;have Z8:∀l,s.get n≠Za (.YR l):=λl z=>by grind
   exact⟨(S.del n Z8).1,(S.del n Z8).2,.Yl (.inl h1) (pu _ hg e1) (h2.ext (S.del n Z8).2)⟩
  .cases e
 .cases e
def LP(h:DE X CB E e f):DE X CB E e (ł f):=⟨h.pe.mono λO H Q=>oE λZ s m er S P=>⟨Z,s,m,er,S,P.bind λv s1 u H1 m1 e1 S1 r1 P1=>by
 cases cc:à v s1 with
 |ok w s2 =>
  rw[cc] at P1;obtain⟨S2,e2,r2⟩:=S1.YQ r1 cc;exact P1 u H1 m1 e2 S2 r2
 |ex c' s' =>
  unfold à at cc;split at cc
  .split at cc<;>cases cc
  .cases cc
 |bad=>rw[cc] at P1;exact P1.elim⟩⟩
def M9(h:PE X e tt):PE X e (λO H Q=>∃d Tb,H d=Za (.dK Tb)/\tt O H (λv H'=>∃ob Ra,H' d=Za (.YQ ob (.dK Ra))/\Q v (upd H' d (.dK Ra)))):=by
 intro Q9 s O H Q I ⟨d,Tb,hd,q⟩;have n3:∀o v,X.Ha0 d≠Za (.YQ o v):=λo v z=>by rw[I.base.ZF d o v z] at hd;grind
 refine Yq (h Q9 s O H _ I q) λu s1=>e4 λv H1 I1 r1 ⟨ob,Ra,e1,q1⟩=>?_;exact⟨v,_,I1.ÿ e1 n3,r1,q1⟩
def ÀI(d:ag)(D:Ends):Ends:={ nx:=λO H'=>∃ob Ra,H' d=Za (.YQ ob (.dK Ra))/\D.nx O (upd H' d (.dK Ra)),rt:=λv H'=>∃ob Ra,H' d=Za (.YQ ob (.dK Ra))/\D.rt v (upd H' d (.dK Ra)),bk:=λO H'=>∃ob Ra,H' d=Za (.YQ ob (.dK Ra))/\D.bk O (upd H' d (.dK Ra)),ct:=λO H'=>∃ob Ra,H' d=Za (.YQ ob (.dK Ra))/\D.ct O (upd H' d (.dK Ra)) }
def G6(h:PS X st tt):PS X st (λD O H=>∃d Tb,H d=Za (.dK Tb)/\tt (ÀI d D) O H):=by
 intro Q9 s O H D I ⟨d,Tb,hd,q⟩;have n3:∀o v,X.Ha0 d≠Za (.YQ o v):=λo v z=>by rw[I.base.ZF d o v z] at hd;grind
 refine Yq (h Q9 s O H _ I q) λfl s1 h1=>?_;cases fl with
 |next=>obtain⟨ŕ,H1,I1,ob,Ra,e1,q1⟩:=h1;exact⟨ŕ,_,I1.ÿ e1 n3,q1⟩
 |brk=>obtain⟨ŕ,H1,I1,ob,Ra,e1,q1⟩:=h1;exact⟨ŕ,_,I1.ÿ e1 n3,q1⟩
 |cont=>obtain⟨ŕ,H1,I1,ob,Ra,e1,q1⟩:=h1;exact⟨ŕ,_,I1.ÿ e1 n3,q1⟩
 |ret u=>obtain⟨v,ŕ,H1,I1,r1,ob,Ra,e1,q1⟩:=h1;exact⟨v,ŕ,_,I1.ÿ e1 n3,r1,q1⟩
def SR.ö{K}{H}{m}{s}{n}{l}(S:SR K CB H m s)(hg:s.get n=Za (.Yl l)):∃vs,H (m.ad n)=Za (.dK vs)/\∀ob,∃m',m'.ad=m.ad/\SR K CB (upd H (m.ad n) (.YQ ob (.dK vs))) m' (s.set n (.YR l))/\Ext H m s (upd H (m.ad n) (.YQ ob (.dK vs))) m' (s.set n (.YR l))/\Ya K (upd H (m.ad n) (.YQ ob (.dK vs))) m' (s.set n (.YR l)) vs l:=by
 obtain⟨e1,vs,h1,r1⟩:=S.get hg;refine⟨vs,h1,λob=>⟨m.Zu n [m.ad n],rfl,?_⟩⟩;have:=S.put (c':=.YR l) hg (by grind) (upd H (m.ad n) (.YQ ob (.dK vs))) [m.ad n] (λa o h ha=>by rw[e1,ax] at ha;rw[mq ha];exact h) (λa ha=>.inl (by rw[e1];exact ha)) λex=>⟨by show(if n=n then [m.ad n] else m.fp n)=_;rw[Zc rfl];rfl,ob,vs,mw,r1.Yk ex⟩
 exact⟨this.1,this.2,r1.ext this.2⟩
theorem ExtR.trans(a:ExtR H m s H1 m1 s1)(b:ExtR H1 m1 s1 H2 m2 s2):ExtR H m s H2 m2 s2 :=
 ⟨aJ a.nx b.nx,λn h=>(b.ad n (az h a.nx)).trans (a.ad n h),λc u h p=>let⟨h1,p1⟩:=a.pu c u h p;b.pu c u h1 p1,λc x h n p=>b.el c x (a.el c x h n p) n (a.pu c _ (.inl h) p).2⟩
def SR.ŭ{K}{H H1}{m m1}{s s1}{n}{l}(h0:∀l,s.get n≠Za (.YR l))(hn:n<s.nx)(e:Ext H m s H1 m1 s1)(S:SR K CB H1 m1 s1)(hg:s1.get n=Za (.YR l)) :
  ∃ob vs,H1 (m.ad n)=Za (.YQ ob (.dK vs))/\∃m2,SR K CB (upd H1 (m.ad n) (.dK vs)) m2 (s1.set n (.Yl l))/\Ext H m s (upd H1 (m.ad n) (.dK vs)) m2 (s1.set n (.Yl l))/\ExtR H1 m1 s1 (upd H1 (m.ad n) (.dK vs)) m2 (s1.set n (.Yl l)):=by
 have ea:=e.ad n hn;have RF:n∈s1.cs.map (·.1):=aq.mpr ⟨_,oa hg,rfl⟩;obtain⟨e1,ob,vs,h1,r1⟩:=S.get hg;rw[ea] at e1 h1;refine⟨ob,vs,h1,m1.Zu n [m.ad n],?_⟩;obtain⟨S2,x2,_⟩:=S.ÀZ (c':=.Yl l) hg (upd H1 (m.ad n) (.dK vs)) [m.ad n] (λa o h ha=>by rw[e1,ax] at ha;rw[mq ha];exact h) (λa ha=>.inl (by rw[e1];exact ha)) λex=>⟨by show(if n=n then [m.ad n] else m1.fp n)=[m1.ad n];rw[Zc rfl,ea],vs,by show upd H1 (m.ad n) (.dK vs) (m1.ad n)=_;rw[ea];exact mw,r1.Yk ex⟩
 refine⟨S2,⟨⟨e.toExtR.trans x2,λj l' hj h=>?_⟩,e.hd,λa ha o h n0=>?_⟩,x2⟩
 .have Vu:j≠n:=λz=>h0 l' (by rw[<-z];exact h);obtain⟨g1,g2⟩:=e.df j l' hj h;refine⟨(rK Vu).trans g1,λo ho=>?_⟩;obtain⟨e3,_⟩:=S.ok _ (oa g1);have RB:m.ad j≠m.ad n:=λz=>S.dj j (aq.mpr ⟨_,oa g1,rfl⟩) n RF Vu (m1.ad j) (by rw[e3];simp) (by rw[e1,e.ad j hj,z];simp);rw[mq RB];exact g2 o ho
 .have ha':a∈m1.YN:=by rw[e.hd];exact ha
  have RB:a≠m.ad n:=λz=>S.hx n RF a (by rw[e1,z];simp) ha';rw[mq RB];exact e.hk a ha o h n0
def ſ(n:Nat)(s:N'):Option N':=match s.get n with
 |some (.YR l)=>Za (s.set n (.Yl l))
 |_=>Zb
def yF(j:Nat)(ix:List Nat)(c:XT)(e:XE)(Z:En)(s:N'):Out PV:=match Z[j]? with
 |some (Za (.ref n))=>match s.get n with
  |some (.Yl l)=>if l.length<=100000 then(n9 c e (nM ix Z) (l.map λkv=>wn kv.1) (s.set n (.YR l))).bind λvs s2=>match ſ n s2 with
    |some s3=>.ok (.lst vs) s3
    |none=>.bad
   else .bad
  |_=>.bad
 |_=>.bad
def zp{s:N'}{n:Nat}{c c':Cell}(h:s.get n=Za c):(s.set n c').get n=Za c':=by
 have:∀{l:List (Nat×Cell)},qA l n=Za c->qA (pM n c' l) n=Za c':=by
  intro l;induction l with
  |nil=>rintro⟨⟩
  |cons q r ih =>
   intro h;unfold pM;split
   .unfold qA;rw[Zc rfl]
   .rename_i hk;unfold qA at h ⊢
    simp_all
 exact this h
def Mn{K}{H1}{m1}{s1}{n}{ob}{vs}{l}(S1:SR K CB H1 m1 s1)(hg:s1.get n=Za (.YR l)){d}(ea:m1.ad n=d)(h1:H1 d=Za (.YQ ob (.dK vs)))(r:Ya K H1 m1 s1 vs l):ql K CB (Itd d ob vs) (l.map λkv=>wn kv.1) H1 m1 s1 :=
 Mm (λH m s ex S=>by have:=(ex.df n l (S1.ÁB hg) hg).2;rw[ea] at this;exact this _ h1) r
def SO.ÿ(n:Nat):SO->SO
 |.nx Z s=>match ſ n s with
  |some s'=>.nx Z s'
  |none=>.bad
 |.rt v s=>match ſ n s with
  |some s'=>.rt v s'
  |none=>.bad
 |_=>.bad
def Fq(j:Nat)(y:XG)(body:XS)(Z:En)(s:N'):SO:=match Z[j]? with
 |some (Za (.ref n))=>match s.get n with
  |some (.Yl l)=>(nZ (nr y body) (l.map λkv=>wn kv.1) Z (s.set n (.YR l))).ÿ n
  |_=>.bad
 |_=>.bad
def N2(j:Nat)(hg:DG X.ě CB tg yy)(hb:ϥ X.ě CB E0 Ss u)(hc:X.calm=true:=by rfl)(hN:X.N[j]?=Za y:=by rfl)(hv:Vis X.env.scope y:=by first|exact eB rfl|exact gM (eB rfl))(hs:∀x,bI (.Name y py) X.env x=pure x:=by intro _;rfl)(hd:Î y:=by decide)(R5:(y==("__classdict__":Str))=false:=by decide):DS X CB E (.For tg (.Name y py) Ss [] pos) (Fq j yy u) :=
 ⟨PS.ě ((G6 (Lj (X:=X.ě) gK hc (zy (DQ hN hv hd R5)) hg.pg hb.pss hs)).mono λD O H=>oE λZ s m er S P=>by
  unfold Fq at P;split at P
  .rename_i n ē;split at P
   .rename_i l hg;obtain⟨u0,hu,ru⟩:=er.at_ j _ ē;cases ru with
    |ref hn =>
    obtain⟨vs,h1,hf⟩:=S.ö hg;refine⟨m.ad n,vs,h1,_,hu,m.ad n,vs,rfl,.inl ⟨h1,λob=>?_⟩⟩;obtain⟨m1,ea,S1,e1,r1⟩:=hf ob;have Vx:(s.set n (.YR l)).get n=Za (.YR l):=zp hg;have VR:m1.ad n=m.ad n:=by rw[ea]
    have h0:∀l',s.get n≠Za (.YR l'):=λl' z=>by rw[hg] at z;cases z
    apply E9 S1 (er.ext e1) (Mn S1 Vx VR mw r1);cases cc:nZ (nr yy u) (l.map λkv=>wn kv.1) Z (s.set n (.YR l)) with
    |nx Ŗ s2 =>
     rw[cc] at P;intro Ė H2 m2 e2 S2 VQ;unfold SO.ÿ ſ at P;dsimp only at P;split at P
     .rename_i s3 h3;split at h3<;>cases h3
      rename_i l2 SK;obtain⟨S9,RI,q1,m3,S3,e3,x3⟩:=SR.ŭ h0 hn (e1.trans e2) S2 SK;exact⟨S9,RI,q1,P Ė _ m3 e3 S3 (VQ.Yk x3)⟩
     .exact P.elim
    |rt v2 s2 =>
     rw[cc] at P;intro u2 H2 m2 e2 S2 r2;unfold SO.ÿ ſ at P;dsimp only at P;split at P
     .rename_i s3 h3;split at h3<;>cases h3
      rename_i l2 SK;obtain⟨S9,RI,q1,m3,S3,e3,x3⟩:=SR.ŭ h0 hn (e1.trans e2) S2 SK;exact⟨S9,RI,q1,P u2 _ m3 e3 S3 (r2.Yk x3)⟩
     .exact P.elim
    |bk=>rw[cc] at P;exact P.elim
    |ct=>rw[cc] at P;exact P.elim
    |ex=>rw[cc] at P;exact P.elim
    |bad=>rw[cc] at P;exact P.elim
   .exact P.elim
  .exact P.elim)⟩
end
def ϫ(H:Hp)(d:ag):Hp:=λb=>if b=d then Zb else H b
def uh(h:a≠d):ϫ H d a=H a:=by unfold ϫ;rw[Zd h]
def Fb:ϫ H d d=none:=by unfold ϫ;grind
section
variable{X:Cx}{CB:ag}{E:XK}{a b c e:a7}{f g h:XE}{t:XT}{p px pos:Pos}{x:Str}{u v:XS}{n k:Nat}{ps:List Str}
def SR.ÁA{K}{H}{m}{s}{d}{xs}(S:SR K CB H m s)(hd:H d=Zb):SR K CB (upd H d (.dK xs)) (m.hide d) s:=by
 have k:=My.sS (o:=.dK xs) hd;have S1:=S.same k;have e0:Ext0 H m s (upd H d (.dK xs)) (m.hide d) s:=Ext0.hide hd;have RB:∀n∈s.cs.map (·.1),∀a∈m.fp n,a≠d:=λn hn a ha z=>by
  obtain⟨q,hq,rfl⟩:=aq.mp hn;obtain⟨o,e,_⟩:=(S.ok q hq).kind ha
  grind
 refine⟨S.nd,S.lt,λq hq=>(S.ok q hq).keep S e0.toExtR (λa _ o h=>k a o h) rfl rfl,S.dj,λn hn a ha hb=>(ao.mp hb).elim (RB n hn a ha) (S.hx n hn a ha),λa ha=>?_,λP q t=>⟨ah _ (S1.tb P q t).1,(S1.tb P q t).2⟩⟩;obtain rfl|ha:=ao.mp ha
 .rw[mw];exact⟨by simp,λ_ _=>⟨by simp,by simp,by simp,by simp⟩⟩
 .exact S1.hs a ha
def NL{K}{H H2}{m m2}{s s2}{d}{xs}(S:SR K CB H m s)(hd:H d=Zb)(e:Ext (upd H d (.dK xs)) (m.hide d) s H2 m2 s2)(S2:SR K CB H2 m2 s2) :
  SR K CB (ϫ H2 d) (m2.bare m.YN) s2/\Ext H m s (ϫ H2 d) (m2.bare m.YN) s2/\ExtR H2 m2 s2 (ϫ H2 d) (m2.bare m.YN) s2/\H2 d=Za (.dK xs):=by
 have hh:=e.hd;have RF:d∈m2.YN:=by rw[hh];exact al
 have hD:=e.hk d al _ mw (by grind);have tbE:Ϭ H2 (ϫ H2 d):=.of λa o h od=>by rw[uh (λz=>by rw[z,hD] at h;cases h;exact FR od)];exact h
 have x2:ExtR H2 m2 s2 (ϫ H2 d) (m2.bare m.YN) s2:=by have ne:∀a,ù m2 s2 a->a≠d:=λa p z=>p.1 (by rw[z];exact RF);refine⟨ak _,λ_ _=>rfl,λa u h p=>⟨?_,λz=>p.1 (by rw[hh];exact ah _ z),p.2⟩,λa u h _ p=>by rw[uh (ne a p)];exact h⟩;exact h.elim (λh=>.inl (by rw[uh (ne a p)];exact h)) λ⟨o,h⟩=>.inr ⟨o,by rw[uh (ne a p)];exact h⟩
 have fne:∀n∈s2.cs.map (·.1),∀a∈m2.fp n,a≠d:=λn hn a ha z=>S2.hx n hn a ha (by rw[z];exact RF);have dn:=λz=>(S.hs d z).1 hd;have h2:∀a∈m.YN,a≠d:=λa ha z=>dn (by rw[<-z];exact ha);refine⟨⟨S2.nd,S2.lt,λq hq=>(S2.ok q hq).keep S2 x2 (λa ha o h=>by rw[uh (fne q.1 (aq.mpr ⟨q,hq,rfl⟩) a ha)];exact h) rfl rfl,S2.dj,λn hn a ha hb=>S2.hx n hn a ha (by rw[hh];exact ah _ hb),λa ha=>?_,λP q t=>⟨?_,tbE.2 P q (S2.tb P q t).2⟩⟩,?_,x2,hD⟩
 .rw[uh (h2 a ha)];exact S2.hs a (by rw[hh];exact ah _ ha)
 .obtain⟨h1,ps,h3,_⟩:=S2.tb P q t;rw[hh] at h1;obtain z|z:=ao.mp h1
  .grind
  .exact z
 .have e1:=(Ext0.hide hd).trans e.toExt0;refine⟨⟨e1.toExtR.trans x2,λj l hj h=>⟨(e1.df j l hj h).1,λo ho=>?_⟩⟩,rfl,λa ha o h n0=>?_⟩
  .rw[uh (mH ho hd)];exact(e1.df j l hj h).2 o ho
  .rw[uh (h2 a ha)];exact e.hk a (ah _ ha) o (My.sS hd _ _ h) n0
def ū(f g:XE)(Z:En)(s:N'):Out PV:=match f Z s with
 |.ok v s1=>match g Z s1 with
  |.ok w s2=>match ZY v with
   |some k=>.ok (.ref s2.nx) (s2.add (.Yl [(k,w)]))
   |none=>.bad
  |_=>.bad
 |_=>.bad
def Oi(hk:DE X CB E a f)(hv:DE X CB E b g):DE X CB E (.Dict [Za a] [b] pos) (ū f g) :=
 ⟨(Hc (EY hk.pe hv.pe Ha) rfl rfl (by simp) (by simp)).mono λO H Q=>oE λZ s m er S P p0 hp=>by
  have e0:Ext0 H m s (upd H p0 (.dK [])) (m.hide p0) s:=Ext0.hide hp;have hm:SR X.K CB (upd H p0 (.dK [])) (m.hide p0) s:=S.ÁA hp;refine⟨Z,s,m.hide p0,er.Yk e0.toExtR,hm,?_⟩;unfold ū at P;cases c1:f Z s with
  |bad=>rw[c1] at P;exact P.elim
  |ex c' s'=>rw[c1] at P;exact P.elim
  |ok v s1 =>
   rw[c1] at P;refine λu1 H1 m1 e1 S1 r1=>⟨Z,s1,m1,(er.Yk e0.toExtR).ext e1,S1,?_⟩;dsimp only at P;cases c2:g Z s1 with
   |bad=>rw[c2] at P;exact P.elim
   |ex c' s'=>rw[c2] at P;exact P.elim
   |ok w s2 =>
    rw[c2] at P;intro u2 H2 m2 e2 S2 r2;dsimp only at P;split at P
    .rename_i k hk;obtain⟨S3,e3,x3,hD⟩:=NL S hp (e1.trans e2) S2;have ek:=qK r1 hk;refine⟨hD,[(k,u2)],by rw[ek];rfl,by simp,?_⟩;have Wi:YH (ϫ H2 p0) (upd H2 p0 (.dK [(k,u2)])):=λc o h=>by
      have RB:c≠p0:=λz=>by rw[z,Fb] at h;cases h
      rw[mq RB];rw[uh RB] at h;exact h
     obtain⟨S4,e4⟩:=S3.newD Fb Wi mw (.cons (r2.Yk x3) .nil);exact P _ _ _ (e3.trans e4) S4 .new
    .exact P.elim⟩
def ę(t:XT)(f g:XE)(Z:En)(s:N'):Out PV:=(t Z s).bind λb s1=>if b=true then f Z s1 else g Z s1
def GM(hc:DT X CB E c t)(ha:DE X CB E a f)(hb:DE X CB E b g):DE X CB E (.IfExp c a b pos) (ę t f g) :=
 ⟨(J0 hc.pt ha.pe hb.pe).mono λO H Q=>oE λZ s m er S P=>⟨Z,s,m,er,S,P.bind λv s1 b H1 m1 e1 S1 r1 P1=>by
  cases r1;refine vY (λc=>?_) λc=>?_
  .rw[Zc c] at P1;exact⟨Z,s1,m1,er.ext e1,S1,P1⟩
  .rw[Zd c] at P1;exact⟨Z,s1,m1,er.ext e1,S1,P1⟩⟩⟩
inductive Ty5 where
 |int|bool|str|tuple|list
def Ty5.nm:Ty5->String
 |.int=>"int"|.bool=>"bool"|.str=>"str"|.tuple=>"tuple"|.list=>"list"
inductive Ty7 where
 |int|bool|str|tuple|list|Yh|dict
def Ty7.nm:Ty7->String
 |.int=>"int"|.bool=>"bool"|.str=>"str"|.tuple=>"tuple"|.list=>"list"|.Yh=>"NoneType"|.dict=>"dict"
noncomputable def Q2:Ty7->Ty5->Bool
 |.int,.int=>true|.bool,.bool=>true|.bool,.int=>true|.str,.str=>true|.tuple,.tuple=>true|.list,.list=>true
 |_,_=>false
def NG(K):∀(t:Ty7)(u:Ty5),jt K (.type t.nm) (.type u.nm)=Za (Q2 t u)
 |.int,.int=>by kernel_rfl
 |.int,.bool=>by kernel_rfl
 |.int,.str=>by kernel_rfl
 |.int,.tuple=>by kernel_rfl
 |.int,.list=>by kernel_rfl
 |.bool,.int=>by kernel_rfl
 |.bool,.bool=>by kernel_rfl
 |.bool,.str=>by kernel_rfl
 |.bool,.tuple=>by kernel_rfl
 |.bool,.list=>by kernel_rfl
 |.str,.int=>by kernel_rfl
 |.str,.bool=>by kernel_rfl
 |.str,.str=>by kernel_rfl
 |.str,.tuple=>by kernel_rfl
 |.str,.list=>by kernel_rfl
 |.tuple,.int=>by kernel_rfl
 |.tuple,.bool=>by kernel_rfl
 |.tuple,.str=>by kernel_rfl
 |.tuple,.tuple=>by kernel_rfl
 |.tuple,.list=>by kernel_rfl
 |.list,.int=>by kernel_rfl
 |.list,.bool=>by kernel_rfl
 |.list,.str=>by kernel_rfl
 |.list,.tuple=>by kernel_rfl
 |.list,.list=>by kernel_rfl
 |.Yh,.int=>by kernel_rfl
 |.Yh,.bool=>by kernel_rfl
 |.Yh,.str=>by kernel_rfl
 |.Yh,.tuple=>by kernel_rfl
 |.Yh,.list=>by kernel_rfl
 |.dict,.int=>by kernel_rfl
 |.dict,.bool=>by kernel_rfl
 |.dict,.str=>by kernel_rfl
 |.dict,.tuple=>by kernel_rfl
 |.dict,.list=>by kernel_rfl
def Á4(s:N'):PV->Option Ty7
 |.int _=>Za .int
 |.bl _=>Za .bool
 |.str _=>Za .str
 |.Yh=>Za .Yh
 |.tup _=>Za .tuple
 |v=>match YB s v with
  |some _=>Za .list
  |none=>Zb
def ü(T:Ty5)(f:XE)(Z:En)(s:N'):Out PV:=(f Z s).bind λv s1=>match Á4 s1 v with
 |some k=>.ok (.bl (Q2 k T)) s1
 |none=>.bad
def xr(T5:Ty5)(ha:DE X CB E a f)(hx:x=(T5.nm:String):=by rfl)(hgi:Gl X "isinstance":=by rfl)(hmi:X.mg "isinstance"=none:=by exact T.ĸ)(hg:Gl X x:=by rfl)(hm:X.mg x=none:=by first|exact T.Ŵ|exact T.ø|exact T.ŉ|exact T.ċ|exact T.š)(hv:bu x=Za (.type T5.nm):=by first|exact LW|exact Fi|exact LX|exact Ae|exact Ot)(hn:x≠"__name__":=by decide)(hd:Î x:=by decide)(hs:ar [a,.Name x px] X.env=(false,eval a X.env)::ar [.Name x px] X.env:=by rfl)(Rq:(bM pos (ar [.Name x px] X.env)).any (·.1)=false:=by rfl):DE X CB E (.Call (.Name "isinstance" p) [a,.Name x px] [] pos) (ü T5 f) :=
 ⟨(pF KW hgi hmi BH (mK ha.pe (mK (Nf (v:=.ty T5.nm) hg hm hv rfl hn hd) Yc) hs) (Zf rfl) (Zf rfl) hs Rq).mono λO H Q=>oE λZ s m er S P=>⟨Z,s,m,er,S,P.bind λv s1 u H1 m1 e1 S1 r1 P1=>by
  split at P1
  .rename_i k hk;refine⟨u,.ty T5.nm,.type k.nm,Q2 k T5,rfl,.inr ⟨_,rfl⟩,?_,NG _ k T5,P1.here S1 .bl⟩;cases r1 with
   |Yh=>cases hk;exact .inl .Yh
   |bl=>cases hk;exact .inl (.bl _)
   |int=>cases hk;exact .inl (.int _)
   |str=>cases hk;exact .inl (.str _)
   |tup h1 h2=>cases hk;exact .inr (.inr (.inr ⟨_,_,rfl,rfl,h1.elim (λz=>.inl z.1) .inr⟩))
   |lst h1 h2 h3=>cases hk;exact .inr (.inr (.inl ⟨_,_,rfl,rfl,YO.of h1⟩))
   |seq h1 h3=>cases hk;exact .inr (.inr (.inl ⟨_,_,rfl,rfl,h1.elim (λz=>.inl (.inr z.1)) .inr⟩))
   |Yl h1 h2 h3=>cases hk
   |exc h1 h2=>cases hk
   |Ų h1=>cases hk
   |ref h1 =>
    rename_i n;have hk:(match YB s1 (.ref n) with|some _=>Za Ty7.list|none=>Zb)=Za k:=hk;split at hk<;>cases hk
    rename_i l hl;obtain⟨b,vs,⟨⟩,q,_⟩:=(Rep.ref h1).ls S1 hl;exact .inr (.inr (.inl ⟨_,vs,rfl,rfl,q⟩))
  .exact P1.elim⟩⟩
end
end L2
namespace My
open PySem L2
def top(i:Nat):bK:=PySem.Challenge.pw_wholeowners_k12_parts.main.body.getD i (.Pass ⟨0,0,0,0⟩)
structure Yg where
 č:ag
 ļ:ag
 ŵ:ag
 È:ag
 YI:ag
 Zk:ag
 Ď:ag
 ú:ag
 ÂT:ag
 Zp:ag
 X8:ag
 ŋ:ag
 ONE:ag
 Yx:ag
 t8:Tok
 t6:Tok
 u8:Tok
 kx:ag->ag->Bool
def ÁV(K:aa)(a:ag)(i j:Int):Prop:=∃(o:Obj)(its:Array ae)(n:Nat),K.lookup a=Za o/\o.cls=.type "tuple"/\o.data=.seq its n/\its.size<=aG/\Vals [.int i,.int j] its.toList
structure Txt(K:aa)(mg:Str->Option ae)(a:Yg):Prop where
 Zy:mg "len"=Zb
 Àd:mg "range"=Zb
 Ŋ:mg "all"=Zb
 ŉ:mg "int"=Zb
 ð:mg "abs"=Zb
 YS:mg "sorted"=Zb
 ø:mg "tuple"=Zb
 ċ:mg "list"=Zb
 Ŵ:mg "str"=Zb
 š:mg "bool"=Zb
 ĸ:mg "isinstance"=Zb
 Àe:mg "ValueError"=Zb
 Àj:mg "any"=Zb
 ÂW:mg "set"=Zb
 Ài:mg "max"=Zb
 ş:mg "OwnError"=Za (.ref a.č)
 Ϝ:mg "NoName"=Za (.ref a.ļ)
 Àc:mg "Twice"=Za (.ref a.ŵ)
 ħ:mg "TooMany"=Za (.ref a.È)
 Š:mg "NoHolder"=Za (.ref a.YI)
 Ż:mg "NoHouse"=Za (.ref a.Zk)
 ϝ:mg "NoLoss"=Za (.ref a.Ď)
 ź:mg "NoShare"=Za (.ref a.ú)
 Á0:mg "Whole"=Za (.ref a.Zp)
 Àk:Exc K a.č
 ό:Exc K a.ļ
 ϯ:Exc K a.ŵ
 Ġ:Exc K a.È
 ŗ:Exc K a.YI
 ŷ:Exc K a.Zk
 ύ:Exc K a.Ď
 Ŷ:Exc K a.ú
 ĉ:mg "LONGEST_NAME"=Za (.int 8 a.t8)
 Ĉ:mg "MOST_PERSONS"=Za (.int 6 a.t6)
 Ĝ:mg "MOST_HOUSES"=Za (.int 8 a.u8)
 ı:mg "ZERO"=Za (.ref a.ŋ)
 ÁC:mg "ONE"=Za (.ref a.ONE)
 zero:ÁV K a.ŋ 0 1
 one:ÁV K a.ONE 1 1
 cl:Ŕ K a.X8
 ZM:YV K a.X8 "people"
 ZX:YV K a.X8 "things_of"
 Ñ:YV K a.X8 "mark_of"
 Ò:YV K a.X8 "loss_of"
 YT:YV K a.X8 "held_of"
def Txt.Ă{K}(T:Txt K mg a):RelV (.int 8) (.int 8 a.t8):=⟨_,rfl⟩
def Txt.ā{K}(T:Txt K mg a):RelV (.int 6) (.int 6 a.t6):=⟨_,rfl⟩
def Txt.Ě{K}(T:Txt K mg a):RelV (.int 8) (.int 8 a.u8):=⟨_,rfl⟩
def Txt.į{K}(T:Txt K mg a):RelV (.ref a.ŋ) (.ref a.ŋ):=rfl
def Txt.ÀW{K}(T:Txt K mg a):RelV (.ref a.ONE) (.ref a.ONE):=rfl
def ÀB{te:TE}{cap:St}{H:Hp}{Kt:VK}{Kf:Hp->Prop}(h:te cap H Kt):ÀK cap H λb H4=>if b=true then te cap H4 Kt else Kf H4:=by
 show if true=true then te cap H Kt else Kf H
 grind
def Ca(c):(!decide ((⟨#[c]⟩:Str).cps.toList<(b6 "a").cps.toList))=decide (97<=c):=by show(!decide ([c]<[97]))=decide (97<=c);rw[cx];simp[lh]
def HY(c):(!decide ((b6 "z").cps.toList<(⟨#[c]⟩:Str).cps.toList))=decide (c<=122):=by show(!decide ([122]<[c]))=decide (c<=122);rw[cx];simp[lh]
def AN{x:Str}{i c:Nat}{g:Nat->V}(hc:x.cps[i]?=Za c):(x.cps.toList.take i).map g++[g c]=(x.cps.toList.take (i+1)).map g:=by
 have hc:x.cps.toList[i]?=Za c:=by simpa using hc
 rw[d6,hc,aC];rfl
section
variable{P:aK}{w:aT}{K:aa}{mg:Str->Option ae}{base:bc}{a:Yg}{f:ag}{fd:cg}
abbrev vp:bK:=top 38
def FE:K' ["text"] ["text"] (mC vp):=Y5
noncomputable def low(c:Nat):Bool:=decide (97<=c)&&decide (c<=122)
def yg(x:Str):Bool:=decide (1<=x.length)&&decide (x.length<=8)&&x.cps.toList.all low
def zn:Sp:=λvs H Q _=>∃x,vs=[.str x]/\Nm x/\∀H',YH H H'->Q (.bl (yg x)) H'
def FO(F:Z' K "is_name" "is_name" vp f fd)(T:Txt K mg a):Yt P w K mg base (YW P w) 1 f fd ["text"] zn:=by
 refine F.okN FE (λvs H Q E h=>?_) (λRk A outer s H vs Q E hr h=>?_)
 .obtain⟨x,rfl,_⟩:=h;rfl
 .obtain⟨x,rfl,nm,k⟩:=h;have hu:=oS hr;refine⟨_,(@mW _ _ _ (@ra _ _ _ _ (@Ln _ _ _ _ _ _ _ (E1 OO OO YK (@pF _ _ _ _ _ _ _ _ _ â rfl T.Zy Ec (@mK _ _ _ _ _ (pv 0) Yc (by rfl)) (by decide) (by decide) (by rfl) (by rfl)) (sx rfl T.ĉ T.Ă)) (@GA _ _ _ _ _ (@pF _ _ _ _ _ _ _ _ _ Fh rfl T.Ŋ LY (@mK _ _ _ _ _ (zB (fr:=[]) (ix:=[]) rfl (by exact(show Y8 ["text"] (mC vp) _ _ _ _ from cok)) (PB (pv 0)) (λ_ _ _ _ _=>At) (λ_ _ _ _ _=>(E1 Cf Cf é (pv 0) é))) Yc (by rfl)) (by decide) (by decide) (by rfl) (by rfl)))))),?_⟩;have Re:x.length<=aG:=aJ nm.1 (by decide);refine⟨_,rfl,_,rfl,Re,_,_,rfl,rfl,_,rfl,vY (λh=>?_) (λh=>?_)⟩
  .have h1:(1:Int)<=(x.length:Int):=Zf h;refine⟨_,_,rfl,rfl,_,rfl,vY (λh=>?_) (λh=>?_)⟩
   .have h2:(x.length:Int)<=8:=Zf h;refine⟨_,rfl,x,rfl,λD hD=>?_⟩;refine HD (J:=Its x) x.cps.size (λi ys H'=>H'=upd H D (.lst ys)/\ys=(x.cps.toList.take i).map λc=>V.bl (low c)) ⟨rfl,rfl⟩ Re (λi ys H' r=>by rw[r.1];exact mw) (λi ys H' hi _=>hi) ?_ ?_
    .rintro i ys H' v H'' hi ⟨rfl,rfl⟩ ⟨rfl,c,hc,rfl⟩ Kt Kf k1 k2
     have Ry:∀b,b=low c->Kt (V.bl b) (upd H D (.lst ((x.cps.toList.take i).map λc=>V.bl (low c)))):=λb hb=>by refine k1 _ _ mw ⟨by rw[w5],?_⟩;rw[hb,AN hc]
     refine ÀB ⟨_,rfl,_,_,rfl,rfl,_,rfl,vY (λh=>?_) (λh=>?_)⟩
     .refine⟨_,_,rfl,rfl,Ry _ ?_⟩;rw[Ca] at h;rw[HY];unfold low;rw[h,iW]
     .apply Ry _;rw[Ca] at h;unfold low;rw[gI.mpr h,iG]
    .rintro ys H' hl ⟨rfl,rfl⟩
     have e:List.take x.cps.size x.cps.toList=x.cps.toList:=g5 (by simp);rw[e];refine⟨ak _,D,x.cps.toList.map low,rfl,YO.of (by rw[mw,aD];rfl),rfl,?_⟩;have e2:(x.cps.toList.map low).all id=yg x:=by
      have h1:1<=x.length:=by lia
      have h2:x.length<=8:=by lia
      unfold yg;rw[Zg h1,Zg h2,List.all_map,iW,iW];rfl
     rw[e2];exact k _ (sS hD)
   .have h2:¬x.length<=8:=λz=>h (Zg (by lia));have e2:false=yg x:=by unfold yg;rw[Zh h2,Bool.and_false,iG]
    show Q (.bl false) H;rw[e2];exact k _ λ_ _ z=>z
  .have h2:¬ 1<=x.length:=λz=>h (Zg (by lia));have e2:false=yg x:=by unfold yg;rw[Zh h2,iG,iG]
   refine⟨_,rfl,NK ?_⟩;show Q (.bl false) H;rw[e2];exact k _ λ_ _ z=>z
abbrev uz:bK:=top 39
def CP:K' ["number"] ["number"] (mC uz):=Y5
def wk(a:Yg):Sp:=λvs H Q E=>∃n,vs=[.int n]/\(n<0->E (.ref a.Ď) Zb H)/\(0<=n->Q .Yh H)
def C1(F:Z' K "need_loss" "need_loss" uz f fd)(T:Txt K mg a):Yt P w K mg base (YW P w) 1 f fd ["number"] (wk a):=by
 refine F.Ϫ CP (λvs H Q E h=>?_) (λRk A outer s H vs Q E hr h=>?_)
 .obtain⟨x,rfl,_⟩:=h;rfl
 .obtain⟨n,rfl,k1,k2⟩:=h;have hu:=oS hr;refine⟨_,(@mW _ _ _ (@wQ _ _ _ _ _ _ _ _ (@vB _ _ _ _ _ _ _ _ ON (pv 0) YK (vF _)) (@mW _ _ _ (qH T.ύ rfl T.ϝ rfl é zH)) Ze)),?_⟩;refine⟨_,rfl,_,_,rfl,rfl,_,rfl,vY (λh=>?_) (λh=>?_)⟩
  .exact k1 (Zf h)
  .exact k2 (Int.not_lt.mp λz=>h (Zg z))
abbrev uI:bK:=oo (top 40) 0
def CZ:K' ["self"] ["self"] (mC uI):=Y5
def JN(dp dt dm dl dh dx):Y2 "held_of" (.ref dh) (Y2 "loss_of" (.ref dl) (Y2 "mark_of" (.ref dm) (Y2 "things_of" (.ref dt) (Y2 "people" (.ref dp) []))))=bf ⟨dx,dp,dt,dm,dl,dh⟩:=by simp[Y2];rfl
structure Ī(C:ag)(H0 H:Hp)(p dx:ag)(fs:List (Str×V))(ds:List ag):Prop where
 ob:H p=Za (.ins C dx fs)
 dd:∀c∈ds,H c=Za (.dK [])
 fr:∀c∈ds,H0 c=Zb
 nd:(p::ds).Nodup
 kp:∀c o,H0 c=Za o->c≠p->H c=Za o
 len:fs.length<=ds.length
def Ī.at_(I:Ī C H0 H p dx fs ds)(h:H d=Zb):(upd H d (.dK [])) p=Za (.ins C dx fs):=by rw[mq (mH I.ob h)];exact I.ob
def Ī.step{C}{H0 H}{p dx d}{fs}{ds}{f}(I:Ī C H0 H p dx fs ds)(h:H d=Zb) :
  Ī C H0 (upd (upd H d (.dK [])) p (.ins C dx (Y2 f (.ref d) fs))) p dx (Y2 f (.ref d) fs) (ds++[d]):=by
 have n1:=mH I.ob h;obtain⟨m1,m2⟩:=aL.mp I.nd;have m3:d∉ds:=λz=>by rw[I.dd d z] at h;grind
 refine⟨mw,λc hc=>?_,λc hc=>?_,?_,λc o e hc=>?_,?_⟩
 .obtain hc|hc:=ba.mp hc
  .have c1:c≠p:=λz=>m1 (by grind);have c2:c≠d:=λz=>m3 (by grind);rw[mq c1,mq c2];exact I.dd c hc
  .rw[ax.mp hc,mq n1.symm,mw]
 .obtain hc|hc:=ba.mp hc
  .exact I.fr c hc
  .rw[ax.mp hc];cases q:H0 d with
   |none=>rfl
   |some o=>rw[I.kp d o q n1.symm] at h;grind
 .refine aL.mpr ⟨λz=>?_,zF m2 m3⟩
  grind
 .rw[mq hc,mq (λz=>by rw[z] at e;rw[I.kp d o e (z▸hc)] at h;grind)];exact I.kp c o e hc
 .rw[aZ];exact aJ (uK _ _ _) (Nat.add_le_add_right I.len 1)
def MK(K:aa)(C:ag):Sp:=λvs H Q _=>∃(p dx:ag),vs=[.ref p]/\H p=Za (.ins C dx [])/\∀z H',(∀c∈[z.dp,z.dt,z.dm,z.dl,z.dh],H c=Zb)->Yn K C H' p z [] []->(∀c o,H c=Za o->c≠p->H' c=Za o)->Q .Yh H'
def Nv(F:Z' K "__init__" "Book.__init__" uI f fd)(T:Txt K mg a):Yt P w K mg base (YW P w) 1 f fd ["self"] (MK K a.X8):=by
 refine F.okN CZ (λvs H Q E h=>?_) (λRk A outer s H vs Q E hr h=>?_)
 .obtain⟨p,dx,rfl,_⟩:=h;rfl
 .obtain⟨p,dx,rfl,hp,k⟩:=h;have hu:=oS hr;refine⟨_,(@mT _ _ _ _ _ (yI (pv 0) ZL rfl) (@mT _ _ _ _ _ (yI (pv 0) ZL rfl) (@mT _ _ _ _ _ (yI (pv 0) ZL rfl) (@mT _ _ _ _ _ (yI (pv 0) ZL rfl) (@mW _ _ _ (yI (pv 0) ZL rfl)))))),?_⟩;have I0:Ī a.X8 H H p dx [] []:=⟨hp,by simp,by simp,by simp,λc o e _=>e,ak _⟩;refine λdp h1=>⟨_,rfl,p,_,dx,_,rfl,I0.at_ h1,T.cl,T.ZM,aX I0.len (show 0<1000 by decide),?_⟩;have I1:=I0.step (f:="people") h1;refine λdt h2=>⟨_,rfl,p,_,dx,_,rfl,I1.at_ h2,T.cl,T.ZX,aX I1.len (show 1<1000 by decide),?_⟩;have I2:=I1.step (f:="things_of") h2;refine λdm h3=>⟨_,rfl,p,_,dx,_,rfl,I2.at_ h3,T.cl,T.Ñ,aX I2.len (show 2<1000 by decide),?_⟩;have I3:=I2.step (f:="mark_of") h3;refine λdl h4=>⟨_,rfl,p,_,dx,_,rfl,I3.at_ h4,T.cl,T.Ò,aX I3.len (show 3<1000 by decide),?_⟩;have I4:=I3.step (f:="loss_of") h4;refine λdh h5=>⟨_,rfl,p,_,dx,_,rfl,I4.at_ h5,T.cl,T.YT,aX I4.len (show 4<1000 by decide),?_⟩;have I5:=I4.step (f:="held_of") h5;refine k ⟨dx,dp,dt,dm,dl,dh⟩ _ (λc hc=>I5.fr c (by simpa using hc)) ⟨?_,I5.dd dp (by simp),I5.dd dt (by simp),I5.dd dm (by simp),I5.dd dl (by simp),⟨[],I5.dd dh (by simp),.nil,iE⟩,λe he=>(by cases he),I5.nd,aY _,aY _⟩ I5.kp;rw[<-JN];exact I5.ob
abbrev qD:bK:=oo (top 40) 1
def xh:K' ["self","name"] ["self","name"] (mC qD):=Y5
def uy(K:aa)(C:ag):Sp:=λvs H Q _=>∃b z Rf L x,vs=[.ref b,.str x]/\Yn K C H b z Rf L/\Q (.bl (qz L x)) H
def Eo(F:Z' K "is_house" "Book.is_house" qD f fd)(T:Txt K mg a):Yt P w K mg base (YW P w) 1 f fd ["self","name"] (uy K a.X8):=by
 refine F.okN xh (λvs H Q E h=>?_) (λRk A outer s H vs Q E hr h=>?_)
 .obtain⟨b,z,Rf,L,x,rfl,_⟩:=h;rfl
 .obtain⟨b,z,Rf,L,x,rfl,B,k⟩:=h;have hu:=oS hr;refine⟨_,(@mW _ _ _ (@ra _ _ _ _ (Lm (Lo hu (pv 1) (o4 (pv 0) rfl))))),?_⟩;refine⟨_,rfl,_,rfl,b,_,_,_,_,rfl,B.ob,T.cl,T.YT,vM z,_,_,rfl,B.hh.Ày x,?_⟩;rw[si,dQ];exact k
abbrev pZ:bK:=oo (top 40) 2
def wg:K' ["self","name"] ["self","name"] (mC pZ):=Y5
def sW(K:aa)(C:ag):Sp:=λvs H Q _=>∃b z Rf L x,vs=[.ref b,.str x]/\Yn K C H b z Rf L/\Q (.bl (p4 Rf x||qz L x)) H
def C2(F:Z' K "is_holder" "Book.is_holder" pZ f fd)(T:Txt K mg a)(RO:Mt P w K mg base a.X8 "is_house" 1 ["self","name"] (uy K a.X8)):Yt P w K mg base (YW P w) 2 f fd ["self","name"] (sW K a.X8):=by
 refine F.okN wg (λvs H Q E h=>?_) (λRk A outer s H vs Q E hr h=>?_)
 .obtain⟨b,z,Rf,L,x,rfl,_⟩:=h;rfl
 .obtain⟨b,z,Rf,L,x,rfl,B,k⟩:=h;have hu:=oS hr;refine⟨_,(@mW _ _ _ (@ra _ _ _ _ (@À1 _ _ _ _ _ _ _ (Lm (Lo hu (pv 1) (o4 (pv 0) rfl))) (@GA _ _ _ _ _ (tV (pv 0) RO (hr.mono (by first|decide|lia)) rW (@mK _ _ _ _ _ (pv 1) Yc (by rfl))))))),?_⟩;refine⟨_,rfl,_,rfl,b,_,_,_,_,rfl,B.ob,T.cl,T.ZM,vw z,_,_,rfl,Y3.k (k:=ap x) B.pp,_,rfl,vY (λh=>?_) (λh=>?_)⟩
  .rw[si,dQ] at h;unfold p4 at k
   simp_all
  .rw[si,dQ] at h;unfold p4 at k;rw[gI.mpr h] at k;exact⟨_,rfl,b,_,_,rfl,B.ob,um z,_,rfl,b,z,Rf,L,x,rfl,B,k⟩
abbrev pQ:bK:=oo (top 40) 3
def vO:K' ["self","name"] ["self","name"] (mC pQ):=Y5
def qe(K:aa)(a:Yg):Sp:=λvs H Q E=>∃b z Rf L x,vs=[.ref b,.str x]/\Yn K a.X8 H b z Rf L/\Nm x/\(qz L x=true->Q .Yh H)/\(qz L x=false->E (.ref a.Zk) Zb H)
def Bh(F:Z' K "need_house" "Book.need_house" pQ f fd)(T:Txt K mg a)(RO:Mt P w K mg base a.X8 "is_house" 1 ["self","name"] (uy K a.X8)):Yt P w K mg base (YW P w) 2 f fd ["self","name"] (qe K a):=by
 refine F.Ϫ vO (λvs H Q E h=>?_) (λRk A outer s H vs Q E hr h=>?_)
 .obtain⟨b,z,Rf,L,x,rfl,_⟩:=h;rfl
 .obtain⟨b,z,Rf,L,x,rfl,B,nm,k1,k2⟩:=h;have hu:=oS hr;refine⟨_,(@mW _ _ _ (@wQ _ _ _ _ _ _ _ _ (A9 (wx (tV (pv 0) RO (hr.mono (by first|decide|lia)) pH (@mK _ _ _ _ _ (pv 1) Yc (by rfl))))) (@mW _ _ _ (qH T.ŷ rfl T.Ż rfl (FL (Ba (yJ (pv 1) Bb))) zH)) Ze)),?_⟩;refine⟨_,rfl,b,_,_,rfl,B.ob,um z,_,rfl,b,z,Rf,L,x,rfl,B,_,rfl,vY (λh=>?_) (λh=>?_)⟩
  .exact⟨_,rfl,⟨x,rfl,nm⟩,λy=>k2 (nbT h)⟩
  .exact k1 (nbF h)
abbrev pA:bK:=oo (top 40) 4
def uY:K' ["self","name"] ["self","name"] (mC pA):=Y5
def qS(K:aa)(a:Yg):Sp:=λvs H Q E=>∃b z Rf L x,vs=[.ref b,.str x]/\Yn K a.X8 H b z Rf L/\Nm x/\((p4 Rf x||qz L x)=true->Q .Yh H)/\((p4 Rf x||qz L x)=false->E (.ref a.YI) Zb H)
def y8(F:Z' K "need_holder" "Book.need_holder" pA f fd)(T:Txt K mg a)(RH:Mt P w K mg base a.X8 "is_holder" 2 ["self","name"] (sW K a.X8)):Yt P w K mg base (YW P w) 3 f fd ["self","name"] (qS K a):=by
 refine F.Ϫ uY (λvs H Q E h=>?_) (λRk A outer s H vs Q E hr h=>?_)
 .obtain⟨b,z,Rf,L,x,rfl,_⟩:=h;rfl
 .obtain⟨b,z,Rf,L,x,rfl,B,nm,k1,k2⟩:=h;have hu:=oS hr;refine⟨_,(@mW _ _ _ (@wQ _ _ _ _ _ _ _ _ (A9 (wx (tV (pv 0) RH (hr.mono (by first|decide|lia)) pH (@mK _ _ _ _ _ (pv 1) Yc (by rfl))))) (@mW _ _ _ (qH T.ŗ rfl T.Š rfl (FL (Ba (yJ (pv 1) Bb))) zH)) Ze)),?_⟩;refine⟨_,rfl,b,_,_,rfl,B.ob,um z,_,rfl,b,z,Rf,L,x,rfl,B,_,rfl,vY (λh=>?_) (λh=>?_)⟩
  .exact⟨_,rfl,⟨x,rfl,nm⟩,λy=>k2 (nbT h)⟩
  .exact k1 (nbF h)
abbrev oM:bK:=oo (top 40) 5
def t4:K' ["self","name"] ["self","name"] (mC oM):=Y5
def rX(a:Yg)(Rf:List Str)(L:List (Ent×ag))(x:Str):Option ag:=if yg x=false then Za a.ļ else if(p4 Rf x||qz L x)=true then Za a.ŵ else Zb
def ux(K:aa)(a:Yg):Sp:=λvs H Q E=>∃b z Rf L x,vs=[.ref b,.str x]/\Yn K a.X8 H b z Rf L/\Nm x/\(rX a Rf L x=Zb->∀H',YH H H'->Q .Yh H')/\(∀c,rX a Rf L x=Za c->∀H',YH H H'->E (.ref c) Zb H')
def Em(F:Z' K "need_new_name" "Book.need_new_name" oM f fd)(T:Txt K mg a)(SX:Fn P w K mg base "is_name" 1 ["text"] zn)(RH:Mt P w K mg base a.X8 "is_holder" 2 ["self","name"] (sW K a.X8)):Yt P w K mg base (YW P w) 3 f fd ["self","name"] (ux K a):=by
 refine F.Ϫ t4 (λvs H Q E h=>?_) (λRk A outer s H vs Q E hr h=>?_)
 .obtain⟨b,z,Rf,L,x,rfl,_⟩:=h;rfl
 .obtain⟨b,z,Rf,L,x,rfl,B,nm,k1,k2⟩:=h;have hu:=oS hr;refine⟨_,(@mT _ _ _ _ _ (@wQ _ _ _ _ _ _ _ _ (A9 (wx (@wR _ _ _ _ _ _ _ _ _ _ _ SX (hr.mono (by first|decide|lia)) rfl pH (@mK _ _ _ _ _ (pv 1) Yc (by rfl)) (by decide) (by rfl) (by rfl)))) (@mW _ _ _ (qH T.ό rfl T.Ϝ rfl (FL (Ba (yJ (pv 1) Bb))) zH)) Ze) (@mW _ _ _ (@wQ _ _ _ _ _ _ _ _ (wx (tV (pv 0) RH (hr.mono (by first|decide|lia)) pH (@mK _ _ _ _ _ (pv 1) Yc (by rfl)))) (@mW _ _ _ (qH T.ϯ rfl T.Àc rfl (FL (Ba (yJ (pv 1) Bb))) zH)) Ze))),?_⟩;refine⟨_,rfl,x,rfl,nm,λH1 s1=>⟨_,rfl,vY (λh=>?_) (λh=>?_)⟩⟩
  .refine⟨_,rfl,⟨x,rfl,nm⟩,λy=>k2 _ ?_ H1 s1⟩;have h:=nbT h;unfold rX;rw[Zc h]
  .have h:=nbF h;have B1:=B.same s1;refine⟨_,rfl,b,_,_,rfl,B1.ob,um z,_,rfl,b,z,Rf,L,x,rfl,B1,_,rfl,vY (λh2=>?_) (λh2=>?_)⟩
   .refine⟨_,rfl,⟨x,rfl,nm⟩,λy=>k2 _ ?_ H1 s1⟩;unfold rX;rw[Zd (by rw[h];decide),Zc h2]
   .refine k1 ?_ H1 s1;unfold rX;rw[Zd (by rw[h];decide),Zd h2]
end
mutual
inductive D where
 |i (n:Int)
 |s (x:Str)
 |l (xs:DL)
 |t (xs:DL)
inductive DL where
 |nil
 |cons (x:D) (xs:DL)
end
mutual
def DAt(K:aa)(H:Hp):D->V->Prop
 |.i n,v=>v=.int n
 |.s x,v=>v=.str x
 |.l xs,v=>∃a vs,v=.ref a/\YO K H a vs/\ľ K H xs vs
 |.t xs,v=>∃a vs,v=.ref a/\Zz K H a vs/\ľ K H xs vs
def ľ(K:aa)(H:Hp):DL->List V->Prop
 |.nil,vs=>vs=[]
 |.cons x xs,vs=>∃v r,vs=v::r/\DAt K H x v/\ľ K H xs r
end
def JJ{K}(s:YH H H')(h:YO K H a xs):YO K H' a xs:=YH.seq s h
def ET{K}(s:YH H H')(h:Zz K H a xs):Zz K H' a xs:=vy h λc o e _=>s c o e
mutual
theorem DAt.same{K}(s:YH H H'):∀(d:D)(v:V),DAt K H d v->DAt K H' d v
 |.i n,v,h=>h
 |.s x,v,h=>h
 |.l xs,v,h=>by
  obtain⟨a,vs,e,q,r⟩:=h;exact⟨a,vs,e,JJ s q,ľ.same s xs vs r⟩
 |.t xs,v,h=>by obtain⟨a,vs,e,q,r⟩:=h;exact⟨a,vs,e,ET s q,ľ.same s xs vs r⟩
theorem ľ.same{K}(s:YH H H'):∀(d:DL)(vs:List V),ľ K H d vs->ľ K H' d vs
 |.nil,vs,h=>h
 |.cons x xs,vs,h=>by obtain⟨v,r,e,h1,h2⟩:=h;exact⟨v,r,e,DAt.same s x v h1,ľ.same s xs r h2⟩
end
noncomputable def nc(l:List (Str×Int×Int))(n:Str):Str×Int×Int:=(l.find? λq=>decide (q.1=n)).getD (n,0,1)
def oP(L:List (Ent×ag))(n:Str):Option (Ent×ag):=L.find? λe=>decide (e.1.nm=n)
def sM(h:oP L n=Za e):e∈L:=List.mem_of_find?_eq_some h
section
variable{P:aK}{w:aT}{K:aa}{mg:Str->Option ae}{base:bc}{a:Yg}{f:ag}{fd:cg}
abbrev rT:bK:=oo (top 40) 6
def yY:K' ["self","name"] ["self","name"] (mC rT):=Y5
def vC(a:Yg)(Rf:List Str)(L:List (Ent×ag))(x:Str):Option ag:=match rX a Rf L x with
 |some c=>Za c
 |none=>if 6<=Rf.length then Za a.È else Zb
def B8(K:aa)(a:Yg):Sp:=λvs H Q E=>∃b z Rf L x,vs=[.ref b,.str x]/\Yn K a.X8 H b z Rf L/\Nm x /\
 (vC a Rf L x=Zb->∀H',Yn K a.X8 H' b z (Rf++[x]) L->(∀c o,H c=Za o->c≠z.dp->H' c=Za o)->Q .Yh H')/\(∀c,vC a Rf L x=Za c->∀H',YH H H'->E (.ref c) Zb H')
def x9(h:rX a Rf L x=Zb):yg x=true/\p4 Rf x=false/\qz L x=false:=by
 unfold rX at h
 grind
def Iv(F:Z' K "person" "Book.person" rT f fd)(T:Txt K mg a)(Rs:Mt P w K mg base a.X8 "need_new_name" 3 ["self","name"] (ux K a)):Yt P w K mg base (YW P w) 4 f fd ["self","name"] (B8 K a):=by
 refine F.Ϫ yY (λvs H Q E h=>?_) (λRk A outer s H vs Q E hr h=>?_)
 .obtain⟨b,z,Rf,L,x,rfl,_⟩:=h;rfl
 .obtain⟨b,z,Rf,L,x,rfl,B,nm,k1,k2⟩:=h;have hu:=oS hr;refine⟨_,(@mT _ _ _ _ _ (@pN _ _ _ _ (tV (pv 0) Rs (hr.mono (by first|decide|lia)) pH (@mK _ _ _ _ _ (pv 1) Yc (by rfl))) (by rfl)) (@mT _ _ _ _ _ (@wQ _ _ _ _ _ _ _ _ (@vB _ _ _ _ _ _ _ _ Mg (@pF _ _ _ _ _ _ _ _ _ CG rfl T.Zy Ec (@mK _ _ _ _ _ (o4 (pv 0) rfl) Yc (by rfl)) (by decide) (by decide) (by rfl) (by rfl)) (sx rfl T.Ĉ T.ā) (vF _)) (@mW _ _ _ (qH T.Ġ rfl T.ħ rfl é zH)) Ze) (@mW _ _ _ (su hu (o4 (pv 0) rfl) (pv 1) Àg rfl)))),?_⟩;refine⟨_,rfl,b,_,_,rfl,B.ob,um z,_,rfl,b,z,Rf,L,x,rfl,B,nm,λhd H1 s1=>?_,λc hc H1 s1=>?_⟩
  .have B1:=B.same s1;refine⟨_,rfl,b,_,_,_,_,rfl,B1.ob,T.cl,T.ZM,vw z,_,_,rfl,B1.pp,_,_,rfl,rfl,_,rfl,vY (λh=>?_) (λh=>?_)⟩
   .refine k2 _ ?_ H1 s1;unfold vC
    grind
   .have h:¬(6:Int)<=((Rf.map λn=>((ap n:Key),V.bl true)).length:Int):=λz=>h (Zg z);rw[ac] at h;have hl:Rf.length<6:=by lia
    have SW:pE (Rf.map λn=>((ap n:Key),V.bl true)) (ap x)=none:=by rw[si (key:=λn=>n)];have:=(x9 hd).2.1;unfold p4 at this;rw[kB];exact d8.mp this |> en.mp
    refine⟨_,rfl,b,_,_,_,_,rfl,B1.ob,T.cl,T.ZM,vw z,_,rfl,_,_,rfl,Ö.k (k:=ap x) B1.pp (by rw[ac];exact az hl (Zf rfl)),?_⟩;have Ux:vC a Rf L x=none:=by unfold vC;rw[hd];exact Zd (by lia)
    refine k1 Ux _ ?_ λc o e hc=>by rw[mq hc];exact s1 c o e
    obtain⟨hb,Vl⟩:=aL.mp B1.nd;obtain⟨hp,hr2⟩:=aL.mp Vl;have ne:∀c,c∈z.dt::z.dm::z.dl::z.dh::L.map (·.2)->c≠z.dp:=λc hc e=>hp (e▸hc);refine⟨?_,?_,?_,?_,?_,?_,λe he=>?_,B1.nd,by rw[aZ];simp;lia,B1.h8⟩
    .rw[mq (λe=>hb (by rw[e];simp))];exact B1.ob
    .rw[mw,uZ _ SW,aC];rfl
    .rw[mq (ne _ (by simp))];exact B1.tt
    .rw[mq (ne _ (by simp))];exact B1.mm
    .rw[mq (ne _ (by simp))];exact B1.ll
    .exact B1.hh.keep λo h=>by rw[mq (ne _ (by simp))];exact h
    .refine(B1.he e he).keep (λo h=>?_) λc o h x=>?_
     .rw[mq (ne _ (by simp only[ao];right;right;right;right;exact aq.mpr ⟨e,he,rfl⟩))];exact h
     .rw[mq (DV h B1.pp (by rcases x with⟨xs,rfl|⟨ob,rfl⟩⟩<;>intro z<;>cases z))];exact h
  .refine k2 c ?_ H1 s1;unfold vC;rw[hc]
abbrev tF:bK:=oo (top 40) 7
def AZ:K' ["self","name","owner","things","mark","loss"] ["self","name","owner","things","mark","loss"] (mC tF):=Y5
def sV(a:Yg)(Rf:List Str)(L:List (Ent×ag))(x o:Str)(l:Int):Option ag:=match rX a Rf L x with
 |some c=>Za c
 |none=>if(p4 Rf o||qz L o)=false then Za a.YI else if l<0 then Za a.Ď else if 8<=L.length then Za a.È else Zb
def EM(K:aa)(a:Yg):Sp:=λvs H Q E=>∃b z Rf L x o t m l,vs=[.ref b,.str x,.str o,.int t,.int m,.int l]/\Yn K a.X8 H b z Rf L/\Nm x/\Nm o /\
 (sV a Rf L x o l=Zb->∀p H',H p=Zb->Yn K a.X8 H' b z Rf (L++[(⟨x,t,m,l,[(o,1,1)]⟩,p)])->(∀c u,H c=Za u->c∉[z.dt,z.dm,z.dl,z.dh]->H' c=Za u)->Q .Yh H')/\(∀c,sV a Rf L x o l=Za c->∀H',YH H H'->E (.ref c) Zb H')
def qy(v:Ent×ag->V)(h:qz L x=false):pE (L.map λe=>((ap e.1.nm:Key),v e)) (ap x)=none:=by rw[si];rw[kB];exact d8.mp h |> en.mp
def J6(F:Z' K "house" "Book.house" tF f fd)(T:Txt K mg a)(Rs:Mt P w K mg base a.X8 "need_new_name" 3 ["self","name"] (ux K a))(Rn:Mt P w K mg base a.X8 "need_holder" 3 ["self","name"] (qS K a))(Sr:Fn P w K mg base "need_loss" 1 ["number"] (wk a)):Yt P w K mg base (YW P w) 4 f fd ["self","name","owner","things","mark","loss"] (EM K a):=by
 refine F.Ϫ AZ (λvs H Q E h=>?_) (λRk A outer s H vs Q E hr h=>?_)
 .obtain⟨b,z,Rf,L,x,o,t,m,l,rfl,_⟩:=h;rfl
 .obtain⟨b,z,Rf,L,x,o,t,m,l,rfl,B,nm,no,k1,k2⟩:=h;have hu:=oS hr;refine⟨_,(@mT _ _ _ _ _ (@pN _ _ _ _ (tV (pv 0) Rs (hr.mono (by first|decide|lia)) pH (@mK _ _ _ _ _ (pv 1) Yc (by rfl))) (by rfl)) (@mT _ _ _ _ _ (@pN _ _ _ _ (tV (pv 0) Rn (hr.mono (by first|decide|lia)) pH (@mK _ _ _ _ _ (pv 2) Yc (by rfl))) (by rfl)) (@mT _ _ _ _ _ (@pN _ _ _ _ (@wR _ _ _ _ _ _ _ _ _ _ _ Sr (hr.mono (by first|decide|lia)) rfl pH (@mK _ _ _ _ _ (pv 5) Yc (by rfl)) (by decide) (by rfl) (by rfl)) (by rfl)) (@mT _ _ _ _ _ (@wQ _ _ _ _ _ _ _ _ (@vB _ _ _ _ _ _ _ _ Mg (@pF _ _ _ _ _ _ _ _ _ CG rfl T.Zy Ec (@mK _ _ _ _ _ (o4 (pv 0) rfl) Yc (by rfl)) (by decide) (by decide) (by rfl) (by rfl)) (sx rfl T.Ĝ T.Ě) (vF _)) (@mW _ _ _ (qH T.Ġ rfl T.ħ rfl é zH)) Ze) (@mT _ _ _ _ _ (su hu (o4 (pv 0) rfl) (pv 1) (pv 3) rfl) (@mT _ _ _ _ _ (su hu (o4 (pv 0) rfl) (pv 1) (pv 4) rfl) (@mT _ _ _ _ _ (su hu (o4 (pv 0) rfl) (pv 1) (pv 5) rfl) (@mW _ _ _ (su hu (o4 (pv 0) rfl) (pv 1) (Hc (EY (pv 2) (sx rfl T.ÁC T.ÀW) Ha) rfl rfl (by decide) (by decide)) rfl))))))))),?_⟩;refine⟨_,rfl,b,_,_,rfl,B.ob,um z,_,rfl,b,z,Rf,L,x,rfl,B,nm,λhd H1 s1=>?_,λc hc H1 s1=>?_⟩
  .have B1:=B.same s1;refine⟨_,rfl,b,_,_,rfl,B1.ob,um z,_,rfl,b,z,Rf,L,o,rfl,B1,no,λho=>?_,λho=>?_⟩
   .refine⟨_,rfl,l,rfl,λhl=>?_,λhl=>?_⟩
    .refine k2 _ ?_ H1 s1;unfold sV;rw[hd];show(if(p4 Rf o||qz L o)=false then Za a.YI else _)=_;rw[Zd (by rw[ho];decide),Zc hl]
    .obtain⟨Th,eh,ph,nh⟩:=B1.hh;have W1:Th.length=L.length:=by rw[ph.length_eq,ac]
     refine⟨_,rfl,b,_,_,_,_,rfl,B1.ob,T.cl,T.YT,vM z,_,_,rfl,eh,_,_,rfl,rfl,_,rfl,vY (λh=>?_) (λh=>?_)⟩
     .refine k2 _ ?_ H1 s1;have h:(8:Int)<=(Th.length:Int):=Zf h;rw[W1] at h;unfold sV;rw[hd];show(if(p4 Rf o||qz L o)=false then Za a.YI else _)=_;rw[Zd (by rw[ho];decide),Zd (by lia),Zc (by lia)]
     .have h:¬(8:Int)<=(Th.length:Int):=λz=>h (Zg z);rw[W1] at h;have Xl:L.length<8:=by lia
      have Ux:sV a Rf L x o l=none:=by unfold sV;rw[hd];show(if(p4 Rf o||qz L o)=false then Za a.YI else _)=_;rw[Zd (by rw[ho];decide),Zd (by lia),Zd (by lia)]
      have hx:=(x9 hd).2.2;have sz:∀{v:Ent×ag->V},(L.map λe=>((ap e.1.nm:Key),v e)).length<aG:=λ{v}=>by rw[ac];exact az Xl (by decide)
      obtain⟨hb,r1⟩:=aL.mp B1.nd;obtain⟨hp,r2⟩:=aL.mp r1;obtain⟨ht,r3⟩:=aL.mp r2;obtain⟨hm,r4⟩:=aL.mp r3;obtain⟨Wf,r5⟩:=aL.mp r4;obtain⟨hh,r6⟩:=aL.mp r5;refine⟨_,rfl,_,rfl,b,_,_,_,_,rfl,B1.ob,T.cl,T.ZX,CM z,_,rfl,_,_,rfl,Ö.k (k:=ap x) B1.tt sz,?_⟩;have Wr:b≠z.dt:=λe=>hb (by rw[e];simp);have X5:b≠z.dm:=λe=>hb (by rw[e];simp);have b_l:b≠z.dl:=λe=>hb (by rw[e];simp);have b_h:b≠z.dh:=λe=>hb (by rw[e];simp);have p_t:z.dp≠z.dt:=λe=>hp (by rw[e];simp);have p_m:z.dp≠z.dm:=λe=>hp (by rw[e];simp);have p_l:z.dp≠z.dl:=λe=>hp (by rw[e];simp);have p_h:z.dp≠z.dh:=λe=>hp (by rw[e];simp);have WD:z.dt≠z.dm:=λe=>ht (by rw[e];simp);have WE:z.dt≠z.dl:=λe=>ht (by rw[e];simp);have t_h:z.dt≠z.dh:=λe=>ht (by rw[e];simp);have WV:z.dm≠z.dl:=λe=>hm (by rw[e];simp);have m_h:z.dm≠z.dh:=λe=>hm (by rw[e];simp);have l_h:z.dl≠z.dh:=λe=>Wf (by rw[e];simp);refine⟨_,rfl,_,rfl,b,_,_,_,_,rfl,(by rw[mq Wr];exact B1.ob),T.cl,T.Ñ,HG z,_,rfl,_,_,rfl,Ö.k (k:=ap x) (by rw[mq WD.symm];exact B1.mm) sz,?_⟩;refine⟨_,rfl,_,rfl,b,_,_,_,_,rfl,(by rw[mq X5,mq Wr];exact B1.ob),T.cl,T.Ò,HH z,_,rfl,_,_,rfl,Ö.k (k:=ap x) (by rw[mq WV.symm,mq WE.symm];exact B1.ll) sz,?_⟩;intro p SY;have e0:∀c,c≠z.dt->c≠z.dm->c≠z.dl->∀A B C,(upd (upd (upd H1 z.dt A) z.dm B) z.dl C) c=H1 c:=λc c1 c2 c3 A B C=>by rw[mq c3,mq c2,mq c1]
      have V2:p≠z.dt:=λe=>by rw[e,mq WE,mq WD,mw] at SY;cases SY
      have V3:p≠z.dm:=λe=>by rw[e,mq WV,mw] at SY;cases SY
      have V4:p≠z.dl:=λe=>by rw[e,mw] at SY;cases SY
      have SU:H1 p=none:=by rw[e0 p V2 V3 V4] at SY;exact SY
      have hp0:H p=none:=s1.free SU;have V5:p≠z.dh:=λe=>by rw[e,eh] at SU;cases SU
      have V6:p≠b:=λe=>by rw[e,B1.ob] at SU;cases SU
      have q_p:p≠z.dp:=λe=>by rw[e,B1.pp] at SU;cases SU
      refine⟨_,rfl,mw,[(ap o,.ref a.ONE)],rfl,(show 1<=15 by decide),_,rfl,b,_,_,_,_,rfl,(by rw[mq V6.symm,mq V6.symm,e0 b Wr X5 b_l];exact B1.ob),T.cl,T.YT,vM z,_,rfl,_,_,rfl,Ö.k (k:=ap x) (by rw[mq V5.symm,mq V5.symm,e0 z.dh t_h.symm m_h.symm l_h.symm];exact eh) (by rw[W1];exact az Xl (by decide)),?_⟩;have VO:∀c,c≠p->c≠z.dh->c≠z.dt->c≠z.dm->c≠z.dl->∀A B C D E F,(upd (upd (upd (upd (upd (upd H1 z.dt A) z.dm B) z.dl C) p D) p E) z.dh F) c=H1 c:=λc c1 c2 c3 c4 c5 A B C D E F=>by rw[mq c2,mq c1,mq c1,mq c5,mq c4,mq c3]
      refine k1 Ux p _ hp0 ?_ λc u e hc=>?_
      .refine⟨?_,?_,?_,?_,?_,?_,λe he=>?_,?_,B1.p6,by rw[aZ];exact Xl⟩
       .rw[VO b V6.symm b_h Wr X5 b_l];exact B1.ob
       .rw[VO z.dp q_p.symm p_h p_t p_m p_l];exact B1.pp
       .rw[mq t_h,mq V2.symm,mq V2.symm,mq WE,mq WD,mw,uZ _ (qy _ hx),aC];rfl
       .rw[mq m_h,mq V3.symm,mq V3.symm,mq WV,mw,uZ _ (qy _ hx),aC];rfl
       .rw[mq l_h,mq V4.symm,mq V4.symm,mw,uZ _ (qy _ hx),aC];rfl
       .have hv:pE Th (ap x)=none:=by rw[EE ph nh];exact qy _ hx
        refine⟨_,mw,?_,?_⟩
        .rw[uZ _ hv,aC];exact ph.append_right _
        .rw[aC,aC,am,cT];refine zF nh λhq=>?_;obtain⟨kv,hkv,ekv⟩:=aq.mp hq;have e1:=(zf (k:=kv.1) (v:=kv.2) nh).mpr hkv;rw[ekv,qy _ hx] at e1;cases e1
       .obtain he|he:=ba.mp he
        .have UT:e.2∈L.map (·.2):=aq.mpr ⟨e,he,rfl⟩;have d1:e.2≠z.dh:=λq=>hh (q▸UT);have d2:e.2≠z.dt:=λq=>ht (by rw[<-q];simp only[ao];right;right;right;exact UT);have d3:e.2≠z.dm:=λq=>hm (by rw[<-q];simp only[ao];right;right;exact UT);have d4:e.2≠z.dl:=λq=>Wf (by rw[<-q];simp only[ao];right;exact UT);have d5:e.2≠p:=λq=>by obtain⟨ts,_,q2,_⟩:=B1.he e he;rw[q,SU] at q2;cases q2
         refine(B1.he e he).keep (λu h=>?_) λc u h y=>?_
         .rw[VO e.2 d5 d1 d2 d3 d4];exact h
         .have nt:∀{q:ag}{kv:List (Key×V)},H1 q=Za (.dK kv)->c≠q:=λhq=>DV h hq (by rcases y with⟨xs,rfl|⟨ob,rfl⟩⟩<;>intro z<;>cases z);rw[VO c (mH h SU) (nt eh) (nt B1.tt) (nt B1.mm) (nt B1.ll)];exact h
        .rw[ax.mp he];refine⟨[a.ONE],rfl,?_,λq hq=>?_⟩
         .rw[mq V5,mw];rfl
         .rw[ax.mp hq];exact .inr T.one
       .have hpL:p∉L.map (·.2):=λhq=>by obtain⟨e,he,rfl⟩:=aq.mp hq;obtain⟨ts,_,q2,_⟩:=B1.he e he;rw[SU] at q2;cases q2
        have:=zF (k:=p) B1.nd (by
         intro hq;simp only[ao] at hq;obtain e|e|e|e|e|e|e:=hq
         .exact V6 e
         .exact q_p e
         .exact V2 e
         .exact V3 e
         .exact V4 e
         .exact V5 e
         .exact hpL e)
        rw[aC];exact this
      .have e1:=s1 c u e;have c0:c≠p:=mH e1 SU;simp only[ao,fJ,or_false,not_or] at hc;rw[VO c c0 hc.2.2.2 hc.1 hc.2.1 hc.2.2.1];exact e1
   .refine k2 _ ?_ H1 s1;unfold sV;rw[hd];exact Zc ho
  .refine k2 c ?_ H1 s1;unfold sV;rw[hc]
def ZI(K:aa)(H:Hp)(q:Str×Int×Int)(v:V):Prop:=∃t u,v=.ref t/\Zz K H t [.str q.1,.ref u]/\Zz K H u [.int q.2.1,.int q.2.2]
def ZI.keep{K}(h:ZI K H q v)(k:∀c o,H c=Za o->(∃xs,o=.tup xs\/∃ob,o=.YQ ob (.tup xs))->H' c=Za o):ZI K H' q v:=by obtain⟨t,u,e,h1,h2⟩:=h;exact⟨t,u,e,vy h1 k,vy h2 k⟩
def MD(hp:H p=Za (.lst xs)):∀c o,H c=Za o->(∃xs,o=.tup xs\/∃ob,o=.YQ ob (.tup xs))->(upd H p o') c=Za o:=λc o h x=>by rw[mq (DV h hp (by grind))];exact h
def Jt{l:List (Str×Int×Int)}{ts:List ag}(hl:ts.length=l.length){n:Str}(hn:n∈l.map (·.1)):∃q,(l.zip ts).find? (λq=>decide (q.1.1=n))=Za q/\q∈l.zip ts/\q.1=nc l n/\(nc l n).1=n:=by
 have e:(l.zip ts).map (·.1)=l:=jk (by lia);cases h:(l.zip ts).find? (λq=>decide (q.1.1=n)) with
 |none =>
  grind
 |some q =>
  have e2:l.find? (λq=>decide (q.1=n))=Za q.1:=by
   rw[<-e,gy];show((l.zip ts).find? (λq=>decide (q.1.1=n))).map (·.1)=Za q.1
   simp_all
  have e3:nc l n=q.1:=by unfold nc;rw[e2];rfl
  grind
def zl(K:aa)(C:ag):Sp:=λvs H Q _=>∃b z Rf L,vs=[.ref b]/\Yn K C H b z Rf L/\∀l,H l=Zb->Q (.ref l) (upd H l (.lst ((Yu Rf).map V.str)))
abbrev qV:bK:=oo (top 40) 12
def yv:K' ["self"] ["self"] (mC qV):=Y5
def FN(F:Z' K "persons" "Book.persons" qV f fd)(T:Txt K mg a):Yt P w K mg base (YW P w) 1 f fd ["self"] (zl K a.X8):=by
 refine F.okN yv (λvs H Q E h=>?_) (λRk A outer s H vs Q E hr h=>?_)
 .obtain⟨b,z,Rf,L,rfl,_⟩:=h;rfl
 .obtain⟨b,z,Rf,L,rfl,B,k⟩:=h;have hu:=oS hr;refine⟨_,(@mW _ _ _ (@ra _ _ _ _ (@pF _ _ _ _ _ _ _ _ _ (qN rfl) rfl T.YS vv (@mK _ _ _ _ _ (o4 (pv 0) rfl) Yc (by rfl)) (by decide) (by decide) (by rfl) (by rfl)))),?_⟩;exact⟨_,rfl,b,_,_,_,_,rfl,B.ob,T.cl,T.ZM,vw z,_,_,Rf,rfl,.inl B.pp,by rw[aD];rfl,aX B.p6 (by decide),k⟩
def B9(K:aa)(C:ag):Sp:=λvs H Q _=>∃b z Rf L,vs=[.ref b]/\Yn K C H b z Rf L/\∀l,H l=Zb->Q (.ref l) (upd H l (.lst ((Yu (L.map (·.1.nm))).map V.str)))
abbrev rV:bK:=oo (top 40) 13
def yZ:K' ["self"] ["self"] (mC rV):=Y5
def Iy(F:Z' K "houses" "Book.houses" rV f fd)(T:Txt K mg a):Yt P w K mg base (YW P w) 1 f fd ["self"] (B9 K a.X8):=by
 refine F.okN yZ (λvs H Q E h=>?_) (λRk A outer s H vs Q E hr h=>?_)
 .obtain⟨b,z,Rf,L,rfl,_⟩:=h;rfl
 .obtain⟨b,z,Rf,L,rfl,B,k⟩:=h;have hu:=oS hr;refine⟨_,(@mW _ _ _ (@ra _ _ _ _ (@pF _ _ _ _ _ _ _ _ _ (qN rfl) rfl T.YS vv (@mK _ _ _ _ _ (o4 (pv 0) rfl) Yc (by rfl)) (by decide) (by decide) (by rfl) (by rfl)))),?_⟩;obtain⟨Th,ss,eh,ek,ps⟩:=B.hh.keys;rw[<-Ef ps] at k;exact⟨_,rfl,b,_,_,_,_,rfl,B.ob,T.cl,T.YT,vM z,_,_,ss,rfl,.inl eh,ek,by rw[ps.length_eq,ac];exact aX B.h8 (Zf rfl),k⟩
abbrev xM:bK:=oo (top 40) 15
def FH:K' ["self","house"] ["self","house"] (mC xM):=Y5
def OF(K:aa)(a:Yg):Sp:=λvs H Q E=>∃b z Rf L x,vs=[.ref b,.str x]/\Yn K a.X8 H b z Rf L/\Nm x/\(∀e,oP L x=Za e->∀t,H t=Zb->Q (.ref t) (upd H t (.tup [.int e.1.th,.int e.1.mr,.int e.1.ls])))/\(oP L x=Zb->E (.ref a.Zk) Zb H)
def AM(v:Ent×ag->V)(h:oP L x=Za e):pE (L.map λe=>((ap e.1.nm:Key),v e)) (ap x)=Za (v e):=by rw[si];unfold oP at h;rw[h];rfl
def À9(F:Z' K "of" "Book.of" xM f fd)(T:Txt K mg a)(Rl:Mt P w K mg base a.X8 "need_house" 2 ["self","name"] (qe K a)):Yt P w K mg base (YW P w) 3 f fd ["self","house"] (OF K a):=by
 refine F.Ϫ FH (λvs H Q E h=>?_) (λRk A outer s H vs Q E hr h=>?_)
 .obtain⟨b,z,Rf,L,x,rfl,_⟩:=h;rfl
 .obtain⟨b,z,Rf,L,x,rfl,B,nm,k1,k2⟩:=h;have hu:=oS hr;refine⟨_,(@mT _ _ _ _ _ (@pN _ _ _ _ (tV (pv 0) Rl (hr.mono (by first|decide|lia)) pH (@mK _ _ _ _ _ (pv 1) Yc (by rfl))) (by rfl)) (@mW _ _ _ (@ra _ _ _ _ (@wy _ _ _ _ _ (@mK _ _ _ _ _ (@sC _ _ _ _ _ _ hu (o4 (pv 0) rfl) (pv 1) (λ_ _=>rfl)) (@mK _ _ _ _ _ (@sC _ _ _ _ _ _ hu (o4 (pv 0) rfl) (pv 1) (λ_ _=>rfl)) (@mK _ _ _ _ _ (@sC _ _ _ _ _ _ hu (o4 (pv 0) rfl) (pv 1) (λ_ _=>rfl)) Yc (by rfl)) (by rfl)) (by rfl)))))),?_⟩;refine⟨_,rfl,b,_,_,rfl,B.ob,um z,_,rfl,b,z,Rf,L,x,rfl,B,nm,λh=>?_,λh=>k2 ?_⟩
  .cases he:oP L x with
   |none=>unfold qz at h;unfold oP at he;rw[he] at h;cases h
   |some e =>
    refine⟨_,rfl,b,_,_,_,_,rfl,B.ob,T.cl,T.ZX,CM z,_,rfl,_,_,rfl,?_,_,rfl,b,_,_,_,_,rfl,B.ob,T.cl,T.Ñ,HG z,_,rfl,_,_,rfl,?_,_,rfl,b,_,_,_,_,rfl,B.ob,T.cl,T.Ò,HH z,_,rfl,_,_,rfl,?_,(show 3<=aG by decide),λt ht=>k1 e he t ht⟩
    .have:=Y3.k (k:=ap x) B.tt;rw[AM _ he] at this;exact this
    .have:=Y3.k (k:=ap x) B.mm;rw[AM _ he] at this;exact this
    .have:=Y3.k (k:=ap x) B.ll;rw[AM _ he] at this;exact this
  .unfold qz at h;unfold oP;exact d8.mp h |> en.mp
abbrev qg:bK:=oo (top 40) 14
def Ã:K' ["self","house","held"] ["self","house"] (mC qg):=Y5
def B7(K:aa)(a:Yg):Sp:=λvs H Q E=>∃b z Rf L x,vs=[.ref b,.str x]/\Yn K a.X8 H b z Rf L/\Nm x /\
 (∀e,oP L x=Za e->e.1.held.length<64/\∀l ys H',H l=Zb->YH H H'->H' l=Za (.lst ys)->eW (ZI K H') ((Yu (e.1.held.map (·.1))).map (nc e.1.held)) ys->Q (.ref l) H')/\(oP L x=Zb->E (.ref a.Zk) Zb H)
def Iu(F:Z' K "shares" "Book.shares" qg f fd)(T:Txt K mg a)(Rl:Mt P w K mg base a.X8 "need_house" 2 ["self","name"] (qe K a)):Yt P w K mg base (YW P w) 3 f fd ["self","house"] (B7 K a):=by
 refine F.Ϫ Ã (λvs H Q E h=>?_) (λRk A outer s H vs Q E hr h=>?_)
 .obtain⟨b,z,Rf,L,x,rfl,_⟩:=h;rfl
 .obtain⟨b,z,Rf,L,x,rfl,B,nm,k1,k2⟩:=h;have hu:=oS hr;refine⟨_,(@mT _ _ _ _ _ (@pN _ _ _ _ (tV (pv 0) Rl (hr.mono (by first|decide|lia)) pH (@mK _ _ _ _ _ (pv 1) Yc (by rfl))) (by rfl)) (@mT _ _ _ _ _ (@sT _ _ (2) _ _ _ _ Ã.nd rfl (gM rfl) (@sC _ _ _ _ _ _ hu (o4 (pv 0) rfl) (pv 1) (λ_ _=>rfl)) (by rfl) (by first|exact .inl rfl|exact .inr rfl|assumption)) (@mW _ _ _ (@ra _ _ _ _ (zB (fr:=["held"]) (ix:=[2]) rfl (by exact(show Y8 ["self","house","held"] (mC qg) _ _ _ _ from cok)) (M6 (@pF _ _ _ _ _ _ _ _ _ (qN rfl) rfl T.YS vv (@mK _ _ _ _ _ (pv 2) Yc (by rfl)) (by decide) (by decide) (by rfl) (by rfl))) (λ_ _ _ _ _=>At) (λ_ _ _ _ _=>(wy (mK (pv 0) (mK (sC hu (pv 1) (pv 0) (λ_ _=>rfl)) Yc))))))))),?_⟩;refine⟨_,rfl,b,_,_,rfl,B.ob,um z,_,rfl,b,z,Rf,L,x,rfl,B,nm,λh=>?_,λh=>k2 ?_⟩
  .cases he:oP L x with
   |none=>unfold qz at h;unfold oP at he;rw[he] at h;cases h
   |some e =>
    obtain⟨T0,k1⟩:=k1 e he;obtain⟨ts,hl,hd,hts⟩:=B.he e (sM he);have Vs:(((e.1.held.zip ts).map λq=>((ap q.1.1:Key),V.ref q.2)).map (·.1))=(e.1.held.map (·.1)).map ap:=by
     rw[aD,aD];have e1:(e.1.held.zip ts).map (·.1)=e.1.held:=jk (by lia)
     conv=>rhs;rw[<-e1,aD]
     rfl
    refine⟨_,rfl,b,_,_,_,_,rfl,B.ob,T.cl,T.YT,vM z,_,rfl,_,.ref e.2,rfl,?_,_,rfl,e.2,_,e.1.held.map (·.1),rfl,.inl hd,Vs,by rw[ac];exact T0,λl Uo=>?_⟩
    .have:=B.hh.Ày x;rw[AM _ he] at this;exact this
    .refine⟨l,rfl,⟨_,YO.of mw⟩,λD hD=>?_⟩;have lD:l≠D:=mH mw hD;have XM:H D=none:=by rw[mq lD.symm] at hD;exact hD
     have hDp:e.2≠D:=mH hd XM;refine HD (J:=Itl K l) (Yu (e.1.held.map (·.1))).length (λi ys H'=>YH H H'/\H' D=Za (.lst ys)/\H' l=Za (.lst ((Yu (e.1.held.map (·.1))).map V.str))/\eW (ZI K H') (((Yu (e.1.held.map (·.1))).take i).map (nc e.1.held)) ys)
      ⟨?_,mw,?_,.nil⟩ ?_ (λi ys H' r=>r.2.1) (λi ys H' hi r=>⟨_,.str ((Yu (e.1.held.map (·.1)))[i]),YO.of r.2.2.1,by simp[hi]⟩) ?_ ?_
     .exact(sS Uo).trans (sS hD)
     .rw[mq lD,mw]
     .rw[vS,ac];exact aJ (fC T0) (Zf rfl)
     .rintro i ys Hx v H' hi ⟨s1,h1,h2,h3⟩ ⟨rfl,hy⟩ Kt Kf q1 q2
      have hv:=hy _ (YO.of h2);have ev:v=.str ((Yu (e.1.held.map (·.1)))[i]):=by rw[aF,aA hi] at hv;exact(bL hv).symm
      subst ev;have Um:(Yu (e.1.held.map (·.1)))[i]∈e.1.held.map (·.1):=(mJ _).mem_iff.mp (cU hi);obtain⟨q,f1,f2,f3,f4⟩:=Jt hl Um;have Tw:pE ((e.1.held.zip ts).map λq=>((ap q.1.1:Key),V.ref q.2)) (ap ((Yu (e.1.held.map (·.1)))[i]))=Za (.ref q.2):=by rw[si (key:=λq:(Str×Int×Int)×ag=>q.1.1),f1];rfl
      refine ÀB ⟨_,rfl,_,rfl,_,rfl,e.2,.ref q.2,rfl,?_,(show 2<=aG by decide),λp hp=>?_⟩
      .have:=Y3.k (k:=ap ((Yu (e.1.held.map (·.1)))[i])) (s1 _ _ hd);rw[Tw] at this;exact this
      .have pD:D≠p:=mH h1 hp;have pl:l≠p:=mH h2 hp;refine q1 _ _ (by rw[mq pD];exact h1) ⟨?_,mw,?_,?_⟩
       .intro c o hc;rw[mq (λz=>by rw[z] at hc;rw[XM] at hc;cases hc),mq (mH (s1 c o hc) hp)];exact s1 c o hc
       .rw[mq lD,mq pl];exact h2
       .have kp:∀c o,H' c=Za o->(∃xs,o=.tup xs\/∃ob,o=.YQ ob (.tup xs))->(upd (upd H' p (.tup [.str ((Yu (e.1.held.map (·.1)))[i]),.ref q.2])) D (.lst (ys++[.ref p]))) c=Za o:=λc o hc x=>by rw[MD (xs:=ys) (by rw[mq pD];exact h1) c o (by rw[mq (mH hc hp)];exact hc) x]
        have e5:((Yu (e.1.held.map (·.1))).take (i+1)).map (nc e.1.held)=((Yu (e.1.held.map (·.1))).take i).map (nc e.1.held)++[nc e.1.held ((Yu (e.1.held.map (·.1)))[i])]:=by rw[d6,aA hi,aC];rfl
        rw[e5];refine kN (eW.Ϻ h3 λq v hq=>hq.keep kp) ⟨p,q.2,rfl,?_,?_⟩
        .apply Zz.of;rw[mq pD.symm,mw,f4]
        .rw[<-f3];exact vy (hts q f2) λc o hc x=>kp c o (s1 c o hc) x
     .rintro ys H' hy ⟨s1,h1,h2,h3⟩
      refine⟨⟨_,YO.of h2,by rw[ac];exact ak _⟩,k1 D ys H' XM s1 h1 ?_⟩;rw[jj] at h3;exact h3
  .unfold qz at h;unfold oP;exact d8.mp h |> en.mp
end
end My
namespace L2
open PySem PySem.Spec PyProof.Rows
section
variable{X:Cx}
def Âr(K:aa):R2:=λx y H Q=>∃p q xs ys,x=.ref p/\y=.ref q/\Zz K H p xs/\Zz K H q ys/\xs.length=ys.length/\xs.all tX=true/\ys.all tX=true/\Q (.bl (NX xs ys)) H
def P4(hu:X.A.units<fj):Zq X (bO .Eq) (Âr X.K):=by
 rintro Q9 s O H x y v u Q I rx ry ⟨p,q,xs,ys,rfl,rfl,hp,hq,hl,fx,fy,k⟩
 cases rx;cases ry;obtain⟨its,r,pl,_⟩:=I.tuple hp;obtain⟨Sf,r2,pl2,_⟩:=I.tuple hq;have e1:=r.length;have e2:=r2.length;refine SeqAt.eq_tupleAt pl pl2 hu (FW r r2 hl fx fy) ⟨.bl _,H,I,rfl,?_⟩;have e3:its.toArray.size=Sf.toArray.size:=by simp;lia
 rw[e3,Nat.min_self,beq_self_eq_true,Bool.and_true,bj,<-e2,<-hl,<-Fc hl];exact k
end
end L2
namespace My
open PySem L2 Fra
def E7(x y)(h:0<y):aH y (x%y)=aH x y:=by
 have e:x%y=x-(x/y)*y:=by rw[Int.emod_def,bR]
 rw[e,Int.gcd_comm,Int.gcd_sub_mul_right_left]
def Ky(h:0<=x):(aH x 0:Int)=x:=by rw[Int.gcd_zero_right];lia
structure Sz(q:Int×Int):Prop where
 low:æ q
 bt:Bt 8900 q.1
 bb:Bt 8900 q.2
def Z5(K:aa)(H:Hp)(p:ag)(q:Int×Int):Prop:=Zz K H p [.int q.1,.int q.2]
def Z5.same{K}(h:Z5 K H p q)(s:YH H H'):Z5 K H' p q:=ET s h
section
variable{P:aK}{w:aT}{K:aa}{mg:Str->Option ae}{base:bc}{a:Yg}{f:ag}{fd:cg}
abbrev pY:bK:=top 17
def YL:K' ["number","other","rest"] ["number","other"] (mC pY):=Y5
def Gs:Sp:=λvs H Q _=>∃n m,vs=[.int n,.int m]/\0<m/\Q (.int (aH n m)) H
def P8(F:Z' K "common_divisor" "common_divisor" pY f fd)(T:Txt K mg a):Yt P w K mg base (YW P w) 1 f fd ["number","other"] Gs:=by
 refine F.okN YL (λvs H Q E h=>?_) (λRk A outer s H vs Q E hr h=>?_)
 .obtain⟨n,m,rfl,_⟩:=h;rfl
 .obtain⟨n,m,rfl,hm,k⟩:=h;have hu:=oS hr;refine⟨_,(@mT _ _ _ _ _ (EX gK (@vB _ _ _ _ _ _ _ _ À5 (pv 1) YK (vF _)) (@mT _ _ _ _ _ (@sT _ _ (2) _ _ _ _ YL.nd rfl (eB rfl) (@ud _ _ _ _ _ _ _ _ Lq (pv 0) (pv 1)) (by rfl) (by first|exact .inl rfl|exact .inr rfl|assumption)) (@mT _ _ _ _ _ (@sT _ _ (0) _ _ _ _ YL.nd rfl (eB rfl) (pv 1) (by rfl) (by first|exact .inl rfl|exact .inr rfl|assumption)) (@mW _ _ _ (@sT _ _ (1) _ _ _ _ YL.nd rfl (eB rfl) (pv 2) (by rfl) (by first|exact .inl rfl|exact .inr rfl|assumption)))))) (@mW _ _ _ (@ra _ _ _ _ (pv 0)))),?_⟩;refine⟨λc O H'=>H'=H/\∃x y v,O=[Za (.int x),Za (.int y),v]/\0<=y/\c=y.toNat/\aH x y=aH n m/\(y=0->0<=x),⟨_,rfl,n,m,_,rfl,by lia,rfl,rfl,by lia⟩,?_⟩
  rintro c O H' ⟨rfl,x,y,v,rfl,hy,rfl,hg,hx⟩
  refine⟨_,rfl,rfl,_,rfl,vY (λh=>?_) (λh=>?_)⟩
  .have Vh:0<y:=by
    grind
   refine⟨λYy H''=>H''=H'/\∃v',Yy=[Za (.int y),Za (.int (x%y)),v'],?_,?_⟩
   .rintro Yy H'' ⟨rfl,v',rfl⟩
    have m0:=eV x (show y≠0 by lia);have m1:=dN x Vh;exact⟨(x%y).toNat,by lia,rfl,_,_,_,rfl,m0,rfl,(E7 x y Vh).trans hg,λ_=>hy⟩
   .exact⟨_,rfl,_,rfl,_,_,rfl,rfl,Vh,_,rfl,_,rfl,rfl,_,rfl⟩
  .have Vh:=V.int.inj (Zf (nbF h));subst Vh;refine⟨_,rfl,?_⟩;rw[Ky (hx rfl) |>.symm,hg];exact k
abbrev Gv:bK:=top 19
def ô:K' ["first","second","common","top","shared"] ["first","second"] (mC Gv):=Y5
def zk(K:aa):Sp:=λvs H Q _=>∃p1 p2 q1 q2,vs=[.ref p1,.ref p2]/\Z5 K H p1 q1/\Z5 K H p2 q2/\Sz q1/\Sz q2/\∀x,H x=Zb->Q (.ref x) (upd H x (.tup [.int (oG q1 q2).1,.int (oG q1 q2).2]))
def Nu(F:Z' K "plus" "plus" Gv f fd)(T:Txt K mg a)(Rz:Fn P w K mg base "common_divisor" 1 ["number","other"] Gs):Yt P w K mg base (YW P w) 2 f fd ["first","second"] (zk K):=by
 refine F.okN ô (λvs H Q E h=>?_) (λRk A outer s H vs Q E hr h=>?_)
 .obtain⟨p1,p2,q1,q2,rfl,_⟩:=h;rfl
 .obtain⟨p1,p2,⟨t1,b1⟩,⟨t2,b2⟩,rfl,h1,h2,s1,s2,k⟩:=h;have hu:=oS hr;refine⟨_,(@mT _ _ _ _ _ (@sT _ _ (2) _ _ _ _ ô.nd rfl (eB rfl) (@wR _ _ _ _ _ _ _ _ _ _ _ Rz (hr.mono (by first|decide|lia)) rfl rW (@mK _ _ _ _ _ (@sI _ _ _ _ _ _ _ YU (pv 0) YK (λ_ _=>rfl)) (@mK _ _ _ _ _ (@sI _ _ _ _ _ _ _ YU (pv 1) YK (λ_ _=>rfl)) Yc (by rfl)) (by rfl)) (by decide) (by rfl) (by rfl)) (by rfl) (by first|exact .inl rfl|exact .inr rfl|assumption)) (@mT _ _ _ _ _ (@sT _ _ (3) _ _ _ _ ô.nd rfl (eB rfl) (@ud _ _ _ _ _ _ _ _ ϕ (@ud _ _ _ _ _ _ _ _ Ç (@sI _ _ _ _ _ _ _ YU (pv 0) YK (λ_ _=>rfl)) (@ud _ _ _ _ _ _ _ _ sU (@sI _ _ _ _ _ _ _ YU (pv 1) YK (λ_ _=>rfl)) (pv 2))) (@ud _ _ _ _ _ _ _ _ Ç (@sI _ _ _ _ _ _ _ YU (pv 1) YK (λ_ _=>rfl)) (@ud _ _ _ _ _ _ _ _ sU (@sI _ _ _ _ _ _ _ YU (pv 0) YK (λ_ _=>rfl)) (pv 2)))) (by rfl) (by first|exact .inl rfl|exact .inr rfl|assumption)) (@mT _ _ _ _ _ (@sT _ _ (4) _ _ _ _ ô.nd rfl (eB rfl) (@wR _ _ _ _ _ _ _ _ _ _ _ Rz (hr.mono (by first|decide|lia)) rfl rW (@mK _ _ _ _ _ (pv 3) (@mK _ _ _ _ _ (pv 2) Yc (by rfl)) (by rfl)) (by decide) (by rfl) (by rfl)) (by rfl) (by first|exact .inl rfl|exact .inr rfl|assumption)) (@mW _ _ _ (@ra _ _ _ _ (@wy _ _ _ _ _ (@mK _ _ _ _ _ (@ud _ _ _ _ _ _ _ _ sU (pv 3) (pv 4)) (@mK _ _ _ _ _ (@ud _ _ _ _ _ _ _ _ Ç (@ud _ _ _ _ _ _ _ _ sU (@sI _ _ _ _ _ _ _ YU (pv 0) YK (λ_ _=>rfl)) (pv 2)) (@ud _ _ _ _ _ _ _ _ sU (@sI _ _ _ _ _ _ _ YU (pv 1) YK (λ_ _=>rfl)) (pv 4))) Yc (by rfl)) (by rfl)))))))),?_⟩;rw[<-Oy s1.low s2.low] at k;have b10:0<b1:=s1.low.1;have b20:0<b2:=s2.low.1;have hd:0<aH b1 b2:=bx _ (by lia);have VF:(0:Int)<(aH b1 b2:Int):=by lia
  have bd:Bt 8900 (aH b1 b2:Int):=s1.bb.dvd (show b1≠0 by lia) (fU ..);have ld:=(bd.mono (by decide)).log VF;refine⟨_,rfl,p1,_,1,_,rfl,rfl,h1,nJ rfl,_,rfl,p2,_,1,_,rfl,rfl,h2,nJ rfl,b1,b2,rfl,b20,?_⟩;refine⟨_,rfl,p1,_,0,_,rfl,rfl,h1,nJ rfl,_,rfl,p2,_,1,_,rfl,rfl,h2,nJ rfl,_,rfl,_,_,rfl,rfl,⟨VF,ld⟩,_,_,rfl,rfl,⟨s1.bt.mono (by decide),(s2.bb.div).mono (by decide)⟩,?_⟩;refine⟨_,rfl,p2,_,0,_,rfl,rfl,h2,nJ rfl,_,rfl,p1,_,1,_,rfl,rfl,h1,nJ rfl,_,rfl,_,_,rfl,rfl,⟨VF,ld⟩,_,_,rfl,rfl,⟨s2.bt.mono (by decide),(s1.bb.div).mono (by decide)⟩,_,_,rfl,rfl,?_⟩;have he:0<aH (t1*(b2/(aH b1 b2:Int))+t2*(b1/(aH b1 b2:Int))) (aH b1 b2:Int):=bx _ (by lia);have Xs:(0:Int)<(aH (t1*(b2/(aH b1 b2:Int))+t2*(b1/(aH b1 b2:Int))) (aH b1 b2:Int):Int):=by lia
  have be:Bt 8900 (aH (t1*(b2/(aH b1 b2:Int))+t2*(b1/(aH b1 b2:Int))) (aH b1 b2:Int):Int):=bd.dvd (by lia) (cm ..);have le:=(be.mono (by decide)).log Xs;refine⟨_,rfl,_,rfl,_,_,rfl,VF,?_⟩;refine⟨_,rfl,_,rfl,_,_,rfl,rfl,⟨Xs,le⟩,_,rfl,p1,_,1,_,rfl,rfl,h1,nJ rfl,_,rfl,_,_,rfl,rfl,⟨VF,ld⟩,_,rfl,p2,_,1,_,rfl,rfl,h2,nJ rfl,_,rfl,_,_,rfl,rfl,⟨Xs,le⟩,_,_,rfl,rfl,⟨(s1.bb.div).mono (by decide),(s2.bb.div).mono (by decide)⟩,(show 2<=aG by decide),λx hx=>?_⟩;exact k x hx
abbrev Dp:bK:=top 20
def JI:K' ["first","second"] ["first","second"] (mC Dp):=Y5
def EL(K:aa):Sp:=λvs H Q _=>∃p1 p2 q1 q2,vs=[.ref p1,.ref p2]/\Z5 K H p1 q1/\Z5 K H p2 q2/\Sz q1/\Sz q2/\∀x H',H x=Zb->YH H H'->H' x=Za (.tup [.int (oG q1 (-q2.1,q2.2)).1,.int (oG q1 (-q2.1,q2.2)).2])->Q (.ref x) H'
theorem Sz.neg(h:Sz q):Sz (-q.1,q.2):=⟨⟨h.low.1,by have:=h.low.2;unfold Ĕ aH at *;simp[iM];exact this⟩,h.bt.neg,h.bb⟩
def J5(F:Z' K "minus" "minus" Dp f fd)(T:Txt K mg a)(SG:Fn P w K mg base "plus" 2 ["first","second"] (zk K)):Yt P w K mg base (YW P w) 3 f fd ["first","second"] (EL K):=by
 refine F.okN JI (λvs H Q E h=>?_) (λRk A outer s H vs Q E hr h=>?_)
 .obtain⟨p1,p2,q1,q2,rfl,_⟩:=h;rfl
 .obtain⟨p1,p2,⟨t1,b1⟩,⟨t2,b2⟩,rfl,h1,h2,s1,s2,k⟩:=h;have hu:=oS hr;refine⟨_,(@mW _ _ _ (@ra _ _ _ _ (@wR _ _ _ _ _ _ _ _ _ _ _ SG (hr.mono (by first|decide|lia)) rfl rW (@mK _ _ _ _ _ (pv 0) (@mK _ _ _ _ _ (@wy _ _ _ _ _ (@mK _ _ _ _ _ (@OM _ _ _ _ _ _ K7 (@sI _ _ _ _ _ _ _ YU (pv 1) YK (λ_ _=>rfl))) (@mK _ _ _ _ _ (@sI _ _ _ _ _ _ _ YU (pv 1) YK (λ_ _=>rfl)) Yc (by rfl)) (by rfl))) Yc (by rfl)) (by rfl)) (by decide) (by rfl) (by rfl)))),?_⟩;refine⟨_,rfl,_,rfl,p2,_,0,_,rfl,rfl,h2,nJ (j:=0) rfl,_,rfl,_,rfl,p2,_,1,_,rfl,rfl,h2,nJ (j:=1) rfl,(show 2<=aG by decide),λy hy=>?_⟩;have sy:=sS (o:=.tup [.int (-t2),.int b2]) hy;refine⟨p1,y,(t1,b1),(-t2,b2),rfl,h1.same sy,Zz.of mw,s1,s2.neg,λx hx=>?_⟩;refine k x _ (sy.free hx) (sy.trans (sS hx)) mw
abbrev vU:bK:=top 21
def Eh:K' ["first","second"] ["first","second"] (mC vU):=Y5
def EO(K:aa):Sp:=λvs H Q _=>∃p1 p2 q1 q2,vs=[.ref p1,.ref p2]/\Z5 K H p1 q1/\Z5 K H p2 q2/\Sz q1/\Sz q2/\Q (.bl (decide (q1.1*q2.2>q2.1*q1.2))) H
def J7(F:Z' K "is_above" "is_above" vU f fd)(T:Txt K mg a):Yt P w K mg base (YW P w) 1 f fd ["first","second"] (EO K):=by
 refine F.okN Eh (λvs H Q E h=>?_) (λRk A outer s H vs Q E hr h=>?_)
 .obtain⟨p1,p2,q1,q2,rfl,_⟩:=h;rfl
 .obtain⟨p1,p2,⟨t1,b1⟩,⟨t2,b2⟩,rfl,h1,h2,s1,s2,k⟩:=h;have hu:=oS hr;refine⟨_,(@mW _ _ _ (@ra _ _ _ _ (@Hd _ _ _ _ _ _ _ _ OP (@ud _ _ _ _ _ _ _ _ Ç (@sI _ _ _ _ _ _ _ YU (pv 0) YK (λ_ _=>rfl)) (@sI _ _ _ _ _ _ _ YU (pv 1) YK (λ_ _=>rfl))) (@ud _ _ _ _ _ _ _ _ Ç (@sI _ _ _ _ _ _ _ YU (pv 1) YK (λ_ _=>rfl)) (@sI _ _ _ _ _ _ _ YU (pv 0) YK (λ_ _=>rfl))) (vF _)))),?_⟩;refine⟨_,rfl,p1,_,0,_,rfl,rfl,h1,nJ rfl,_,rfl,p2,_,1,_,rfl,rfl,h2,nJ rfl,_,_,rfl,rfl,⟨s1.bt.mono (by decide),s2.bb.mono (by decide)⟩,_,rfl,p2,_,0,_,rfl,rfl,h2,nJ rfl,_,rfl,p1,_,1,_,rfl,rfl,h1,nJ rfl,_,_,rfl,rfl,⟨s2.bt.mono (by decide),s1.bb.mono (by decide)⟩,_,_,rfl,rfl,?_⟩;exact k
end
structure Two(q1 q2:Int×Int):Prop where
 p1:0<q1.2
 p2:0<q2.2
 t1:Bt 9000 q1.1
 t2:Bt 9000 q2.1
 b1:Bt 9000 q1.2
 b2:Bt 9000 q2.2
 bb:Bt 9000 (q1.2*q2.2)
abbrev Hl:=List (Str×Int×Int)
def mO(l:Hl)(n:Str):Int×Int:=(nc l n).2
noncomputable def oB(l:Hl)(n:Str)(q:Int×Int):Hl:=if(l.any λx=>decide (x.1=n))=true then l.map (λx=>if x.1=n then(n,q) else x) else l++[(n,q)]
noncomputable def oh(l:Hl)(n:Str):Hl:=l.filter λx=>decide (x.1≠n)
def Y6(K:aa)(H:Hp)(p:ag)(l:Hl)(z:List ((Str×Int×Int)×ag)):Prop :=
 z.map (·.1)=l/\H p=Za (.dK (z.map λq=>(ap q.1.1,V.ref q.2)))/\∀q∈z,Z5 K H q.2 q.1.2
def HeldAt.toZ{K}(h:HeldAt K H p l):∃z,Y6 K H p l z:=by obtain⟨ts,hl,hd,ht⟩:=h;exact⟨l.zip ts,jk (by lia),hd,ht⟩
theorem xA:∀z:List (α×β),(z.map (·.1)).zip (z.map (·.2))=z
 |[]=>rfl
 |x::r=>congrArg (x::·) (xA r)
def Y6.held{K}(h:Y6 K H p l z):HeldAt K H p l:=by
 obtain⟨rfl,hd,ht⟩:=h;refine⟨z.map (·.2),by rw[ac,ac],?_,?_⟩
 .rw[xA];exact hd
 .rw[xA];exact ht
def D2{K}(hp:H p=Za (.dK Ra))(h:Z5 K H x q):Z5 K (upd H p o) x q :=
 vy h λc u e y=>by rw[mq (DV e hp (by grind))];exact e
def Y6.val{K}(h:Y6 K H p l z)(n) :
  (n∉l.map (·.1)/\pE (z.map λq=>((ap q.1.1:Key),V.ref q.2)) (ap n)=Zb/\mO l n=(0,1))\/(n∈l.map (·.1)/\∃x,pE (z.map λq=>((ap q.1.1:Key),V.ref q.2)) (ap n)=Za (.ref x)/\Z5 K H x (mO l n)):=by
 obtain⟨rfl,hd,ht⟩:=h;rw[si];unfold mO nc;rw[gy];have e:((λq:Str×Int×Int=>decide (q.1=n))∘λx:(Str×Int×Int)×ag=>x.1)=λx=>decide (x.1.1=n):=rfl;rw[e];cases hf:z.find? (λx=>decide (x.1.1=n)) with
 |none =>
  left
  grind
 |some q =>
  right
  grind
def Y6.put{K}(h:Y6 K H p l z)(hx:Z5 K H x q) :
  ∃z',Y6 K (upd H p (.dK (rh (z.map λq=>((ap q.1.1:Key),V.ref q.2)) (ap n) (.ref x)))) p (oB l n q) z':=by
 obtain⟨rfl,hd,ht⟩:=h;refine⟨if(z.any λy=>decide (y.1.1=n))=true then z.map (λy=>if y.1.1=n then((n,q),x) else y) else z++[((n,q),x)],?_,?_,?_⟩
 .unfold oB;rw[g7];by_cases hb:(z.any λy=>decide (y.1.1=n))=true
  .rw[Zc hb,Zc (by exact hb),aD,aD];refine aW λy _=>?_
   grind
  .rw[Zd hb,Zd (by exact hb),aC];rfl
 .rw[mw];unfold rh;rw[g7];have eb:((λkv:Key×V=>decide (kv.1=ap n))∘λq:(Str×Int×Int)×ag=>((ap q.1.1:Key),V.ref q.2))=λy=>decide (y.1.1=n):=by
   funext y
   show decide ((ap y.1.1:Key)=ap n)=_;rw[Lw]
  rw[eb];by_cases hb:(z.any λy=>decide (y.1.1=n))=true
  .rw[Zc hb,Zc hb,aD,aD]
   congr 2
   refine aW λy _=>?_
   grind
  .rw[Zd hb,Zd hb,aC];rfl
 .refine λy hy=>D2 hd ?_
  grind
def Y6.drop{K}(h:Y6 K H p l z) :
  ∃z',Y6 K (upd H p (.dK (yD (z.map λq=>((ap q.1.1:Key),V.ref q.2)) (ap n)))) p (oh l n) z':=by
 obtain⟨rfl,hd,ht⟩:=h;refine⟨z.filter (λy=>decide (y.1.1≠n)),?_,?_,λy hy=>D2 hd (ht y (bi.mp hy).1)⟩
 .unfold oh;rw[dP];rfl
 .rw[mw];unfold yD;rw[dP];have eb:((λkv:Key×V=>decide (kv.1≠ap n))∘λq:(Str×Int×Int)×ag=>((ap q.1.1:Key),V.ref q.2))=λy=>decide (y.1.1≠n):=by
   grind
  rw[eb]
def IN(l)(n):nc l n=(n,mO l n):=by
 unfold mO nc;cases h:l.find? λq=>decide (q.1=n) with
 |none=>rfl
 |some q =>
  grind
def nR(l)(n m)(q):mO (oB l n q) m=if m=n then q else mO l m:=by
 unfold mO nc oB;by_cases hb:(l.any λx=>decide (x.1=n))=true
 .rw[Zc hb];induction l with
  |nil=>cases hb
  |cons x r ih =>
   rw[am,bQ,bQ];by_cases e:x.1=n
   .rw[Zc e];by_cases em:m=n
    .subst em;rw[Zc rfl,Zg (show m=m from rfl)];rfl
    .rw[Zd em];have e1:decide ((n,q).1=m)=false:=Zh λz=>em z.symm;have e2:decide (x.1=m)=false:=Zh λz=>em (z.symm.trans e);rw[e1,e2];by_cases hr:(r.any λx=>decide (x.1=n))=true
     .have:=ih hr;rw[Zd em] at this;exact this
     .have er:r.map (λx=>if x.1=n then(n,q) else x)=r:=by
       conv=>rhs;rw[<-iF r]
       refine aW λy hy=>Zd λz=>hr (gS.mpr ⟨y,hy,Zg z⟩)
      show(Option.getD ((r.map λx=>if x.1=n then(n,q) else x).find? λq=>decide (q.1=m)) (m,0,1)).2=_;rw[er]
   .rw[Zd e];have hr:(r.any λx=>decide (x.1=n))=true:=by rw[dR,Zh e,Bool.false_or] at hb;exact hb
    by_cases em:x.1=m
    .rw[Zg em];have:¬m=n:=λz=>e (em.trans z);rw[Zd this]
    .rw[Zh em];exact ih hr
 .rw[Zd hb,ja];by_cases em:m=n
  .subst em;rw[Zc rfl];have:l.find? (λq=>decide (q.1=m))=none:=by rw[gz];exact λx hx z=>hb (gS.mpr ⟨x,hx,z⟩)
   rw[this,Option.none_or,bQ,Zg (show(m,q).1=m from rfl)];rfl
  .rw[Zd em];have:[(n,q)].find? (λq=>decide (q.1=m))=none:=by rw[bQ,Zh (show ¬(n,q).1=m from λz=>em z.symm)];rfl
   rw[this,Option.or_none]
def qu(l)(n m):mO (oh l n) m=if m=n then(0,1) else mO l m:=by
 unfold mO nc oh;rw[List.find?_filter];by_cases em:m=n
 .subst em;rw[Zc rfl];have:l.find? (λa=>decide (decide (a.1≠m)=true/\decide (a.1=m)=true))=none:=by
   grind
  rw[this];rfl
 .grind
def oi(l)(n)(q):(oB l n q).map (·.1)=if n∈l.map (·.1) then l.map (·.1) else l.map (·.1)++[n]:=by
 unfold oB;by_cases hb:(l.any λx=>decide (x.1=n))=true
 .have:n∈l.map (·.1):=by
   grind
  rw[Zc hb,Zc this,aD];refine aW λx _=>?_
  grind
 .grind
def wz(n)(q)(h:(l.map (·.1)).Nodup):((oB l n q).map (·.1)).Nodup:=by
 rw[oi];by_cases hn:n∈l.map (·.1)
 .rw[Zc hn];exact h
 .rw[Zd hn];exact zF h hn
def zG(l)(n):(oh l n).map (·.1)=(l.map (·.1)).filter λx=>decide (x≠n):=by rw[dP];rfl
def Du(n)(h:(l.map (·.1)).Nodup):((oh l n).map (·.1)).Nodup:=by rw[zG];exact h.filter _
def Hk(l)(n)(q):(oB l n q).length<=l.length+1:=by
 have:=congrArg cE (oi l n q);rw[ac] at this;rw[this];split
 .simp_all
 .simp_all
def E2(l)(n):(oh l n).length<=l.length:=dW _ _
def ZT(l:Hl)(o1 o2:Str)(q:Int×Int):Hl :=
 let r:=oG (mO l o1) (-q.1,q.2);let l1:=if r=(0,1) then oh l o1 else oB l o1 r
 oB l1 o2 (oG (mO l1 o2) q)
def Jj(l:Hl)(o1 o2:Str)(q:Int×Int):Hl :=
 let l1:=oB l o1 (oG (mO l o1) (-q.1,q.2))
 oB l1 o2 (oG (mO l1 o2) q)
noncomputable def Cc{β:Type}(L:List (Ent×β))(h:Str)(g:Ent->Ent):List (Ent×β):=L.map λx=>if x.1.nm=h then(g x.1,x.2) else x
def uW(v:Ent×β->γ)(hv:∀x,v (g x.1,x.2)=v x):(Cc L h g).map v=L.map v:=by
 unfold Cc;rw[aD];refine aW λx _=>?_
 grind
def JF(hy:y∈Cc L h g):∃x∈L,(x.1.nm=h/\y=(g x.1,x.2))\/(¬x.1.nm=h/\y=x):=by
 unfold Cc at hy
 grind
theorem GB:∀{l:List α}{x y:α},(l.map key).Nodup->x∈l->y∈l->key x=key y->x=y
 |[],_,_,_,hx,_,_=>by cases hx
 |z::r,x,y,h,hx,hy,e=>by
  obtain⟨h1,h2⟩:=aL.mp h;obtain ex|Tc:=ao.mp hx
  .grind
  .obtain ey|hy':=ao.mp hy
   .grind
   .exact GB h2 Tc hy' e
def E4(he:oP L h=Za e):e.1.nm=h:=by
 unfold oP at he
 grind
def IP(nd:(L.map (·.1.nm)).Nodup)(he:oP L h=Za e)(hx:x∈L)(hn:x.1.nm=h):x=e :=
 GB nd hx (sM he) (hn.trans (E4 he).symm)
def Yn.Àq{K:aa}(B:Yn K C H b z Rf L)(nd:(L.map (·.1.nm)).Nodup)(he:oP L h=Za e)(hg:∀x,g x={ x with held:=(g x).held })(hH:HeldAt K H' e.2 (g e.1).held)(kp:∀c o,H c=Za o->c≠e.2->H' c=Za o):Yn K C H' b z Rf (Cc L h g):=by
 have VA:=sM he;have e2:e.2∈L.map (·.2):=aq.mpr ⟨e,VA,rfl⟩;obtain⟨n1,r1⟩:=aL.mp B.nd;obtain⟨n2,r2⟩:=aL.mp r1;obtain⟨n3,r3⟩:=aL.mp r2;obtain⟨n4,r4⟩:=aL.mp r3;obtain⟨n5,r5⟩:=aL.mp r4;obtain⟨n6,r6⟩:=aL.mp r5;have g1:∀x,(g x).nm=x.nm:=λx=>by rw[hg x]
 have g2:∀x,(g x).th=x.th:=λx=>by rw[hg x]
 have g3:∀x,(g x).mr=x.mr:=λx=>by rw[hg x]
 have g4:∀x,(g x).ls=x.ls:=λx=>by rw[hg x]
 refine⟨kp _ _ B.ob λq=>n1 (q▸by simp only[ao];right;right;right;right;right;exact e2),kp _ _ B.pp λq=>n2 (q▸by simp only[ao];right;right;right;right;exact e2),?_,?_,?_,?_,?_,?_,B.p6,by unfold Cc;rw[ac];exact B.h8⟩
 .rw[uW (v:=λe=>((ap e.1.nm:Key),V.int e.1.th)) λx=>by rw[g1,g2]];exact kp _ _ B.tt λq=>n3 (q▸by simp only[ao];right;right;right;exact e2)
 .rw[uW (v:=λe=>((ap e.1.nm:Key),V.int e.1.mr)) λx=>by rw[g1,g3]];exact kp _ _ B.mm λq=>n4 (q▸by simp only[ao];right;right;exact e2)
 .rw[uW (v:=λe=>((ap e.1.nm:Key),V.int e.1.ls)) λx=>by rw[g1,g4]];exact kp _ _ B.ll λq=>n5 (q▸by simp only[ao];right;exact e2)
 .rw[uW (v:=λe=>((ap e.1.nm:Key),V.ref e.2)) λx=>by rw[g1]];exact B.hh.keep λo h=>kp _ _ h λq=>n6 (q▸e2)
 .intro y hy;obtain⟨x,hx,⟨hn,rfl⟩|⟨hn,rfl⟩⟩:=JF hy
  .rw[IP nd he hx hn];exact hH
  .have hy2:y.2≠e.2:=λq=>hn (by rw[GB (key:=λx:Ent×ag=>x.2) r6 hx VA q];exact E4 he);obtain⟨Ra,hk⟩:∃Ra,H e.2=Za (.dK Ra):=by obtain⟨ts,_,q,_⟩:=B.he e VA;exact⟨_,q⟩
   refine(B.he y hx).keep (λo ho=>kp _ _ ho hy2) λc o ho x=>kp c o ho λq=>?_;rw[q,hk] at ho;cases ho;rcases x with⟨xs,z|⟨ob,z⟩⟩<;>cases z
 .rw[uW (v:=λe=>e.2) λx=>rfl];exact B.nd
def OZ(i j):NX [V.int i,V.int j] [V.int 0,V.int 1]=decide ((i,j)=((0:Int),(1:Int))):=by
 show(ŝ (.int i) (.int 0)&&(ŝ (.int j) (.int 1)&&true))=_;have e1:∀i j:Int,ŝ (.int i) (.int j)=decide (i=j):=λi j=>rfl
 grind
def bt0(k):Bt k 0:=cy k
def bt1(h:k≠0):Bt k 1:=Nat.one_lt_two_pow h
def sz0:Sz (0,1):=⟨⟨Zf rfl,(rfl:aH 0 1=1)⟩,bt0 _,bt1 (Zf rfl)⟩
theorem Y6.same{K}(h:Y6 K H p l z)(s:YH H H'):Y6 K H' p l z :=
 ⟨h.1,s _ _ h.2.1,λq hq=>(h.2.2 q hq).same s⟩
def Y6.get{K}(h:Y6 K H p l z)(ho:Z5 K H o (0,1))(n) :
  ∃x,(pE (z.map λq=>((ap q.1.1:Key),V.ref q.2)) (ap n)).getD (.ref o)=.ref x/\Z5 K H x (mO l n):=by
 rcases h.val n with⟨_,hv,hg⟩|⟨_,x,hv,hx⟩
 .simp_all
 .simp_all
def pL(l:Hl)(o:Str)(q:Int×Int):Prop:=¬ 0<q.1\/q.1*(mO l o).2>(mO l o).1*q.2
instance (l:Hl) (o:Str) (q:Int×Int):Decidable (pL l o q):=by unfold pL;infer_instance
section
variable{P:aK}{w:aT}{K:aa}{mg:Str->Option ae}{base:bc}{a:Yg}{f:ag}{fd:cg}
abbrev uH:bK:=oo (top 40) 8
def ZV:K' ["self","house","one","other","share","held","rest"] ["self","house","one","other","share"] (mC uH):=Y5
structure ĺ(l:Hl)(o1:Str)(q:Int×Int):Prop where
 len:l.length<1000
 sz:∀n,Sz (mO l n)
 rs:¬pL l o1 q->Sz (oG (mO l o1) (-q.1,q.2))
def GX(K:aa)(a:Yg):Sp:=λvs H Q E=>∃b z Rf L h o1 o2 sp q,vs=[.ref b,.str h,.str o1,.str o2,.ref sp]/\Yn K a.X8 H b z Rf L/\(L.map (·.1.nm)).Nodup/\Nm h/\Nm o1/\Nm o2/\Z5 K H sp q/\Sz q /\
 (∀e,oP L h=Za e->ĺ e.1.held o1 q) /\
 (qz L h=false->E (.ref a.Zk) Zb H) /\
 (qz L h=true->(p4 Rf o1||qz L o1)=false->E (.ref a.YI) Zb H) /\
 (qz L h=true->(p4 Rf o1||qz L o1)=true->(p4 Rf o2||qz L o2)=false->E (.ref a.YI) Zb H) /\
 (∀e,oP L h=Za e->(p4 Rf o1||qz L o1)=true->(p4 Rf o2||qz L o2)=true->pL e.1.held o1 q->E (.ref a.ú) Zb H) /\
 (∀e,oP L h=Za e->(p4 Rf o1||qz L o1)=true->(p4 Rf o2||qz L o2)=true->¬pL e.1.held o1 q->∀H',Yn K a.X8 H' b z Rf (Cc L h λx=>{ x with held:=ZT x.held o1 o2 q })->(∀c o,H c=Za o->c≠e.2->H' c=Za o)->Q .Yh H')
def Nt(F:Z' K "sale" "Book.sale" uH f fd)(T:Txt K mg a)(Rl:Mt P w K mg base a.X8 "need_house" 2 ["self","name"] (qe K a))(Rn:Mt P w K mg base a.X8 "need_holder" 3 ["self","name"] (qS K a))(RZ:Fn P w K mg base "is_above" 1 ["first","second"] (EO K))(TM:Fn P w K mg base "minus" 3 ["first","second"] (EL K))(SG:Fn P w K mg base "plus" 2 ["first","second"] (zk K)) :
  Yt P w K mg base (YW P w) 4 f fd ["self","house","one","other","share"] (GX K a):=by
 refine F.Ϫ ZV (λvs H Q E h=>?_) (λRk A outer s H vs Q E hr h=>?_)
 .obtain⟨b,z,Rf,L,h,o1,o2,sp,q,rfl,_⟩:=h;rfl
 .obtain⟨b,z,Rf,L,h,o1,o2,sp,q,rfl,B,nd,nh,n1,n2,hq,sq,Ye,k1,k2,k3,k4,k5⟩:=h;have hu:=oS hr;refine⟨_,(@mT _ _ _ _ _ (@pN _ _ _ _ (tV (pv 0) Rl (hr.mono (by first|decide|lia)) pH (@mK _ _ _ _ _ (pv 1) Yc (by rfl))) (by rfl)) (@mT _ _ _ _ _ (@pN _ _ _ _ (tV (pv 0) Rn (hr.mono (by first|decide|lia)) pH (@mK _ _ _ _ _ (pv 2) Yc (by rfl))) (by rfl)) (@mT _ _ _ _ _ (@pN _ _ _ _ (tV (pv 0) Rn (hr.mono (by first|decide|lia)) pH (@mK _ _ _ _ _ (pv 3) Yc (by rfl))) (by rfl)) (@mT _ _ _ _ _ (@sT _ _ (5) _ _ _ _ ZV.nd rfl (eB rfl) (@sC _ _ _ _ _ _ hu (o4 (pv 0) rfl) (pv 1) (λ_ _=>rfl)) (by rfl) (by first|exact .inl rfl|exact .inr rfl|assumption)) (@mT _ _ _ _ _ (@wQ _ _ _ _ _ _ _ _ (PW.pt (OL (A9 (wx (@wR _ _ _ _ _ _ _ _ _ _ _ RZ (hr.mono (by first|decide|lia)) rfl pH (@mK _ _ _ _ _ (pv 4) (@mK _ _ _ _ _ (sx rfl T.ı T.į) Yc (by rfl)) (by rfl)) (by decide) (by rfl) (by rfl)))) (Li (wx (@wR _ _ _ _ _ _ _ _ _ _ _ RZ (hr.mono (by first|decide|lia)) rfl pH (@mK _ _ _ _ _ (pv 4) (@mK _ _ _ _ _ (@Au _ _ _ _ _ _ _ _ _ hu (pv 5) (pv 2) (sx rfl T.ı T.į) ⟨rfl,rfl,rfl,rfl⟩) Yc (by rfl)) (by rfl)) (by decide) (by rfl) (by rfl)))))) (@mW _ _ _ (qH T.Ŷ rfl T.ź rfl (FL (yJ (pv 2) (Ba (yJ (pv 1) Bb)))) zH)) Ze) (@mT _ _ _ _ _ (@sT _ _ (6) _ _ _ _ ZV.nd rfl (eB rfl) (@wR _ _ _ _ _ _ _ _ _ _ _ TM (hr.mono (by first|decide|lia)) rfl pH (@mK _ _ _ _ _ (@sC _ _ _ _ _ _ hu (pv 5) (pv 2) (λ_ _=>rfl)) (@mK _ _ _ _ _ (pv 4) Yc (by rfl)) (by rfl)) (by decide) (by rfl) (by rfl)) (by rfl) (by first|exact .inl rfl|exact .inr rfl|assumption)) (@mT _ _ _ _ _ (@wQ _ _ _ _ _ _ _ _ (@vB _ _ _ _ _ _ _ _ (P4 (Nat.lt_of_succ_lt hu)) (pv 6) (sx rfl T.ı T.į) (vF _)) (@mW _ _ _ (@pN _ _ _ _ (EZ (pv 5) (pv 2) ⟨rfl,rfl,rfl,rfl⟩) (by rfl))) (@mW _ _ _ (su hu (pv 5) (pv 2) (pv 6) rfl))) (@mW _ _ _ (su hu (pv 5) (pv 3) (@wR _ _ _ _ _ _ _ _ _ _ _ SG (hr.mono (by first|decide|lia)) rfl pH (@mK _ _ _ _ _ (@Au _ _ _ _ _ _ _ _ _ hu (pv 5) (pv 3) (sx rfl T.ı T.į) ⟨rfl,rfl,rfl,rfl⟩) (@mK _ _ _ _ _ (pv 4) Yc (by rfl)) (by rfl)) (by decide) (by rfl) (by rfl)) rfl))))))))),?_⟩;have bn:∀{m:Str},¬m="people"->¬m="things_of"->¬m="mark_of"->¬m="loss_of"->¬m="held_of"->(bf z).lookup m=none:=λa b c d e=>um z a b c d e;refine⟨_,rfl,b,_,_,rfl,B.ob,um z,_,rfl,b,z,Rf,L,h,rfl,B,nh,λhh=>?_,λhh=>k1 hh⟩;refine⟨_,rfl,b,_,_,rfl,B.ob,um z,_,rfl,b,z,Rf,L,o1,rfl,B,n1,λh1=>?_,λh1=>k2 hh h1⟩;refine⟨_,rfl,b,_,_,rfl,B.ob,um z,_,rfl,b,z,Rf,L,o2,rfl,B,n2,λh2=>?_,λh2=>k3 hh h1 h2⟩;cases he:oP L h with
  |none=>unfold qz at hh;unfold oP at he;rw[he] at hh;cases hh
  |some e =>
  have VA:=sM he;have ok:=Ye e he;obtain⟨zz,Zj⟩:=(B.he e VA).toZ;have Tw:=B.hh.Ày h;rw[AM _ he] at Tw;have Sv:∀H,Z5 K H a.ŋ (0,1):=λH=>.inr T.zero;refine⟨_,rfl,b,_,_,_,_,rfl,B.ob,T.cl,T.YT,vM z,_,rfl,_,_,rfl,Tw,?_⟩;refine⟨_,rfl,sp,a.ŋ,q,(0,1),rfl,hq,Sv H,sq,sz0,_,rfl,vY (λh3=>?_) (λh3=>?_)⟩
  .have h3:=of_decide_eq_false (nbT h3);exact NJ ⟨_,rfl,⟨o1,rfl,n1⟩,_,rfl,⟨h,rfl,nh⟩,λy=>k4 e he h1 h2 (.inl (by simp only at h3;lia))⟩
  have q0:0<q.1:=by have:=Zf (nbF h3);simp only at this;lia
  obtain⟨x0,Vi,fx0⟩:=Zj.get (Sv H) o1;refine⟨_,rfl,_,rfl,e.2,rfl,.inl ⟨_,.inl Zj.2.1⟩,_,rfl,_,Y3.k (k:=ap o1) Zj.2.1,?_⟩;rw[Vi];refine⟨sp,x0,q,_,rfl,hq,fx0,sq,ok.sz o1,_,rfl,vY (λh4=>?_) (λh4=>?_)⟩
  .have h4:=Zf h4;exact⟨_,rfl,⟨o1,rfl,n1⟩,_,rfl,⟨h,rfl,nh⟩,λy=>k4 e he h1 h2 (.inr h4)⟩
  have h4:¬q.1*(mO e.1.held o1).2>(mO e.1.held o1).1*q.2:=λz=>h4 (Zg z);have ntm:¬pL e.1.held o1 q:=λz=>z.elim (λy=>y q0) h4;rcases Zj.val o1 with⟨_,_,hg⟩|⟨hn,x,hv,hx⟩
  .exfalso;rw[hg] at h4;simp only at h4;lia
  have Ut:Y3 H e.2 (.str o1) (Za (.ref x)):=by have:=Y3.k (k:=ap o1) Zj.2.1;rw[hv] at this;exact this
  refine⟨_,rfl,_,rfl,e.2,_,rfl,Ut,_,rfl,x,sp,_,_,rfl,hx,hq,ok.sz o1,sq,λr H1 hr0 s1 Vl=>?_⟩;have Z1:=Zj.same s1;have Ry:∀H2 l1 z2,Y6 K H2 e.2 l1 z2->ZT e.1.held o1 o2 q=oB l1 o2 (oG (mO l1 o2) q)->(∀c o,H c=Za o->c≠e.2->H2 c=Za o)->Sz (mO l1 o2)->l1.length<=e.1.held.length->Z5 K H2 sp q ->
    OG (Jp 5) (Jp 3) (Fx (zk K) [] E (L7 (La (Jp 5) (Jp 3) (tC (V.ref a.ŋ))) (L7 (Jp 4) K9))) { nx:=λx H'=>Q V.Yh H',rt:=Q } [Za (V.ref b),Za (V.str h),Za (V.str o1),Za (V.str o2),Za (V.ref sp),Za (V.ref e.2),Za (V.ref r)] H2:=by
   intro H2 l1 z2 Z2 es kp szl len fq;obtain⟨y,hy,fy⟩:=Z2.get (Sv H2) o2;refine⟨_,rfl,e.2,rfl,.inl ⟨_,.inl Z2.2.1⟩,_,rfl,_,Y3.k (k:=ap o2) Z2.2.1,?_⟩;rw[hy];refine⟨_,rfl,y,sp,_,_,rfl,fy,fq,szl,sq,λt ht=>?_⟩;have st:=sS (o:=.tup [.int (oG (mO l1 o2) q).1,.int (oG (mO l1 o2) q).2]) ht;have Z3:=Z2.same st;refine⟨_,rfl,_,rfl,e.2,_,rfl,Ö.k (k:=ap o2) Z3.2.1 ?_,?_⟩
   .rw[ac,<-ac (f:=(·.1)),Z2.1];exact aX len (ia ok.len (by decide))
   .obtain⟨z4,Z4⟩:=Z3.put (n:=o2) (x:=t) (q:=oG (mO l1 o2) q) (Zz.of mw);have kp':∀c o,H c=Za o->c≠e.2->(upd (upd H2 t (.tup [.int (oG (mO l1 o2) q).1,.int (oG (mO l1 o2) q).2])) e.2 (.dK (rh (z2.map λq=>((ap q.1.1:Key),V.ref q.2)) (ap o2) (.ref t)))) c=Za o:=λc o hc hn=>by rw[mq hn];exact st c o (kp c o hc hn)
    refine k5 e he h1 h2 ntm _ (B.Àq nd he (λx=>rfl) ?_ kp') kp';show HeldAt K _ e.2 (ZT e.1.held o1 o2 q);rw[es];exact Z4.held
  refine⟨_,rfl,r,a.ŋ,_,_,rfl,rfl,Zz.of Vl,.inr T.zero,rfl,rfl,rfl,_,rfl,vY (λh5=>?_) (λh5=>?_)⟩
  .rw[OZ] at h5;have h5:oG (mO e.1.held o1) (-q.1,q.2)=(0,1):=Zf h5;refine⟨_,rfl,e.2,rfl,.inl ⟨_,.inl Z1.2.1⟩,_,rfl,_,ap o1,.ref x,Z1.2.1,rfl,hv,?_⟩;obtain⟨z2,Z2⟩:=Z1.drop (n:=o1);refine Ry _ _ z2 Z2 ?_ (λc o hc hn=>by rw[mq hn];exact s1 c o hc) ?_ (E2 _ _) (D2 Z1.2.1 (hq.same s1))
   .unfold ZT;simp[h5,if_true]
   .rw[qu];by_cases e2:o2=o1
    .rw[Zc e2];exact sz0
    .rw[Zd e2];exact ok.sz o2
  .rw[OZ] at h5;have h5:¬oG (mO e.1.held o1) (-q.1,q.2)=(0,1):=λz=>h5 (Zg z);refine⟨_,rfl,_,rfl,_,rfl,e.2,_,rfl,Ö.k (k:=ap o1) Z1.2.1 ?_,?_⟩
   .rw[ac,<-ac (f:=(·.1)),Zj.1];exact ia ok.len (by decide)
   .obtain⟨z2,Z2⟩:=Z1.put (n:=o1) (x:=r) (q:=oG (mO e.1.held o1) (-q.1,q.2)) (Zz.of Vl);refine Ry _ _ z2 Z2 ?_ (λc o hc hn=>by rw[mq hn];exact s1 c o hc) ?_ ?_ (D2 Z1.2.1 (hq.same s1))
    .unfold ZT;simp[h5,if_false]
    .rw[nR];by_cases e2:o2=o1
     .rw[Zc e2];exact ok.rs ntm
     .rw[Zd e2];exact ok.sz o2
    .have:=congrArg cE (oi e.1.held o1 (oG (mO e.1.held o1) (-q.1,q.2)));rw[Zc hn,ac,ac] at this;exact ji this
end
noncomputable def n8(L:List Ent)(n:Str):Option Ent:=L.find? λe=>decide (e.nm=n)
def nv(L:List Ent)(n:Str):Bool:=(n8 L n).isSome
noncomputable def FD(L:List Ent)(h:Str)(g:Ent->Ent):List Ent:=L.map λx=>if x.nm=h then g x else x
def Cr(L)(n):(oP L n).map (·.1)=n8 (L.map (·.1)) n:=by unfold oP n8;rw[gy];rfl
def vh(L)(n):qz L n=nv (L.map (·.1)) n:=by unfold nv;rw[<-Cr];unfold qz oP;grind
def JG(L:List (Ent×ag))(h:Str)(g:Ent->Ent):(Cc L h g).map (·.1)=FD (L.map (·.1)) h g:=by
 unfold Cc FD;rw[aD,aD];refine aW λx _=>?_
 grind
def sD(a:Yg)(pp:List Str)(L:List Ent)(x:Str):Option ag:=if yg x=false then Za a.ļ else if(p4 pp x||nv L x)=true then Za a.ŵ else Zb
def xk(a:Yg)(pp:List Str)(L:List Ent)(x:Str):Option ag:=match sD a pp L x with
 |some c=>Za c
 |none=>if 6<=pp.length then Za a.È else Zb
def xp(a:Yg)(pp:List Str)(L:List Ent)(x o:Str)(l:Int):Option ag:=match sD a pp L x with
 |some c=>Za c
 |none=>if(p4 pp o||nv L o)=false then Za a.YI else if l<0 then Za a.Ď else if 8<=L.length then Za a.È else Zb
def zE(a)(pp)(L)(x):rX a pp L x=sD a pp (L.map (·.1)) x:=by unfold rX sD;rw[vh]
def zA(a)(pp)(L)(x):vC a pp L x=xk a pp (L.map (·.1)) x:=by unfold vC xk;rw[zE];try (cases sD a pp (L.map (·.1)) x<;>rfl)
def zP(a)(pp)(L)(x o)(l):sV a pp L x o l=xp a pp (L.map (·.1)) x o l:=by unfold sV xp;rw[zE,vh,ac];try (cases sD a pp (L.map (·.1)) x<;>rfl)
noncomputable instance (x:Str):Decidable (Nm x):=dy _
def oy(vs:List PV)(s:N')(k:Nat->List Str->List Ent->List PV->Out PV):Out PV:=match vs with
 |.ref n::r=>match s.get n with
  |some (.book pp L)=>k n pp L r
  |_=>.bad
 |_=>.bad
def vn(a:Yg)(vs:List PV)(s:N'):Out PV:=oy vs s λn pp L r=>match r with
 |[.str x]=>if Nm x then(match xk a pp L x with
  |none=>.ok .Yh (s.set n (.book (pp++[x]) L))
  |some c=>.ex c s) else .bad
 |_=>.bad
def xz(a:Yg)(vs:List PV)(s:N'):Out PV:=oy vs s λn pp L r=>match r with
 |[.str x,.str o,.int t,.int m,.int l]=>if Nm x/\Nm o then(match xp a pp L x o l with
  |none=>.ok .Yh (s.set n (.book pp (L++[⟨x,t,m,l,[(o,1,1)]⟩])))
  |some c=>.ex c s) else .bad
 |_=>.bad
def pP(_:Yg)(vs:List PV)(s:N'):Out PV:=oy vs s λ_ pp _ r=>match r with
 |[]=>.ok (.lst ((Yu pp).map .str)) s
 |_=>.bad
def om(_:Yg)(vs:List PV)(s:N'):Out PV:=oy vs s λ_ _ L r=>match r with
 |[]=>.ok (.lst ((Yu (L.map (·.nm))).map .str)) s
 |_=>.bad
noncomputable def Zx(q:Int×Int):PV:=.tup [.int q.1,.int q.2]
def ue(q:Str×Int×Int):PV:=.tup [.str q.1,Zx q.2]
def rg(l:List (Str×Int×Int)):PV:=.lst ((Yu (l.map (·.1))).map λn=>ue (nc l n))
def oY(a:Yg)(vs:List PV)(s:N'):Out PV:=oy vs s λ_ _ L r=>match r with
 |[.str x]=>if Nm x then(match n8 L x with
  |none=>.ex a.Zk s
  |some e=>if e.held.length<64 then .ok (rg e.held) s else .bad) else .bad
 |_=>.bad
def L5(a:Yg)(vs:List PV)(s:N'):Out PV:=oy vs s λ_ _ L r=>match r with
 |[.str x]=>if Nm x then(match n8 L x with
  |none=>.ex a.Zk s
  |some e=>.ok (.tup [.int e.th,.int e.mr,.int e.ls]) s) else .bad
 |_=>.bad
structure Ϡ(L:List Ent)(h o1 o2:Str)(q:Int×Int):Prop where
 nd:(L.map (·.nm)).Nodup
 nm:Nm h/\Nm o1/\Nm o2
 sz:Sz q
 ok:∀e,n8 L h=Za e->ĺ e.held o1 q
noncomputable instance (L:List Ent) (h o1 o2:Str) (q:Int×Int):Decidable (Ϡ L h o1 o2 q):=dy _
def wH(a:Yg)(vs:List PV)(s:N'):Out PV:=oy vs s λn pp L r=>match r with
 |[.str h,.str o1,.str o2,.tup [.int t,.int b]]=>if Ϡ L h o1 o2 (t,b) then(match n8 L h with
  |none=>.ex a.Zk s
  |some e=>if(p4 pp o1||nv L o1)=false then .ex a.YI s else if(p4 pp o2||nv L o2)=false then .ex a.YI s
   else if pL e.held o1 (t,b) then .ex a.ú s else .ok .Yh (s.set n (.book pp (FD L h λx=>{ x with held:=ZT x.held o1 o2 (t,b) })))) else .bad
 |_=>.bad
section
variable{K:aa}{H:Hp}{m:Mp}{s:N'}{a:Yg}
def QZ(S:SR K CB H m s)(hg:s.get n=Za (.book pp L))(eF:m.fp n=ZS (m.ad n) z L')(B':Yn K CB H' (m.ad n) z pp' L2)(k:∀a o,H a=Za o->a∉ZS (m.ad n) z L'->H' a=Za o)(R7:∀a∈ZS (m.ad n) z L2,a∈ZS (m.ad n) z L'\/H a=Zb) :
  SR K CB H' (m.Zu n (ZS (m.ad n) z L2)) (s.set n (.book pp' (L2.map (·.1))))/\Ext H m s H' (m.Zu n (ZS (m.ad n) z L2)) (s.set n (.book pp' (L2.map (·.1)))) :=
 S.put hg (by grind) H' _ (by rw[eF];exact k) (by rw[eF];exact R7) λ_=>⟨z,L2,B',rfl,by show(if n=n then _ else _)=_;rw[Zc rfl];rfl⟩
def onB(S:SR K CB H m s)(r:X7 K H m s xs vs)(P:Yo K CB (Rep K) E (oy vs s k) H m s Q) :
  ∃n pp L z L' us ys,s.get n=Za (.book pp L)/\Yn K CB H (m.ad n) z pp L'/\L'.map (·.1)=L/\m.fp n=ZS (m.ad n) z L'/\xs=.ref (m.ad n)::us/\X7 K H m s us ys/\Yo K CB (Rep K) E (k n pp L ys) H m s Q:=by
 unfold oy at P;split at P
 .rename_i n r';split at P
  .rename_i pp L hg;obtain⟨z,L',B,e1,e2⟩:=S.get hg;cases r with
   |cons r1 r2 =>
    cases r1;exact⟨n,pp,L,z,L',_,_,hg,B,e1,e2,rfl,r2,P⟩
  .exact P.elim
 .exact P.elim
def NM(h:e∈L):e.2∈ZS b z L:=by
 unfold ZS
 grind
def JE(L:List (Ent×ag))(h:Str)(g:Ent->Ent):(Cc L h g).map (·.2)=L.map (·.2):=by
 unfold Cc;rw[aD];refine aW λx _=>?_
 grind
def MQ(b)(z)(L)(h)(g):ZS b z (Cc L h g)=ZS b z L:=by unfold ZS;rw[JE]
def Ds(r:X7 K H m s us [.str x]):us=[.str x]:=by
 cases r with
 |cons a b=>cases a;cases b;rfl
def Fz(vs)(H)(Q)(E)(h:YX K a.X8 2 (vn a) vs H Q E):B8 K a vs H Q E:=by
 obtain⟨_,ps,s,m,r,S,P⟩:=h;obtain⟨n,pp,L,z,L',us,ys,hg,B,e1,e2,rfl,r',P⟩:=onB S r P;split at P
 .split at P
  .rename_i x hx;cases Ds r';refine⟨_,z,pp,L',x,rfl,B,hx,λhd H' B' k=>?_,λc hd H' k=>?_⟩
   .rw[zA,e1] at hd;rw[hd] at P;obtain⟨S2,x2⟩:=QZ S hg e2 B' (λc o h hc=>k c o h λz=>hc (by rw[z];simp[ZS])) (λc hc=>.inl hc);rw[e1] at S2 x2;exact P _ _ _ x2 S2 .Yh
   .rw[zA,e1] at hd;rw[hd] at P;exact P _ m (.same k) (S.same k) Zb .no
  .exact P.elim
 .exact P.elim
def HW(vs)(H)(Q)(E)(h:YX K a.X8 6 (xz a) vs H Q E):EM K a vs H Q E:=by
 obtain⟨_,ps,s,m,r,S,P⟩:=h;obtain⟨n,pp,L,z,L',us,ys,hg,B,e1,e2,rfl,r',P⟩:=onB S r P;split at P
 .split at P
  .rename_i x o t mm l hx;cases r' with
   |cons q1 r'=>cases r' with
    |cons q2 r'=>cases r' with
     |cons q3 r'=>cases r' with
      |cons q4 r'=>cases r' with
       |cons q5 r' =>
        cases r';cases q1;cases q2;cases q3;cases q4;cases q5;refine⟨_,z,pp,L',x,o,t,mm,l,rfl,B,hx.1,hx.2,λhd p H' hp B' k=>?_,λc hd H' k=>?_⟩
        .rw[zP,e1] at hd;rw[hd] at P;obtain⟨S2,x2⟩:=QZ S hg e2 B' (λc o h hc=>k c o h λz=>hc (by unfold ZS;grind)) (λc hc=>by
          unfold ZS at hc ⊢;rw[aC] at hc;simp[ao,ba,am,cT,fJ,or_false] at hc ⊢;obtain h|h|h|h|h|h|h|h:=hc
          .exact .inl (.inl h)
          .exact .inl (.inr (.inl h))
          .simp_all
          .simp_all
          .simp_all
          .simp_all
          .simp_all
          .rw[h];exact .inr hp)
         rw[aC,e1] at S2 x2;exact P _ _ _ x2 S2 .Yh
        .rw[zP,e1] at hd;rw[hd] at P;exact P _ m (.same k) (S.same k) Zb .no
  .exact P.elim
 .exact P.elim
def Eg(vs)(H)(Q)(E)(h:YX K a.X8 1 (pP a) vs H Q E):zl K a.X8 vs H Q E:=by
 obtain⟨_,ps,s,m,r,S,P⟩:=h;obtain⟨n,pp,L,z,L',us,ys,hg,B,e1,e2,rfl,r',P⟩:=onB S r P;split at P
 .cases r';exact⟨_,z,pp,L',rfl,B,λl hl=>P.new S hl λex S'=>.lst mw (S.YC hl) (.ofStrs _)⟩
 .exact P.elim
def FA(vs)(H)(Q)(E)(h:YX K a.X8 1 (om a) vs H Q E):B9 K a.X8 vs H Q E:=by
 obtain⟨_,ps,s,m,r,S,P⟩:=h;obtain⟨n,pp,L,z,L',us,ys,hg,B,e1,e2,rfl,r',P⟩:=onB S r P;split at P
 .cases r';refine⟨_,z,pp,L',rfl,B,λl hl=>P.new S hl λex S'=>.lst mw (S.YC hl) ?_⟩;rw[<-e1,aD];exact .ofStrs _
 .exact P.elim
def v6(e:L'.map (·.1)=L):(∀q,oP L' x=Za q->n8 L x=Za q.1)/\(oP L' x=Zb->n8 L x=Zb):=by
 have:=Cr L' x
 grind
theorem Ce:∀{l:List (Str×Int×Int)}{vs:List V}{m:Mp}{s:N'}{CB:ag}{H:Hp},SR K CB H m s->eW (ZI K H) l vs->X7 K H m s vs (l.map ue)
 |_,_,_,_,_,_,_,.nil=>.nil
 |_,_,m,s,CB,H,S,.cons r t=>by obtain⟨p,q,rfl,h1,h2⟩:=r;have tp:∀{c:ag}{xs:List V},Zz K H c xs->(Rd H c (.tup xs)/\ù m s c\/KT' K c xs):=λh=>h.elim (λz=>.inl ⟨z,z.elim (λz=>S.YZ z) λ⟨_,z⟩=>S.ă (.inl z)⟩) .inr;exact .cons (.tup (tp h1) (.cons .str (.cons (.tup (tp h2) (.cons .int (.cons .int .nil))) .nil))) (Ce S t)
def Fy(vs)(H)(Q)(E)(h:YX K a.X8 2 (oY a) vs H Q E):B7 K a vs H Q E:=by
 obtain⟨_,ps,s,m,r,S,P⟩:=h;obtain⟨n,pp,L,z,L',us,ys,hg,B,e1,e2,rfl,r',P⟩:=onB S r P;split at P
 .split at P
  .rename_i x hx;cases Ds r';obtain⟨f1,f2⟩:=v6 e1;refine⟨_,z,pp,L',x,rfl,B,hx,λe he=>?_,λhe=>?_⟩
   .rw[f1 e he] at P;dsimp only at P;split at P
    .rename_i T0;refine⟨T0,λl U2 H' hl k h' pr=>?_⟩;have S':=S.same k;refine P _ H' m (.same k) S' (.lst h' ?_ ?_)
     .have:=S.YC hl;exact this
     .have:=Ce S' pr;rw[aD] at this;exact this
    .exact P.elim
   .rw[f2 he] at P;exact P H m .refl S Zb .no
  .exact P.elim
 .exact P.elim
def Pj(vs)(H)(Q)(E)(h:YX K a.X8 2 (L5 a) vs H Q E):OF K a vs H Q E:=by
 obtain⟨_,ps,s,m,r,S,P⟩:=h;obtain⟨n,pp,L,z,L',us,ys,hg,B,e1,e2,rfl,r',P⟩:=onB S r P;split at P
 .split at P
  .rename_i x hx;cases Ds r';obtain⟨f1,f2⟩:=v6 e1;refine⟨_,z,pp,L',x,rfl,B,hx,λe he t ht=>?_,λhe=>?_⟩
   .rw[f1 e he] at P;exact P.new S ht λex S'=>.tup (.inl ⟨.inl mw,S'.YZ mw⟩) (.cons .int (.cons .int (.cons .int .nil)))
   .rw[f2 he] at P;exact P H m .refl S Zb .no
  .exact P.elim
 .exact P.elim
def JC(vs)(H)(Q)(E)(h:YX K a.X8 5 (wH a) vs H Q E):GX K a vs H Q E:=by
 obtain⟨_,ps,s,m,r,S,P⟩:=h;obtain⟨n,pp,L,z,L',us,ys,hg,B,e1,e2,rfl,r',P⟩:=onB S r P;split at P
 .split at P
  .rename_i h o1 o2 t b hs;cases r' with
   |cons q1 r'=>cases r' with
    |cons q2 r'=>cases r' with
     |cons q3 r'=>cases r' with
      |cons q4 r' =>
       cases r';cases q1;cases q2;cases q3;obtain⟨p,ws,rfl,ht,RP⟩:=q4.tp;cases RP with
       |cons w1 w2=>cases w2 with
        |cons w2 w3 =>
         cases w3;cases w1;cases w2;obtain⟨f1,f2⟩:=v6 e1;have hh:qz L' h=(n8 L h).isSome:=by rw[vh,e1];rfl
         have h1:(p4 pp o1||qz L' o1)=(p4 pp o1||nv L o1):=by rw[vh,e1]
         have h2:(p4 pp o2||qz L' o2)=(p4 pp o2||nv L o2):=by rw[vh,e1]
         refine⟨_,z,pp,L',h,o1,o2,p,(t,b),rfl,B,by rw[show L'.map (λx=>x.1.nm)=L.map (·.nm) by rw[<-e1,aD];rfl];exact hs.nd,hs.nm.1,hs.nm.2.1,hs.nm.2.2,ht,hs.sz,λe he=>hs.ok _ (f1 e he),λq=>?_,λq g1=>?_,λq g1 g2=>?_,λe he g1 g2 g3=>?_,λe he g1 g2 g3 H' B' k=>?_⟩
         .rw[hh] at q;cases c:n8 L h with
          |none=>rw[c] at P;exact P H m .refl S Zb .no
          |some e=>rw[c] at q;cases q
         .rw[hh] at q;cases c:n8 L h with
          |none=>rw[c] at q;cases q
          |some e=>rw[c] at P;dsimp only at P;rw[Zc (by rw[<-h1];exact g1)] at P;exact P H m .refl S Zb .no
         .rw[hh] at q;cases c:n8 L h with
          |none=>rw[c] at q;cases q
          |some e=>rw[c] at P;dsimp only at P;rw[Zd (by rw[<-h1,g1];decide),Zc (by rw[<-h2];exact g2)] at P;exact P H m .refl S Zb .no
         .rw[f1 e he] at P;dsimp only at P;rw[Zd (by rw[<-h1,g1];decide),Zd (by rw[<-h2,g2];decide),Zc g3] at P;exact P H m .refl S Zb .no
         .rw[f1 e he] at P;dsimp only at P;rw[Zd (by rw[<-h1,g1];decide),Zd (by rw[<-h2,g2];decide),Zd g3] at P;obtain⟨S2,x2⟩:=QZ S hg e2 B' (λc o hc hn=>k c o hc λz=>hn (by rw[z];exact NM (sM he))) (λc hc=>.inl (by rw[MQ] at hc;exact hc));rw[JG,e1] at S2 x2;exact P _ _ _ x2 S2 .Yh
  .exact P.elim
 .exact P.elim
theorem Mt.imp(M:Mt P w K mg base C mm k ps sp)(h:∀vs H Q E,UH vs H Q E->sp vs H Q E):Mt P w K mg base C mm k ps UH :=
 let⟨f,fd,F,b⟩:=M;⟨f,fd,F.imp h,b⟩
theorem Fn.imp(M:Fn P w K mg base x k ps sp)(h:∀vs H Q E,UH vs H Q E->sp vs H Q E):Fn P w K mg base x k ps UH :=
 let⟨f,fd,F,b⟩:=M;⟨f,fd,F.imp h,b⟩
noncomputable instance (q:Int×Int):Decidable (Sz q):=dy _
end
end My
namespace L2
open PySem PySem.Spec PyProof.Rows
def NOw(u:HO):Prop:=∀o x,u≠.YQ o (.own x)
section
variable{K:aa}{H H':Hp}{m:Mp}{s:N'}
mutual
theorem Rep.now(k:∀a u,H a=Za u->NOw u->H' a=Za u):∀{v:V}{p:PV},Rep K H m s v p->Rep K H' m s v p
 |_,_,.Yh=>.Yh
 |_,_,.bl=>.bl
 |_,_,.int=>.int
 |_,_,.str=>.str
 |_,_,.tup h r=>.tup (h.imp (λz=>⟨z.1.imp (λh=>k _ _ h (by intro _ _ z;cases z)) λ⟨o,h⟩=>⟨o,k _ _ h (by intro _ _ z;cases z)⟩,z.2⟩) λz=>z) (X7.now k r)
 |_,_,.lst h p r=>.lst (k _ _ h (by intro _ _ z;cases z)) p (X7.now k r)
 |_,_,.seq h r=>.seq (h.imp (λ⟨⟨o,z⟩,p⟩=>⟨⟨o,k _ _ z (by intro _ _ z;cases z)⟩,p⟩) λz=>z) (X7.now k r)
 |_,_,.Yl h p r=>.Yl (h.imp (λh=>k _ _ h (by intro _ _ z;cases z)) λ⟨o,h⟩=>⟨o,k _ _ h (by intro _ _ z;cases z)⟩) p (Ya.now k r)
 |_,_,.ref h=>.ref h
 |_,_,.exc h p y=>.exc (k _ _ h (by intro _ _ z;cases z)) p λn z=>let⟨dx,h1,h2,h3⟩:=y n z;⟨dx,h1,k _ _ h2 (by intro _ _ z;cases z),h3⟩
 |_,_,.Ų r=>.Ų (X7.now k r)
theorem X7.now(k:∀a u,H a=Za u->NOw u->H' a=Za u):∀{v:List V}{p:List PV},X7 K H m s v p->X7 K H' m s v p
 |_,_,.nil=>.nil
 |_,_,.cons a b=>.cons (Rep.now k a) (X7.now k b)
theorem Ya.now(k:∀a u,H a=Za u->NOw u->H' a=Za u):∀{v:List (Key×V)}{p:List (Key×PV)},Ya K H m s v p->Ya K H' m s v p
 |_,_,.nil=>.nil
 |_,_,.cons a b=>.cons (Rep.now k a) (Ya.now k b)
end
end
def Fro(H H':Hp):Prop:=∀a o u,H a=Za (.YQ o u)->H' a=Za (.YQ o u)
structure Â4(P:aK)(w:aT)(K:aa)(mg:Str->Option ae)(base:bc)(k:Nat)(CB f:ag)(vs:List V)(H:Hp)(dr:List PV->PV->N'->Out PV):Prop where
 ex:∃of fd0 fd ps sp,H f=Za (fzO of)/\of.data=.func fd0/\Yt P w K mg base (YW P w) k f fd ps sp/\Binds K fd ps [] /\
  ∀H' m s v p l Q,Fro H H'->SR K CB H' m s->X7 K H' m s vs l->Rep K H' m s v p->Yo K CB (Rep K) E0 (dr l p s) H' m s Q->sp [v] H' Q E0
open Classical in
open Classical in
def yG(fi:XA)(ix:List Nat)(c:XT)(e:XE)(Z:En)(s:N'):Out PV:=(fi Z s).bind λl s1=>if l.length<=100000 then(n9 c e (nM ix Z) l s1).bind λvs s2=>.ok (.ref s2.nx) (s2.add (.lst vs)) else .bad
section
variable{X:Cx}{CB:ag}{E:XK}{a c e Rx iter:a7}{Rt:List a7}{f h:XE}{fi:XA}{t:XT}{p px pos:Pos}{x:Str}{u v:XS}{scope:di}{fr:List Str}{ix:List Nat}
def ğ.cell{K}{D}{H1 H2}{m1 m2}{s1 s2}{cap}{Z}{ys}{done}(C:ğ K CB D H1 m1 s1 cap Z ys done H2 m2 s2)(hD:H1 D=Zb)(hn:D∉m1.YN) :
  SR K CB H2 ((m2.bare m1.YN).add s2.nx D [D]) (s2.add (.lst done))/\Ext H1 m1 s1 H2 ((m2.bare m1.YN).add s2.nx D [D]) (s2.add (.lst done)):=by
 have S:=C.sr;have RF:D∈m2.YN:=by rw[C.YN];exact al
 have Rr:=λj hj=>ay (S.lt j hj);have SL:∀j∈s2.cs.map (·.1),((m2.bare m1.YN).add s2.nx D [D]).fp j=m2.fp j:=λj hj=>Zd (Rr j hj);have Tj:((m2.bare m1.YN).add s2.nx D [D]).fp s2.nx=[D]:=Zc rfl;have had:((m2.bare m1.YN).add s2.nx D [D]).ad s2.nx=D:=Zc rfl;have nD:=λj hj z=>S.hx j hj D z RF;have hk:=λ{j} hj=>ao.mp (show j∈s2.nx::s2.cs.map (·.1) from hj);have Uh:∀a,a∈m1.YN->a∈m2.YN:=λa ha=>by rw[C.YN];exact ah _ ha
 have pur:∀a,a≠D->a∉m1.YN->(∀n∈s2.cs.map (·.1),a∉m2.fp n)->ù ((m2.bare m1.YN).add s2.nx D [D]) (s2.add (.lst done)) a:=λa h1 h2 h3=>⟨h2,λj hj ha=>by
  obtain rfl|hj:=hk hj
  .grind
  .rw[SL j hj] at ha;exact h3 j hj ha⟩
 have x:ExtR H2 m2 s2 H2 ((m2.bare m1.YN).add s2.nx D [D]) (s2.add (.lst done)):=⟨fb _,λj hj=>Zd (ay hj),λa u h p=>⟨h,pur a (λz=>p.1 (z▸RF)) (λz=>p.1 (Uh a z)) p.2⟩,λa u h _ _=>h⟩;have e1:=C.ex.nx;refine⟨⟨?_,?_,λq hq=>?_,λj hj i hi RB a ha hb=>?_,λj hj a ha hb=>?_,λa ha=>S.hs a (Uh a ha),λP q t=>⟨?_,(S.tb P q t).2⟩⟩,⟨⟨⟨Nat.le_succ_of_le e1,λn hn=>?_,λa u h p=>?_,C.ex.el⟩,λn l hn h=>?_⟩,rfl,C.ex.hk⟩⟩
 .exact aL.mpr ⟨λz=>Rr _ z rfl,S.nd⟩
 .intro j hj;obtain rfl|hj:=hk hj
  .exact ci _
  .exact cj (S.lt j hj)
 .obtain rfl|hq:=ao.mp (hq)
  .exact⟨by rw[Tj,had],ys,by rw[had];exact C.at_,C.rs.Yk x⟩
  .have Vm:q.1∈s2.cs.map (·.1):=aq.mpr ⟨q,hq,rfl⟩;exact(S.ok q hq).keep S x (λa _ o h=>h) (x.ad _ (S.lt _ Vm)) (SL _ Vm)
 .obtain e|hj:=hk hj<;>obtain e'|hi:=hk hi
  .grind
  .rw[e,Tj,ax] at ha;rw[SL i hi,ha] at hb;exact nD i hi hb
  .rw[e',Tj,ax] at hb;rw[SL j hj,hb] at ha;exact nD j hj ha
  .rw[SL j hj] at ha;rw[SL i hi] at hb;exact S.dj j hj i hi RB a ha hb
 .have hb:a∈m1.YN:=hb;obtain e|hj:=hk hj
  .grind
  .rw[SL j hj] at ha;exact S.hx j hj a ha (Uh a hb)
 .obtain⟨h1,ps,h2,_⟩:=S.tb P q t;rw[C.YN] at h1;obtain z|z:=ao.mp h1
  .rw[z,C.at_] at h2;cases h2
  .exact z
 .have:=ay (az hn e1);exact(Zd this).trans (C.ex.ad n hn)
 .obtain⟨h1,p1⟩:=C.ex.pu a u h p;exact⟨h1,pur a (h.ne hD) p1.1 p1.2⟩
 .obtain⟨h1,h2⟩:=C.ex.df n l hn h;refine⟨?_,h2⟩;show qA ((s2.nx,Cell.lst done)::s2.cs) n=_;unfold qA;rw[Zd (λz=>ay (az hn e1) z.symm)];exact h1
def IV{t}(S1:SR X.K CB H1 m1 s1)(er:ER X.K H1 m1 s1 O Z)(it:ql X.K CB J l H1 m1 s1)(hD:H1 D=Zb)(Re:l.length<=100000)(P:Yo X.K CB (Rep X.K) E ((n9 t f (nM ix Z) l s1).bind λvs s2=>.ok (.ref s2.nx) (s2.add (.lst vs))) H1 m1 s1 Q):ď J (ż X.K CB E0 t) (ō X.K CB E0 f) (Zo ix O) D H1 Q:=by
 refine⟨λi k ys H2=>∃done m2 s2,ğ X.K CB D H1 m1 s1 (Zo ix O) (nM ix Z) ys done H2 m2 s2/\i<=l.length/\ys.length<=i/\k=l.length-i/\(n9 t f (nM ix Z) l s1).bind (λvs s2=>.ok (PV.ref s2.nx) (s2.add (.lst vs)))=(n9 t f (nM ix Z) (l.drop i) s2).bind λvs s2=>.ok (.ref s2.nx) (s2.add (.lst (done++vs))),⟨l.length,[],m1.hide D,s1,ğ.start S1 (er.Zo ix) hD,aY _,aY _,rfl,?_⟩,?_⟩
 .simp
 rintro i k ys H2 ⟨done,m2,s2,C,hi,hy,rfl,eq⟩
 obtain⟨Uf,Tu⟩:=it i H2 m2 s2 C.e0 C.sr;by_cases Rr:i<l.length
 .right;have hq:=aA Rr;obtain⟨go,yl⟩:=Uf _ hq;refine⟨go,λx H3 Vg=>?_⟩;obtain⟨e3,S3,r3⟩:=yl x H3 Vg;have C3:=C.step hD e3 S3;rw[eI Rr] at eq;rw[eq] at P;rw[oU] at P eq;refine⟨Za l[i]::nM ix Z,s2,m2,C3.er.cons r3,S3,?_⟩;cases ct:t (Za l[i]::nM ix Z) s2 with
  |bad=>rw[ct] at P;exact P.elim
  |ex c3 s3=>rw[ct] at P;exact P.elim
  |ok bt s3 =>
   rw[ct] at P eq
   rintro b4 H4 m4 e4 S4 rfl
   have C4:=C3.step hD e4 S4;cases b4 with
   |false =>
    exact NK ⟨l.length-(i+1),by omega,done,m4,s3,C4,Rr,by omega,rfl,eq⟩
   |true =>
    refine NJ ⟨Za l[i]::nM ix Z,s3,m4,C4.er.cons (r3.ext e4),S4,?_⟩;dsimp only at P eq;cases cf:f (Za l[i]::nM ix Z) s3 with
    |bad=>rw[cf] at P;exact P.elim
    |ex c5 s5=>rw[cf] at P;exact P.elim
    |ok v s5 =>
     rw[cf] at eq;intro w H5 m5 e5 S5 r5;have C5:=C4.step hD e5 S5;refine⟨C5.at_,aX (aJ hy (aJ hi Re)) (Zf rfl),l.length-(i+1),by omega,done++[v],m5,s5,C5.push hD r5,Rr,by simp;omega,rfl,?_⟩;rw[eq];dsimp only;cases hh:n9 t f (nM ix Z) (l.drop (i+1)) s5 with
     |ok vs s6=>simp[Out.bind]
     |ex c6 s6=>exact absurd hh vk
     |bad=>rfl
 .left;have Sh:=fS Rr;rw[ft Sh] at eq;rw[eq] at P;obtain⟨VX,R1⟩:=C.cell hD λz=>(S1.hs D z).1 hD;have P:Yo X.K CB (Rep X.K) E (.ok (.ref s2.nx) (s2.add (.lst (done++[])))) H1 m1 s1 Q:=P;rw[bW] at P;refine⟨Tu Sh,C.at_,?_⟩;have P:=P (.ref D) H2 ((m2.bare m1.YN).add s2.nx D [D]) R1 VX;have e0:((m2.bare m1.YN).add s2.nx D [D]).ad s2.nx=D:=Zc rfl;apply P;have r:=Rep.ref (K:=X.K) (H:=H2) (m:=(m2.bare m1.YN).add s2.nx D [D]) (s:=s2.add (.lst done)) (ci _);rw[e0] at r;exact r
def Ez{t}(q:ō X.K CB E (yG fi ix t f) O H Q):Jh (Ž X.K CB E fi) ix (ż X.K CB E0 t) (ō X.K CB E0 f) O H Q:=by
 obtain⟨Z,s,m,er,S,P⟩:=q;refine⟨Z,s,m,er,S,?_⟩;unfold yG at P;cases c:fi Z s with
 |bad=>rw[c] at P;exact P
 |ex c' s'=>rw[c] at P;exact P
 |ok l s1 =>
  rw[c] at P;dsimp only[Out.bind] at P;split at P
  .rename_i Re;exact λJ H1 m1 e1 S1 it D hD=>IV S1 (er.ext e1) it hD Re (Yo.shift e1 P)
  .exact P.elim
def Ey(hi:DI X CB E (.Name x px) iter fi)(he:∀cl C Rg Rh fp,DE (Õ X scope cl C (x::fr) Rg Rh fp) CB E0 Rx f)(ht:∀cl C Rg Rh fp,Ŀ (Õ X scope cl C (x::fr) Rg Rh fp) CB Rt t:=by exact λ_ _ _ _ _=>rG)(hN:X.N.Nodup:=by exact ‹K' _ _ _›.nd)(TD:X.N[i]?=Za y:=by rfl)(Tf:X.env.scope.names.lookup y=Za .local:=by rfl)(hc:X.calm=true:=by rfl)(S:Y8 X.N X.env.scope scope x fr ix:=by exact Op ‹K' _ _ _›)(Td:cN (.ListComp Rx [⟨.Name x px,iter,Rt,0⟩] scope pos) (Za (.Name y py)) RU.line X.env=pure true:=by rfl)(hs:∀v,bI iter X.env v=pure v:=by intro _;rfl):DS X CB E (.Assign [.Name y py] (.ListComp Rx [⟨.Name x px,iter,Rt,0⟩] scope pos) RU) (Yd i (yG fi ix t f)) :=
 ⟨(vW hN TD Tf hc S hi.pi (λcl C Rg Rh fp=>(ht cl C Rg Rh fp).ř) (λcl C Rg Rh fp=>(he cl C Rg Rh fp).pe) Td hs).mono λD O H=>oE λZ s m er S P =>
  Ez ⟨Z,s,m,er,S,Yo.so P λv s1 u H1 m1 e1 S1 r1 P1=>P1.next S1 ((er.ext e1).set i r1)⟩⟩
end
section
variable{X:Cx}{Rx iter tg:a7}{Rt:List a7}{pos:Pos}{scope:di}{wi:TI}{tc:TT}{te:TE}{gt:TG}{xs fr:List Str}{ix:List Nat}
def J1(hc:X.calm=true)(S:É X.N X.env.scope scope xs fr ix)(hi:PI X tg iter wi)(hg:∀cl C Rg Rh fp,PG (Õ X scope cl C (xs++fr) Rg Rh fp) tg gt)(ht:∀cl C Rg Rh fp,Gk (Õ X scope cl C (xs++fr) Rg Rh fp) Rt tc)(he:∀cl C Rg Rh fp,PE (Õ X scope cl C (xs++fr) Rg Rh fp) Rx te)(hs:∀v,bI iter X.env v=pure v:=by intro _;rfl):PE X (.ListComp Rx [⟨tg,iter,Rt,0⟩] scope pos) (Go wi ix gt xs.length tc te):=by
 intro Q9 s O H Q I h;have Rj:∀y∈scope.names,y.2=.free->∃c,X.env.cells.lookup y.1=Za c:=λy hy hf=>I.ok.has y.1 (.inl (S.free y hy hf));refine fg rfl hs (qi Rj) S.kind S.nm (Yq (hi Q9 s O H _ I h) λv s1 h1=>Yq h1 λUN s2 h2=>?_);obtain⟨it,fp,tn,J,H2,rfl,I2,T,R4,f2,q2⟩:=h2;refine wc hc S hg ht he Rj I2 T R4 f2 q2 λD C H' s' I' UD ⟨b1,b2,b3,b4⟩ SV q'=>?_;obtain⟨m',Sg⟩:=SV;refine⟨m',Sg,λh' Uj=>⟨.ref D,H',?_,rfl,q'⟩⟩;exact I'.turned (λb o hb e=>Uj.extBut b o hb e) UD b1 (.inr b2) b3 b4
def Ej(hN:X.N.Nodup)(TD:X.N[i]?=Za y)(Tf:X.env.scope.names.lookup y=Za .local)(hc:X.calm=true)(S:É X.N X.env.scope scope xs fr ix)(hi:PI X tg iter wi)(hg:∀cl C Rg Rh fp,PG (Õ X scope cl C (xs++fr) Rg Rh fp) tg gt)(ht:∀cl C Rg Rh fp,Gk (Õ X scope cl C (xs++fr) Rg Rh fp) Rt tc)(he:∀cl C Rg Rh fp,PE (Õ X scope cl C (xs++fr) Rg Rh fp) Rx te)(Td:cN (.ListComp Rx [⟨tg,iter,Rt,0⟩] scope pos) (Za (.Name y py)) RU.line X.env=pure true:=by rfl)(hs:∀v,bI iter X.env v=pure v:=by intro _;rfl):PS X (.Assign [.Name y py] (.ListComp Rx [⟨tg,iter,Rt,0⟩] scope pos) RU) (OE (Go wi ix gt xs.length tc te) (F5 i)):=by
 intro Q9 s O H D0 I h;have Rj:∀y∈scope.names,y.2=.free->∃c,X.env.cells.lookup y.1=Za c:=λy hy hf=>I.ok.has y.1 (.inl (S.free y hy hf));rw[exec_Assign_Name_used _ _ _ _ Td];refine af (ej (af ?_));refine af (a6 (fg rfl hs (qi Rj) S.kind S.nm
  (Yq (hi Q9 s O H _ I h) λv s1 h1=>Yq h1 λUN s2 h2=>?_)) (λ_ s' hq=>aE (aE hq)) λ_ _ e=>e)
 obtain⟨it,fp,tn,J,H2,rfl,I2,T,R4,f2,q2⟩:=h2;refine wc hc S hg ht he Rj I2 T R4 f2 q2 λD C H' s' I' UD ⟨b1,b2,b3,b4⟩ SV q'=>?_;obtain⟨m',Sg⟩:=SV;refine jJ (xI (v:=.ref D) I' hN TD (.inl Tf) rfl (λs5 I5 sb=>?_) (.inr Tf));obtain⟨a5,sb,XC⟩:=sb;have XN:C≠a5:=by
  obtain z|z:=XC
  .rw[z];exact b1
  .exact(b3 _ _ z).symm
 refine⟨m',Sg.sameBut sb XN,λh' Uj=>⟨_,H',?_,q'⟩⟩;exact I5.turned (λb o hb e=>Uj.extBut b o hb e) UD b1 (.inr b2) b3 b4
end
noncomputable def DR(q:PV)(s:N'):Option (PV×PV):=match q with
 |.tup [p1,p2]=>Za (p1,p2)
 |_=>Zb
def y2:XG:=Zr 2 (Yj (X9 0) (Yj (X9 1) Zs))
def ÀC(h:DR q s=Za (p1,p2)):y2 q (Zb::Zb::cap) s=Za (Za p1::Za p2::cap):=by
 unfold DR at h;split at h
 .cases h;rfl
 .cases h
noncomputable def nz(c:XT)(e:XE)(cap:En):List PV->N'->Out (List PV)
 |[],s=>.ok [] s
 |q::l,s=>match DR q s with
  |none=>.bad
  |some p=>match c (Za p.1::Za p.2::cap) s with
   |.ok true s1=>match e (Za p.1::Za p.2::cap) s1 with
    |.ok v s2=>match nz c e cap l s2 with
     |.ok vs s3=>.ok (v::vs) s3
     |_=>.bad
    |_=>.bad
   |.ok false s1=>nz c e cap l s1
   |_=>.bad
def yq:nz c e cap (q::l) s=match DR q s with
  |none=>.bad
  |some p=>match c (Za p.1::Za p.2::cap) s with
   |.ok true s1=>match e (Za p.1::Za p.2::cap) s1 with
    |.ok v s2=>match nz c e cap l s2 with
     |.ok vs s3=>.ok (v::vs) s3
     |_=>.bad
    |_=>.bad
   |.ok false s1=>nz c e cap l s1
   |_=>.bad:=rfl
theorem CC:∀{l:List PV}{s s':N'}{k:Xc},nz c e cap l s≠.ex k s'
 |[],_,_,_,h=>by cases h
 |q::l,s,s',k,h=>by
  unfold nz at h;split at h
  .cases h
  .split at h
   .split at h
    .split at h<;>cases h
    .cases h
   .exact CC h
   .cases h
def oX(fi:XA)(ix:List Nat)(c:XT)(e:XE)(Z:En)(s:N'):Out PV:=(fi Z s).bind λl s1=>if l.length<=100000 then(nz c e (nM ix Z) l s1).bind λvs s2=>.ok (.lst vs) s2 else .bad
section
variable{X:Cx}{CB:ag}{E:XK}{Rx iter:a7}{Rt:List a7}{f:XE}{fi:XA}{t:XT}{pos:Pos}{scope:di}{fr:List Str}{ix:List Nat}
def ER.Àf{K}{H}{m}{s}{O}{p1 p2}{cap}(h:ER K H m s O (Za p1::Za p2::cap)):ER K H m s O (Zb::Zb::cap) :=
 ⟨h.len,λi p q=>by
  match i,q with
  |0,q=>cases q
  |1,q=>cases q
  |i+2,q=>exact h.at_ (i+2) p q⟩
def ER.Ák{K}{H}{m}{s}{O}{cap}(h:ER K H m s O cap):ER K H m s (aQ 2 Zb++O) (Zb::Zb::cap) :=
 ⟨by have:=h.len;simp at this ⊢;omega,λi p q=>by
  match i,q with
  |0,q=>cases q
  |1,q=>cases q
  |i+2,q=>exact h.at_ i p q⟩
def ğ.env{K}{D}{H1 H2}{m1 m2}{s1 s2}{cap cap'}{Z Yi}{ys}{done}(C:ğ K CB D H1 m1 s1 cap Z ys done H2 m2 s2)(er:ER K H2 m2 s2 cap' Yi):ğ K CB D H1 m1 s1 cap' Yi ys done H2 m2 s2:=⟨C.YN,C.at_,C.sr,er,C.rs,C.ex,C.e0⟩
def IW{O}{H1}{m1}{s1}{Z}{J:It}{l}{D}{Q}{t}(S1:SR X.K CB H1 m1 s1)(er:ER X.K H1 m1 s1 O Z)(it:ql X.K CB J l H1 m1 s1)(hD:H1 D=Zb)(Re:l.length<=100000)(P:Yo X.K CB (Rep X.K) E ((nz t f (nM ix Z) l s1).bind λvs s2=>.ok (.lst vs) s2) H1 m1 s1 Q):Ee J (TDG X.K CB y2) 2 (ż X.K CB E0 t) (ō X.K CB E0 f) (Zo ix O) D H1 Q:=by
 refine⟨λi k ys Ė H2=>∃done m2 s2,ğ X.K CB D H1 m1 s1 Ė (Zb::Zb::nM ix Z) ys done H2 m2 s2/\i<=l.length/\ys.length<=i/\k=l.length-i/\(nz t f (nM ix Z) l s1).bind (λvs s2=>.ok (PV.lst vs) s2)=(nz t f (nM ix Z) (l.drop i) s2).bind λvs s2=>.ok (.lst (done++vs)) s2,⟨l.length,[],m1.hide D,s1,(ğ.start S1 (er.Zo ix) hD).env ((er.Zo ix).Ák.Yk (Ext0.hide hD).toExtR),aY _,aY _,rfl,?_⟩,?_⟩
 .simp
 rintro i k ys Ė H2 ⟨done,m2,s2,C,hi,hy,rfl,eq⟩
 obtain⟨Uf,Tu⟩:=it i H2 m2 s2 C.e0 C.sr;by_cases Rr:i<l.length
 .right;have hq:=aA Rr;obtain⟨go,yl⟩:=Uf _ hq;refine⟨go,λx H3 Vg=>?_⟩;obtain⟨e3,S3,r3⟩:=yl x H3 Vg;have C3:=C.step hD e3 S3;rw[eI Rr] at eq;rw[eq] at P;rw[yq] at P eq;cases hp:DR l[i] s2 with
  |none=>rw[hp] at P;exact P.elim
  |some pq =>
   obtain⟨p1,p2⟩:=pq;rw[hp] at P eq;dsimp only at P eq;refine⟨_,s2,m2,l[i],_,C3.er,S3,r3,ÀC hp,λĕ Tq=>?_⟩;have C3:=C3.env Tq;refine⟨_,s2,m2,Tq,S3,?_⟩;cases ct:t (Za p1::Za p2::nM ix Z) s2 with
   |bad=>rw[ct] at P;exact P.elim
   |ex c3 s3=>rw[ct] at P;exact P.elim
   |ok bt s3 =>
    rw[ct] at P eq
    rintro b4 H4 m4 e4 S4 rfl
    have C4:=C3.step hD e4 S4;cases b4 with
    |false =>
     exact NK ⟨l.length-(i+1),by omega,done,m4,s3,C4.env C4.er.Àf,Rr,by omega,rfl,eq⟩
    |true =>
     refine NJ ⟨_,s3,m4,C4.er,S4,?_⟩;dsimp only at P eq;cases cf:f (Za p1::Za p2::nM ix Z) s3 with
     |bad=>rw[cf] at P;exact P.elim
     |ex c5 s5=>rw[cf] at P;exact P.elim
     |ok v s5 =>
      rw[cf] at eq;intro w H5 m5 e5 S5 r5;have C5:=C4.step hD e5 S5;refine⟨C5.at_,aX (aJ hy (aJ hi Re)) (Zf rfl),l.length-(i+1),by omega,done++[v],m5,s5,(C5.push hD r5).env (C5.push hD r5).er.Àf,Rr,by simp;omega,rfl,?_⟩;rw[eq];dsimp only;cases hh:nz t f (nM ix Z) (l.drop (i+1)) s5 with
      |ok vs s6=>simp[Out.bind]
      |ex c6 s6=>exact absurd hh CC
      |bad=>rfl
 .left;have Sh:=fS Rr;rw[ft Sh] at eq;rw[eq] at P;obtain⟨VX,rd⟩:=C.done;refine⟨Tu Sh,C.at_,P (.ref D) H2 (m2.bare m1.YN) C.ex VX ?_⟩;rw[bW];exact rd λz=>(S1.hs D z).1 hD
def yr{t}(q:ō X.K CB E (oX fi ix t f) O H Q):Go (Ž X.K CB E fi) ix (TDG X.K CB y2) 2 (ż X.K CB E0 t) (ō X.K CB E0 f) O H Q:=by
 obtain⟨Z,s,m,er,S,P⟩:=q;refine⟨Z,s,m,er,S,?_⟩;unfold oX at P;cases c:fi Z s with
 |bad=>rw[c] at P;exact P
 |ex c' s'=>rw[c] at P;exact P
 |ok l s1 =>
  rw[c] at P;dsimp only[Out.bind] at P;split at P
  .rename_i Re;exact λJ H1 m1 e1 S1 it D hD=>IW S1 (er.ext e1) it hD Re (Yo.shift e1 P)
  .exact P.elim
variable{R3 R1:Str}{q1 q2 q3:Pos}{kt:Nat}
def Hz(hN:([R3,R1]++fr).Nodup)(h1:scope.names.lookup R3=Za .local)(h2:scope.names.lookup R1=Za .local):DG (Õ X scope cl C ([R3,R1]++fr) Rg Rh fp) CB (.Tuple [.Name R3 q1,.Name R1 q2] kt q3) y2 :=
 uj (nF (m9 0 hN rfl (.inl (dD h1)) (.inr (dD h1))) (nF (m9 1 hN rfl (.inl (dD h2)) (.inr (dD h2))) rA))
def wW(hi:DI X CB E (.Tuple [.Name R3 q1,.Name R1 q2] kt q3) iter fi)(he:∀cl C Rg Rh fp,DE (Õ X scope cl C ([R3,R1]++fr) Rg Rh fp) CB E0 Rx f)(ht:∀cl C Rg Rh fp,Ŀ (Õ X scope cl C ([R3,R1]++fr) Rg Rh fp) CB Rt t:=by exact λ_ _ _ _ _=>rG)(hc:X.calm=true:=by rfl)(S:É X.N X.env.scope scope [R3,R1] fr ix:=by exact ÁN ‹K' _ _ _›)(h1:scope.names.lookup R3=Za .local:=by rfl)(h2:scope.names.lookup R1=Za .local:=by rfl)(hs:∀v,bI iter X.env v=pure v:=by intro _;rfl):DE X CB E (.ListComp Rx [⟨.Tuple [.Name R3 q1,.Name R1 q2] kt q3,iter,Rt,0⟩] scope pos) (oX fi ix t f) :=
 ⟨(J1 hc S hi.pi (λcl C Rg Rh fp=>(Hz S.nd h1 h2).pg) (λcl C Rg Rh fp=>(ht cl C Rg Rh fp).ř) (λcl C Rg Rh fp=>(he cl C Rg Rh fp).pe) hs).mono λO H Q q=>yr q⟩
def yn(hi:DI X CB E (.Tuple [.Name R3 q1,.Name R1 q2] kt q3) iter fi)(he:∀cl C Rg Rh fp,DE (Õ X scope cl C ([R3,R1]++fr) Rg Rh fp) CB E0 Rx f)(ht:∀cl C Rg Rh fp,Ŀ (Õ X scope cl C ([R3,R1]++fr) Rg Rh fp) CB Rt t:=by exact λ_ _ _ _ _=>rG)(hN:X.N.Nodup:=by exact ‹K' _ _ _›.nd)(TD:X.N[i]?=Za y:=by rfl)(Tf:X.env.scope.names.lookup y=Za .local:=by rfl)(hc:X.calm=true:=by rfl)(S:É X.N X.env.scope scope [R3,R1] fr ix:=by exact ÁN ‹K' _ _ _›)(h1:scope.names.lookup R3=Za .local:=by rfl)(h2:scope.names.lookup R1=Za .local:=by rfl)(Td:cN (.ListComp Rx [⟨.Tuple [.Name R3 q1,.Name R1 q2] kt q3,iter,Rt,0⟩] scope pos) (Za (.Name y py)) RU.line X.env=pure true:=by rfl)(hs:∀v,bI iter X.env v=pure v:=by intro _;rfl):DS X CB E (.Assign [.Name y py] (.ListComp Rx [⟨.Tuple [.Name R3 q1,.Name R1 q2] kt q3,iter,Rt,0⟩] scope pos) RU) (Yd i (oX fi ix t f)) :=
 ⟨(Ej hN TD Tf hc S hi.pi (λcl C Rg Rh fp=>(Hz S.nd h1 h2).pg) (λcl C Rg Rh fp=>(ht cl C Rg Rh fp).ř) (λcl C Rg Rh fp=>(he cl C Rg Rh fp).pe) Td hs).mono λD O H=>oE λZ s m er S P =>
  yr ⟨Z,s,m,er,S,Yo.so P λv s1 u H1 m1 e1 S1 r1 P1=>P1.next S1 ((er.ext e1).set i r1)⟩⟩
end
noncomputable def Áj(i:Int):Str:=b6 (toString i)
section
variable{X:Cx}{CB:ag}{E:XK}
def IY:YM X (.type "str") (λxs H Q=>(∃i,xs=[.int i]/\i.natAbs.log2<1920/\Q (.str (Áj i)) H)\/∃x,xs=[.str x]/\Q (.str x) H):=by
 intro Q9 s O H xs us Q I r h;rcases h with⟨i,rfl,hz,q⟩|⟨x,rfl,q⟩
 .obtain⟨u,rfl,t,rfl⟩:=re r;exact PySem.P.str_of_int hz ⟨.str _,H,I.tok _,⟨_,rfl⟩,q⟩
 .obtain⟨u,rfl,t,rfl⟩:=re r;exact PySem.P.str_of_str ⟨.str _,H,I,⟨_,rfl⟩,q⟩
def ÁG(vs:List PV)(s:N'):Out PV:=match vs with
 |[.int i]=>if i.natAbs.log2<1920 then .ok (.str (Áj i)) s else .bad
 |[.str x]=>.ok (.str x) s
 |_=>.bad
def Ŵ:Đ X CB E (.type "str") ÁG:=⟨_,IY,by
 intro H m s v x Q S rx P;unfold ÁG at P;split at P
 .split at P
  .rename_i hz;cases rx with
   |cons r n=>cases n;cases r;exact .inl ⟨_,rfl,hz,P.here S .str⟩
  .exact P.elim
 .cases rx with
  |cons r n=>cases n;cases r;exact .inr ⟨_,rfl,P.here S .str⟩
 .exact P.elim⟩
end
structure DEx(X:Cx)(CB:ag)(e:a7)(f:XE):Prop where
 pex:PEx X e (λE=>ō X.K CB E f)
structure DSx(X:Cx)(CB:ag)(st:bK)(u:XS):Prop where
 psx:PSx X st (λE=>TDS X.K CB E u)
def AL(n:Nat)(D:XF)(fa:XA)(Z:En)(s:N'):Out PV:=match fa Z s with
 |.ok vs s1=>if vs.length=n then D vs s1 else .bad
 |_=>.bad
section
variable{X:Cx}{CB:ag}{E:XK}{a c e:a7}{es:List a7}{f h:XE}{fa:XA}{t:XT}{p pos Rc Rb np hp:Pos}{x y:Str}{st UY:bK}{bs:List bK}{u v:XS}{n k:Nat}{D:XF}{ps:List Str}
def PEx.mono{t t'}(h:PEx X e t)(k:∀E O H Q,t' E O H Q->t E O H Q):PEx X e t':=λQ9 s O H Q E I q=>h Q9 s O H Q E I (k E O H Q q)
def PSx.mono{t t'}(h:PSx X st t)(k:∀E D O H,t' E D O H->t E D O H):PSx X st t':=λQ9 s O H D E I q=>h Q9 s O H D E I (k E D O H q)
def QH(F:Fn X.prog X.w X.K X.mg X.base x k ps (YX X.K CB n D))(ha:DA X.ě CB E0 (e::es) fa){jr}(hr:Yp jr X.A:=by assumption)(hk:k<=jr:=by first|decide|lia)(hg:Gl X x:=by rfl)(RM:Î x:=by decide)(he:Č X e es:=by rfl)(Rq:(bM pos (ar es X.env)).any (·.1)=false:=by rfl):DEx X CB (.Call (.Name x p) (e::es) [] pos) (AL n D fa) :=
 ⟨(PK F (hr.mono hk) hg ha.pa RM he Rq).mono λE O H Q=>oE λZ s m er S P=>⟨Z,s,m,er,S,by
  unfold AL at P;cases cc:fa Z s with
  |bad=>rw[cc] at P;exact P
  |ex c s1=>rw[cc] at P;exact P.elim
  |ok vs s1 =>
   rw[cc] at P;dsimp only at P;split at P
   .rename_i hl;intro us H1 m1 e1 S1 r1;rw[bW];exact⟨by rw[r1.length];exact hl,vs,s1,m1,r1,S1,Yo.shift e1 P⟩
   .exact P.elim⟩⟩
def JR(he:PEx X e te)(hs:cN e Zb pos.line X.env=pure false:=by rfl):PSx X (.Expr e pos) (λE=>OD (te E)):=by exact λQ9 s O H D E I h=>wpAny_Expr_any (Yq (he Q9 s O H _ E I h) λv s1=>e4 λx H1 I1 r1 q1=>⟨O,H1,I1,q1⟩) I.quiet hs
def QC(he:DEx X CB e f)(hs:cN e Zb pos.line X.env=pure false:=by rfl):DSx X CB (.Expr e pos) (Ń f) :=
 ⟨(JR he.pex hs).mono λE D O H=>oE λZ s m er S P=>⟨Z,s,m,er,S,Yo.so P λv s1 u H1 m1 e1 S1 r1 P1=>P1.next S1 (er.ext e1)⟩⟩
open Classical in
noncomputable def Mv(i:Nat)(cl:List ag)(u h:XS)(Z:En)(s:N'):SO:=match u Z s with
 |.ex c s1=>if c.1∈cl then(match h (Z.set i (Za (.exc c))) s1 with
  |.nx Yi s'=>.nx (Yi.set i Zb) s'
  |.rt v s'=>.rt v s'
  |_=>.bad) else .bad
 |o=>o
def ER.put{K}{H}{m}{s}{O}{Z}(h:ER K H m s O Z)(i):ER K H m s (O.set i Zb) (Z.set i Zb) :=
 ⟨by rw[jE,jE];exact h.len,λj p q=>by
  by_cases z:i=j
  .subst z;rw[gG] at q
   grind
  .rw[fW z] at q ⊢;exact h.at_ j p q⟩
def QD(hc:X.calm=true)(RW:X.stack=X.env::X.outer)(hf:X.env.frame=Za X.env.locals)(Uv:X.ex=[])(hb:DSx X CB st u)(hg:Gl X x)(hm:X.mg x=Za (.ref D0))(ZD:Cb X.K D0)(Su:∀c∈cl,Ϥ X.K c/\bS X.K c (.ref D0)=Za true)(hN:X.N.Nodup)(hi:X.N[i]?=Za nm)(hl:X.env.scope.names.lookup nm=Za .local)(hh:∀a,ϥ (Z8 X a) CB E0 (UY::bs) v)(hd:Î x:=by decide) :
  DS X CB E (.Try [st] [.ExceptHandler (Za (.Name x np)) (Za nm) (UY::bs) hp] [] [] pos) (Mv i cl u v) :=
 ⟨(Pw (th:=TDS X.K CB E0 v) hc RW hf Uv (JQ hb.psx) hg hm ZD hN hi hl (λa=>(hh a).pss) hd).mono λD O H=>oE λZ s m er S P=>by
  refine⟨Z,s,m,er,S,?_⟩;unfold Mv at P;cases cc:u Z s with
  |nx=>rw[cc] at P;exact P
  |rt=>rw[cc] at P;exact P
  |bk=>rw[cc] at P;exact P
  |ct=>rw[cc] at P;exact P
  |bad=>rw[cc] at P;exact P
  |ex c s1 =>
   rw[cc] at P;dsimp only at P;split at P
   .rename_i RF;refine λH' m' e1 S1 d y=>⟨c.1,rfl,(Su _ RF).1,(Su _ RF).2,λad hn=>?_⟩;have k:=My.sS (o:=F7 c.1 ad d) hn;have e2:Ext H' m' s1 (upd H' ad (F7 c.1 ad d)) m' s1:=.same k;have r2:Rep X.K (upd H' ad (F7 c.1 ad d)) m' s1 (.ref ad) (.exc c):=.exc mw (S1.YC hn) (y.Yk e2.toExtR);refine⟨Z.set i (Za (.exc c)),s1,m',((er.ext e1).ext e2).set i r2,S1.same k,?_⟩;have P:=YF.shift (e1.trans e2) P;cases ch:v (Z.set i (Za (.exc c))) s1 with
    |nx Yi s'=>rw[ch] at P;exact λYy H2 m2 x2 S2 VQ=>P _ H2 m2 x2 S2 (VQ.put i)
    |rt w s'=>rw[ch] at P;exact P
    |bk=>rw[ch] at P;exact P.elim
    |ct=>rw[ch] at P;exact P.elim
    |ex=>rw[ch] at P;exact P.elim
    |bad=>rw[ch] at P;exact P.elim
   .exact P.elim⟩
def AK(f:XE)(fa:XA)(Z:En)(s:N'):Out PV:=(f Z s).bind λv s1=>match v with
 |.lst l=>(fa Z s1).bind λvs s2=>match vs with
  |[.str y]=>match uc l with
   |some ss=>match ss.findIdx? λz=>decide (z=y) with
    |some j=>if ss.length<1000 then .ok (.int (j:Nat)) s2 else .bad
    |none=>.bad
   |none=>.bad
  |_=>.bad
 |_=>.bad
def KI(ho:DE X CB E a f)(ha:DA X CB E (e::es) fa)(RG:cz a "index" X.env (eval a X.env)=eval a X.env:=by rfl)(SD:((bM Rb (ar (e::es) X.env)).all (λx=>!x.1)&&(ed Rb (cI [] X.env)).all (λx=>x.1.isSome)
   && decide ((e::es).length+([]:List fP).length+(if([]:List fP).isEmpty then 0 else 1)<30))=true:=by rfl)(RE:(Rc.endLine==Rb.line)=true:=by rfl)(hs:Č X e es:=by rfl)(RL:(bM Rb (ar es X.env)).any (·.1)=false:=by rfl) :
  DE X CB E (.Call (.Attribute a "index" Rc) (e::es) [] Rb) (AK f fa) :=
 ⟨(Mf jV jU PySem.F.type_list_index Kc ho.pe ha.pa RG SD RE hs RL).mono λO H Q=>oE λZ s m er S P=>⟨Z,s,m,er,S,P.bind λv s1 u H1 m1 e1 S1 r1 P1=>by
  split at P1
  .rename_i l;cases r1 with
   |@lst ad S7 _ h0 pu q0 =>
   refine⟨.inl ⟨rfl,S7,YO.of h0⟩,Z,s1,m1,er.ext e1,S1,P1.bind λvs s2 us H2 m2 e2 S2 r2 P2=>?_⟩;split at P2
   .rename_i y;split at P2
    .rename_i ss hss;split at P2
     .rename_i j hj;split at P2
      .rename_i hl;cases r2 with
       |cons r n' =>
        cases n';cases r;have ev:S7=ss.map V.str:=by have e9:=vo hss;rw[e9] at q0;exact q0.strs
        obtain⟨Rr,hp,SW⟩:=i0.mp hj;refine⟨ad,ss,y,j,rfl,rfl,?_,?_,λi hi z=>?_,hl,P2.here S2 .int⟩
        .rw[<-ev];exact e2.el ad _ h0 (by grind) pu
        .grind
        .grind
      .exact P2.elim
     .exact P2.elim
    .exact P2.elim
   .exact P2.elim
  .exact P1.elim⟩⟩
open Classical in
end
open PySem.Builtin.Str
def Dm{x y:Str}(h:x.cps.toList=y.cps.toList):x=y:=by
 obtain⟨⟨l⟩⟩:=x;obtain⟨⟨k⟩⟩:=y
 grind
open PySem.NumText PySem.W in
section
def ã:bu "dict"=Za (.type "dict"):=by decide +kernel
end
def Ĥ:=ai @ZG.eq_1 <|ai @X6.eq_1 <|ai @Yd.eq_1 <|ai @YA.eq_1 <|ai @Ū.eq_1 <|ai @Ń.eq_1 <|ai @å.eq_1 <|ai @Y'.eq_1 <|ai @û.eq_1 <|ai @Àl.eq_1 <|ai @è.eq_1 <|ai @x1.eq_1 <|ai @x2.eq_1 <|ai @j'.eq_1 <|ai @xC.eq_1 <|ai @xB.eq_1 <|ai @V'.eq_1 <|ai @ý.eq_1 <|ai @F'.eq_1 <|ai @J'.eq_1 <|ai @Y7.eq_1 <|ai @ç.eq_1 <|ai @ġ.eq_1 <|ai @YJ.eq_1 <|ai @ė.eq_1 <|ai @Á2.eq_1 <|ai @ϧ.eq_1 <|ai @þ.eq_1 <|ai @Á1.eq_1 <|ai @ώ.eq_1 <|ai @Ϧ.eq_1 <|ai @Ę.eq_1 <|ai @Ì.eq_1 <|ai @Yw.eq_1 <|ai @Zl.eq_1 <|ai @Àm.eq_1 <|ai @ī.eq_1 <|ai @À.eq_1 <|ai @ł.eq_1 <|ai @à.eq_1 <|ai @à.eq_2 <|ai @Zw.eq_1 <|ai @Ù.eq_1 <|ai @Ģ.eq_1 <|ai @Ϗ.eq_1 <|ai @ū.eq_1 <|ai @ü.eq_1 <|ai @ę.eq_1 <|ai @Àn.eq_1 <|ai @ϐ.eq_1 <|ai @Out.bind.eq_1 <|ai @Out.bind.eq_2 <|ai @Out.bind.eq_3 <|ai @Out.so.eq_1 <|ai @Out.so.eq_2 <|ai @Out.so.eq_3 <|ai @SO.Ê.eq_1 <|ai @SO.Ê.eq_2 <|ai @YG.eq_1 <|ai @YG.eq_2 <|ai @YG.eq_3 <|ai @Ó.eq_1 <|ai @Ó.eq_2 <|ai @Yr.eq_1 <|ai @Yr.eq_2 <|ai @Yr.eq_3 <|ai @Å.eq_1 <|ai @Å.eq_2 <|ai @ZZ.eq_1 <|ai @ZZ.eq_2 <|ai @á.eq_1 <|ai @á.eq_2 <|ai @Ŝ.eq_1 <|ai @Ŝ.eq_2 <|ai @ZP.eq_1 <|ai @fIs.eq_1 <|ai @fIs.eq_2 <|ai @Ċ.eq_1 <|ai @Ċ.eq_2 <|ai @Yb.eq_1 <|ai @Yb.eq_2 <|ai @Yb.eq_3 <|ai @Yb.eq_4 <|ai @Yb.eq_5 <|ai @ň.eq_1 <|ai @ň.eq_2 <|ai @fSl.eq_1 <|ai @fSl.eq_2 <|ai @ZH.eq_1 <|ai @ZH.eq_2 <|ai @ZH.eq_3 <|ai @ZH.eq_4 <|ai @ĝ.eq_1 <|ai @ĝ.eq_2 <|ai @Ĵ.eq_1 <|ai @Ĵ.eq_2 <|ai @Ĵ.eq_3 <|ai @ĳ.eq_1 <|ai @ĳ.eq_2 <|ai @Ϙ.eq_1 <|ai @Ϙ.eq_2 <|ai @Ϙ.eq_3 <|ai @ϙ.eq_1 <|ai @ϙ.eq_2 <|ai @YB.eq_1 <|ai @YB.eq_2 <|ai @YB.eq_3 <|ai @YB.eq_4 <|ai @Zv.eq_1 <|ai @Zv.eq_2 <|ai @Zv.eq_3 <|ai @ZY.eq_1 <|ai @ZY.eq_2 <|ai @ZY.eq_3 <|ai @toV.eq_1 <|ai @toV.eq_2 <|ai @toV.eq_3 <|ai @toV.eq_4 <|ai @toV.eq_5 <|ai @toVs.eq_1 <|ai @toVs.eq_2 <|ai @X9.eq_1 <|ai @Zs.eq_1 <|ai @Zs.eq_2 <|ai @Yj.eq_1 <|ai @Yj.eq_2 <|ai @Zr.eq_1 <|ai @Zr.eq_2 <|@ÀD.eq_1
section
variable{P:aK}{w:aT}{K:aa}{mg:Str->Option ae}{base h:bc}{x q:Str}{st:bK}{f C:ag}{fd:cg}{ps:List Str}{sp:Sp}{k:Nat}{oc kV dc pm cd ct:ae}{od an:Option ag}{sl:Array (Option ae)}
def Bd(x q:Str)(st:bK)(ps:List Str):Prop:=∀(kV dc pm:ae)(an:Option ag)(cd ct:ae)(us:List ae),us.length=ps.length->gg (bY x q (oT st) (ou st) (mC st) .none kV dc pm an cd ct) ⟨us,[]⟩=pure (ps.zip us)
def vg:∀{us:List ae},us.length=n+1->∃v r,us=v::r/\r.length=n
 |v::r,h=>⟨v,r,rfl,jX h⟩
def bd0(e:ps.length=0:=by rfl)(h:∀kV dc pm an cd ct,gg (bY x q (oT st) (ou st) (mC st) .none kV dc pm an cd ct) ⟨[],[]⟩=pure (ps.zip []):=by intros;rfl):Bd x q st ps:=λ_ _ _ _ _ _ us hl=>by have l0:=hl.trans e;cases List.eq_nil_of_length_eq_zero l0;exact h _ _ _ _ _ _
def bd1(e:ps.length=1:=by rfl)(h:∀kV dc pm an cd ct (v0:ae),gg (bY x q (oT st) (ou st) (mC st) .none kV dc pm an cd ct) ⟨[v0],[]⟩=pure (ps.zip [v0]):=by intros;rfl):Bd x q st ps:=λ_ _ _ _ _ _ us hl=>by
 have l0:=hl.trans e;obtain⟨_,us,rfl,l1⟩:=vg l0
 grind
def bd2(e:ps.length=2:=by rfl)(h:∀kV dc pm an cd ct (v0 v1:ae),gg (bY x q (oT st) (ou st) (mC st) .none kV dc pm an cd ct) ⟨[v0,v1],[]⟩=pure (ps.zip [v0,v1]):=by intros;rfl):Bd x q st ps:=λ_ _ _ _ _ _ us hl=>by
 have l0:=hl.trans e;obtain⟨_,us,rfl,l1⟩:=vg l0;obtain⟨_,us,rfl,l2⟩:=vg l1
 grind
def bd3(e:ps.length=3:=by rfl)(h:∀kV dc pm an cd ct (v0 v1 v2:ae),gg (bY x q (oT st) (ou st) (mC st) .none kV dc pm an cd ct) ⟨[v0,v1,v2],[]⟩=pure (ps.zip [v0,v1,v2]):=by intros;rfl):Bd x q st ps:=λ_ _ _ _ _ _ us hl=>by
 have l0:=hl.trans e;obtain⟨_,us,rfl,l1⟩:=vg l0;obtain⟨_,us,rfl,l2⟩:=vg l1;obtain⟨_,us,rfl,l3⟩:=vg l2
 grind
def bd4(e:ps.length=4:=by rfl)(h:∀kV dc pm an cd ct (v0 v1 v2 v3:ae),gg (bY x q (oT st) (ou st) (mC st) .none kV dc pm an cd ct) ⟨[v0,v1,v2,v3],[]⟩=pure (ps.zip [v0,v1,v2,v3]):=by intros;rfl):Bd x q st ps:=λ_ _ _ _ _ _ us hl=>by
 have l0:=hl.trans e;obtain⟨_,us,rfl,l1⟩:=vg l0;obtain⟨_,us,rfl,l2⟩:=vg l1;obtain⟨_,us,rfl,l3⟩:=vg l2;obtain⟨_,us,rfl,l4⟩:=vg l3
 grind
def bd5(e:ps.length=5:=by rfl)(h:∀kV dc pm an cd ct (v0 v1 v2 v3 v4:ae),gg (bY x q (oT st) (ou st) (mC st) .none kV dc pm an cd ct) ⟨[v0,v1,v2,v3,v4],[]⟩=pure (ps.zip [v0,v1,v2,v3,v4]):=by intros;rfl):Bd x q st ps:=λ_ _ _ _ _ _ us hl=>by
 have l0:=hl.trans e;obtain⟨_,us,rfl,l1⟩:=vg l0;obtain⟨_,us,rfl,l2⟩:=vg l1;obtain⟨_,us,rfl,l3⟩:=vg l2;obtain⟨_,us,rfl,l4⟩:=vg l3;obtain⟨_,us,rfl,l5⟩:=vg l4
 grind
def bd6(e:ps.length=6:=by rfl)(h:∀kV dc pm an cd ct (v0 v1 v2 v3 v4 v5:ae),gg (bY x q (oT st) (ou st) (mC st) .none kV dc pm an cd ct) ⟨[v0,v1,v2,v3,v4,v5],[]⟩=pure (ps.zip [v0,v1,v2,v3,v4,v5]):=by intros;rfl):Bd x q st ps:=λ_ _ _ _ _ _ us hl=>by
 have l0:=hl.trans e;obtain⟨_,us,rfl,l1⟩:=vg l0;obtain⟨_,us,rfl,l2⟩:=vg l1;obtain⟨_,us,rfl,l3⟩:=vg l2;obtain⟨_,us,rfl,l4⟩:=vg l3;obtain⟨_,us,rfl,l5⟩:=vg l4;obtain⟨_,us,rfl,l6⟩:=vg l5
 grind
structure Gx(K:aa)(x:Str):Prop where
 ex:∃X,bJ K aV x=Za (Za (.ref X))/\Exc K X
def gx(n:bJ K aV x=Za (Za (.ref X)))(a:fF K X ų "ValueError.__new__"=true)(b:aI K (.ref X) "__getattribute__"=Za (Za (.builtin "BaseException.__getattribute__")))(c:aI K (.ref X) "__getattr__"=Za Zb)(d:aI K (.ref X) "__class__"=Za (Za (.builtin "object.__class__")))(e:cM K (.builtin "object.__class__") "__get__"=Za (Za (.builtin "getset_descriptor.__get__")))(f:fN K (.builtin "object.__class__")=Za true)(g:bS K X (.type "object")=Za true)(h:bS K X (.type "BaseException")=Za true):Gx K x:=⟨X,n,⟨ÁH a,b,c,d,e,f,g,h⟩,a⟩
structure Gb(K:aa)(C:ag):Prop where
 n:bJ K aV "Book"=Za (Za (.ref C))
 p:ee K C cq=true
 h:cG K C=true
 o:gu K C=true
 s:aI K (.ref C) "__setattr__"=Za (Za (.builtin "object.__setattr__"))
 m:fO K C=true
 k:bV K (.ref C)=true
 a:aI K (.ref C) "people"=Za Zb
 b:aI K (.ref C) "things_of"=Za Zb
 c:aI K (.ref C) "mark_of"=Za Zb
 d:aI K (.ref C) "loss_of"=Za Zb
 e:aI K (.ref C) "held_of"=Za Zb
structure Gt(K:aa)(x:Str)(u v:Int):Prop where
 ex:∃(f:ag)(od:Option ag)(a b:Tok)(n:Nat)(sl:Array (Option ae)),bJ K aV x=Za (Za (.ref f))/\K.lookup f=Za ⟨.type "tuple",od,.seq #[.int u a,.int v b] n,sl⟩
def gt(h:bJ K aV x=Za (Za (.ref f)))(l:K.lookup f=Za ⟨.type "tuple",od,.seq #[.int u a,.int v b] n,sl⟩):Gt K x u v:=⟨f,od,a,b,n,sl,h,l⟩
structure Gi(K:aa)(x:Str)(u:Int):Prop where
 ex:∃t,bJ K aV x=Za (Za (.int u t))
def gi(h:bJ K aV x=Za (Za (.int u t))):Gi K x u:=⟨t,h⟩
structure Gz(K:aa)(x:Str):Prop where
 z:bJ K aV x=Za Zb
def Gz.at_(c:Gz K x)(X:K.In h)(G:h.Ns aV mg):mg x=none:=PySem.W.mg_none_of X G c.z
structure Gf(K:aa)(x:Str)(st:bK):Prop where
 ex:∃f fd,bJ K aV x=Za (Za (.ref f))/\Z' K x x st f fd
structure Gm(K:aa)(C:ag)(x q:Str)(st:bK):Prop where
 ex:∃f fd,aI K (.ref C) x=Za (Za (.ref f))/\gL K (.ref f)=true/\Z' K x q st f fd
def gf(h:bJ K aV x=Za (Za (.ref f)))(l:K.lookup f=Za ⟨oc,od,.func (bY x x (oT st) (ou st) (mC st) .none kV dc pm an cd ct),sl⟩)(c:f6 K cd x=true)(k:bV K (.ref f)=true):Gf K x st:=⟨f,_,h,LD l c k⟩
def gm(h:aI K (.ref C) x=Za (Za (.ref f)))(i:gL K (.ref f)=true)(l:K.lookup f=Za ⟨oc,od,.func (bY x q (oT st) (ou st) (mC st) .none kV dc pm an cd ct),sl⟩)(c:f6 K cd q=true)(k:bV K (.ref f)=true):Gm K C x q st:=⟨f,_,h,i,LD l c k⟩
def Gf.fn(X:K.In h)(G:h.Ns aV mg)(c:Gf K x st)(o:∀{f:ag}{fd:cg},Z' K x x st f fd->Yt P w K mg base (YW P w) k f fd ps sp)(b:Bd x x st ps:=by first|exact bd1|exact bd2|exact bd3|exact bd4|exact bd5|exact bd6|exact bd0):Fn P w K mg base x k ps sp :=
 let⟨f,fd,n,U⟩:=c.ex;⟨f,fd,o U,jM X G n,U.kp,U.binds b⟩
def Gm.mt(cl:Ŕ K C)(c:Gm K C x q st)(o:∀{f:ag}{fd:cg},Z' K x q st f fd->Yt P w K mg base (YW P w) k f fd ps sp)(b:Bd x q st ps:=by first|exact bd1|exact bd2|exact bd3|exact bd4|exact bd5|exact bd6|exact bd0):Mt P w K mg base C x k ps sp :=
 let⟨f,fd,n,i,U⟩:=c.ex;⟨f,fd,o U,⟨n,i,U.kp⟩,cl,U.binds b⟩
def Gm.bk(c:Gm K C "__init__" q st)(X:K.In h)(G:h.Ns aV mg)(g:Gb K C)(o:∀{f:ag}{fd:cg},Z' K "__init__" q st f fd->Yt P w K mg base (YW P w) k f fd ["self"] sp)(b:Bd "__init__" q st ["self"]:=by exact bd1):MkB P w K mg base "Book" C k ["self"] sp :=
 let⟨f,fd,n,i,U⟩:=c.ex;⟨f,fd,o U,jM X G g.n,⟨g.m,n,i,g.k⟩,U.binds b⟩
end
section
variable{X:Cx}{CB:ag}{E:XK}{a b:a7}{f g:XE}{pos Rc Rb:Pos}
def Nk:Zq X (dE .Mult) (rI jN λi j=>.int (i*j)):=opI λ_ _ _ _ _ _ _ hc q=>mul_int q hc
open Classical in
def F6(v w:PV)(s:N'):Out PV:=match v,w with
 |.int i,.int j=>if jN i j then .ok (.int (i*j)) s else .bad
 |_,_=>.bad
def Qb:Ł X.K CB E (rI jN λi j=>V.int (i*j)) F6:=by
 intro H m s v w x y Q S rx ry P;unfold F6 at P;split at P
 .cases rx;cases ry;split at P
  .rename_i h;exact⟨_,_,rfl,rfl,h,P.here S .int⟩
  .exact P.elim
 .exact P.elim
def Oe(ha:DE X CB E a f)(hb:DE X CB E b g):DE X CB E (.BinOp a .Mult b pos) (x2 f g F6):=z3 Nk Qb ha hb
noncomputable def zT(v w:PV)(s:N'):Out PV:=match v,w with
 |.str x,.int n=>if n=0 then .ok (.str cq) s else if n=1 then .ok (.str x) s else .bad
 |_,_=>.bad
def Ni:Zq X (dE .Mult) (λx y H Q=>∃z n,x=.str z/\y=.int n/\((n=0/\Q (.str cq) H)\/(n=1/\Q (.str z) H))):=by
 rintro Q9 s O H x y v u Q I rx ry ⟨z,n,rfl,rfl,h⟩
 obtain⟨t,rfl⟩:=rx;obtain⟨t',rfl⟩:=ry;rcases h with⟨rfl,q⟩|⟨rfl,q⟩
 .exact PySem.P.mul_str_none (Zf rfl) (Zf rfl) ⟨.str cq,H,I.tok _,⟨_,rfl⟩,q⟩
 .refine PySem.P.mul_str (Zf rfl) (λ_ z=>absurd z (by simp)) (λ_ z=>absurd z (by simp)) ?_;exact⟨.str z,H,I,⟨_,rfl⟩,q⟩
def Qa:Ł X.K CB E (λx y H Q=>∃z n,x=.str z/\y=.int n/\((n=0/\Q (.str cq) H)\/(n=1/\Q (.str z) H))) zT:=by
 intro H m s v w x y Q S rx ry P;unfold zT at P;split at P
 .cases rx;cases ry;split at P
  .rename_i h;exact⟨_,_,rfl,rfl,.inl ⟨h,P.here S .str⟩⟩
  .split at P
   .rename_i h;exact⟨_,_,rfl,rfl,.inr ⟨h,P.here S .str⟩⟩
   .exact P.elim
 .exact P.elim
def Ob(ha:DE X CB E a f)(hb:DE X CB E b g):DE X CB E (.BinOp a .Mult b pos) (x2 f g zT):=z3 Ni Qa ha hb
noncomputable def D6(l:List (Key×PV))(k:Key):List (Key×PV):=l.filter λkv=>decide (kv.1≠k)
theorem Ya.drop{K:aa}{H:Hp}{m:Mp}{s:N'}{k:Key}:∀{vs:List (Key×V)}{l:List (Key×PV)},Ya K H m s vs l->Ya K H m s (yD vs k) (D6 l k)
 |_,_,.nil=>.nil
 |_,_,.cons (k:=k') r rs=>by
  unfold yD D6;rw[gR,gR];by_cases h:k'=k
  .rw[Zd (by simp[h]),Zd (by simp[h])];exact rs.drop
  .rw[Zc (by simp[h]),Zc (by simp[h])];exact .cons r rs.drop
def Ft(f g:XE)(Z:En)(s:N'):Out PV:=(f Z s).bind λv s1=>match v with
 |.ref n=>match s1.get n with
  |some (.Yl _)=>(g Z s1).bind λw s2=>match s2.get n with
   |some (.Yl l)=>match ZY w with
    |some k=>match qM l k with
     |some p=>.ok p (s2.set n (.Yl (D6 l k)))
     |none=>.bad
    |none=>.bad
   |_=>.bad
  |_=>.bad
 |_=>.bad
def Oh(ho:DE X CB E a f)(he:DE X CB E b g)(mm:M1 X a "pop" Rc b Rb:=by exact⟨rfl,rfl,rfl,rfl⟩):DE X CB E (.Call (.Attribute a "pop" Rc) [b] [] Rb) (Ft f g) :=
 ⟨(EZ ho.pe he.pe mm).mono λO H Q=>oE λZ s m er S P=>⟨Z,s,m,er,S,P.bind λv s1 u H1 m1 e1 S1 r1 P1=>by
  split at P1
  .split at P1
   .rename_i n _ l0 hg;obtain⟨_,S7,h0,r0⟩:=S1.get hg;cases r1 with
    |ref hn =>
    refine⟨_,rfl,.inl ⟨S7,.inl h0⟩,Z,s1,m1,er.ext e1,S1,P1.bind λw s2 u2 H2 m2 e2 S2 r2 P2=>?_⟩;split at P2
    .rename_i l SK;split at P2
     .rename_i k hk;split at P2
      .rename_i p hv;obtain⟨_,vs,h1,r⟩:=S2.get SK;obtain⟨u,eu,ru⟩:=(r.val k).1 p hv;obtain⟨S3,e3⟩:=S2.putD SK (r.drop);rw[<-e2.ad _ hn];exact⟨vs,k,u,h1,qK r2 hk,eu,P2 _ _ _ e3 S3 (ru.ext e3)⟩
      .exact P2.elim
     .exact P2.elim
    .exact P2.elim
   .exact P1.elim
  .exact P1.elim⟩⟩
def Ite(K:aa)(a:ag):It :=
 ⟨λi H=>∃xs x,YO K H a xs/\xs[i]?=Za x,λi H x H'=>∃p,H p=Zb/\x=.ref p/\∀xs,YO K H a xs->∃y,xs[i]?=Za y/\H'=upd H p (.tup [.int i,y]),λi H=>∃xs,YO K H a xs/\xs.length<=i⟩
def Inv.ϳ(I:Inv X Q9 O H s)(k:∀b o,b≠e->b≠it->s.heap.get? b=Za o->h'.get? b=Za o)(fe:Aj X Q9 H e)(fi:Aj X Q9 H it)(hn:s.heap.objs.size<=n)(new:YE X.prog X.w (upd H n (.tup xs)) h' n (.tup xs)):Inv X Q9 O (upd H n (.tup xs)) { s with heap:=h',toks:=t' }:=by
 have nH:=I.Ye.fresh hn;have nn:∀b u,H b=Za u->b≠n:=λb u q z=>by rw[z,nH] at q;grind
 have WT:∀b u,H b=Za u->b≠e/\b≠it:=λb u q=>⟨λz=>(by rw[z,fe.1] at q;grind),λz=>(by rw[z,fi.1] at q;grind)⟩;have k':∀b o,b∉[e,it]->s.heap.get? b=Za o->h'.get? b=Za o:=λb o hc q=>k b o (λz=>hc (by simp[z])) (λz=>hc (by simp[z])) q;refine I.step (λb hb=>?_) (λb o _ _ hc e _=>k' b o hc e) (λb o _ _ hc e _=>⟨o.slots,k' b o hc e⟩) (λb o _ q z=>?_)
  (λb o hc e=>⟨o,k' b o hc e⟩) (λb _ q=>?_) (λb _ _ q=>?_) (λb ps q=>⟨#[],?_⟩) (λm hm=>?_) (λb u q=>?_) I.bare
 .obtain z|z:=ao.mp hb
  .subst z;exact⟨fe.2.2.2.1,fe.2.1,fe.2.2.2.2.1,fe.2.2.2.2.2⟩
  .have z:=ax.mp z;subst z;exact⟨fi.2.2.2.1,fi.2.1,fi.2.2.2.2.1,fi.2.2.2.2.2⟩
 .rw[mq (ay (az (aw q) hn))];exact z
 .rw[mq (nn b _ q)];exact q
 .rw[mq (nn b _ q)];exact q
 .rw[mq (nn b _ q),q];simp
 .obtain⟨o,es,ep,ho,r⟩:=hm;exact⟨o,es,ep,k _ o (bU fe.2.1) (bU fi.2.1) ho,r⟩
 .by_cases hb:b=n
  .subst hb;rw[mw] at q;grind
  .rw[mq hb] at q;refine(I.Ye b u q).Ð (λc v hc w=>?_) (λc w=>by rw[mq (nn c _ w)];exact w) λc xs w=>by rw[mq (nn c _ w)];exact w
   grind
def HS{P:aK}{w:aT}{K:aa}{es:List a7}{x1:_}{px:Pos}(a e it:ag)(RB:e≠it):Turn P w K (.Tuple es x1 px) (Ite K a) [e,it] e (λi h=>(∃old,IsEnum h e it i old)/\h.IsListIter it a i) where
 mem:=by simp
 obj:=λi h st b hb=>by
  obtain⟨⟨old,he⟩,o,e1,c,d⟩:=st
  grind
 keep:=λi h h' st k=>⟨let⟨old,he⟩:=st.1;⟨old,k e (by simp) _ he⟩,st.2.at λo e=>k it (by simp) o e⟩
 item:=by
  intro X hP hw hK hc i Q9 s O H E I hf st hg;subst hP hw hK;obtain⟨xs,x,hq,hx⟩:=hg;obtain⟨its,rv,p,hz⟩:=I.list hq;obtain⟨u,hu,ru⟩:=rv.get hx;obtain⟨⟨old,he⟩,st⟩:=st;refine wpAny_pyNext_enum_item he st p.isList (by simpa using hu) RB λh' eo SA ht hs kp=>⟨_,rfl,?_⟩;refine wpAny_letOwnedTupleGo_enum eo λh2 e2 sb=>?_;have hel:=aw he;have Vj:=(sb.2 _ (fB hel)).trans ht;have W2:=λb o b1 b2 q=>(sb.2 b b1).trans (kp b o b1 b2 q);have I1:Inv X Q9 O (upd H s.heap.objs.size (.tup [.int i,x])) { s with heap:=h2,toks:=s.toks+1 } :=
   I.ϳ W2 (hf e (by simp)) (hf it (by simp)) (ak _) ⟨(show 2<=aG by decide),[.int i s.toks,u],.cons ⟨_,rfl⟩ (.cons ru .nil),_,Vj,rfl,0,rfl⟩
  refine⟨.ref s.heap.objs.size,_,I1,rfl,⟨_,I.fresh,rfl,λys hy=>⟨x,by rw[I.Ý hy hq];exact hx,rfl⟩⟩,⟨⟨u,by simpa using e2⟩,SA.at λo q=>(sb.2 it (bU RB)).trans q⟩,λb hb=>?_⟩;have Rr:b≠s.heap.objs.size:=by
   obtain z|z:=ao.mp hb
   .rw[z];exact ay hel
   .rw[ax.mp z];obtain⟨o,q,_⟩:=st;exact ay (aw q)
  rw[mq Rr];exact(hf b hb).1
 done:=by intro X hP hw hK hc i Q9 s O H E I hf st hg;subst hP hw hK;obtain⟨xs,hq,hx⟩:=hg;obtain⟨its,rv,p,hz⟩:=I.list hq;obtain⟨f0,f1,f2,f3,f4,f5⟩:=hf it (by simp);obtain⟨⟨old,he⟩,st⟩:=st;have hl:=rv.length;exact wpAny_pyNext_enum_end (I.ok.hd hc) he st p.isList (by simp;lia) λh' eb=>⟨rfl,I.turned (λb o hb e=>eb b o hb e) f0 f1 f3 f4 f5⟩
 self:=λ_ _ _ _ _ st h=>let⟨_,he⟩:=st.1;wpAny_pyIter_enum he h
noncomputable def sJ(k:Nat):List PV->List PV
 |[]=>[]
 |p::r=>.tup [.int k,p]::sJ (k+1) r
theorem xV:∀(l:List PV)(k i:Nat),(sJ k l)[i]?=(l[i]?).map λp=>PV.tup [.int (k+i:Nat),p]
 |[],_,_=>rfl
 |p::r,k,0=>rfl
 |p::r,k,i+1=>by have:=xV r (k+1) i;rw[show k+1+i=k+(i+1) by lia] at this;exact this
theorem sN:∀(l:List PV)(k:Nat),(sJ k l).length=l.length
 |[],_=>rfl
 |p::r,k=>congrArg (·+1) (sN r (k+1))
def wI(fa:XA)(Z:En)(s:N'):Out (List PV):=(fa Z s).bind λvs s1=>match vs with
 |[.lst l]=>.ok (sJ 0 l) s1
 |_=>.bad
def Dj:bu "enumerate"=Za (.type "enumerate"):=by decide +kernel
def Áw(K:aa)(ta:TA):TI:=λO H R=>ta O H λxs H1=>∃a ys,xs=[.ref a]/\YO K H1 a ys/\R (Ite K a) H1
def M7{es:List a7}{x1:_}{px p:Pos}{ta:TA}(hg:Gl X "enumerate")(hm:X.mg "enumerate"=Zb)(ha:PA X [a] ta)(hs:ar [a] X.env=[(false,eval a X.env)]:=by rfl):PI X (.Tuple es x1 px) (.Call (.Name "enumerate" p) [a] [] pos) (Áw X.K ta):=by
 refine λQ9 s O H R I h=>Call_ (yM I hg hm Dj (dH (Yq (ha pos Q9 s O H _ I h) λus s1=>e4 λvs H1 I1 r1 q1=>?_) hs rfl));obtain⟨b,ys,rfl,hq,q⟩:=q1;cases r1 with
 |cons r rr =>
  cases rr;cases r;obtain⟨its,rv,pl,hz⟩:=I1.list hq;refine call_enumerate_list pl.isList λh' he hi hsz kp=>?_;refine wpAny_pyIter_enum he ⟨s1.heap.objs.size+1,[s1.heap.objs.size+1,s1.heap.objs.size],_,_,H1,rfl,I1.kept kp,HS b (s1.heap.objs.size+1) s1.heap.objs.size (Nat.succ_ne_self _),⟨⟨_,he⟩,hi⟩,λc hc=>?_,q⟩;have TF:s1.heap.objs.size<=c:=by
   grind
  exact I1.Ĳ TF (I1.Ye.fresh TF)
def Ás{K:aa}{H0:Hp}{m0:Mp}{s0:N'}{b:ag}{l:List PV}(r:Rep K H0 m0 s0 (.ref b) (.lst l)):ql K CB (Ite K b) (sJ 0 l) H0 m0 s0:=by
 intro i H m s ex S;obtain⟨b',vs,⟨⟩,hq,rs⟩:=(r.Yk ex.toExtR).ls S (rfl);refine⟨λq' R6=>?_,λhi=>⟨vs,hq,by rw[rs.length,<-sN l 0];exact hi⟩⟩;rw[xV] at R6;cases cl:l[i]? with
 |none=>rw[cl] at R6;cases R6
 |some q0 =>
  rw[cl] at R6;cases R6;obtain⟨u,hu,ru⟩:=rs.get cl;refine⟨⟨vs,u,hq,hu⟩,λx H' ⟨p,hp,e1,e2⟩=>?_⟩;obtain⟨y,hy,e3⟩:=e2 vs hq;subst e1 e3;rw[hu] at hy;cases hy;have k:=My.sS (o:=.tup [.int i,u]) hp;have S':=S.same k;exact⟨.same k,S',.tup (.inl ⟨.inl mw,S'.YZ mw⟩) (by rw[fA];exact .cons .int (.cons (ru.ext (.same k)) .nil))⟩
def Dy{es:List a7}{x1:_}{px p:Pos}{fa:XA}(ha:DA X CB E [a] fa)(hg:Gl X "enumerate":=by rfl)(hm:X.mg "enumerate"=none:=by assumption)(hs:ar [a] X.env=[(false,eval a X.env)]:=by rfl):DI X CB E (.Tuple es x1 px) (.Call (.Name "enumerate" p) [a] [] pos) (wI fa) :=
 ⟨(M7 hg hm ha.pa hs).mono λO H R q=>Ž.Ϟ q λv s1 u H1 m1 S1 r1 P=>by
  split at P
  .rename_i l s' hF;split at hF
   .cases hF;cases r1 with
    |cons r n =>
     cases n;cases r with
     |lst h1 h2 h3=>exact⟨_,_,rfl,YO.of h1,P _ _ _ .refl S1 (Ás (.lst h1 h2 h3))⟩
   .cases hF
  .rename_i hF;split at hF<;>cases hF
  .exact P.elim⟩
def Q6(v:PV)(s:N'):Out PV:=match v with
 |.lst l=>.ok (.lst l) s
 |v=>à v s
def Fp(f:XE)(Z:En)(s:N'):Out PV:=(f Z s).bind Q6
def Og(h:DE X CB E a f):DE X CB E a (Fp f):=⟨h.pe.mono λO H Q=>oE λZ s m er S P=>⟨Z,s,m,er,S,P.bind λv s1 u H1 m1 e1 S1 r1 P1=>by
 unfold Q6 at P1;split at P1
 .exact P1.here S1 r1
 .cases c:à v s1 with
  |ok w s2 =>
   rw[c] at P1;obtain⟨S2,e2,r2⟩:=S1.YQ r1 c;exact P1 u H1 m1 e2 S2 r2
  |ex c' s' =>
   unfold à at c
   repeat' split at c
   all_goals cases c
  |bad=>rw[c] at P1;exact P1.elim⟩⟩
end
end L2
namespace Att
open PySem PySem.W PySem.Calls PyProof.Rows
def Ō(ns:List Int):Prop:=∀n∈ns,cA n<=1048576
theorem K4:∀{ns:List Int},gY (ns.map iA)<=2^20->Ō ns
 |[],_,_,h=>nomatch h
 |m::r,h,n,hn=>by
  have e:gY ((m::r).map iA)=cA m+1+gY (r.map iA):=rfl;rw[e] at h;obtain z|z:=ao.mp hn
  .rw[z];lia
  .exact K4 (show gY (r.map iA)<=2^20 by lia) n z
def Ĺ{l:gJ}{n:Nat}{q:aK}{R8:List Str}{XP:(Str->Option ae)->bc->Prop}{YP:aT->bc->Prop}{d:DefRec}(hn:l.most=Za n)(VC:d.params.defaults=[])(call:∀(w:aT)(Y0 Rp:au)(mg mb:Str->Option ae)(fa:ag)(o:Obj)(pm cd Si:ae)(a:ag)(vs:List ae)(ns:List Int),
   Ground q R8 [] XP w Y0 mg mb Rp.heap->YP w Rp.heap ->
   Rp.heap.get? fa=Za o->o.data=.func (docDef d.name d.params d.body d.scope pm cd Si)->Rp.heap.CodeRec cd d.name->mg d.name=Za (.ref fa) ->
   Rp.heap.get? a=Za { cls:=.type "list",data:=.seq vs.toArray }->IntsAre vs ns->ns.length<=n->Ō ns->Rp.gens=#[] ->
   eP (model l.prog w) jK (.call (.ref fa) ⟨[.ref a],[]⟩) (λr s'=>r=.ok (.ret (.bool true))/\OldK Rp.heap s'.heap/\s'.os=Rp.os/\gZ s'.gens) Rp) :
  lH q R8 XP YP l.row.toRowW d [] (λf vs=>lE f vs):=by
 intro w Y0 Rp mg mb G Y fa o pm cd Si dV kV ho hd R5 hD Vn hg args T8 as Tx Xk hrd W6 hlo;obtain rfl:dV=.none:=Dflts.none hD VC;obtain rfl:kV=.none:=Dflts.noKw hD;obtain⟨a,vs,ns,rfl,rfl,Ul,Ti,Re⟩:=Ia hn Tx W6;have hw:Ō ns:=by have h1:=(dG.mp Xk) _ al;simp[WData.layable,cJ,decide_eq_true_eq] at h1;exact K4 h1.2
 refine enter_call (fM (call w Y0 Rp mg mb fa o pm cd Si a vs ns G Y ho (fd_plain hd) R5 Vn Ul Ti Re hw hg) λr s' hq=>?_);obtain⟨rfl,h2,h3,h4⟩:=hq;exact⟨.inl ⟨.bool true,.bool true,[],rfl,λ_=>rfl,.bool true,Ij l _,λ_=>⟨List.Pairwise.nil,λ_ hm=>(nomatch hm)⟩⟩,h2,h3,h4⟩
end Att
namespace L2
open PySem PySem.Spec PyProof.Rows
def ϑ{l:gJ}{n k:Nat}{q:aK}{R8:List Str}{XP:(Str->Option ae)->bc->Prop}{YP:aT->bc->Prop}{d:DefRec}{K:Params->aa}{CX:aT->Ũ}{sp:aT->Sp}{x:Str}(hn:l.most=Za n)(We:n<=aG)(VC:d.params.defaults=[])(hr:Yp k jK)(hY:∀(w:aT)(h:bc),YP w h->(K w.params).In h)(F:∀(w:aT)(mg:Str->Option ae)(fa:ag)(h:bc),(K w.params).In h->h.Ns aV mg->mg d.name=Za (.ref fa) ->
   ∃fd:cg,(∀(s:au)(u:ae),jR s fd ⟨[u],[]⟩ [(x,u)]) /\
    ∀base:bc,(K w.params).In base->base.Ns aV mg->Yt l.prog w (K w.params) mg base (CX w) k fa fd [x] (sp w))(Tp:∀(w:aT)(H:Hp)(a:ag)(ns:List Int),ns.length<=n->Att.Ō ns->OA H->YO (K w.params) H a (ns.map V.int)->sp w [.ref a] H (λv _=>v=.bl true) λ_ _ _=>False)(XQ:∀(w:aT)(H:Hp)(s:au)(e:ae)(s':au),CX w [] H s (λ_ _ _=>False) e s'->False) :
  lH q R8 XP YP l.row.toRowW d [] (λf vs=>lE f vs):=by
 refine Att.Ĺ hn VC λw Y0 Rp mg mb fa o pm cd Si a vs ns G Y ho hd R5 Vn Ul Ti Re hw hg=>?_;have KX:=hY w _ Y;obtain⟨fd,hb,hF⟩:=F w mg fa _ KX G.T.g Vn;exact Km KX G.T.g G.T.b G.T.builtins G.T.nolimit hg Ul Ti (aJ Re We) hr hF hb (λH hO hS=>Tp w H a ns Re hw hO hS) λH e s'=>XQ w H Rp e s'
def Qh(hi:cA i<=33554432)(hj:cA j<=33554432):jN i j:=by intro h;simp only[cJ,Builtin.Int.intTooBig] at h;have:=h.2;unfold bitsLine at this;lia
section
variable{X:Cx}{CB:ag}{E:XK}{a b c e:a7}{f h:XE}{fa:XA}{pos:Pos}
noncomputable def uf:List PV->Option (List Int)
 |[]=>Za []
 |.int i::l=>(uf l).map (i::·)
 |_=>Zb
theorem vZ:∀l:List Int,uf (l.map PV.int)=Za l
 |[]=>rfl
 |x::r=>by rw[am];unfold uf;rw[vZ r];rfl
def yh{K:aa}{H:Hp}{m:Mp}{s:N'}:∀{l:List PV}{vs:List V}{is:List Int},X7 K H m s vs l->uf l=Za is->vs=is.map V.int
  :=by
 intro l;induction l with
 |nil =>
  intro _ is r h;cases r;cases h;rfl
 |cons p l ih =>
  intro _ is r h;cases r with
  |cons r rs =>
   cases p with
   |int i =>
    have h:(uf l).map (i::·)=Za is:=h;cases c:uf l with
    |none=>grind
    |some js =>
     rw[c] at h;cases h;cases r;rw[ih rs c];rfl
   |_=>cases h
def KU(hc:X.calm=true):YM X (.builtin "sum") (λxs H Q=>∃(p:ag)(is:List Int),xs=[.ref p]/\YO X.K H p (is.map V.int)/\Q (.int is.sum) H):=by
 intro Q9 s O H xs us Q I r h;obtain⟨p,is,rfl,hq,q⟩:=h;obtain⟨u,rfl,ru⟩:=re r;cases ru;obtain⟨its,rv,pl,UO⟩:=I.list hq;have UF:∀{is:List Int}{its:List ae},Vals (is.map V.int) its->∃ys:List (Int×Tok),its=ys.map (λy=>jh y.1 y.2)/\ys.map (·.1)=is:=by
  intro is;induction is with
  |nil=>intro its rv;cases rv;exact⟨[],rfl,rfl⟩
  |cons i is ih =>
   intro its rv;cases rv with
   |cons r rs =>
    obtain⟨t,rfl⟩:=r;obtain⟨ys,rfl,rfl⟩:=ih rs;exact⟨(i,t)::ys,rfl,rfl⟩
 obtain⟨ys,rfl,rfl⟩:=UF rv;have hl:s.heap.IsList p (intItems ys.toArray):=by
  have:=pl.isList;have e:intItems ys.toArray=(ys.map (λy=>jh y.1 y.2)).toArray:=by simp[intItems]
  rw[e];exact this
 refine sum_intListG (I.ok.hd hc) hl λh' tk t' hk=>?_;have e:preSum (numAt ys.toArray) ys.toArray.size=(ys.map (·.1)).sum:=by rw[preSum_eq,g5 (by simp)]
 rw[e];exact⟨.int _,H,I.kept hk,⟨_,rfl⟩,q⟩
def OY(vs:List PV)(s:N'):Out PV:=match vs with
 |[v]=>match YB s v with
  |some l=>match uf l with
   |some is=>.ok (.int is.sum) s
   |none=>.bad
  |none=>.bad
 |_=>.bad
def ÁR(hc:X.calm=true):Đ X CB E (.builtin "sum") OY:=⟨_,KU hc,by
 intro H m s v x Q S rx P;unfold OY at P;split at P
 .cases rx with
  |cons r n =>
   cases n;split at P
   .rename_i l hl;split at P
    .rename_i is hb;obtain⟨a,vs,rfl,q,r⟩:=r.ls S hl;have e:=yh r hb;subst e;exact⟨a,is,rfl,q,P.here S .int⟩
    .exact P.elim
   .exact P.elim
 .exact P.elim⟩
def LV:bu "sum"=Za (.builtin "sum"):=by decide +kernel
def Itz(K:aa)(a b:ag):It :=
 ⟨λi H=>∃xs ys x y,YO K H a xs/\YO K H b ys/\xs[i]?=Za x/\ys[i]?=Za y,λi H x H'=>∃p,H p=Zb/\x=.ref p/\∀xs ys,YO K H a xs->YO K H b ys->∃u v,xs[i]?=Za u/\ys[i]?=Za v/\H'=upd H p (.tup [u,v]),λi H=>∃xs ys,YO K H a xs/\YO K H b ys/\(xs.length<=i\/ys.length<=i)⟩
def Inv.ϱ{Q9:List (ag×Obj)}{O:St}{H:Hp}{s:au}{h':bc}{t':Nat}{ch:List ag}{n:ag}{xs:List V}(I:Inv X Q9 O H s)(k:∀b o,b∉ch->s.heap.get? b=Za o->h'.get? b=Za o)(fe:∀b∈ch,Aj X Q9 H b)(hn:s.heap.objs.size<=n)(new:YE X.prog X.w (upd H n (.tup xs)) h' n (.tup xs)):Inv X Q9 O (upd H n (.tup xs)) { s with heap:=h',toks:=t' }:=by
 have nH:=I.Ye.fresh hn;have nn:∀b u,H b=Za u->b≠n:=λb u q z=>by grind
 have WT:∀b u,H b=Za u->b∉ch:=λb u q z=>by rw[(fe b z).1] at q;grind
 refine I.step (λb hb=>⟨(fe b hb).2.2.2.1,(fe b hb).2.1,(fe b hb).2.2.2.2.1,(fe b hb).2.2.2.2.2⟩) (λb o _ _ hc e _=>k b o hc e) (λb o _ _ hc e _=>⟨o.slots,k b o hc e⟩) (λb o _ q z=>?_)
  (λb o hc e=>⟨o,k b o hc e⟩) (λb _ q=>?_) (λb _ _ q=>?_) (λb ps q=>⟨#[],?_⟩) (λm hm=>?_) (λb u q=>?_) I.bare
 .rw[mq (ay (az (aw q) hn))];exact z
 .rw[mq (nn b _ q)];exact q
 .rw[mq (nn b _ q)];exact q
 .rw[mq (nn b _ q),q];simp
 .obtain⟨o,es,ep,ho,r⟩:=hm;exact⟨o,es,ep,k _ o (λz=>(fe _ z).2.1 rfl) ho,r⟩
 .by_cases hb:b=n
  .subst hb;rw[mw] at q;grind
  .rw[mq hb] at q;refine(I.Ye b u q).Ð (λc v hc w=>?_) (λc w=>by rw[mq (nn c _ w)];exact w) λc xs w=>by rw[mq (nn c _ w)];exact w
   grind
def Inv.ϲ{Q9:List (ag×Obj)}{O:St}{H:Hp}{s:au}{h':bc}{t':Nat}{ch:List ag}(I:Inv X Q9 O H s)(k:∀b o,b∉ch->s.heap.get? b=Za o->h'.get? b=Za o)(fe:∀b∈ch,Aj X Q9 H b):Inv X Q9 O H { s with heap:=h',toks:=t' }:=by
 have WT:∀b u,H b=Za u->b∉ch:=λb u q z=>by rw[(fe b z).1] at q;grind
 refine I.step (λb hb=>⟨(fe b hb).2.2.2.1,(fe b hb).2.1,(fe b hb).2.2.2.2.1,(fe b hb).2.2.2.2.2⟩) (λb o _ _ hc e _=>k b o hc e) (λb o _ _ hc e _=>⟨o.slots,k b o hc e⟩) (λb o _ q z=>z)
  (λb o hc e=>⟨o,k b o hc e⟩) (λb _ q=>q) (λb _ _ q=>q) (λb ps q=>⟨#[],by simpa using q⟩) (λm hm=>?_) (λb u q=>?_) I.bare
 .obtain⟨o,es,ep,ho,r⟩:=hm;exact⟨o,es,ep,k _ o (λz=>(fe _ z).2.1 rfl) ho,r⟩
 .refine(I.Ye b u q).Ð (λc v hc w=>?_) (λc w=>w) λc xs w=>w
  grind
def Jw{P:aK}{w:aT}{K:aa}{es:List a7}{x1:_}{px:Pos}(a b z TI TO i1 i2:ag)(D:ZipApart z TI TO i1 i2 a b):Turn P w K (.Tuple es x1 px) (Itz K a b) [z,TI,TO,i1,i2] z (λi h=>IsZip h z TI TO .none/\IsPair h TI (.ref i1) (.ref i2)/\(∃u v,IsPair h TO u v)/\h.IsListIter i1 a i/\h.IsListIter i2 b i) where
 mem:=by simp
 obj:=λi h st c hc=>by
  obtain⟨hz,TZ,⟨u,v,UB⟩,⟨o1,g1,c1,d1⟩,⟨o2,g2,c2,d2⟩⟩:=st
  grind
 keep:=λi h h' st k=>⟨k z (by simp) _ st.1,k TI (by simp) _ st.2.1,(let⟨u,v,q⟩:=st.2.2.1;⟨u,v,k TO (by simp) _ q⟩),st.2.2.2.1.at λo e=>k i1 (by simp) o e,st.2.2.2.2.at λo e=>k i2 (by simp) o e⟩
 item:=by
  intro X hP hw hK hc i Q9 s O H E I hf st hg;subst hP hw hK;obtain⟨xs,ys,x,y,UP,Sl,hx,hy⟩:=hg;obtain⟨Ve,V0,p1,hz1⟩:=I.list UP;obtain⟨Sf,UJ,p2,UO⟩:=I.list Sl;obtain⟨u1,hu1,ru1⟩:=V0.get hx;obtain⟨u2,hu2,ru2⟩:=UJ.get hy;obtain⟨hz,TZ,⟨u,v,UB⟩,st1,R4⟩:=st;refine wpAny_pyNext_zip_item D hz TZ UB st1 R4 p1.isList p2.isList (x:=u1) (y:=u2) (by simpa using hu1) (by simpa using hu2) λh' W5 XD WK WI ht hs kp=>⟨_,rfl,?_⟩;refine wpAny_letOwnedTupleGo_zip W5 λh2 hz3 sb=>?_;have hzl:z<s.heap.objs.size:=aw hz;have Vj:IsPair h2 s.heap.objs.size u1 u2:=(sb.2 _ (fB hzl)).trans ht;have W2:∀c o,c∉[z,TI,TO,i1,i2]->s.heap.get? c=Za o->h2.get? c=Za o:=λc o hc q=>by simp[ao,fJ,or_false,not_or] at hc;exact(sb.2 c hc.1).trans (kp c o hc.1 hc.2.2.1 hc.2.2.2.1 hc.2.2.2.2 q)
  have I1:Inv X Q9 O (upd H s.heap.objs.size (.tup [x,y])) { s with heap:=h2,toks:=s.toks } :=
   I.ϱ W2 hf (ak _) ⟨(show 2<=aG by decide),[u1,u2],.cons ru1 (.cons ru2 .nil),_,Vj,rfl,0,rfl⟩
  have XH:IsPair h2 TI (.ref i1) (.ref i2):=(sb.2 TI D.TIz).trans (kp TI _ D.TIz D.TITO D.TIi1 D.TIi2 TZ);refine⟨.ref s.heap.objs.size,_,I1,rfl,⟨_,I.fresh,rfl,λxs' U2 h1 h2=>⟨x,y,by rw[I.Ý h1 UP];exact hx,by rw[I.Ý h2 Sl];exact hy,rfl⟩⟩,⟨hz3,XH,⟨_,_,(sb.2 TO D.TOz).trans XD⟩,WK.at λo q=>(sb.2 i1 D.i1z).trans q,WI.at λo q=>(sb.2 i2 D.i2z).trans q⟩,λc hc=>?_⟩;have Rr:c≠s.heap.objs.size:=by
   simp[ao,fJ,or_false] at hc;obtain⟨o1,g1,_⟩:=st1;obtain⟨o2,g2,_⟩:=R4;obtain q|q|q|q|q:=hc
   .rw[q];exact ay hzl
   .rw[q];exact ay (aw TZ)
   .rw[q];exact ay (aw UB)
   .rw[q];exact ay (aw g1)
   .rw[q];exact ay (aw g2)
  rw[mq Rr];exact(hf c hc).1
 done:=by
  intro X hP hw hK hc i Q9 s O H E I hf st hg;subst hP hw hK;obtain⟨xs,ys,UP,Sl,hx⟩:=hg;obtain⟨Ve,V0,p1,hz1⟩:=I.list UP;obtain⟨Sf,UJ,p2,UO⟩:=I.list Sl;obtain⟨hz,TZ,⟨u,v,UB⟩,st1,R4⟩:=st;have TW:=V0.length;have Vq:=UJ.length;refine wpAny_pyNext_zip_end (I.ok.hd hc) D hz TZ UB st1 R4 p1.isList p2.isList (hx.imp (λz=>by simp;lia) λz=>by simp;lia) λh' eb=>⟨rfl,?_⟩;refine I.ϲ (t':=s.toks) (ch:=[z,TI,TO,i1,i2]) (λc o hc q=>?_) hf
  grind
 self:=λ_ _ _ _ _ st h=>wpAny_pyIter_zip st.1 h
noncomputable def vx:List PV->List PV->List PV
 |x::r,y::q=>.tup [x,y]::vx r q
 |_,_=>[]
theorem EC:∀(l k:List PV)(i:Nat),(vx l k)[i]?=match l[i]?,k[i]? with|some x,Za y=>Za (.tup [x,y])|_,_=>Zb
 |[],_,_=>by simp[vx]
 |_::_,[],i=>by simp[vx]
 |x::r,y::q,0=>rfl
 |x::r,y::q,i+1=>by simp only[vx,gQ];exact EC r q i
theorem Ak:∀(l k:List PV),(vx l k).length=min l.length k.length
 |[],_=>by simp[vx]
 |_::_,[]=>by simp[vx]
 |x::r,y::q=>by simp only[vx,bw,Ak r q];lia
def K3(fa:XA)(Z:En)(s:N'):Out (List PV):=(fa Z s).bind λvs s1=>match vs with
 |[.lst l,.lst k]=>.ok (vx l k) s1
 |_=>.bad
def QP:bu "zip"=Za (.type "zip"):=by decide +kernel
def ÂG(K:aa)(ta:TA):TI:=λO H R=>ta O H λxs H1=>∃a b ys zs,xs=[.ref a,.ref b]/\YO K H1 a ys/\YO K H1 b zs/\R (Itz K a b) H1
def zap(n l1 l2)(h1:l1<n)(h2:l2<n):ZipApart (n+4:Nat) (n+2:Nat) (n+3:Nat) n (n+1:Nat) l1 l2:=by constructor<;>(apply(λh=>h) ;lia)
def Pz{es:List a7}{x1:_}{px p:Pos}{ta:TA}(hg:Gl X "zip")(hm:X.mg "zip"=Zb)(ha:PA X [a,b] ta)(hs:ar [a,b] X.env=(false,eval a X.env)::ar [b] X.env:=by rfl)(Rq:(bM pos (ar [b] X.env)).any (·.1)=false:=by rfl):PI X (.Tuple es x1 px) (.Call (.Name "zip" p) [a,b] [] pos) (ÂG X.K ta):=by
 refine λQ9 s O H R I h=>Call_ (yM I hg hm QP (dH (Yq (ha pos Q9 s O H _ I h) λus s1=>e4 λvs H1 I1 r1 q1=>?_) hs Rq));obtain⟨l1,l2,ys,zs,rfl,UP,Sl,q⟩:=q1;obtain⟨u1,u2,rfl,r1,r2⟩:=L6 r1;cases r1;cases r2;obtain⟨Ve,V0,p1,hz1⟩:=I1.list UP;obtain⟨Sf,UJ,p2,UO⟩:=I1.list Sl;have t1:l1<s1.heap.objs.size:=by obtain⟨o,ho,_⟩:=p1.isList;exact aw ho
 have t2:l2<s1.heap.objs.size:=by obtain⟨o,ho,_⟩:=p2.isList;exact aw ho
 refine call_zip_2 p1.isList p2.isList λh' hz TZ UB Xn hi2 hsz kp=>?_;have D:=zap _ _ _ t1 t2;refine wpAny_pyIter_zip hz ⟨s1.heap.objs.size+4,[s1.heap.objs.size+4,s1.heap.objs.size+2,s1.heap.objs.size+3,s1.heap.objs.size,s1.heap.objs.size+1],_,_,H1,rfl,I1.kept kp,Jw l1 l2 _ _ _ _ _ D,⟨hz,TZ,⟨_,_,UB⟩,Xn,hi2⟩,λc hc=>?_,q⟩;have TF:s1.heap.objs.size<=c:=by simp[ao,fJ,or_false] at hc;obtain z|z|z|z|z:=hc<;>rw[z]<;>lia
 exact I1.Ĳ TF (I1.Ye.fresh TF)
def Áp{K:aa}{H0:Hp}{m0:Mp}{s0:N'}{b c:ag}{l k:List PV}(r:Rep K H0 m0 s0 (.ref b) (.lst l))(r':Rep K H0 m0 s0 (.ref c) (.lst k)):ql K CB (Itz K b c) (vx l k) H0 m0 s0:=by
 intro i H m s ex S;obtain⟨b',vs,⟨⟩,hq,rs⟩:=(r.Yk ex.toExtR).ls S (rfl);obtain⟨c',ws,⟨⟩,R6,rs'⟩:=(r'.Yk ex.toExtR).ls S (rfl);refine⟨λq' hz=>?_,λhi=>⟨vs,ws,hq,R6,?_⟩⟩
 .rw[EC] at hz;cases cl:l[i]? with
  |none=>rw[cl] at hz;cases hz
  |some q0 =>
   cases ck:k[i]? with
   |none=>rw[cl,ck] at hz;cases hz
   |some q1 =>
    rw[cl,ck] at hz;cases hz;obtain⟨u,hu,ru⟩:=rs.get cl;obtain⟨v,hv,rv⟩:=rs'.get ck;refine⟨⟨vs,ws,u,v,hq,R6,hu,hv⟩,λx H' ⟨p,hp,e1,e2⟩=>?_⟩;obtain⟨y,z,hy,hz,e3⟩:=e2 vs ws hq R6;subst e1 e3;rw[hu] at hy;rw[hv] at hz;cases hy;cases hz;have kk:=My.sS (o:=.tup [u,v]) hp;have S':=S.same kk;exact⟨.same kk,S',.tup (.inl ⟨.inl mw,S'.YZ mw⟩) (.cons (ru.ext (.same kk)) (.cons (rv.ext (.same kk)) .nil))⟩
 .rw[Ak] at hi;rw[rs.length,rs'.length];lia
def LM{es:List a7}{x1:_}{px p:Pos}{fa:XA}(ha:DA X CB E [a,b] fa)(hg:Gl X "zip":=by rfl)(hm:X.mg "zip"=none:=by assumption)(hs:ar [a,b] X.env=(false,eval a X.env)::ar [b] X.env:=by rfl)(Rq:(bM pos (ar [b] X.env)).any (·.1)=false:=by rfl):DI X CB E (.Tuple es x1 px) (.Call (.Name "zip" p) [a,b] [] pos) (K3 fa) :=
 ⟨(Pz hg hm ha.pa hs Rq).mono λO H R q=>Ž.Ϟ q λv s1 u H1 m1 S1 r1 P=>by
  split at P
  .rename_i l s' hF;split at hF
   .cases hF;cases r1 with
    |cons r n =>
     cases n with
     |cons r' n =>
      cases n;cases r with
      |lst h1 h2 h3 =>
       cases r' with
       |lst k1 k2 k3=>exact⟨_,_,_,_,rfl,YO.of h1,YO.of k1,P _ _ _ .refl S1 (Áp (.lst h1 h2 h3) (.lst k1 k2 k3))⟩
   .cases hF
  .rename_i hF;split at hF<;>cases hF
  .exact P.elim⟩
def OC(i:Nat)(f:XE)(Z:En)(s:N'):SO:=match Z[i]? with
 |some (Za (.int x))=>(f Z s).so λv s1=>match v with
  |.int y=>.nx (Z.set i (Za (.int (x+y)))) s1
  |_=>.bad
 |_=>.bad
def QF(i)(he:DE X CB E e f)(hN:X.N.Nodup:=by exact ‹K' _ _ _›.nd)(hi:X.N[i]?=Za x:=by rfl)(hx:Loc X.env.scope x:=by first|exact eB rfl|exact gM rfl)(hf:X.fn x=true\/X.env.scope.names.lookup x=Za .local:=by first|exact .inl rfl|exact .inr rfl|assumption):DS X CB E (.AugAssign (.Name x Rm) .Add e pos) (OC i f) :=
 ⟨(Py hN hi hx he.pe Ly hf).mono λD O H=>oE λZ s m er S P=>by
  unfold OC at P;split at P
  .rename_i a ē;obtain⟨u0,hu,⟨⟩⟩:=er.at_ i _ ē;refine⟨_,hu,Z,s,m,er,S,Yo.so P λv s1 u H1 m1 e1 S1 r1 P1=>?_⟩;split at P1
   .cases r1;exact⟨_,_,rfl,rfl,P1.next S1 ((er.ext e1).set i .int)⟩
   .exact P1.elim
  .exact P.elim⟩
end
section
variable{κ:Type}[DecidableEq κ]{K:aa}{H:Hp}{m:Mp}{s:N'}
def YD(K:aa)(H:Hp)(m:Mp)(s:N')(vs:List (κ×V))(l:List (κ×PV)):Prop:=vs.map (·.1)=l.map (·.1)/\X7 K H m s (vs.map (·.2)) (l.map (·.2))
theorem YD.nil:YD K H m s ([]:List (κ×V)) []:=⟨rfl,.nil⟩
def YD.cons_inv:∀{vs:List (κ×V)},YD K H m s vs (q::l)->∃w r,vs=(q.1,w)::r/\Rep K H m s w q.2/\YD K H m s r l
 |[],h=>nomatch h.1
 |(k,w)::r,h=>by
  obtain⟨e1,e2⟩:=im h.1;cases h.2 with
  |cons a b =>
   subst e1;exact⟨w,r,rfl,a,e2,b⟩
theorem YD.cons{q:κ×PV}{l}{w}{vs}(a:Rep K H m s w q.2)(h:YD K H m s vs l):YD K H m s ((q.1,w)::vs) (q::l):=⟨by rw[am,am,h.1],.cons a h.2⟩
theorem YD.length(h:YD K H m s vs l):vs.length=l.length:=by
 have:=congrArg cE h.1
 grind
noncomputable def uq(l:List (κ×PV))(k:κ):Option PV:=(l.find? λkv=>decide (kv.1=k)).map (·.2)
noncomputable def Dr(l:List (κ×PV))(k:κ)(p:PV):List (κ×PV) :=
 if(l.any λkv=>decide (kv.1=k))=true then l.map (λkv=>if kv.1=k then(kv.1,p) else kv) else l++[(k,p)]
theorem YD.val:∀{l:List (κ×PV)}{vs:List (κ×V)},YD K H m s vs l->uq l k=Za p->∃w,pE vs k=Za w/\Rep K H m s w p
 |[],_,_,e=>nomatch e
 |q::l,vs,h,e=>by
  obtain⟨w,r,rfl,a,b⟩:=h.cons_inv;unfold uq at e;unfold pE;rw[bQ] at e ⊢;by_cases c:q.1=k
  .grind
  .rw[Zh c] at e;obtain⟨w',h1,h2⟩:=b.val e;refine⟨w',?_,h2⟩;rw[Zh c];exact h1
theorem YD.any:∀{l:List (κ×PV)}{vs:List (κ×V)},YD K H m s vs l->(vs.any λkv=>decide (kv.1=k))=l.any λkv=>decide (kv.1=k)
 |[],vs,h=>by
  have:=h.length
  grind
 |q::l,vs,h=>by obtain⟨w,r,rfl,a,b⟩:=h.cons_inv;rw[dR,dR,b.any]
theorem YD.map(rv:Rep K H m s v p):∀{l:List (κ×PV)}{vs:List (κ×V)},YD K H m s vs l->YD K H m s (vs.map λkv=>if kv.1=k then(kv.1,v) else kv) (l.map λkv=>if kv.1=k then(kv.1,p) else kv)
 |[],vs,h=>by
  have:=h.length
  simp_all
 |q::l,vs,h=>by
  obtain⟨w,r,rfl,a,b⟩:=h.cons_inv;rw[am,am];by_cases c:q.1=k
  .rw[Zc c,Zc c];exact YD.cons (q:=(q.1,p)) rv (b.map rv)
  .rw[Zd c,Zd c];exact YD.cons a (b.map rv)
def YD.snoc(rv:Rep K H m s v p)(h:YD K H m s vs l):YD K H m s (vs++[(k,v)]) (l++[(k,p)]) :=
 ⟨by rw[aC,aC,h.1];rfl,by rw[aC,aC];exact h.2.append (.cons rv .nil)⟩
def YD.put{k:κ}{v:V}{p:PV}(rv:Rep K H m s v p){l:List (κ×PV)}{vs:List (κ×V)}(h:YD K H m s vs l):YD K H m s (rh vs k v) (Dr l k p):=by
 unfold rh Dr;rw[h.any];split
 .exact h.map rv
 .exact h.snoc rv
theorem xQ{κ:Type}[DecidableEq κ][BEq κ][LawfulBEq κ](k:κ):∀fs:List (κ×V),fs.lookup k=pE fs k
 |[]=>rfl
 |(g,x)::r=>by
  rw[cB];unfold pE;rw[bQ];by_cases c:g=k
  .subst c;simp
  .have h1:(k==g)=false:=by simpa using bU c
   rw[h1];simp[c];exact xQ k r
noncomputable def BL(f:Str)(v:PV):List (Str×PV)->List (Str×PV)
 |[]=>[(f,v)]
 |(g,x)::r=>if g=f then(g,v)::r else(g,x)::BL f v r
theorem YD.Y2(rv:Rep K H m s v p):∀{l:List (Str×PV)}{vs:List (Str×V)},YD K H m s vs l->YD K H m s (Y2 f v vs) (BL f p l)
 |[],vs,h=>by
  have:=h.length;rw[eX.mp this];exact YD.cons (q:=(f,p)) rv .nil
 |(g,x)::l,vs,h=>by
  obtain⟨w,r,rfl,a,b⟩:=h.cons_inv;show YD K H m s (if g=f then(g,v)::r else(g,w)::L2.Y2 f v r) (if g=f then(g,p)::l else(g,x)::BL f p l);split
  .exact YD.cons (q:=(g,p)) rv b
  .exact YD.cons a (b.Y2 rv)
end
section
variable{X:Cx}{CB:ag}{E:XK}{a b c e:a7}{es:List a7}{f g h:XE}{fa:XA}{pos Rc p Rm RK:Pos}{C:ag}{k n:Nat}{ps:List Str}{D:XF}{x:Str}
def SR.Ât{K:aa}{H:Hp}{m:Mp}{s:N'}{n:Nat}{dx:ag}{l l':List (Str×PV)}{RI:List (Str×V)}(S:SR K CB H m s)(hn:s.get n=Za (.obj C l))(r:YD K H m s RI l') :
  SR K CB (upd H (m.ad n) (.ins C dx RI)) (m.Zu n [m.ad n]) (s.set n (.obj C l'))/\Ext H m s (upd H (m.ad n) (.ins C dx RI)) (m.Zu n [m.ad n]) (s.set n (.obj C l')):=by
 obtain⟨e1,dx',vs,h1,_⟩:=S.get hn;refine S.put hn (by grind) _ _ (λa o h ha=>?_) (λa ha=>.inl (by rw[e1];exact ha)) λex=>⟨by show(if n=n then [m.ad n] else m.fp n)=_;rw[Zc rfl];rfl,dx,RI,mw,r.1,r.2.Yk ex⟩;rw[e1,ax] at ha;rw[mq ha];exact h
def SR.Âs{K:aa}{H:Hp}{m:Mp}{s:N'}{n:Nat}{l l':List (List Key×PV)}{RI:List (List Key×V)}(S:SR K CB H m s)(hn:s.get n=Za (.Z7 l))(r:YD K H m s RI l') :
  SR K CB (upd H (m.ad n) (.dT RI)) (m.Zu n [m.ad n]) (s.set n (.Z7 l'))/\Ext H m s (upd H (m.ad n) (.dT RI)) (m.Zu n [m.ad n]) (s.set n (.Z7 l')):=by
 obtain⟨e1,vs,h1,_⟩:=S.get hn;refine S.put hn (by grind) _ _ (λa o h ha=>?_) (λa ha=>.inl (by rw[e1];exact ha)) λex=>⟨by show(if n=n then [m.ad n] else m.fp n)=_;rw[Zc rfl];rfl,RI,mw,r.1,r.2.Yk ex⟩;rw[e1,ax] at ha;rw[mq ha];exact h
def Fs(C:ag)(nm:Str)(f:XE)(Z:En)(s:N'):Out PV:=(f Z s).bind λv s1=>match v with
 |.ref n=>match s1.get n with
  |some (.obj C' fs)=>if C'=C then(match uq fs nm with
   |some p=>.ok p s1
   |none=>.bad) else .bad
  |_=>.bad
 |_=>.bad
def Ea(ho:DE X CB E a f)(hC:Ŕ X.K C)(hn:YV X.K C nm)(hb:cz a nm X.env (eval a X.env)=eval a X.env:=by rfl):DE X CB E (.Attribute a nm pos) (Fs C nm f) :=
 ⟨(o4 ho.pe hb).mono λO H Q=>oE λZ s m er S P=>⟨Z,s,m,er,S,P.bind λv s1 u H1 m1 e1 S1 r1 P1=>by
  split at P1
  .split at P1
   .rename_i hg;split at P1
    .rename_i hc;subst hc;split at P1
     .rename_i hv;obtain⟨_,dx,Sj,h1,rf⟩:=S1.get hg;cases r1 with
      |ref hl =>
       obtain⟨w,hw,RP⟩:=YD.val rf hv;exact⟨_,_,dx,Sj,w,rfl,h1,hC,hn,(xQ nm Sj).trans hw,P1.here S1 RP⟩
     .exact P1.elim
    .exact P1.elim
   .exact P1.elim
  .exact P1.elim⟩⟩
def Fo(C:ag)(nm:Str)(f g:XE)(Z:En)(s:N'):SO:=(g Z s).so λp s1=>(f Z s1).so λv s2=>match v with
 |.ref n=>match s2.get n with
  |some (.obj C' fs)=>if C'=C/\fs.length<1000 then .nx Z (s2.set n (.obj C (BL nm p fs))) else .bad
  |_=>.bad
 |_=>.bad
def LK{nm:Str}(ho:DE X CB E a f)(hv:DE X CB E e g)(hC:Ŕ X.K C)(hn:YV X.K C nm)(hs:cN e (Za (.Attribute a nm Rm)) pos.line X.env=pure false:=by rfl):DS X CB E (.Assign [.Attribute a nm Rm] e pos) (Fo C nm f g) :=
 ⟨(yI ho.pe hv.pe hs).mono λD O H=>oE λZ s m er S P=>⟨Z,s,m,er,S,Yo.so P λp s1 u H1 m1 e1 S1 r1 P1=>⟨Z,s1,m1,er.ext e1,S1,Yo.so P1 λv s2 u2 H2 m2 e2 S2 r2 P2=>by
  split at P2
  .split at P2
   .rename_i hg;split at P2
    .rename_i hc;obtain⟨hc,hl⟩:=hc;subst hc;obtain⟨_,dx,Sj,h1,rf⟩:=S2.get hg;cases r2 with
     |ref Rr =>
      have rz:YD X.K H2 m2 s2 Sj _:=rf;obtain⟨S3,e3⟩:=S2.Ât hg (rz.Y2 (r1.ext e2));exact⟨_,_,dx,Sj,rfl,h1,hC,hn,by rw[rz.length];exact hl,P2 _ _ _ e3 S3 (((er.ext e1).ext e2).ext e3)⟩
    .exact P2.elim
   .exact P2.elim
  .exact P2.elim⟩⟩⟩
def OB(_:En)(s:N'):Out PV:=.ok (.ref s.nx) (s.add (.Z7 []))
def Oc:DE X CB E (.Dict [] [] pos) OB:=⟨ϔ.mono λO H Q=>oE λZ s m er S P p hp=>by
 obtain⟨S2,e2⟩:=S.add (c:=.Z7 []) _ p [p] (My.sS hp) (λa ha=>by rw[ax.mp ha];exact hp) λex=>by
  have e1:(m.add s.nx p [p]).ad s.nx=p:=by show(if s.nx=s.nx then p else _)=_;rw[Zc rfl]
  have e2:(m.add s.nx p [p]).fp s.nx=[p]:=by show(if s.nx=s.nx then [p] else _)=_;rw[Zc rfl]
  exact⟨by rw[e1,e2],[],by rw[e1];exact mw,rfl,.nil⟩
 exact P _ _ _ e2 S2 .new⟩
noncomputable def BM:List PV->Option (List Key)
 |[]=>Za []
 |p::l=>match ZY p,BM l with
  |some k,Za ks=>Za (k::ks)
  |_,_=>Zb
def zK{K:aa}{H:Hp}{m:Mp}{s:N'}:∀{l:List PV}{vs:List V}{ks:List Key},X7 K H m s vs l->BM l=Za ks->vs=ks.map kV
  :=by
 intro l;induction l with
 |nil =>
  intro _ _ r h;cases r;cases h;rfl
 |cons p l ih =>
  intro _ _ r h;cases r with
  |cons r rs =>
   unfold BM at h;split at h
   .rename_i k ks' h1 h2;cases h;rw[qK r h1,ih rs h2];rfl
   .cases h
def Mw(f:XE)(fa:XA)(Z:En)(s:N'):Out PV:=(f Z s).bind λv s1=>(fa Z s1).bind λvs s2=>match v with
 |.ref n=>match s2.get n,BM vs with
  |some (.Z7 l),Za ks=>if vs.length<=100000 then(match uq l ks with
   |some p=>.ok p s2
   |none=>.bad) else .bad
  |_,_=>.bad
 |_=>.bad
def QL{x1}(ho:DE X CB E a f)(hi:DA X CB E es fa){jr:Nat}(hr:Yp jr X.A:=by assumption)(hs:Q8 (.Tuple es x1 RK):=by exact λ_ _=>rfl):DE X CB E (.Subscript a (.Tuple es x1 RK) pos) (Mw f fa) :=
 ⟨(sC (oS hr) ho.pe (wy hi.pa) hs).mono λO H Q=>oE λZ s m er S P=>⟨Z,s,m,er,S,P.bind λv s1 u H1 m1 e1 S1 r1 P1=>⟨Z,s1,m1,er.ext e1,S1,P1.bind λvs s2 us H2 m2 e2 S2 r2 P2=>by
  split at P2
  .split at P2
   .rename_i l ks hg hk;split at P2
    .rename_i hl;split at P2
     .rename_i hv;refine⟨by rw[r2.length];exact ϩ hl,λp hp=>?_⟩;obtain⟨_,RI,h1,rf⟩:=S2.get hg;have rz:YD X.K H2 m2 s2 RI l:=rf;obtain⟨w,hw,RP⟩:=rz.val hv;have WO:=r1.ext e2;cases WO with
      |ref Rr =>
       have SY:p≠m2.ad _:=λz=>by rw[z,h1] at hp;grind
       have ek:=zK r2 hk;subst ek;exact⟨_,w,rfl,hw▸Y3.t (by rw[mq (bU SY)];exact h1) mw,P2.new S2 hp λex S'=>RP.ext ex⟩
     .exact P2.elim
    .exact P2.elim
   .exact P2.elim
  .exact P2.elim⟩⟩⟩
def YD.same{κ:Type}{K:aa}{H H':Hp}{m m':Mp}{s s':N'}{vs:List (κ×V)}{l:List (κ×PV)}(h:YD K H m s vs l)(e:Ext H m s H' m' s'):YD K H' m' s' vs l:=⟨h.1,h.2.ext e⟩
def Jd(f:XE)(fa:XA)(h:XE)(Z:En)(s:N'):SO:=(h Z s).so λq s1=>(f Z s1).so λv s2=>(fa Z s2).so λvs s3=>match v with
 |.ref n=>match s3.get n,BM vs with
  |some (.Z7 l),Za ks=>if vs.length<=100000/\l.length<100000 then .nx Z (s3.set n (.Z7 (Dr l ks q))) else .bad
  |_,_=>.bad
 |_=>.bad
def N1{x1}(ho:DE X CB E a f)(hi:DA X CB E es fa)(hv:DE X CB E e h)(hr:Yp jr X.A:=by assumption)(hs:cN e (Za (.Subscript a (.Tuple es x1 RK) Rm)) pos.line X.env=pure false:=by rfl):DS X CB E (.Assign [.Subscript a (.Tuple es x1 RK) Rm] e pos) (Jd f fa h) :=
 ⟨(su (oS hr) ho.pe (wy hi.pa) hv.pe hs).mono λD O H=>oE λZ s m er S P=>⟨Z,s,m,er,S,Yo.so P λq s1 u H1 m1 e1 S1 r1 P1=>⟨Z,s1,m1,er.ext e1,S1,Yo.so P1 λv s2 u2 H2 m2 e2 S2 r2 P2=>⟨Z,s2,m2,(er.ext e1).ext e2,S2,Yo.so P2 λvs s3 us H3 m3 e3 S3 r3 P3=>by
  split at P3
  .split at P3
   .rename_i l ks hg hk;split at P3
    .rename_i hl;refine⟨by rw[r3.length];exact ϩ hl.1,λp hp=>?_⟩;obtain⟨_,RI,h1,rf⟩:=S3.get hg;have rz:YD X.K H3 m3 s3 RI l:=rf;have r2':=r2.ext e3;cases r2' with
     |ref Rr =>
      have SY:p≠m3.ad _:=λz=>by rw[z,h1] at hp;grind
      have ek:=zK r3 hk;subst ek;have kk:=My.sS (o:=.tup (ks.map kV)) hp;have S4:=S3.same kk;have e4:Ext H3 m3 s3 _ m3 s3:=.same kk;have rq:=((r1.ext e2).ext e3).ext e4;obtain⟨S5,e5⟩:=S4.Âs hg ((rz.same e4).put rq);exact⟨_,_,rfl,Ö.t (by rw[mq (bU SY)];exact h1) mw (by rw[rz.length];exact sz6 hl.2),P3 _ _ _ (e4.trans e5) S5 (((((er.ext e1).ext e2).ext e3).ext e4).ext e5)⟩
    .exact P3.elim
   .exact P3.elim
  .exact P3.elim⟩⟩⟩⟩
def xMk(C:ag)(n:Nat)(D:XF)(fa:XA)(Z:En)(s:N'):Out PV:=(fa Z s).bind λvs s1=>if vs.length+1=n then(D (.ref s1.nx::vs) (s1.add (.obj C []))).bind (λv s2=>match v with
 |.Yh=>.ok (.ref s1.nx) s2
 |_=>.bad) else .bad
def À2(M:MkB X.prog X.w X.K X.mg X.base x C k ps sp)(hr:Yp (k+1) X.A)(hg:Gl X x)(hx:oK (YW X.prog X.w) X E)(ha:PA X (e::es) t)(RM:Î x:=by decide)(he:Č X e es:=by rfl)(Rq:(bM pos (ar es X.env)).any (·.1)=false:=by rfl):PE X (.Call (.Name x p) (e::es) [] pos) (Jg C sp [] E t):=by
 obtain⟨f,fd,F,hm,mk,hb⟩:=M;exact Nc mk F hr hg hm hb .nil hx ha RM he Rq
def O0(M:MkB X.prog X.w X.K X.mg X.base x C k ps (YX X.K CB n D))(ha:DA X CB E (e::es) fa)(hr:Yp jr X.A:=by assumption)(hk:k+1<=jr:=by first|decide|omega)(hg:Gl X x:=by rfl)(hx:oK (YW X.prog X.w) X E:=by first|exact pH|exact rW)(RM:Î x:=by decide)(he:Č X e es:=by rfl)(Rq:(bM pos (ar es X.env)).any (·.1)=false:=by rfl):DE X CB E (.Call (.Name x p) (e::es) [] pos) (xMk C n D fa) :=
 ⟨(À2 M (hr.mono hk) hg hx ha.pa RM he Rq).mono λO H Q=>oE λZ s m er S P=>⟨Z,s,m,er,S,P.bind λvs s1 us H1 m1 e1 S1 r1 P1=>by
  split at P1
  .rename_i hl;intro b dx hb Xt RB;rw[bW];have kk:YH H1 (upd (upd H1 dx (.own b)) b (.ins C dx [])):=λc o h=>by rw[mq (mH h hb),mq (mH h Xt)];exact h
   obtain⟨S2,e2⟩:=S1.add (c:=.obj C []) (upd (upd H1 dx (.own b)) b (.ins C dx [])) b [b] kk (λa ha=>by rw[ax.mp ha];exact hb) λex=>by
    have q1:(m1.add s1.nx b [b]).ad s1.nx=b:=by show(if s1.nx=s1.nx then b else _)=_;rw[Zc rfl]
    have q2:(m1.add s1.nx b [b]).fp s1.nx=[b]:=by show(if s1.nx=s1.nx then [b] else _)=_;rw[Zc rfl]
    exact⟨by rw[q1,q2],dx,[],by rw[q1];exact mw,rfl,.nil⟩
   refine⟨by rw[bw,r1.length];exact hl,_,_,_,.cons .new (r1.ext e2),S2,(Yo.shift e2 P1).bind λv s3 u H3 m3 e3 S3 r3 P3=>?_⟩;split at P3
   .cases r3;exact⟨rfl,P3 _ _ _ .refl S3 (Rep.new.ext e3)⟩
   .exact P3.elim
  .exact P1.elim⟩⟩
theorem YD.none{κ:Type}[DecidableEq κ]{K:aa}{H:Hp}{m:Mp}{s:N'}{k:κ}:∀{l:List (κ×PV)}{vs:List (κ×V)},YD K H m s vs l->uq l k=Zb->pE vs k=Zb
 |[],vs,h,_=>by
  have:=h.length;rw[eX.mp this];rfl
 |q::l,vs,h,e=>by
  obtain⟨w,r,rfl,a,b⟩:=h.cons_inv;unfold uq at e;unfold pE;rw[bQ] at e ⊢;by_cases c:q.1=k
  .rw[Zg c] at e;cases e
  .rw[Zh c] at e;show Option.map _ (match decide (q.1=k) with|true=>Za (q.1,w)|false=>_)=_;rw[Zh c];exact b.none e
def ϰ(C:ag)(nm:Str)(n:Nat)(D:XF)(f:XE)(fa:XA)(Z:En)(s:N'):Out PV:=(f Z s).bind λo s1=>match o with
 |.ref k=>match s1.get k with
  |some (.obj C' fs)=>if C'=C/\uq fs nm=Zb then(fa Z s1).bind λvs s2=>if vs.length+1=n then D (.ref k::vs) s2 else .bad else .bad
  |_=>.bad
 |_=>.bad
def Ms(ho:DE X CB E a f)(M:Mt X.prog X.w X.K X.mg X.base C m k ps (YX X.K CB n D))(ha:DA X CB E (e::es) fa)(hr:Yp jr X.A:=by assumption)(hk:k<=jr:=by first|decide|omega)(hx:oK (YW X.prog X.w) X E:=by first|exact pH|exact rW)(RW:Č X e es:=by rfl)(Rq:(bM pos (ar es X.env)).any (·.1)=false:=by rfl)(ht:eval (.Call (.Attribute a m Rc) (e::es) [] pos) X.env=(do
   let ov <-eval a X.env
   fL Rc.atName
   let(f,first) <-holding [ov] (fE ov m pl)
   ip pos f first (bM pos (ar (e::es) X.env)) (ed pos (cI [] X.env))):=by rfl):DE X CB E (.Call (.Attribute a m Rc) (e::es) [] pos) (ϰ C m n D f fa) :=
 ⟨(tV (pl:=pl) ho.pe M (hr.mono hk) hx ha.pa RW Rq ht).mono λO H Q=>oE λZ s m' er S P=>⟨Z,s,m',er,S,P.bind λv s1 u H1 m1 e1 S1 r1 P1=>by
  split at P1
  .split at P1
   .rename_i hg;split at P1
    .rename_i hc;obtain⟨hc,hn0⟩:=hc;subst hc;obtain⟨_,dx,Sj,h1,rf⟩:=S1.get hg;cases r1 with
     |ref hn =>
     refine⟨_,_,_,rfl,h1,(xQ m Sj).trans (YD.none rf hn0),Z,s1,m1,er.ext e1,S1,P1.bind λvs s2 us H2 m2 e2 S2 r2 P2=>?_⟩;split at P2
     .rename_i hl;rw[bW];refine⟨by rw[bw,r2.length];exact hl,_,s2,m2,.cons ?_ r2,S2,P2⟩;exact(Rep.ref hn).ext e2
     .exact P2.elim
    .exact P1.elim
   .exact P1.elim
  .exact P1.elim⟩⟩
def ÀX(K:aa):R2:=λx y H Q=>∃(p:ag)(xs:List V)(j:Nat)(v:V),x=.ref p/\y=.int (j:Int)/\YO K H p xs/\xs[j]?=Za v/\Q v H
def Kw:ÁY X (ÀX X.K):=by
 rintro Q9 s O H x y v u Q I rx ry ⟨p,xs,j,z,rfl,rfl,hq,he,q⟩
 cases rx;obtain⟨t,rfl⟩:=ry;obtain⟨its,r,pl,hz⟩:=I.list hq;obtain⟨w,ew,RP⟩:=r.get he;have hl:=r.length;have hn:=wA;have hj:=(aR.mp ew).1;exact wpAny_getItem_list pl.isList (by lia) (by lia) (by simpa using ew) ⟨z,H,I,RP,q⟩
def Je(f g h:XE)(Z:En)(s:N'):SO:=(f Z s).so λo s1=>(g Z s1).so λi s2=>match o,i with
 |.ref n,.int k=>if 0<=k then(match s2.get n with
  |some (.lst l)=>(match l[k.toNat]? with
   |some (.int x)=>(h Z s2).so λv s3=>match v with
    |.int y=>(match s3.get n with
     |some (.lst l')=>if k.toNat<l'.length then .nx Z (s3.set n (.lst (l'.set k.toNat (.int (x+y))))) else .bad
     |_=>.bad)
    |_=>.bad
   |_=>.bad)
  |_=>.bad) else .bad
 |_,_=>.bad
def N3(ho:DE X CB E a f)(hi:DE X CB E b g)(he:DE X CB E e h)(ha:∀ov iv new,augStore b ov iv new=(do holding [new,ov,iv] (kK ov iv new);release [new,ov,iv] [];pure .next):=by intros;rfl):DS X CB E (.AugAssign (.Subscript a b RK) .Add e pos) (Je f g h) :=
 ⟨(M4 ho.pe hi.pe Kw he.pe Ly set_list ha).mono λD O H=>oE λZ s m er S P=>⟨Z,s,m,er,S,Yo.so P λo s1 uo H1 m1 e1 S1 r1 P1=>⟨Z,s1,m1,er.ext e1,S1,Yo.so P1 λi s2 ui H2 m2 e2 S2 r2 P2=>by
  split at P2
  .rename_i n k;split at P2
   .rename_i hk;split at P2
    .rename_i l hg;split at P2
     .rename_i x hx;obtain⟨_,vs,h1,q1⟩:=S2.get hg;obtain⟨u0,hu0,⟨⟩⟩:=q1.get hx;have WO:=r1.ext e2;cases WO with
      |ref Rr =>
      cases r2;have ek:k=(k.toNat:Int):=by lia
      refine⟨_,vs,k.toNat,_,rfl,by rw[<-ek],YO.of h1,hu0,Z,s2,m2,(er.ext e1).ext e2,S2,Yo.so P2 λv s3 uv H3 m3 e3 S3 r3 P3=>?_⟩;split at P3
      .split at P3
       .rename_i l' hg';split at P3
        .rename_i hl;cases r3;obtain⟨_,RI,UW,q1'⟩:=S3.get hg';have hn:=Rr;have ead:=e3.ad n hn;obtain⟨S4,e4⟩:=S3.putL hg' (q1'.set k.toNat (.int));rw[ead] at UW S4 e4;refine⟨_,_,rfl,rfl,_,RI,_,k.toNat,rfl,rfl,UW,?_,P3 _ _ _ e4 S4 ((((er.ext e1).ext e2).ext e3).ext e4)⟩;rw[q1'.length];unfold Œ
         grind
        .exact P3.elim
       .exact P3.elim
      .exact P3.elim
     .exact P2.elim
    .exact P2.elim
   .exact P2.elim
  .exact P2.elim⟩⟩⟩
end
end L2
namespace PySem
open Sem (wp)
def Dd:jm (.type "list") "keys"=pure none:=by kernel_rfl
def zd(hx:s.heap.get? a=Za o)(hc:o.cls=.type "list")(Tk:o.data=.seq xs k)(hd:o.dict=Zb)(hA:A.handled=Zb)(h:∀h' tk,(∀b o,s.heap.get? b=Za o->h'.get? b=Za o)->Q Zb { s with heap:=h',toks:=tk }) :
  aO (model prog w) A (getAttr? (.ref a) "keys") Q E s:=by
 obtain⟨c,Yl,dat,sl⟩:=o;simp only at hc Tk hd;subst hc Tk hd;obtain⟨y1,y2,y3,y4,y5⟩:=s;have ty:∀z,(⟨y1,y2,y3,z,y5⟩:au).TypeIs (.ref a) "list":=λ_=>⟨_,hx,rfl⟩;have f1:=sub_AttributeError;have f3:=gU.lookup;have f4:=gU.bind (.ref a);have f5:=am_list_getattr_none;unfold getAttr? getAttrBy? getAttrBy
 repeat (any_goals (first|assumption|exact ty _|((with_reducible show aO _ _ (call (fH "list.__getattribute__") _ _) _ _ _);refine jo gU (ty _) am_entry_list_getattribute (F.args_list_getattribute_2 _ _) (meets_getattribute_miss_list a xs k sl "keys" _ Dd (by decide +kernel) (Zf rfl)) ⟨hx,hA,λh' tk' e Tc=>?_⟩)|wp_step))
 obtain⟨t',u',he⟩:=Tc.there;unfold getattributeRaised
 repeat any_goals first|assumption|wp_step
 exact h _ _ Tc.keeps
namespace F
def Æ:plainId "dict.update.loop"=true:=by decide +kernel
def Ħ:entryFor table "dict.update.loop"=Za Builtin.«dict.update.loop»:=entryFor_of_tree (by kernel_rfl)
end F
section
variable{prog:aK}{w:aT}{K:Type}[DecidableEq K]{knd:KeyKind prog w K}{A:bX}{R:ju->au->Prop}{D it l:ag}
structure ZI(knd:KeyKind prog w K)(h:bc)(p:ag×K×ae×ae):Prop where
 at_:∃o n,h.get? p.1=Za o/\o.cls=.type "tuple"/\o.data=.seq #[p.2.2.1,p.2.2.2] n
 is:knd.is p.2.1 p.2.2.1=true
def w6(Ra:List (K×ae)):List (ag×K×ae×ae)->List (K×ae)
 |[]=>Ra
 |p::ps=>w6 (stored Ra p.2.1 p.2.2.2) ps
theorem Fe(hh:A.handled=Zb)(Wn:D≠it)(hDl:D≠l)(hil:it≠l):∀(ps:List (ag×K×ae×ae))(i:Nat)(pre:List ae)(s:au)(Ra:List (K×ae)),pre.length=i->s.heap.IsListIter it l i ->
  s.heap.IsList l (pre++ps.map λp=>aU p.1).toArray->(∀p∈ps,ZI knd s.heap p/\p.1≠it/\p.1≠D)->s.heap.DictOf knd D Ra->Ra.length+ps.length<=aG ->
  (∀h' tk,h'.DictOf knd D (w6 Ra ps)->(∀b o,b≠it->b≠D->s.heap.get? b=Za o->h'.get? b=Za o)->R (.ok (.ret .none)) { s with heap:=h',toks:=tk }) ->
  eP (model prog w) A (.builtin "dict.update.loop" ⟨[.ref D,.ref it,rawInt i,.none],[]⟩) R s
 |[],i,pre,s,Ra,hi,Ur,hl,hp,hd,hz,hR=>by
  refine kE F.Ħ ?_;rw[kQ F.Æ _];show aO _ A.in1 (pyNext (.ref it) >>= _) _ _ s;refine af (wpAny_pyNext_list_end (A:=A.in1) hh Ur hl (by simp[hi]) λh' sb=>?_);exact af (aE (aE (hR h' s.toks (hd.extBut sb Wn) λb o hb _ e=>sb b o hb e)))
 |p::ps,i,pre,s,Ra,hi,Ur,hl,hp,hd,hz,hR=>by
  obtain⟨⟨⟨o,n,hT,hc,VB⟩,hk⟩,ni,nD⟩:=hp p al;apply kE F.Ħ;rw[kQ F.Æ _];refine af (wpAny_pyNext_list_item (x:=.ref p.1) Ur hl (by simp[<-hi]) λh' Xm sb=>?_);have hT':=(sb.2 _ ni).trans hT;have W7:(⟨h',s.gens,s.drawn,s.toks,s.os⟩:au).TypeIs (.ref p.1) "tuple":=⟨_,hT',hc⟩;refine af (cF (af (wpAny_tryCatch ?_)));refine af (wpAny_typeOf W7 ?_);rw[Zc (Zf rfl)];refine af (wpAny_seqItems hT' VB (aE ?_));have Wl:=hd.sameBut sb Wn;refine cF (wpAny_dictSet_pairs (hsz:=by rw[bw] at hz;lia) hk Wl λh2 VD sb2=>?_);refine aE ⟨plainId_quiet F.Æ _,?_⟩;have kp:=λb h1 h2=>(sb2.2 b h2).trans (sb.2 b h1);have:=Fe hh Wn hDl hil ps (i+1) (pre++[.ref p.1]) { s with heap:=h2,toks:=s.toks+1 } (stored Ra p.2.1 p.2.2.2) (by simp[hi])
   (Xm.at λo e=>(sb2.2 it (bU Wn)).trans e) (by
    have e:(pre++[aU p.1]++ps.map λp=>aU p.1)=pre++(p::ps).map λp=>aU p.1:=by simp
    rw[e];exact hl.at λo e=>(kp l (bU hil) (bU hDl)).trans e) (λq hq=>by
    obtain⟨⟨⟨o,n,g,g2⟩,k⟩,a1,a2⟩:=hp q (ah _ hq);exact⟨⟨⟨o,n,(kp _ a1 a2).trans g,g2⟩,k⟩,a1,a2⟩) VD (by
    have:=stored_length_le Ra p.2.1 p.2.2.2;rw[bw] at hz;lia) λh3 tk hd3 k3=>?_
  .exact this
  .exact hR h3 tk hd3 λb o h1 h2 e=>k3 b o h1 h2 ((kp b h1 h2).trans e)
end
open Sem (wp)
section
variable{prog:aK}{w:aT}{K:Type}[DecidableEq K]{knd:KeyKind prog w K}{E:ae->au->Prop}{A:bX}{s:au}
def yE(hh:A.handled=Zb)(hx:s.heap.get? l=Za ol)(Su:ol.cls=.type "list")(Xu:ol.dict=Zb)(Wk:ol.data=.seq (ps.map λp=>aU p.1).toArray n)(hp:∀p∈ps,ZI knd s.heap p)(hz:ps.length<=aG)(h:∀h' tk,h'.DictOf knd s.heap.objs.size (w6 [] ps)->(∀b o,s.heap.get? b=Za o->h'.get? b=Za o)->Q (.ref s.heap.objs.size) { s with heap:=h',toks:=tk }) :
  aO (model prog w) A (call (.type "dict") [.ref l]) Q E s:=by
 refine callType_codes (Q₁:=λob s0=>ob=.ref s.heap.objs.size/\s0={ s with heap:=s.heap.push { cls:=.type "dict",data:=.dict #[] } }) F.kt_called_dict (F.kt_typeCall_dict_1 _) F.entry_dict_init (kt_code_dict_new _ ⟨rfl,rfl⟩) ?_
 rintro _ _ ⟨rfl,rfl⟩
 have nw:(s.heap.push { cls:=.type "dict",data:=.dict #[] }).DictOf knd s.heap.objs.size []:=kP s.heap;have Tc:(s.heap.push { cls:=.type "dict",data:=.dict #[] }).get? l=Za ol:=aj _ hx;have hTl:({ s with heap:=s.heap.push { cls:=.type "dict",data:=.dict #[] } }:au).TypeIs (.ref l) "list":=⟨_,Tc,Su⟩;have Wf:=aw hx;refine⟨nw.typeIs,F.args_dict_init_2 _ _,?_⟩;apply af;refine af (wpAny_notOrdered_dict nw.typeIs ?_);apply aE;show aO _ _ (Builtin.Dict.updateFrom "dict.__init__" s.heap.objs.size (.ref l) [] .none) _ _ _;refine af (wpAny_typeOf hTl ?_);rw[Zc (Zf rfl)];refine af (zd Tc Su Wk Xu hh λh1 tk kp=>?_);rw[Zc (show Zb.isNone=true from rfl)];refine af (wpAny_rule ?_);have TW:h1.IsList l (ps.map λp=>aU p.1).toArray:=⟨_,kp _ _ Tc,Su,_,Wk⟩;refine af (gX TW ?_);obtain⟨od,es,ep,hod,rd⟩:=nw;have hD1:=kp _ _ hod;have VE:h1.DictOf knd s.heap.objs.size []:=⟨od,es,ep,hD1,rd⟩;have l1:=aw (kp _ _ Tc);have lD:=aw hD1;have Tu:(h1.push { cls:=.type "list_iterator",data:=.fields #[.ref l,.int 0 0] }).IsListIter h1.objs.size l 0:=⟨_,aP _ rfl,rfl,rfl⟩;refine aE ⟨plainId_quiet F.Æ _,Fe (A:=A.in1) hh (ay lD) (fB Wf) (fB l1) ps 0 [] _ [] rfl Tu (TW.push _) (λp q=>?_) (VE.push _) (by simpa using hz) λh2 tk2 VD k2=>⟨rfl,h h2 tk2 VD λb o e=>?_⟩⟩
 .obtain⟨⟨o,n,g,g2⟩,k⟩:=hp p q;have g1:=kp _ _ (aj { cls:=.type "dict",data:=.dict #[] } g);exact⟨⟨⟨o,n,aj _ g1,g2⟩,k⟩,ay (aw g1),ay (aw g)⟩
 .have g1:=kp _ _ (aj { cls:=.type "dict",data:=.dict #[] } e);exact k2 b o (ay (aw g1)) (ay (aw e)) (aj _ g1)
end
end PySem
namespace L2
open PySem PySem.Spec PyProof.Rows
section
variable{X:Cx}{CB:ag}{E:XK}{a b e:a7}{f h:XE}{p pos Rc Rb:Pos}
def putAll(Ra:List (Key×V)):List (Key×V)->List (Key×V)
 |[]=>Ra
 |p::ps=>putAll (rh Ra p.1 p.2) ps
def rDP(K:aa):List V->Hp->VK->Prop:=λxs H Q=>∃(l:ag)(ts:List (ag×Key×V)),xs=[.ref l]/\YO K H l (ts.map λt=>V.ref t.1)/\(∀t∈ts,Zz K H t.1 [kV t.2.1,t.2.2])/\∀p,H p=Zb->Q (.ref p) (upd H p (.dK (putAll [] (ts.map (·.2)))))
theorem vH:∀(ps Ra:List (Key×V)),(putAll Ra ps).length<=Ra.length+ps.length
 |[],Ra=>ak _
 |p::ps,Ra=>by have h1:=vH ps (rh Ra p.1 p.2);have h2:=rJ Ra p.1 p.2;show(putAll (rh Ra p.1 p.2) ps).length<=Ra.length+(ps.length+1);lia
theorem KV.putAll:∀{ts:List (ag×Key×V)}{ps:List (ag×Key×ae×ae)}{Ra:List (Key×V)}{vs:List (Key×ae)},KV Ra vs->eW (λ(t:ag×Key×V)(p:ag×Key×ae×ae)=>t.1=p.1/\t.2.1=p.2.1/\RelV t.2.2 p.2.2.2) ts ps->KV (L2.putAll Ra (ts.map (·.2))) (w6 vs ps)
 |[],_,_,_,r,.nil=>r
 |t::ts,p::ps,Ra,vs,r,.cons h hs=>by obtain⟨_,h2,h3⟩:=h;show KV (L2.putAll (rh Ra t.2.1 t.2.2) (ts.map (·.2))) (w6 (stored vs p.2.1 p.2.2.2) ps);rw[<-h2];exact KV.putAll (r.put t.2.1 h3) hs
def Oq(hc:X.calm=true):YM X (.type "dict") (rDP X.K):=by
 rintro Q9 s O H xs us Q I r ⟨l,ts,rfl,hl,ht,q⟩
 obtain⟨u,rfl,rfl⟩:=re r;obtain⟨its,rv,pl,hz⟩:=I.list hl;have WM:∀{ts:List (ag×Key×V)}{its:List ae},Vals (ts.map λt=>V.ref t.1) its->its=ts.map λt=>aU t.1:=by
  intro ts;induction ts with
  |nil=>rintro its ⟨⟩;rfl
  |cons t ts ih =>
   intro its rv;cases rv with
   |cons r rs =>
    cases r;rw[ih rs];rfl
 have U8:∀(ts:List (ag×Key×V)),(∀t∈ts,Zz X.K H t.1 [kV t.2.1,t.2.2])->∃ps:List (ag×Key×ae×ae),(∀p∈ps,ZI (nN X.prog X.w) s.heap p)/\eW (λt p=>t.1=p.1/\t.2.1=p.2.1/\RelV t.2.2 p.2.2.2) ts ps:=by
  intro ts;induction ts with
  |nil=>exact λ_=>⟨[],(λ_ z=>nomatch z),.nil⟩
  |cons t ts ih =>
   intro h;obtain⟨ps,h1,h2⟩:=ih λt' z=>h t' (ah _ z);obtain⟨Sf,UJ,⟨o,ho,Su,n,hd⟩,_⟩:=I.tuple (h t al);obtain⟨u1,u2,rfl,r1,r2⟩:=L6 UJ;refine⟨(t.1,t.2.1,u1,u2)::ps,λp z=>?_,.cons ⟨rfl,rfl,r2⟩ h2⟩;obtain z|z:=ao.mp z
   .rw[z];exact⟨⟨o,n,ho,Su,hd⟩,yA r1⟩
   .exact h1 p z
 obtain⟨ps,h1,h2⟩:=U8 ts ht;have eps:∀{ts:List (ag×Key×V)}{ps:List (ag×Key×ae×ae)},eW (λt p=>t.1=p.1/\t.2.1=p.2.1/\RelV t.2.2 p.2.2.2) ts ps->(ts.map λt=>aU t.1)=ps.map λp=>aU p.1:=by
  intro ts;induction ts with
  |nil=>rintro ps ⟨⟩;rfl
  |cons t ts ih =>
   intro ps h;cases h with
   |cons a b=>rw[am,am,ih b,a.1]
 rw[WM rv,eps h2] at pl;obtain⟨o,n,ho,Su,Xu,Wk⟩:=pl;rw[ac] at hz;have Re:=(iL h2).symm;refine yE (I.ok.hd hc) ho Su Xu Wk h1 (by rw[Re];exact hz) λh' tk dd kp=>?_;refine⟨.ref s.heap.objs.size,_,I.laid (λb o e=>kp b o e) (ak _) (D7 ?_ (beq_eq_false_iff_ne.mpr (bU (ay I.big))) (KV.putAll .nil h2) dd),rfl,q _ (I.Ye.fresh (ak _))⟩;have:=vH (ts.map (·.2)) [];rw[ac] at this;simp[jF,fA] at this;exact aJ this hz
noncomputable def BQ:List (Key×PV)->List PV->Option (List (Key×PV))
 |Ra,[]=>Za Ra
 |Ra,.tup [k,p]::l=>match ZY k with
  |some key=>BQ (zx Ra key p) l
  |none=>Zb
 |_,_=>Zb
def zU(vs:List PV)(s:N'):Out PV:=match vs with
 |[v]=>match YB s v with
  |some l=>match BQ [] l with
   |some d=>.ok (.Yl d) s
   |none=>.bad
  |none=>.bad
 |_=>.bad
def F8{K:aa}{H:Hp}{m:Mp}{s:N'}:∀{l:List PV}{vs:List V}{Ra:List (Key×V)}{q d:List (Key×PV)},X7 K H m s vs l->Ya K H m s Ra q->BQ q l=Za d->∃ts:List (ag×Key×V),vs=(ts.map λt=>V.ref t.1)/\(∀t∈ts,Zz K H t.1 [kV t.2.1,t.2.2])/\Ya K H m s (putAll Ra (ts.map (·.2))) d
  :=by
 intro l;induction l with
 |nil =>
  intro _ _ _ _ r rq h;cases r;cases h;exact⟨[],rfl,(λ_ z=>nomatch z),rq⟩
 |cons p l ih =>
  intro _ _ _ _ r rq h;cases r with
  |cons r rs =>
   unfold BQ at h;split at h
   .rename_i z;cases z
   .rename_i k p' l' heq;cases heq;split at h
    .rename_i key hk;obtain⟨a,RI,rfl,sq,rr⟩:=r.tp;cases rr with
     |cons r1 rr =>
      cases rr with
      |cons r2 rr =>
       cases rr;obtain⟨ts,e1,e2,e3⟩:=ih rs (rq.put key r2) h;have ek:=qK r1 hk;refine⟨(a,key,_)::ts,by rw[e1];rfl,λt z=>?_,e3⟩
       grind
    .cases h
   .cases h
def Ed(hc:X.calm=true):Đ X CB E (.type "dict") zU:=⟨_,Oq hc,by
 intro H m s v x Q S rx P;unfold zU at P;split at P
 .cases rx with
  |cons r n =>
   cases n;split at P
   .rename_i l hl;split at P
    .rename_i d hd;obtain⟨a,vs,rfl,q,r⟩:=r.ls S hl;obtain⟨ts,rfl,e2,e3⟩:=F8 r .nil hd;exact⟨a,ts,rfl,q,e2,λp hp=>P.new S hp λex S'=>.Yl (.inl mw) (S.YC hp) (e3.ext ex)⟩
    .exact P.elim
   .exact P.elim
 .exact P.elim⟩
def DK(d:ag):Obj:={ cls:=.type "dict_values",data:=.fields #[.ref d] }
def ÀL(td:TE):TE:=λO H Q=>td O H λx H1=>∃(d:ag)(Ra:List (Key×V)),x=.ref d/\Rd H1 d (.dK Ra)/\∀v,H1 v=Zb->Q (.ref v) (upd H1 v (fzO (DK d)))
def M8(ho:PE X a td)(RG:cz a "values" X.env (eval a X.env)=eval a X.env:=by rfl)(RE:(Rc.endLine==Rb.line)=true:=by rfl):PE X (.Call (.Attribute a "values" Rc) [] [] Rb) (ÀL td):=by refine λQ9 s O H Q I h=>wpAny_Call_method0_late RG RE (Yq (ho Q9 s O H _ I h) λv s1=>e4 λx H1 I1 r1 ⟨d,Ra,ex,hd,q⟩=>?_);subst ex;obtain rfl:v=aU d:=r1;obtain⟨t1,t2,_⟩:=GG I1 (.inl ⟨Ra,hd⟩);refine⟨"dict","dict.values",gD,jP,PySem.F.type_dict_values,t1,t2,fk rfl (PySem.evalArgs_none ?_)⟩;obtain⟨z,hs,vs,rel,dd⟩:=vt I1.Ye hd;refine jL jP dd.typeIs PySem.F.entry_dict_values (PySem.F.args_dict_values_1 _) (meets_dict_values (nN X.prog X.w) d hs) ⟨⟨vs,dd⟩,?_⟩;have e0:(s1.heap.push (DK d)).get? s1.heap.objs.size=Za (DK d):=aP _ rfl;exact⟨.ref s1.heap.objs.size,_,I1.laid (o:=fzO (DK d)) (λb o e=>aj _ e) (ak _) ⟨e0,_,e0⟩,rfl,q _ (I1.Ye.fresh (ak _))⟩
def IX(hc:X.calm=true):YM X (.builtin "sum") (λxs H Q=>∃(v d:ag)(Ra:List (Key×V))(is:List Int),xs=[.ref v]/\H v=Za (fzO (DK d))/\Rd H d (.dK Ra)/\Ra.map (·.2)=is.map V.int/\Q (.int is.sum) H):=by
 rintro Q9 s O H xs us Q I r ⟨v,d,Ra,is,rfl,hv,hd,hi,q⟩
 obtain⟨u,rfl,rfl⟩:=re r;obtain⟨z,hs,vs,rel,dd⟩:=vt I.Ye hd;obtain⟨hov,_⟩:=(I.Ye v _ hv);obtain⟨ep,RT⟩:=dd.dictAt;have UF:∀{is:List Int}{Ra:List (Key×V)}{vs:List (Key×ae)},KV Ra vs->Ra.map (·.2)=is.map V.int->∀(i:Nat) k w,vs[i]?=Za (k,w)->∃t,w=jh ((is[i]?).getD 0) t:=by
  intro is;induction is with
  |nil =>
   intro Ra vs rel e i k w hw;have:=List.map_eq_nil_iff.mp e;subst this;cases rel;cases hw
  |cons x is ih =>
   intro Ra vs rel e i k w hw;cases rel with
   |nil=>cases e
   |cons a b =>
    rw[am,am] at e;obtain⟨e1,e2⟩:=im e;cases i with
    |zero =>
     cases hw;have:=a.2;rw[e1] at this;obtain⟨t,rfl⟩:=this;exact⟨t,rfl⟩
    |succ i=>exact ih b e2 i k w hw
 have Re:vs.length=is.length:=by
  have h1:=rel.length;have h2:=congrArg cE hi
  grind
 have TY:d<s.heap.objs.size:=by obtain⟨o,_,_,ho,_⟩:=dd;exact aw ho
 refine call_sum_walkG (wpAny_pyIter_values ⟨_,hov,rfl,rfl⟩ RT ?_);refine⟨s.heap.objs.size,_,_,vs.length,_,_,λi=>(is[i]?).getD 0,rfl,Walks.dictValues (show X.A.in1.handled=Zb from I.ok.hd hc) s.heap.objs.size d (ay TY) vs ep,⟨⟨_,aP _ rfl,rfl,rfl⟩,RT.push _⟩,λb hb=>?_,λi w ⟨k,hk⟩=>UF rel hi i k w hk,λh' tk t' hk=>?_⟩
 .rw[iB]
  grind
 .have ps:∀(is:List Int) n,preSum (λi=>(is[i]?).getD 0) n=(is.take n).sum:=by
   intro is n;induction n with
   |zero=>rfl
   |succ n ih =>
    show preSum _ n+(is[n]?).getD 0=_;rw[ih,d6,List.sum_append];cases is[n]?<;>simp
  rw[ps,Re,jj];refine⟨.int _,H,I.kept λb o e=>hk b o ?_ (aj _ e),⟨_,rfl⟩,q⟩;simp[ax];exact ay (aw e)
def Fm(f:XE)(Z:En)(s:N'):Out PV:=(f Z s).bind λv s1=>match Zv s1 v with
 |some l=>match uf (l.map (·.2)) with
  |some is=>.ok (.int is.sum) s1
  |none=>.bad
 |none=>.bad
theorem zu{K:aa}{H:Hp}{m:Mp}{s:N'}:∀{vs:List (Key×V)}{l:List (Key×PV)},Ya K H m s vs l->X7 K H m s (vs.map (·.2)) (l.map (·.2))
 |_,_,.nil=>.nil
 |_,_,.cons a b=>.cons a (zu b)
def Oa(ho:DE X CB E a f)(hc:X.calm=true:=by rfl)(hg:Gl X "sum":=by rfl)(hm:X.mg "sum"=none:=by assumption)(RG:cz a "values" X.env (eval a X.env)=eval a X.env:=by rfl)(RE:(Rc.endLine==Rb.line)=true:=by rfl)(hs:ar [Expr.Call (.Attribute a "values" Rc) [] [] Rb] X.env=(false,eval (Expr.Call (.Attribute a "values" Rc) [] [] Rb) X.env)::ar [] X.env:=by rfl)(Rq:(bM pos (ar [] X.env)).any (·.1)=false:=by rfl):DE X CB E (.Call (.Name "sum" p) [.Call (.Attribute a "values" Rc) [] [] Rb] [] pos) (Fm f) :=
 ⟨(pF (IX hc) hg hm LV (mK (M8 ho.pe RG RE) Yc hs) (Zf rfl) (Zf rfl) hs Rq).mono λO H Q=>oE λZ s m er S P=>⟨Z,s,m,er,S,P.bind λv s1 u H1 m1 e1 S1 r1 P1=>by
  split at P1
  .rename_i l hl;split at P1
   .rename_i is hi;obtain⟨d,vs,rfl,hd,rr⟩:=r1.dc S1 hl;have e:=yh (zu rr) hi;refine⟨d,vs,rfl,hd,λw hw=>?_⟩;have kk:=My.sS (o:=fzO (DK d)) hw;exact⟨w,d,vs,is,rfl,mw,hd.same kk,e,P1 _ _ _ (.same kk) (S1.same kk) .int⟩
   .exact P1.elim
  .exact P1.elim⟩⟩
end
def Jl(K:aa)(C:ag):Bool:=match K.lookup C with
 |some ⟨ct,_,.cls cd,sl⟩=>ct==.type "type"&&(match cd.mro,sl.toList with
  |.ref C'::bm,[_,_,_,_,Za (.builtin n),_]=>C'==C&&n=="ValueError.__new__"&&!cd.hasDel&&jq K ų bm&&cd.hasDict
  |_,_=>false)
 |_=>false
structure Ew(K:aa)(C Zi f:ag):Prop where
 ex:Jl K C=true
 init:aI K (.ref C) "__init__"=Za (Za (.ref f))
 fn:PySem.W.typeIn K (.ref f)=Za (.type "function")
 me:bS K C (.ref C)=Za true
 mo:(PySem.W.clsIn K C).map (·.mro)=Za (.ref C::.ref Zi::ų)
 hd:cG K C=true
 sa:aI K (.ref C) "__setattr__"=Za (Za (.builtin "object.__setattr__"))
 gr:aI K (.ref C) "group"=Za Zb
 ga:cM K (.ref Zi) "__getattribute__"=Za (Za (.builtin "type.__getattribute__"))
 rd:lU K Zi (.type "type")=true
 kw:bV K (.ref C)=true
 fi:lV K (.ref Zi) (.type "type") "__init__"=Za (.val (.builtin "ValueError.__init__"))
def Ew.ob{K:aa}{C Zi f:ag}(Zj:Ew K C Zi f):∃dd cd sl,K.lookup C=Za ⟨.type "type",dd,.cls cd,sl⟩:=by
 have z:=Zj.ex;unfold Jl at z;split at z
 .rw[cJ] at z;cases eq_of_beq z.1;exact⟨_,_,_,‹_›⟩
 .cases z
def Ew.obj{K:aa}{C Zi f:ag}{h:bc}(Zj:Ew K C Zi f)(X:K.In h):∃bm N nm q bs sn sub ab col dd k0 k1 k2 k3 k5,
  h.get? C=Za (kq nm q C N bs bm true sn sub ab col dd k0 k1 k2 k3 k5 "ValueError.__new__")/\OwnTail h ų bm:=by
 have z:=Zj.ex;unfold Jl at z;split at z
 case h_2=>cases z
 case h_1 ct ddv Rk slv lk =>
  rw[cJ] at z;obtain⟨hct,z⟩:=z;cases eq_of_beq hct;split at z
  case h_2=>cases z
  case h_1 D bm a0 a1 a2 a3 nw a5 em es =>
   have z':((((D=C/\nw="ValueError.__new__")/\Rk.hasDel=false)/\jq K ų bm=true)/\Rk.hasDict=true):=by
    simp_all
   obtain⟨⟨⟨⟨eD,eN⟩,TY⟩,tl⟩,hd⟩:=z';rcases Rk with⟨c1,c2,c3,c4,c5,c6,c7,c8,c9,X4,c11⟩;subst em TY eD eN hd;have XV:slv=#[a0,a1,a2,a3,Za (.builtin "ValueError.__new__"),a5]:=by
    rcases slv with⟨l⟩
    grind
   subst XV;exact⟨bm,c4,c1,c5,c2,c7,c8,c9,X4,ddv,a0,a1,a2,a3,a5,X _ _ lk,kZ X tl⟩
def Ew.cb{K:aa}{C Zi f:ag}(Zj:Ew K C Zi f):Cb K C:=λX=>by obtain⟨bm,N,nm,q,bs,sn,sub,ab,col,dd,k0,k1,k2,k3,k5,h,T⟩:=Zj.obj X;exact⟨bm,N,nm,q,bs,true,sn,sub,ab,col,dd,k0,k1,k2,k3,k5,h,T⟩
abbrev EG(vs:List ae):Obj:={ cls:=.type "tuple",data:=.seq vs.toArray }
noncomputable abbrev yT(C t:ag):Obj:={ cls:=.ref C,data:=.fields #[.ref t,.none,.none,.none,.bool false,.none] }
section
variable{prog:aK}{w:aT}{A:bX}{E:ae->au->Prop}{h:bc}{g:Array jO}{d:Drawn}{t:Nat}{os:OsState}
variable{nm q:Str}{C N f:ag}{bs bm:List ae}{sn:List Str}{sub:List ae}{ab:Bool}{col:Option Bool}{dd:Option ag}{k0 k1 k2 k3 k5:Option ae}
def KC{rest:List ae}{Q:Fin->au->Prop}(T:OwnTail h ų bm)(hC:h.get? C=Za (kq nm q C N bs bm true sn sub ab col dd k0 k1 k2 k3 k5 "ValueError.__new__"))(hi:eg (model prog w) h (jm (.ref C) "__init__") (Za (.ref f)))(hb:∀self,eg (model prog w) h (bindSpecial (.ref f) self) (.ref f,[self]))(hq:eP (model prog w) A (.call (.ref f) ⟨.ref (h.objs.size+1)::rest,[]⟩) (λr s'=>match r with|.ok (.ret v)=>v=.none/\Q (.done (.ret (.ref (h.objs.size+1)))) s'|.ok _=>False|.error e=>E e s')
   ⟨(h.push (EG rest)).push (yT C h.objs.size),g,d,t,os⟩)(TQ:rest.length<=aG) :
  aO (model prog w) A (Builtin.«type.__call__» ⟨.ref C::rest,[]⟩) Q E ⟨h,g,d,t,os⟩:=by
 have F:=cC
 repeat (first|with_reducible refine cS hC ?_|with_reducible refine wpAny_madeBy_exc hC ?_|wp_step)
 refine codeAny_call_builtin_code (iY _ F.quiet) (wpAny_check_new_subT F T hC ?_);refine codeAny_exc_new_subT F T hC ?_ TQ;show aO _ _ _ _ _ _;have k:∀b o,h.get? b=Za o->((h.push (EG rest)).push (yT C h.objs.size)).get? b=Za o:=λb o e=>aj _ (aj _ e);have hC1:=k _ _ hC;have Ut:((h.push (EG rest)).push (yT C h.objs.size)).get? (h.objs.size+1)=Za (yT C h.objs.size):=by heap_get
 have hcC:(aU C::bm).contains (.ref C)=true:=by simp
 have Xn:=hi.keeps k;have VI:=(hb (.ref (h.objs.size+1))).keeps k;unfold jn
 repeat (first|with_reducible refine cS Ut ?_|(with_reducible refine je hC1 ?_;rw[hcC])|wp_step)
 show aO _ _ (jm (.ref C) _) _ _ _;refine Xn _ _ _ _ (λ_ _ e=>e) ?_;refine cF (af (VI _ _ _ _ (λ_ _ e=>e) ?_));refine af (iI (fM hq λr s' z=>?_));obtain e|(v|_|_|_):=r<;>first|exact z|exact z.elim|skip
 obtain⟨rfl,z⟩:=z
 wp_walk
 exact z
end
section
variable{prog:aK}{w:aT}{A:bX}{E:ae->au->Prop}{s:au}{K:aa}{C Zi f x:ag}{ox:Obj}{v:ae}
def NT(Zj:Ew K C Zi f)(X:K.In s.heap)(hx:s.heap.get? x=Za ox)(hc:ox.cls=.ref C)(hf:ox.data=.fields vs)(hd:ox.dict=Zb)(h:∀h' tk,h'.get? x=Za { ox with dict:=Za s.heap.objs.size }->h'.Ns1 s.heap.objs.size (λy=>if y="group" then Za v else Zb)->(∀b o,b≠x->s.heap.get? b=Za o->h'.get? b=Za o)->Q () { s with heap:=h',toks:=tk }) :
  aO (model prog w) A (setAttr (.ref x) "group" v) Q E s:=by
 have J:PySem.W.InstAt s.heap x ox C none:=⟨hx,hc,by obtain⟨a,b,c,d⟩:=ox;cases hf;rfl,by rw[hd];trivial⟩;obtain⟨cd,R5,hm⟩:=kA.mp Zj.mo;have SF:=PySem.F.store_object;have sub:eg (model prog w) s.heap (jn (.ref x) (.type "object")) true:=J.type.andThen (gB X (by unfold bS;rw[R5,Option.bind_some,hm];rfl));have Xh:eg (model prog w) s.heap (mroOf (.ref C)) (.ref C::.ref Zi::ų):=hm▸(ir X R5).andThen .now;refine lr X J Zj.sa (eL SF.slot.plain SF.entry (@PySem.W.check_slot (model prog w) _ _ _ "object.__setattr__" "object" "__setattr__" (.ref x) [.str "group" s.toks,v] [] _ SF.kind SF.split sub (SF.args (.ref x) (.str "group" s.toks) v) ?_));rw[PySem.W.osa_eq,refuse_eq];refine af (af (J.type.here (s:={ s with toks:=s.toks+1 }) (af (Xh.here (s:={ s with toks:=s.toks+1 }) ?_))));rw[refuseLoop_ref,refuseLoop_ref,PySem.F.store_ValueError.passes];refine aE (af (J.type.here (s:={ s with toks:=s.toks+1 }) (af ((du X Zj.gr).here (s:={ s with toks:=s.toks+1 }) (af (aE ?_))))));refine af (aE ?_);rw[Zd (show ¬(aU C==Value.type "module")=true by intro z;cases z)];apply af;show aO _ _ (instanceDict x true) _ _ _;refine af (kY (hx) ?_);dsimp only;obtain⟨cd',hc1,TF⟩:=lG Zj.hd;rw[hc,hd,hf];refine af ((ir X hc1).here (s:={ s with toks:=s.toks+1 }) ?_);rw[TF,Zd (Zf rfl),Zd (by simp[typeHasDict])];refine af (wpAny_alloc ?_);refine af (wpAny_update (aj _ hx) ?_);have hxs:=ay (aw hx);apply aE;have gx:((s.heap.push bT).update x λo=>{ o with dict:=Za s.heap.objs.size }).get? x=Za { ox with dict:=Za s.heap.objs.size }:=dS _ (aj _ hx) (by obtain⟨a,b,c,d⟩:=ox;cases hf;rfl);have gd:((s.heap.push bT).update x λo=>{ o with dict:=Za s.heap.objs.size }).get? s.heap.objs.size=Za bT:=(dF _ _ _ _ (bU hxs)).trans (aP _ rfl);have nd:((s.heap.push bT).update x λo=>{ o with dict:=Za s.heap.objs.size }).Ns s.heap.objs.size (λ_=>Zb):=⟨_,#[],_,gd,rfl,λe he=>absurd he (by simp),λ_=>rfl⟩;refine af (aE (af (wpAny_nsSet1 (k8 nd) λh' Sg hs=>?_)));obtain⟨oD,esD,epD,Xe,Xv,Xx⟩:=Sg.count (lF "group" v Within.nil);refine af (wpAny_lookBehind Xe (by rw[Xv];exact pastItsLine_dict (aJ Xx (by rw[bw,jF,ko];decide))) ?_);refine aE (h h' _ ((hs.2 x hxs).trans gx) Sg λb o hb e=>?_);exact(hs.2 b (ay (aw e))).trans ((dF _ _ _ _ hb).trans (aj _ e))
end
def Bz(C e:ag):HO:=.ext λh=>∃t,h.get? e=Za (yT C t)
def Ht(C e dx:ag):HO:=.ext λh=>∃t,h.get? e=Za { yT C t with dict:=Za dx }
def Hu(x:h.get? e=Za (yT C t)):YE P w H h e (Bz C e):=⟨⟨t,x⟩,⟨_,x⟩,λ_ _ ⟨t,q⟩ k=>⟨t,k _ q⟩⟩
def NV(x:h.get? e=Za { yT C t with dict:=Za dx }):YE P w H h e (Ht C e dx):=⟨⟨t,x⟩,⟨_,x⟩,λ_ _ ⟨t,q⟩ k=>⟨t,k _ q⟩⟩
section
variable{X:Cx}{C Zi f:ag}{x:Str}{np Rc pos Rm:Pos}{e1 e2 o Ri:a7}{ta:TA}{ts tv:TE}
def MH(C:ag)(t:TA):TE:=λO H Q=>t O H λvs H1=>∃e y,vs=[.ref e,y]/\H1 e=Za (Bz C e)/\∀H2:Hp,(∀a u,H1 a=Za u->H2 a=Za u)->Q .Yh H2
def Im(Zj:Ew X.K C Zi f)(hg:Gl X x)(hm:X.mg x=Za (.ref Zi))(ha:PA X [e1,e2] ta)(hd:Î x:=by decide)(RW:ar [e1,e2] X.env=(false,eval e1 X.env)::ar [e2] X.env:=by rfl)(Rq:(bM pos (ar [e2] X.env)).any (·.1)=false:=by rfl)(ht:eval (.Call (.Attribute (.Name x np) "__init__" Rc) [e1,e2] [] pos) X.env=(do
   let ov <-eval (.Name x np) X.env
   fL Rc.atName
   let(f,first) <-holding [ov] (fE ov "__init__" pl)
   ip pos f first (bM pos (ar [e1,e2] X.env)) (ed pos (cI [] X.env))):=by rfl) :
  PE X (.Call (.Attribute (.Name x np) "__init__" Rc) [e1,e2] [] pos) (MH C ta):=by
 refine λQ9 s O H Q I h=>gT (pl:=pl) (rj I hg hm ?_ hd) ht;refine PySem.W.method_cls I.ZE Zj.ga (PySem.W.cls_value I.ZE Zj.rd Zj.fi rfl ?_);refine iD (Yq (ha pos Q9 _ O H _ (I.tok _) h) λus s2=>e4 λvs H1 I1 r ⟨e,y,ev,he,q⟩=>?_) RW Rq;subst ev;obtain⟨bm,N,nm,qn,bs,sn,sub,ab,col,dd,k0,k1,k2,k3,k5,hC,T⟩:=Zj.obj I1.ZE;cases r with
 |cons r1 r=>cases r with
  |cons r2 r =>
   cases r;obtain rfl:=(show _=aU e from r1);rename_i u2;obtain⟨⟨t,hx⟩,-⟩:=I1.Ye e _ he;have F:=cC;obtain⟨hh,g,d,tk,os⟩:=s2;refine iI (eL F.init.plain F.initEntry (wpAny_check_init_subT F T hC hx rfl ?_));unfold Builtin.«BaseException.__init__»;dsimp only;rw[Zd (by simp)];unfold newTuple lL;have Wb:=aj (h:=hh) (EG [u2]) hx;have nf:∀b u,hh.get? b=Za u->(hh.push (EG [u2])).get? b=Za u:=λb u q=>aj _ q;have Vb:e≠hh.objs.size:=ay (aw hx);refine af (dC (af (af (kn (x:=.ref t) Wb rfl rfl (af (wpAny_setField Wb rfl (show 0<6 by decide) ?_))))) (by show 1<=aG;decide));refine wpAny_letGo (aE ⟨.Yh,upd (upd H1 hh.objs.size (.tup [y])) e (Bz C e),?_,rfl,q _ ?_⟩)
   .have I2:=I1.laid (a:=hh.objs.size) (o:=.tup [y]) (h':=hh.push (EG [u2])) (t':=tk) nf (ak _) ⟨by show 1<=aG;decide,[u2],.cons r2 .nil,_,aP _ rfl,rfl,_,rfl⟩;have UT:upd H1 hh.objs.size (.tup [y]) e=Za (Bz C e):=by rw[mq Vb];exact he
    refine I2.write (x:=e) (e:=e) (o:=Bz C e) (t':=tk) (by rw[UT];trivial) (.inl rfl) (λb u hb q=>(dF _ _ _ _ hb).trans q) ⟨_,dS _ Wb rfl⟩ ?_;exact Hu (t:=hh.objs.size) (dS _ Wb rfl)
   .intro a u q;by_cases h1:a=e
    .subst h1;rw[mw];rw[he] at q;exact q
    .rw[mq h1,mq (λz=>by subst z;rw[I1.fresh] at q;cases q)];exact q
def Pn(C:ag)(tv ts:TE):TS:=λD O H=>tv O H λy H1=>ts O H1 λx H2=>∃e,x=.ref e/\H2 e=Za (Bz C e) /\
 ∀(dx:ag)(H3:Hp),H2 dx=Zb->(∀a u,a≠e->H2 a=Za u->H3 a=Za u)->H3 e=Za (Ht C e dx)->H3 dx=Za (.xd [("group",y)])->D.nx O H3
def JS(Zj:Ew X.K C Zi f)(ha:PE X o ts)(hv:PE X Ri tv)(hs:cN Ri (Za (.Attribute o "group" Rm)) pos.line X.env=pure false:=by rfl):PS X (.Assign [.Attribute o "group" Rm] Ri pos) (Pn C tv ts):=by
 refine λQ9 s O H D I h=>jT (Yq (hv Q9 s O H _ I h) λu s1=>e4 λy H1 I1 ry q=>Yq (ha Q9 s1 O H1 _ I1 q) λov s2=>e4 λx H2 I2 rx ⟨e,ex,he,q2⟩=>?_) hs;subst ex;obtain rfl:ov=aU e:=rx;obtain⟨⟨t,hx⟩,_⟩:=I2.Ye e _ he;have Vb:=ay (aw hx);refine NT Zj I2.ZE hx rfl rfl rfl λh' tk g1 g2 k=>?_;have gm:(h'.update e λ_=>yT C t).get? e=Za (yT C t):=dS _ g1 rfl;have I3:=I2.laid (o:=.xd [("group",y)]) (h':=h'.update e λ_=>yT C t) (t':=tk) (λb u q=>by
  by_cases hb:b=e
  .grind
  .exact(dF _ _ _ _ hb).trans (k b u hb q)) (ak _) ⟨_,g2.at λo q=>(dF _ _ _ _ (bU Vb)).trans q,λf=>by
  rw[cB];by_cases hf:f="group"
  .subst hf;rw[Zc rfl];simp[BEq.rfl];exact ry
  .rw[Zd hf,show(f=="group")=false from by simpa using hf];trivial⟩
 have he3:upd H2 s2.heap.objs.size (.xd [("group",y)]) e=Za (Bz C e):=by rw[mq Vb];exact he
 have I4:=I3.write (t':=tk) (by rw[he3];trivial) (.inl rfl) (λb u hb q=>by have q:=q;rw[dF _ _ _ _ hb] at q;exact q) ⟨_,g1⟩ (NV g1)
 refine⟨O,_,I4,q2 s2.heap.objs.size _ I2.fresh (λa u hae q=>?_) mw ?_⟩
 .rw[mq hae,mq (λz=>by subst z;rw[I2.fresh] at q;grind)];exact q
 .rw[mq (bU Vb),mw]
end
section
variable{X:Cx}{C Zi f:ag}{k:Nat}{fd:cg}{ps:List Str}{sp:Sp}{x:Str}{np Rb pos:Pos}{e:a7}{t:TA}{E:XK}
def Ih{Q9:List (ag×Obj)}{O:St}{H:Hp}{s:au}{Q:ag->Hp->Prop}{us:List ae}{vs:List V}(Zj:Ew X.K C Zi f)(F:Yt X.prog X.w X.K X.mg X.base (YW X.prog X.w) k f fd ps sp)(hr:Yp (k+1) X.A)(hb:Binds X.K fd ps [])(I:Inv X Q9 O H s)(r:Vals vs us)(hz:us.length<=aG)(h:∀a b,H a=Zb->H b=Zb->a≠b->sp (.ref a::vs) (upd (upd H b (.tup vs)) a (Bz C a)) (λv H2=>v=.Yh/\Q a H2) E0) :
  aO (model X.prog X.w) X.A (call (.ref C) us) (λv s'=>∃a H2,v=.ref a/\(∀b o,s.heap.get? b=Za o->b≠a)/\Inv X Q9 O H2 s'/\Q a H2) X.xe s:=by
 have n1:H (s.heap.objs.size+1)=none:=I.Ye.fresh (fb _);have hq:=h (s.heap.objs.size+1) s.heap.objs.size n1 I.fresh (fB (ci _));obtain⟨bm,N,nm,qn,bs,sn,sub,ab,col,dd,k0,k1,k2,k3,k5,hC,T⟩:=Zj.obj I.ZE;have e2:((s.heap.push (EG us)).push (yT C s.heap.objs.size)).get? (s.heap.objs.size+1)=Za (yT C s.heap.objs.size):=by have:=aP (s.heap.push (EG us)) (o:=yT C s.heap.objs.size) rfl;rwa[iB] at this
 have I1:=I.laid (a:=s.heap.objs.size) (o:=.tup vs) (h':=s.heap.push (EG us)) (t':=s.toks) (λb u q=>aj _ q) (ak _) ⟨by rw[r.length];exact hz,us,r,_,aP _ rfl,rfl,_,rfl⟩;have I2:=I1.laid (a:=s.heap.objs.size+1) (o:=Bz C (s.heap.objs.size+1)) (h':=(s.heap.push (EG us)).push (yT C s.heap.objs.size)) (t':=s.toks) (λb u q=>aj _ q) (ji (iB _ _)) (Hu e2);have r2:Vals (V.ref (s.heap.objs.size+1)::vs) (aU (s.heap.objs.size+1)::us):=.cons rfl r;have hl:(aU (s.heap.objs.size+1)::us++[]).length=ps.length:=by have e:=r2.length;rw[F.len _ _ _ _ hq] at e;rw[bW];exact e.symm
 have f1:=tc_lookup;have f2:=tc_bind (.ref C);have old:∀b o,s.heap.get? b=Za o->b≠s.heap.objs.size+1:=λb o e=>ay (cj (aw e));have hi:=du (M:=model X.prog X.w) I.ZE Zj.init;have hbf:=λself=>lW (M:=model X.prog X.w) I.ZE self Zj.fn;have run:=F.run _ X.stack _ _ ⟨aU (s.heap.objs.size+1)::us,[]⟩ (aU (s.heap.objs.size+1)::us) _ _ E0 (hr.make C us []) (I2.Àb.make C us []) (by have:=hb _ (aU (s.heap.objs.size+1)::us) I2.ZE hl;rwa[bW] at this) r2 hq;obtain⟨hh,g,d,tk,os⟩:=s;have hT:(⟨hh,g,d,tk,os⟩:au).TypeIs (.ref C) "type":=⟨_,hC,rfl⟩;refine iI (codeAny_of_tree ?_);show aO _ _ (callAny (.ref C) _) _ _ _
 repeat (any_goals (first|assumption|with_reducible refine cS hC ?_|wp_step))
 refine⟨rfl,?_⟩;refine codeAny_call_builtin_at (iY _ (by decide +kernel)) entry_typeCall (wpAny_check_type_call_sub hC (KC T hC hi hbf (fM run λr s' z=>?_) hz));cases r with
 |error e=>exact rW Q9 O _ _ e s' I2 z
 |ok fl =>
  cases fl with
  |ret u =>
   obtain⟨v,H',I3,rv,rfl,q3⟩:=I2.after z;exact⟨rv,⟨_,H',rfl,old,I3,q3⟩⟩
  |next=>exact bo z
  |brk=>exact bo z
  |cont=>exact bo z
def DJ(X:Cx)(E:XK):Prop:=∀(Q9:List (ag×Obj))(O:St)(H:Hp)(s:au)(a C dx:ag),Inv X Q9 O H s->H a=Za (Ht C a dx)->(∀b o,X.Y0.heap.get? b=Za o->b≠a)->E (.ref C) (Za dx) (λb=>if b=a then Zb else H b)->X.xe (.ref a) s
def MF(C:ag)(sp:Sp)(E:XK)(t:TA):TS:=λ_ O H=>t O H λvs H1=>vs.length=1/\∀a b,H1 a=Zb->H1 b=Zb->a≠b ->
 sp (.ref a::vs) (upd (upd H1 b (.tup vs)) a (Bz C a)) (λv H2=>v=.Yh/\∃dx,H2 a=Za (Ht C a dx)/\E (.ref C) (Za dx) (λb=>if b=a then Zb else H2 b)) E0
def Ii(Zj:Ew X.K C Zi f)(F:Yt X.prog X.w X.K X.mg X.base (YW X.prog X.w) k f fd ps sp)(hb:Binds X.K fd ps [])(hr:Yp (k+1) X.A)(hg:Gl X x)(hm:X.mg x=Za (.ref C))(hc:X.calm=true)(Uv:X.ex=[])(hp:DJ X E)(ha:PA X [e] t)(hd:Î x:=by decide)(he:ar [e] X.env=(false,eval e X.env)::ar [] X.env:=by rfl)(Rq:(bM Rb (ar [] X.env)).any (·.1)=false:=by rfl) :
  PS X (.Raise (Za (.Call (.Name x np) [e] [] Rb)) Zb pos) (MF C sp E t):=by
 intro Q9 s O H D I h;rw[arm_exec_Raise];refine af (ej ?_);show aO _ _ (raiseStmt X.env (Za (do let v <-eval (.Call (.Name x np) [e] [] Rb) X.env;fL pos;pure v)) Zb) _ _ _;unfold raiseStmt;have ev:aO (model X.prog X.w) X.A (eval (.Call (.Name x np) [e] [] Rb) X.env) (λv s'=>∃a H2,v=.ref a/\(∀b o,X.Y0.heap.get? b=Za o->b≠a)/\Inv X Q9 O H2 s'/\∃dx,H2 a=Za (Ht C a dx)/\E (.ref C) (Za dx) (λb=>if b=a then Zb else H2 b)) X.xe s:=by
  refine dg (rj I hg hm ?_ hd);refine eM (h₀:=X.base) I.ok.mod.kin Zj.kw (Yq (ha Rb Q9 s O H _ I h) λus s1=>e4 λvs H1 I1 r ⟨hl,q⟩=>⟨I1.ZE,?_⟩) he Rq;refine Yq (Ih (Q:=λa H2=>∃dx,H2 a=Za (Ht C a dx)/\E (.ref C) (Za dx) (λb=>if b=a then Zb else H2 b)) Zj F hr hb I1 r ?_ q) λv s2 ⟨a,H2,e1,e2,I2,q2⟩=>⟨a,H2,e1,λb o eb=>?_,I2,q2⟩
  .rw[eS,<-r.length,hl];decide
  .obtain⟨o',e'⟩:=I1.base.there b o eb (by rw[Uv];simp);exact e2 b o' e'
 refine af (af (a6 ev (λv s1 h1=>af (ej (aE ?_))) λ_ _ z=>z));obtain⟨a,H2,rfl,old,I2,dx,ha2,hE⟩:=h1;have xx:=hp Q9 O H2 s1 a C dx I2 ha2 old hE;obtain⟨bm,N,nm,qn,bs,sn,sub,ab,col,dd,k0,k1,k2,k3,k5,hC,T⟩:=Zj.obj I2.ZE;obtain⟨⟨t',hx⟩,-⟩:=I2.Ye a _ ha2;have Xy:(aU C::bm).contains (.type "BaseException")=true:=by rw[ma,T.hasType cC.hasBase,Bool.or_true]
 have hh:=I2.ok.hd hc;obtain⟨SU,g,d,tk,os⟩:=s1
 repeat (first|with_reducible refine cS hx ?_|with_reducible refine cS hC ?_|(with_reducible refine je hC ?_;rw[Xy])|wp_step)
 exact wpAny_raiseNew_none hh xx
end
section
variable{P:aK}{w:aT}{K:aa}{mg:Str->Option ae}{base:bc}{N:List Str}{qual:Str}{scope:di}{f:ag}{cd:ae}{A:bX}{outer:List Env}{Y0:au}{Ha0:Hp}{E:XK}
def Án:DJ (DB (YW P w) P w K mg base N qual scope f cd A outer Y0 Ha0 E) E:=by
 intro Q9 O H s a C dx I ha À8 hE;have ņ:s.heap.FunFrames base (dZ qual scope Y0.heap.objs.size f cd::outer):=I.stack;let l:List ag:=a::Zt (dZ qual scope Y0.heap.objs.size f cd::outer);have RF:∀env∈(dZ qual scope Y0.heap.objs.size f cd::outer),∀b,env.frame=Za b->b∈l:=λenv he b hb=>ah _ (gw.mpr ⟨env,he,hb⟩);have VY:∀b o,s.heap.get? b=Za o->b∉l->(dJ s.heap l).get? b=Za o:=λb o e n=>iu l e n;have ub:Un (Zt outer) [] Ha0 H Y0.heap s.heap:=I.base;obtain⟨⟨t,hx⟩,-⟩:=I.Ye a _ ha;have Ub:∀b u,H b=Za u->b≠a->b∉l:=λb u e nb z=>by
  obtain z|z:=ao.mp z
  .exact nb z
  .rw[I.ó b z] at e;cases e
 have RQ:∀b o,Y0.heap.get? b=Za o->b∉Zt outer->b∉l:=λb o e n z=>by
  obtain z|z:=ao.mp z
  .exact À8 b o e z
  .obtain z|z:=Hi (L:=Y0.heap.objs.size) rfl z
   .exact ay (aw e) z
   .exact n z
 have aB:(dJ s.heap l).get? a=none:=kG l al;refine a6 (ć.any (wpAny_leaving_firstW (Q:=λ_ s2=>∃h',s2={ s with heap:=h' }/\Heap.LeftW (dJ s.heap l) (dZ qual scope Y0.heap.objs.size f cd::outer) a (.ref C) (.ref t) s.heap h') (L:=Y0.heap.objs.size) (a0:=.ref t) (I.ok.frames) (ke ņ RF) rfl hx (λb o e=>iK l e) aB rfl rfl rfl λh' hL=>⟨h',rfl,hL⟩)) (λ_ s2 ⟨⟨h',z,hL⟩,ds⟩=>?_) λ_ _ z=>z;subst z;obtain⟨k1,⟨_,_,k2⟩,k3,up⟩:=hL;have dk:Dk h' a (Za dx):=Dk.go (λ_ z=>by cases z;exact⟨_,hx,rfl⟩) ds (k3.at.there.imp λ_ z=>z.1);have RX:∀b o,s.heap.get? b=Za o->b∉l->h'.get? b=Za o:=λb o e n=>k1 b o (VY b o e n);have frame:∀b o,s.heap.get? b=Za o->b∈Zt (dZ qual scope Y0.heap.objs.size f cd::outer)->∃sl,h'.get? b=Za { o with slots:=sl }:=λb o e hb=>by obtain⟨_,o3,e3,Te⟩:=ņ.mem hb;rw[e] at e3;cases e3;exact up b o e Te
 refine⟨a,C,.ref t,dJ s.heap l,λb=>if b=a then Zb else H b,Za dx,rfl,I.os,I.bare,⟨λb o e n hb _=>?_,λb o e n hb _=>?_,λb o e n _=>?_,λb o e _=>?_,λb xs e=>?_,λb o u e=>?_,λb ps e=>?_⟩,λb u e=>?_,⟨k1,aB,k2,k3⟩,λb u o e q=>?_,λb o e n=>?_,dk,hE⟩
 .exact RX b o (ub.keep b o e n hb (by simp)) (RQ b o e hb)
 .obtain⟨sl,e1⟩:=ub.slot b o e n hb (by simp);obtain⟨U6,e2⟩:=frame b _ e1 (zS rfl hb);exact⟨U6,e2⟩
 .show(if b=a then Zb else H b)=Zb;split
  .rfl
  .exact ub.free b o e n (by simp)
 .obtain⟨o1,e1⟩:=ub.there b o e (by simp);by_cases hb:b∈Zt (dZ qual scope Y0.heap.objs.size f cd::outer)
  .obtain⟨U6,e2⟩:=frame b _ e1 hb;exact⟨_,e2⟩
  .exact⟨o1,RX b o1 e1 λz=>(ao.mp z).elim (À8 b o e) hb⟩
 .have:=ub.Á b xs e;show(if b=a then Zb else H b)=_;rw[Zd (λz=>by rw[z,ha] at this;cases this)];exact this
 .have:=ub.ZF b o u e;show(if b=a then Zb else H b)=_;rw[Zd (λz=>by rw[z,ha] at this;cases this)];exact this
 .obtain⟨m,this⟩:=ub.Ï b ps e;refine⟨m,?_⟩;show(if b=a then Zb else H b)=_;rw[Zd (λz=>by rw[z,ha] at this;cases this)];exact this
 .have e:(if b=a then Zb else H b)=Za u:=e;by_cases hb:b=a
  .rw[Zc hb] at e;cases e
  .rw[Zd hb] at e;have ne:∀c v,H c=Za v->v≠Ht C a dx->c≠a:=λc v q n z=>by rw[z,ha] at q;exact n (bL q).symm
   refine(I.Ye b u e).Ð (λc v hc q=>?_) (λc q=>?_) λc xs q=>?_
   .obtain z|z:=hc
    .subst z;exact RX _ v q (Ub _ u e hb)
    .exact RX c v q (Ub c _ z (ne c _ z (by intro z;cases z)))
   .show(if c=a then Zb else H c)=_;rw[Zd (ne c _ q (by intro z;cases z))];exact q
   .show(if c=a then Zb else H c)=_;rw[Zd (ne c _ q (by intro z;cases z))];exact q
 .have e:(if b=a then Zb else H b)=Za u:=e;by_cases hb:b=a
  .rw[Zc hb] at e;cases e
  .rw[Zd hb] at e;obtain⟨o1,q1⟩:=(I.Ye b u e).there
   grind
 .obtain⟨o1,e1⟩:=ub.there b o e (by simp);exact⟨o1,RX b o1 e1 (RQ b o e n),VY b o1 e1 (RQ b o e n)⟩
end
section
variable{prog:aK}{w:aT}{A:bX}{E:ae->au->Prop}{s:au}{K:aa}{x C dx:ag}{ox:Obj}{vs:Array ae}{mA:Str->Option ae}{v:ae}
open PySem.W Builtin Builtin.ObjectAttr in
def IS{TJ:Bool}{Q:ae->au->Prop}(Zj:Ϥ K C)(gr:aI K (.ref C) "group"=Za Zb)(hd:cG K C=true)(X:K.In s.heap)(hx:s.heap.get? x=Za ox)(hc:ox.cls=.ref C)(hf:ox.data=.fields vs)(hk:ox.dict=Za dx)(n:s.heap.Ns1 dx mA)(hv:mA "group"=Za v)(hh:ka v=true)(h:Q v { s with toks:=s.toks+1 }):aO (model prog w) A (getAttr (.ref x) "group" TJ) Q E s:=by
 obtain⟨od,ho,hl⟩:=Cj n;have J:InstAt s.heap x ox C (Za od):=⟨hx,hc,by obtain⟨a,b,c,d⟩:=ox;cases hf;rfl,by rw[hk];exact ho⟩;obtain⟨hp,g,d,t,os⟩:=s;have L0:=J.type (M:=model prog w);have L1:=du (M:=model prog w) X Zj.ga;have L2:=du (M:=model prog w) X Zj.gt;have L3:=looks_find (M:=model prog w) X J (findObj_own hd gr rfl (by rw[hl,hv]));have LB:eg (model prog w) hp (jn (.ref x) (.type "BaseException")) true:=L0.andThen (gB X Zj.mb);have pk:hp.get? x=Za ox/\True:=⟨hx,trivial⟩;clear J hx ho n;have cls:∀{A:bX}{tk:Tok}{R:ju->au->Prop},R (.ok (.ret v)) ⟨hp,g,d,t+1,os⟩->eP (model prog w) A (.call (.builtin "BaseException.__getattribute__") ⟨[.ref x,.str "group" tk],[]⟩) R ⟨hp,g,d,t+1,os⟩:=by
  intro A tk R hq;have hk:builtinKind "BaseException.__getattribute__"=Za .slot:=by decide +kernel
  have SC:splitId "BaseException.__getattribute__"=Za ("BaseException","__getattribute__"):=by decide +kernel
  have ha:=F.args_bexc_ga (.ref x) (.str "group" tk);apply eL (by decide +kernel) F.entry_bexc_ga;simp[checkBuiltinCall,hk,SC];refine af (LB.at ?_)
  repeat (any_goals (first|assumption|wp_step))
  obtain⟨RT,-⟩:=id pk;refine cS RT (aE ?_);rw[hc];clear RT;refine af (L3.at ?_)
  repeat (any_goals (first|assumption|wp_step))
 have f4:=jv.ga.bind (.ref x);have hx2:(fH "BaseException.__getattribute__"==fH "object.__getattribute__")=false:=by decide +kernel
 unfold getAttr getAttrBy;refine af (wpAny_mkText (cF (af (L0.at (af (L1.at ?_))))));show aO _ _ (iP _ _ _ _ _ _) _ _ _;unfold iP;refine af (L2.at ?_);have z:(TJ&&onTheHeap (fH "BaseException.__getattribute__"))=false:=by cases TJ<;>rfl
 refine af (wpAny_attempt (cF ?_));unfold callGetattribute;rw[z]
 repeat (any_goals (first|assumption|wp_step))
 apply cls;show aO _ _ (handedOut v) _ _ _;rw[handedOut_of hh];exact aE h
end
section
variable{X:Cx}{e:a7}{pos:Pos}{ta:TE}{C:ag}
structure Gc(K:aa)(C:ag):Prop where
 z:Ϥ K C
 g:aI K (.ref C) "group"=Za Zb
 h:cG K C=true
def Âe(C:ag)(ta:TE):TE:=λO H Q=>ta O H λx H1=>∃a dx y,x=.ref a/\H1 a=Za (F7 C a (Za dx))/\H1 dx=Za (.xd [("group",y)])/\Q y H1
def PP(G:Gc X.K C)(he:PE X e ta)(hb:cz e "group" X.env (eval e X.env)=eval e X.env):PE X (.Attribute e "group" pos) (Âe C ta):=by refine λQ9 s O H Q I h=>HI hb (Yq (he Q9 s O H _ I h) λu s1=>e4 λx H1 I1 rx ⟨a,dx,y,ex,ha,hx,q⟩=>?_);subst ex;obtain rfl:u=aU a:=rx;obtain⟨⟨⟨ox,vs,e1,e2,e3⟩,dk⟩,_⟩:=I1.Ye a _ ha;obtain⟨oe,e4,e5⟩:=dk dx rfl;rw[e1] at e4;cases e4;obtain⟨mA,n,r⟩:=I1.Ye dx _ hx;obtain⟨u,hu,ru⟩:=Z0.some_of (r "group");exact IS G.z G.g G.h I1.ZE e1 e2 e3 e5 n hu (Cq ru) ⟨y,H1,I1.tok _,ru,q⟩
end
def spW(K:aa)(C:ag):Sp:=λvs H Q _=>∃a g xs,vs=[.ref a,.ref g]/\H a=Za (Bz C a)/\YO K H g xs /\
 ∀(dx l:ag)(H':Hp),H l=Zb->H dx=Zb->H' a=Za (Ht C a dx)->H' dx=Za (.xd [("group",.ref l)])->H' l=Za (.lst xs)->(∀b u,b≠a->H b=Za u->H' b=Za u)->Q .Yh H'
structure Wh(P:aK)(w:aT)(K:aa)(mg:Str->Option ae)(base:bc)(x:Str)(C:ag)(k:Nat):Prop where
 ex:∃Zi f fd,Ew K C Zi f/\Yt P w K mg base (YW P w) k f fd ["self","group"] (spW K C)/\Binds K fd ["self","group"] []
 g:mg x=Za (.ref C)
def GR(C:ag)(f:XE)(Z:En)(s:N'):SO:=(f Z s).so λv s1=>match YB s1 v with
 |some l=>.ex (C,Za s1.nx) (s1.add (.lst l))
 |none=>.bad
section
variable{X:Cx}{CB:ag}{E:XK}{e:a7}{f:XE}{np Rb pos:Pos}{x:Str}{C:ag}{k:Nat}
def IU(A:Wh X.prog X.w X.K X.mg X.base x C k)(he:DE X CB E e f)(hr:Yp jr X.A:=by assumption)(hk:k+1<=jr:=by first|decide|lia)(hg:Gl X x:=by rfl)(hc:X.calm=true:=by rfl)(Uv:X.ex=[]:=by rfl)(hp:DJ X E:=by exact Án)(hd:Î x:=by decide)(RW:ar [e] X.env=(false,eval e X.env)::ar [] X.env:=by rfl)(Rq:(bM Rb (ar [] X.env)).any (·.1)=false:=by rfl) :
  DS X CB E (.Raise (Za (.Call (.Name x np) [e] [] Rb)) Zb pos) (GR C f):=by
 obtain⟨Zi,fa,fd,Zj,F,hb⟩:=A.ex;exact⟨(Ii Zj F hb (hr.mono hk) hg A.g hc Uv hp (mK he.pe Yc RW) hd RW Rq).mono λD O H=>oE λZ s m er S P=>⟨Z,s,m,er,S,Yo.so P λv s1 u H1 m1 e1 S1 r1 P1=>by
  split at P1
  .rename_i l hl;refine⟨rfl,λa b na nb ne=>?_⟩;obtain⟨g,xs,rfl,sq,rs⟩:=r1.ls S1 hl;have kk:YH H1 (upd (upd H1 b (.tup [.ref g])) a (Bz C a)):=λc o h=>by rw[mq (mH h na),mq (mH h nb)];exact h
   refine⟨a,g,xs,rfl,mw,sq.imp (λz=>z.same kk) id,λdx l' H' nl nd h1 h2 h3 k=>⟨rfl,dx,h1,?_⟩⟩;have k2:YH H1 (λc=>if c=a then Zb else H' c):=λc o h=>by show(if c=a then Zb else H' c)=_;rw[Zd (mH h na)];exact k c o (mH h na) (kk c o h)
   have nu:∀c,upd (upd H1 b (.tup [.ref g])) a (Bz C a) c=Zb->c≠a/\H1 c=none:=λc h=>by
    have h1:c≠a:=λz=>by rw[z,mw] at h;cases h
    rw[mq h1] at h;have h2:c≠b:=λz=>by rw[z,mw] at h;cases h
    rw[mq h2] at h;exact⟨h1,h⟩
   obtain⟨la,nl⟩:=nu _ nl;obtain⟨da,nd⟩:=nu _ nd;have Up:(λc=>if c=a then Zb else H' c) l'=Za (.lst xs):=by
    grind
   obtain⟨S2,e2⟩:=S1.add (c:=.lst l) _ l' [l'] k2 (λc hc=>by rw[ax.mp hc];exact nl) λex=>⟨by rw[Mp.í];exact Zc rfl,xs,by rw[Mp.í];exact Up,rs.ext ex⟩;refine P1 _ _ e2 S2 _ λn hn=>?_;cases hn;refine⟨dx,rfl,?_,ci _,?_⟩
   .rw[Mp.í]
    grind
   .obtain⟨p1,p2⟩:=S1.YC nd;refine⟨p1,λn hn=>?_⟩;show dx∉(if n=s1.nx then [l'] else m1.fp n);split
    .grind
    .rename_i nn;apply p2 n;simp[N'.add] at hn
     grind
  .exact P1.elim⟩⟩
def ÀE(C:ag)(f:XE)(Z:En)(s:N'):Out PV:=(f Z s).bind λv s1=>match v with
 |.exc (c,Za n)=>if c=C then .ok (.ref n) s1 else .bad
 |_=>.bad
def QM(G:Gc X.K C)(he:DE X CB E e f)(hb:cz e "group" X.env (eval e X.env)=eval e X.env:=by rfl):DE X CB E (.Attribute e "group" pos) (ÀE C f) :=
 ⟨(PP G he.pe hb).mono λO H Q=>oE λZ s m er S P=>⟨Z,s,m,er,S,P.bind λv s1 u H1 m1 e1 S1 r1 P1=>by
  split at P1
  .split at P1
   .rename_i hc;subst hc;cases r1 with
    |exc h1 h2 h3 =>
     obtain⟨dx,rfl,h4,h5,_⟩:=h3 _ rfl;exact⟨_,dx,_,rfl,h1,h4,P1.here S1 (.ref h5)⟩
   .exact P1.elim
  .exact P1.elim⟩⟩
end
section
variable{X:Cx}{CB:ag}{E:XK}{iter Rx:a7}{Rt:List a7}{scope:di}{pos px:Pos}{x:Str}{fr:List Str}{ix:List Nat}{g f:XE}{t:XT}
def ww(g:XE)(ix:List Nat)(c:XT)(e:XE)(Z:En)(s:N'):Out PV:=match g Z s with
 |.ok (.ref n) s1=>match s.get n with
  |some (.Yl _)=>match s1.get n with
   |some (.Yl l)=>if l.length<=100000 then(n9 c e (nM ix Z) (l.map λkv=>wn kv.1) (s1.set n (.YR l))).bind λvs s2=>match ſ n s2 with
    |some s3=>.ok (.lst vs) s3
    |none=>.bad else .bad
   |_=>.bad
  |_=>.bad
 |_=>.bad
def KJ(hg:DE X CB E0 iter g)(he:∀cl C Rg Rh fp,DE (Õ X scope cl C (x::fr) Rg Rh fp) CB E0 Rx f)(ht:∀cl C Rg Rh fp,Ŀ (Õ X scope cl C (x::fr) Rg Rh fp) CB Rt t:=by exact λ_ _ _ _ _=>rG)(hc:X.calm=true:=by rfl)(S:Y8 X.N X.env.scope scope x fr ix:=by exact Op ‹K' _ _ _›)(hs:∀v,bI iter X.env v=pure v:=by intro _;rfl):DE X CB E (.ListComp Rx [⟨.Name x px,iter,Rt,0⟩] scope pos) (ww g ix t f) :=
 ⟨(M9 (zB hc S (zy hg.pe) (λcl C Rg Rh fp=>(ht cl C Rg Rh fp).ř) (λcl C Rg Rh fp=>(he cl C Rg Rh fp).pe) hs)).mono λO H Q=>oE λZ s m er S P=>by
  unfold ww at P;split at P
  .rename_i n s1 hf;split at P
   .rename_i l0 Xo;split at P
    .rename_i l hg;split at P
     .rename_i Re;obtain⟨S7,VM,_⟩:=S.ö Xo;have hn:=S.lt n (aq.mpr ⟨_,oa Xo,rfl⟩);have h0:∀l',s.get n≠Za (.YR l'):=λl' z=>by rw[Xo] at z;grind
      refine⟨m.ad n,S7,VM,Z,s,m,er,S,?_⟩;rw[hf];intro u0 H1 m1 e1 S1 r1;have ea1:=e1.ad n hn;cases r1 with
      |ref Xg =>
      obtain⟨vs,h1,hfz⟩:=S1.ö hg;rw[ea1] at h1 hfz ⊢;refine⟨m.ad n,vs,rfl,.inl ⟨h1,λob D hD=>?_⟩⟩;obtain⟨m2,ea,S2,e2,r2⟩:=hfz ob;have Vx:(s1.set n (.YR l)).get n=Za (.YR l):=zp hg;have VR:m2.ad n=m.ad n:=by rw[ea];exact ea1
      apply AC (E:=E0) (t:=t) (f:=f) S2 ((er.ext e1).ext e2) (Mn S2 Vx VR mw r2) hD (by simpa using Re);cases cc:n9 t f (nM ix Z) (l.map λkv=>wn kv.1) (s1.set n (.YR l)) with
      |bad=>rw[cc] at P;exact P.elim
      |ex c' s'=>exact absurd cc vk
      |ok vs2 s2 =>
       rw[cc] at P;intro u2 H3 m3 e3 S3 r3;simp[Out.bind] at P;unfold ſ at P;split at P
       .rename_i s3 h3;split at h3<;>cases h3
        rename_i l2 SK;obtain⟨S9,RI,q1,m4,S4,e4,x4⟩:=SR.ŭ h0 hn ((e1.trans e2).trans e3) S3 SK;exact⟨S9,RI,q1,P u2 _ m4 e4 S4 (r3.Yk x4)⟩
       .exact P.elim
     .exact P.elim
    .exact P.elim
   .exact P.elim
  .exact P.elim⟩
end
section
variable{X:Cx}{CB:ag}{E:XK}{Rx:a7}{Rt:List a7}{scope:di}{pos px py:Pos}{x y:Str}{fr:List Str}{ix:List Nat}{f:XE}{t:XT}
def Ex{i:Nat}{z:Str}{pz RU:Pos}(j:Nat)(he:∀cl C Rg Rh fp,DE (Õ X scope cl C (x::fr) Rg Rh fp) CB E0 Rx f)(ht:∀cl C Rg Rh fp,Ŀ (Õ X scope cl C (x::fr) Rg Rh fp) CB Rt t:=by exact λ_ _ _ _ _=>rG)(hn:X.N.Nodup:=by exact ‹K' _ _ _›.nd)(hz:X.N[i]?=Za z:=by rfl)(hl:X.env.scope.names.lookup z=Za .local:=by rfl)(hc:X.calm=true:=by rfl)(hN:X.N[j]?=Za y:=by rfl)(hv:Vis X.env.scope y:=by first|exact eB rfl|exact gM (eB rfl))(S:Y8 X.N X.env.scope scope x fr ix:=by exact Op ‹K' _ _ _›)(Td:cN (.ListComp Rx [⟨.Name x px,.Name y py,Rt,0⟩] scope pos) (Za (.Name z pz)) RU.line X.env=pure true:=by rfl)(hs:∀v,bI (.Name y py) X.env v=pure v:=by intro _;rfl)(hd:Î y:=by decide)(R5:(y==("__classdict__":Str))=false:=by decide):DS X CB E (.Assign [.Name z pz] (.ListComp Rx [⟨.Name x px,.Name y py,Rt,0⟩] scope pos) RU) (Yd i (yF j ix t f)) :=
 ⟨(G6 (vW hn hz hl hc S (zy (DQ hN hv hd R5)) (λcl C Rg Rh fp=>(ht cl C Rg Rh fp).ř) (λcl C Rg Rh fp=>(he cl C Rg Rh fp).pe) Td hs)).mono λD O H=>oE λZ s m er S P=>by
  unfold Yd yF at P;split at P
  .rename_i n ē;split at P
   .rename_i l hg;split at P
    .rename_i Re;obtain⟨u,hu,ru⟩:=er.at_ j _ ē;cases ru with
     |ref hn =>
     obtain⟨vs,h1,hf⟩:=S.ö hg;refine⟨m.ad n,vs,h1,_,hu,m.ad n,vs,rfl,.inl ⟨h1,λob D hD=>?_⟩⟩;obtain⟨m1,ea,S1,e1,r1⟩:=hf ob;have Vx:(s.set n (.YR l)).get n=Za (.YR l):=zp hg;have VR:m1.ad n=m.ad n:=by rw[ea]
     apply AC (E:=E0) (t:=t) (f:=f) S1 (er.ext e1) (Mn S1 Vx VR mw r1) hD (by simpa using Re);cases cc:n9 t f (nM ix Z) (l.map λkv=>wn kv.1) (s.set n (.YR l)) with
     |bad=>rw[cc] at P;exact P.elim
     |ex c' s'=>exact absurd cc vk
     |ok vs2 s2 =>
      rw[cc] at P;intro u2 H2 m2 e2 S2 r2;simp[Out.bind] at P;unfold ſ at P;split at P
      .rename_i s3 h3;split at h3<;>cases h3
       rename_i l2 SK;obtain⟨S9,RI,q1,m3,S3,e3,x3⟩:=SR.ŭ (λl' z=>by rw[hg] at z;grind) hn (e1.trans e2) S2 SK;exact⟨S9,RI,q1,P _ _ m3 e3 S3 ((er.ext e3).set i (r2.Yk x3))⟩
      .exact P.elim
    .exact P.elim
   .exact P.elim
  .exact P.elim⟩
end
end L2
namespace My
open PySem L2 Fra
section
variable{P:aK}{w:aT}{K:aa}{mg:Str->Option ae}{base:bc}{a:Yg}{f:ag}{fd:cg}
abbrev tE:bK:=oo (top 13) 0
def AY:K' ["self","group"] ["self","group"] (mC tE):=Y5
def Bf(Zj:Ew K a.Zp a.č f)(F:Z' K "__init__" "Whole.__init__" tE f fd)(T:Txt K mg a):Yt P w K mg base (YW P w) 2 f fd ["self","group"] (spW K a.Zp):=by
 refine F.okN AY (λvs H Q E h=>?_) (λRk A outer s H vs Q E hr h=>?_)
 .obtain⟨b,z,xs,rfl,_⟩:=h;rfl
 .obtain⟨e,g,xs,rfl,he,sq,q⟩:=h;refine⟨_,(mT (pN (Im Zj rfl T.ş (mK (pv 0) (mK (xO wu rfl T.ċ Ae (mK (pv 1) Yc)) Yc)))) (mW (JS Zj (pv 0) (xO wu rfl T.ċ Ae (mK (pv 1) Yc))))),?_⟩;refine⟨_,rfl,_,rfl,g,xs,rfl,.inl sq,λl1 n1=>⟨e,_,rfl,by rw[mq (mH he n1)];exact he,λH2 k2=>?_⟩⟩;have k3:=λb u h=>k2 b u (by rw[mq (mH h n1)];exact h);refine⟨_,rfl,g,xs,rfl,.inl (sq.imp (λz=>z.same k3) id),λl2 n2=>⟨_,rfl,e,rfl,by rw[mq (mH (k3 _ _ he) n2)];exact k3 _ _ he,λdx H3 nd k4 h5 h6=>?_⟩⟩;refine q dx l2 H3 ?_ ?_ h5 h6 (k4 l2 _ (λz=>by rw[z,k3 _ _ he] at n2;grind) mw) λb u hb hu=>k4 b u hb (by rw[mq (mH (k3 b u hu) n2)];exact k3 b u hu)
  .cases hl:H l2 with
   |none=>rfl
   |some u=>grind
  .cases hl:H dx with
   |none=>rfl
   |some u =>
    rw[mq (mH (k3 _ _ hl) n2),k3 _ _ hl] at nd;cases nd
noncomputable def nS(a:Yg)(vs:List PV)(s:N'):Out PV:=match vs with
 |[.int n,.int m]=>if 0<m then .ok (.int (aH n m)) s else .bad
 |_=>.bad
def MJ(vs)(H)(Q)(E)(h:YX K a.X8 2 (nS a) vs H Q E):Gs vs H Q E:=by
 obtain⟨_,ps,s,m,r,S,P⟩:=h;unfold nS at P;split at P
 .split at P
  .rename_i hz;cases r with
   |cons r1 r=>cases r with
    |cons r2 r =>
     cases r;cases r1;cases r2;exact⟨_,_,rfl,hz,P.here S .int⟩
  .exact P.elim
 .exact P.elim
structure Yz(K:aa)(mg:Str->Option ae)(a:Yg):Prop where
 T:Txt K mg a
 h:∃h:bc,K.In h/\h.Ns aV mg
def Ø{x}{st}{k}{ps}{sp:Sp}(c:Gf K x st)(Y:Yz K mg a)(o:∀{f:ag}{fd:cg},Txt K mg a->Z' K x x st f fd->Yt P w K mg base (YW P w) k f fd ps sp)(b:Bd x x st ps:=by first|exact bd1|exact bd2|exact bd3|exact bd4|exact bd5|exact bd6|exact bd0):Fn P w K mg base x k ps sp :=
 let⟨_,X,G⟩:=Y.h;c.fn X G (o Y.T) b
variable (P w K mg base a) in abbrev BJ:=Mt P w K mg base a.X8 "person" 4 ["self","name"] (YX K a.X8 2 (vn a))
variable (P w K mg base a) in abbrev Dl:=Mt P w K mg base a.X8 "house" 4 ["self","name","owner","things","mark","loss"] (YX K a.X8 6 (xz a))
variable (P w K mg base a) in abbrev EA:=Mt P w K mg base a.X8 "sale" 4 ["self","house","one","other","share"] (YX K a.X8 5 (wH a))
variable (P w K mg base a) in abbrev uu:=Mt P w K mg base a.X8 "persons" 1 ["self"] (YX K a.X8 1 (pP a))
variable (P w K mg base a) in abbrev o8:=Mt P w K mg base a.X8 "houses" 1 ["self"] (YX K a.X8 1 (om a))
variable (P w K mg base a) in abbrev vN:=Mt P w K mg base a.X8 "shares" 3 ["self","house"] (YX K a.X8 2 (oY a))
variable (P w K mg base a) in abbrev Jc:=Mt P w K mg base a.X8 "of" 3 ["self","house"] (YX K a.X8 2 (L5 a))
variable (P w K mg base a) in abbrev EB:=MkB P w K mg base "Book" a.X8 1 ["self"] (Ld K a.X8)
variable (P w K mg base a) in abbrev sH:=Fn P w K mg base "common_divisor" 1 ["number","other"] (YX K a.X8 2 (nS a))
abbrev tu:bK:=top 42
def AV:K' ["_law_cell","_law_k","_law_number_here"] ["_law_cell","_law_k"] (mC tu):=Y5
def wo(a:Yg):XS:=(X6 (Yd 2 (x2 (x2 (x2 (x2 (x2 (x2 (j' 0) (j' 0) F6) (x2 (xC (.int 3)) (j' 0) Yr) YG) (x2 (xC (.int 7919)) (j' 1) Yr) YG) (xC (.int 1)) YG) (xC (.int 48271)) Yr) (xC (.int 2147483629)) ZZ)) (YA (x2 (x2 (x2 (j' 2) (j' 2) Yr) (xC (.int 7)) YG) (xC (.int 2147483587)) ZZ)))
def qR(a:Yg):XF:=(ZG 3 (wo a))
variable (P w K mg base a) in abbrev tN:=Fn P w K mg base "_law_mixed" 1 ["_law_cell","_law_k"] (YX K a.X8 2 (qR a))
def Bm(Y:Yz K mg a)(c:Gf K "_law_mixed" tu):tN P w K mg base a :=
 Ø c Y λT F=>og F AV rfl λ_ _ _ _ _ _ hr S=>(ms (mQ 2 (wC (nL (oA (oA (oA (Oe (mf 0) (mf 0)) (nL mD (mf 0))) (nL mD (mf 1))) mD) mD) mD)) (mG (m8 (wC (oA (nL (mf 2) (mf 2)) mD) mD))))
abbrev tf:bK:=top 43
def AT:K' ["_law_script","_law_cells","_law_number_here","_law_k"] ["_law_script"] (mC tf):=Y5
def qW(a:Yg) :XS:=(Yd 2 (x2 (x2 (j' 2) (xC (.int 2147483587)) Yr) (V' 2 (qR a) (F' (x2 (j' 1) (x2 (j' 3) (xB (F' (j' 1) J') ZH) ZZ) Yb) (F' (j' 3) J'))) YG))
def tG(a:Yg):XS:=(X6 (Yd 1 (x2 (Ϧ (j' 0) Ę (Ì (xC (.int 63)))) (ç (F' (xC (.int 0)) J')) YG)) (X6 (Yd 2 (xC (.int 1))) (X6 (À (Zl (F' (xC (.int 64)) J')) (X9 3) (qW a)) (X6 (å (YJ (x2 (xB (F' (x2 (j' 1) (xC (.int 0)) Yb) J') ĝ) (x2 (xC (.int 10)) (xC (.int 18)) á) fGe)) (YA (ġ (F' (xB (F' (x2 (j' 1) (xC (.int 0)) Yb) J') ĝ) (F' (j' 2) J')))) Y') (YA (ġ (F' (j' 2) (F' (j' 2) J'))))))))
def pU(a:Yg):XF:=(ZG 4 (tG a))
variable (P w K mg base a) in abbrev tL:=Fn P w K mg base "_law_purse" 2 ["_law_script"] (YX K a.X8 1 (pU a))
def Bk(Y:Yz K mg a)(c:Gf K "_law_purse" tf)(A0:tN P w K mg base a):tL P w K mg base a :=
 Ø c Y λT F=>og F AT rfl λ_ _ _ _ _ _ hr S=>(ms (mQ 1 (oA (Jm (mf 0) zW (zV mD)) (wD (mB mD)))) (ms (mQ 2 mD) (ms (rb (qw (mB mD)) (m9 3) (mG (mQ 2 (oA (nL (mf 2) mD) (mX A0 (mE (mR (mf 1) (wC (mf 3) (nG Zy (mB (mf 1))))) (mB (mf 3)))))))) (ms (rn (pf ÁQ (nG ð (mB (mR (mf 1) mD))) (BE mD mD)) (mG (m8 (z5 (mE (nG ð (mB (mR (mf 1) mD))) (mB (mf 2)))))) ot) (mG (m8 (z5 (mE (mf 2) (mB (mf 2))))))))))
abbrev uF:bK:=top 44
def CW:K' ["_law_purse_here","_law_out_of","_law_drawn"] ["_law_purse_here","_law_out_of"] (mC uF):=Y5
def uO(a:Yg):XS:=(X6 (å (YJ (x2 (x2 (j' 0) (xC (.int 0)) Yb) (xC (.int 0)) Ô)) (û (j' 0) (xC (.int 0)) (x2 (j' 0) (xC (.int 1)) Yb)) Y') (X6 (Yd 2 (x2 (x2 (j' 0) (xC (.int 0)) Yb) (j' 1) ZZ)) (X6 (û (j' 0) (xC (.int 0)) (x2 (x2 (j' 0) (xC (.int 0)) Yb) (j' 1) Å)) (YA (j' 2)))))
def mP(a:Yg):XF:=(ZG 3 (uO a))
variable (P w K mg base a) in abbrev oR:=Fn P w K mg base "_law_draw" 1 ["_law_purse_here","_law_out_of"] (YX K a.X8 2 (mP a))
def Db(Y:Yz K mg a)(c:Gf K "_law_draw" uF):oR P w K mg base a :=
 Ø c Y λT F=>og F CW rfl λ_ _ _ _ _ _ hr S=>(ms (rn (pf CH (mR (mf 0) mD) mD) (mG (BB (mf 0) mD (mR (mf 0) mD))) ot) (ms (mQ 2 (wC (mR (mf 0) mD) (mf 1))) (ms (BB (mf 0) mD (uk (mR (mf 0) mD) (mf 1))) (mG (m8 (mf 2))))))
abbrev qU:bK:=top 45
def yu:K' ["_law_one","_law_other"] ["_law_one","_law_other"] (mC qU):=Y5
def oV(a:Yg) :XS:=(Àl 0 1 (F' (j' 1) (F' (x2 (j' 0) (j' 1) ZZ) J')))
def ur(a:Yg):XS:=(X6 (Yd 0 (xB (F' (j' 0) J') ĝ)) (X6 (Yd 1 (xB (F' (j' 1) J') ĝ)) (X6 (ua (YJ (x2 (j' 1) (xC (.int 0)) fGt)) (oV a)) (YA (j' 0)))))
def oz(a:Yg):XF:=(ZG 2 (ur a))
variable (P w K mg base a) in abbrev pT:=Fn P w K mg base "_law_divisor" 1 ["_law_one","_law_other"] (YX K a.X8 2 (oz a))
def yx(Y:Yz K mg a)(c:Gf K "_law_divisor" qU):pT P w K mg base a :=
 Ø c Y λT F=>og F yu rfl λ_ _ _ _ _ _ hr S=>(ms (mQ 0 (nG ð (mB (mf 0)))) (ms (mQ 1 (nG ð (mB (mf 1)))) (ms (AA (pf O3 (mf 1) mD) (mG (QE (i:=0) (j:=1) rfl S.nd rfl rfl (by decide) rfl rfl (mE (mf 1) (mB (wC (mf 0) (mf 1)))) rfl))) (mG (m8 (mf 0))))))
abbrev uD:bK:=top 46
def CU:K' ["_law_top","_law_bottom","_law_by"] ["_law_top","_law_bottom"] (mC uD):=Y5
def yj(a:Yg):XS:=(X6 (Yd 2 (V' 2 (oz a) (F' (j' 0) (F' (j' 1) J')))) (X6 (å (YJ (x2 (j' 1) (xC (.int 0)) fLt)) (Yd 2 (x2 (xC (.int 0)) (j' 2) Ó)) Y') (YA (Y7 (F' (x2 (j' 0) (j' 2) Å) (F' (x2 (j' 1) (j' 2) Å) J'))))))
def nC(a:Yg):XF:=(ZG 3 (yj a))
variable (P w K mg base a) in abbrev pK:=Fn P w K mg base "_law_made" 2 ["_law_top","_law_bottom"] (YX K a.X8 2 (nC a))
def C9(Y:Yz K mg a)(c:Gf K "_law_made" uD)(A0:pT P w K mg base a):pK P w K mg base a :=
 Ø c Y λT F=>og F CU rfl λ_ _ _ _ _ _ hr S=>(ms (mQ 2 (mX A0 (mE (mf 0) (mB (mf 1))))) (ms (rn (pf ÂP (mf 1) mD) (mG (mQ 2 (yQ mD (mf 2)))) ot) (mG (m8 (qh (mE (uk (mf 0) (mf 2)) (mB (uk (mf 1) (mf 2)))))))))
abbrev tj:bK:=top 48
def AU:K' ["_law_purse_here","_law_many","_law_letters","_law_long","_law_stem","_law_at","_law_found","_law_k","_law_spots"] ["_law_purse_here","_law_many"] (mC tj):=Y5
def oQ(a:Yg) :XS:=(X6 (Yd 8 (o9 (Zl (F' (j' 3) J')) [4,7,5] nI (x2 (x2 (j' 1) (j' 0) Yb) (x2 (x2 (xC (.int 5)) (j' 2) Yr) (xB (F' (x2 (j' 0) (j' 3) Ô) J') Ĵ) Yr) YG))) (Ń (Zw (j' 6) (F' (Ģ (xC (.str "")) (F' (o9 (Yw (j' 8)) [2] nI (x2 (j' 1) (x2 (j' 0) (xC (.int 26)) ZZ) Yb)) J')) J'))))
def tH(a:Yg):XS:=(X6 (Yd 2 (xC (.str "abcdefghijklmnopqrstuvwxyz"))) (X6 (Yd 3 (x2 (xC (.int 1)) (V' 2 (mP a) (F' (j' 0) (F' (xC (.int 7)) J'))) YG)) (X6 (Yd 4 (o9 (Zl (F' (j' 3) J')) [0] nI (V' 2 (mP a) (F' (j' 1) (F' (xC (.int 26)) J'))))) (X6 (Yd 5 (V' 2 (mP a) (F' (j' 0) (F' (j' 3) J')))) (X6 (Yd 6 (ġ J')) (X6 (À (Zl (F' (j' 1) J')) (X9 7) (oQ a)) (X6 (å (YJ (x2 (V' 2 (mP a) (F' (j' 0) (F' (xC (.int 4)) J'))) (xC (.int 0)) Ô)) (Yd 6 (oX (wI (F' (ł (j' 6)) J')) [] nI (x2 (j' 1) (x2 (xC (.str "x")) (x2 (j' 0) (xC (.int 2)) ZZ) zT) YG))) Y') (YA (Fp (j' 6))))))))))
def tR(a:Yg):XF:=(ZG 9 (tH a))
variable (P w K mg base a) in abbrev tM:=Fn P w K mg base "_law_names" 2 ["_law_purse_here","_law_many"] (YX K a.X8 2 (tR a))
def Bl(Y:Yz K mg a)(c:Gf K "_law_names" tj)(EN:mg "enumerate"=Zb)(A0:oR P w K mg base a):tM P w K mg base a :=
 Ø c Y λT F=>og F AU rfl λ_ _ _ _ _ _ hr S=>(ms (mQ 2 GK) (ms (mQ 3 (oA mD (mX A0 (mE (mf 0) (mB mD))))) (ms (mQ 4 (qL (fr:=["_law_purse_here"]) (qw (mB (mf 3))) (λ_ _ _ _ _=>(mX A0 (mE (mf 1) (mB mD)))))) (ms (mQ 5 (mX A0 (mE (mf 0) (mB (mf 3))))) (ms (mQ 6 (z5 yR)) (ms (rb (qw (mB (mf 1))) (m9 7) (ms (wa (fr:=["_law_stem","_law_k","_law_at"]) (qw (mB (mf 3))) (λ_ _ _ _ _=>(oA (mR (mf 1) (mf 0)) (nL (nL mD (mf 2)) (sO ŉ (mB (BR CH (mf 0) (mf 3)))))))) (mG (BO (Cu (mf 6) (mB (Of GK (mB (qL (fr:=["_law_letters"]) (qF (mf 8)) (λ_ _ _ _ _=>(mR (mf 1) (wC (mf 0) mD)))))))))))) (ms (rn (pf CH (mX A0 (mE (mf 0) (mB mD))) mD) (mG (yn (fr:=[]) (Dy (mB (LP (mf 6))) rfl EN) (λ_ _ _ _ _=>(oA (mf 1) (Ob GK (wC (mf 0) mD)))))) ot) (mG (m8 (Og (mf 6)))))))))))
abbrev rQ:bK:=top 49
def yV:K' ["_law_purse_here","_law_most"] ["_law_purse_here"] (mC rQ):=Y5
def vK(a:Yg):XS:=(X6 (Yd 1 (x2 (ç (F' (xC (.int 10)) (F' (xC (.int 10)) (F' (xC (.int 100)) (F' (xC (.int 3)) (F' (x2 (xC (.int 10)) (xC (.int 6)) á) (F' (x2 (xC (.int 10)) (xC (.int 20)) á) J'))))))) (V' 2 (mP a) (F' (j' 0) (F' (xC (.int 6)) J'))) Yb)) (YA (x2 (V' 2 (mP a) (F' (j' 0) (F' (x2 (xC (.int 2)) (j' 1) Yr) J'))) (x2 (j' 1) (xC (.int 3)) Å) Ó)))
def oj(a:Yg):XF:=(ZG 2 (vK a))
variable (P w K mg base a) in abbrev sd:=Fn P w K mg base "_law_number" 2 ["_law_purse_here"] (YX K a.X8 1 (oj a))
def y9(Y:Yz K mg a)(c:Gf K "_law_number" rQ)(A0:oR P w K mg base a):sd P w K mg base a :=
 Ø c Y λT F=>og F yV rfl λ_ _ _ _ _ _ hr S=>(ms (mQ 1 (mR (wD (mE mD (mE mD (mE mD (mE mD (mE (BE mD mD) (mB (BE mD mD)))))))) (mX A0 (mE (mf 0) (mB mD))))) (mG (m8 (yQ (mX A0 (mE (mf 0) (mB (nL mD (mf 1))))) (uk (mf 1) mD)))))
abbrev uC:bK:=top 50
def CT:K' ["_law_purse_here","_law_share","_law_kind","_law_low"] ["_law_purse_here","_law_share"] (mC uC):=Y5
def uN(a:Yg):XS:=(X6 (Yd 2 (V' 2 (mP a) (F' (j' 0) (F' (xC (.int 5)) J')))) (X6 (å (YJ (x2 (j' 2) (xC (.int 0)) Ô)) (YA (j' 1)) Y') (X6 (Yd 3 (x2 (ç (F' (xC (.int 2)) (F' (xC (.int 3)) (F' (xC (.int 7)) (F' (x2 (xC (.int 10)) (xC (.int 6)) á) J'))))) (x2 (j' 2) (xC (.int 1)) Ó) Yb)) (YA (V' 2 (nC a) (F' (x2 (x2 (j' 1) (xC (.int 0)) Yb) (x2 (xC (.int 1)) (V' 2 (mP a) (F' (j' 0) (F' (x2 (j' 3) (xC (.int 1)) Ó) J'))) YG) Yr) (F' (x2 (x2 (j' 1) (xC (.int 1)) Yb) (j' 3) Yr) J')))))))
def qB(a:Yg):XF:=(ZG 4 (uN a))
variable (P w K mg base a) in abbrev uS:=Fn P w K mg base "_law_part" 3 ["_law_purse_here","_law_share"] (YX K a.X8 2 (qB a))
def C8(Y:Yz K mg a)(c:Gf K "_law_part" uC)(A0:oR P w K mg base a)(A1:pK P w K mg base a):uS P w K mg base a :=
 Ø c Y λT F=>og F CT rfl λ_ _ _ _ _ _ hr S=>(ms (mQ 2 (mX A0 (mE (mf 0) (mB mD)))) (ms (rn (pf CH (mf 2) mD) (mG (m8 (mf 1))) ot) (ms (mQ 3 (mR (wD (mE mD (mE mD (mE mD (mB (BE mD mD)))))) (yQ (mf 2) mD))) (mG (m8 (mX A1 (mE (nL (mR (mf 1) mD) (oA mD (mX A0 (mE (mf 0) (mB (yQ (mf 3) mD)))))) (mB (nL (mR (mf 1) mD) (mf 3))))))))))
abbrev uB:bK:=top 51
def CS:K' ["_law_purse_here","_law_model","_law_holders","_law_book","_law_houses","_law_house","_law_shares","_law_owners","_law_one","_law_other","_law_part_here","_law_top","_law_low","_law_rest"] ["_law_purse_here","_law_model","_law_holders","_law_book"] (mC uB):=Y5
def uM(a:Yg):XS:=(X6 (Yd 4 (xB (F' (j' 1) J') mY)) (X6 (Yd 5 (x2 (j' 4) (V' 2 (mP a) (F' (j' 0) (F' (xB (F' (j' 4) J') ZH) J'))) Yb)) (X6 (Yd 6 (x2 (x2 (j' 1) (j' 5) Yb) (xC (.int 0)) Yb)) (X6 (Yd 7 (xB (F' (j' 6) J') mY)) (X6 (Yd 8 (x2 (j' 7) (V' 2 (mP a) (F' (j' 0) (F' (xB (F' (j' 7) J') ZH) J'))) Yb)) (X6 (Yd 9 (x2 (j' 2) (V' 2 (mP a) (F' (j' 0) (F' (xB (F' (j' 2) J') ZH) J'))) Yb)) (X6 (Yd 10 (V' 2 (qB a) (F' (j' 0) (F' (x2 (j' 6) (j' 8) Yb) J')))) (X6 (å (YJ (x2 (x2 (j' 10) (xC (.int 1)) Yb) (x2 (xC (.int 10)) (xC (.int 29)) á) fGe)) Ū Y') (X6 (Ń (ý 5 (wH a) (j' 3) (F' (j' 5) (F' (j' 8) (F' (j' 9) (F' (j' 10) J')))))) (X6 (è (Ft (j' 6) (j' 8)) (Zr 2 (Yj (X9 11) (Yj (X9 12) Zs)))) (X6 (Yd 13 (V' 2 (nC a) (F' (x2 (x2 (j' 11) (x2 (j' 10) (xC (.int 1)) Yb) Yr) (x2 (x2 (j' 10) (xC (.int 0)) Yb) (j' 12) Yr) Ó) (F' (x2 (j' 12) (x2 (j' 10) (xC (.int 1)) Yb) Yr) J')))) (X6 (å (YJ (x2 (x2 (j' 13) (xC (.int 0)) Yb) (xC (.int 0)) fGt)) (û (j' 6) (j' 8) (j' 13)) Y') (X6 (è (Ù (j' 6) (j' 9) (Y7 (F' (xC (.int 0)) (F' (xC (.int 1)) J')))) (Zr 2 (Yj (X9 11) (Yj (X9 12) Zs)))) (û (j' 6) (j' 9) (V' 2 (nC a) (F' (x2 (x2 (j' 11) (x2 (j' 10) (xC (.int 1)) Yb) Yr) (x2 (x2 (j' 10) (xC (.int 0)) Yb) (j' 12) Yr) YG) (F' (x2 (j' 12) (x2 (j' 10) (xC (.int 1)) Yb) Yr) J')))))))))))))))))
def rN(a:Yg):XF:=(ZG 14 (uM a))
variable (P w K mg base a) in abbrev uR:=Fn P w K mg base "_law_sold" 5 ["_law_purse_here","_law_model","_law_holders","_law_book"] (YX K a.X8 4 (rN a))
def C7(Y:Yz K mg a)(c:Gf K "_law_sold" uB)(A0:uS P w K mg base a)(A1:EA P w K mg base a)(A2:pK P w K mg base a)(A3:oR P w K mg base a):uR P w K mg base a :=
 Ø c Y λT F=>og F CS rfl λ_ _ _ _ _ _ hr S=>(ms (mQ 4 (nG (YS rfl) (mB (mf 1)))) (ms (mQ 5 (mR (mf 4) (mX A3 (mE (mf 0) (mB (nG Zy (mB (mf 4)))))))) (ms (mQ 6 (mR (mR (mf 1) (mf 5)) mD)) (ms (mQ 7 (nG (YS rfl) (mB (mf 6)))) (ms (mQ 8 (mR (mf 7) (mX A3 (mE (mf 0) (mB (nG Zy (mB (mf 7)))))))) (ms (mQ 9 (mR (mf 2) (mX A3 (mE (mf 0) (mB (nG Zy (mB (mf 2)))))))) (ms (mQ 10 (mX A0 (mE (mf 0) (mB (mR (mf 6) (mf 8)))))) (ms (rn (pf ÁQ (mR (mf 10) mD) (BE mD mD)) (mG N0) ot) (ms (BO (Eb (mf 3) A1 (mE (mf 5) (mE (mf 8) (mE (mf 9) (mB (mf 10))))))) (ms (BC (Oh (mf 6) (mf 8)) (uj (nF (m9 11) (nF (m9 12) rA)))) (ms (mQ 13 (mX A2 (mE (yQ (nL (mf 11) (mR (mf 10) mD)) (nL (mR (mf 10) mD) (mf 12))) (mB (nL (mf 12) (mR (mf 10) mD)))))) (ms (rn (pf O3 (mR (mf 13) mD) mD) (mG (BB (mf 6) (mf 8) (mf 13))) ot) (ms (BC (GN (mf 6) (mf 9) (qh (mE mD (mB mD)))) (uj (nF (m9 11) (nF (m9 12) rA)))) (mG (BB (mf 6) (mf 9) (mX A2 (mE (oA (nL (mf 11) (mR (mf 10) mD)) (nL (mR (mf 10) mD) (mf 12))) (mB (nL (mf 12) (mR (mf 10) mD))))))))))))))))))))
abbrev tD:bK:=top 52
def AX:K' ["_law_purse_here","_law_most","_law_many","_law_count","_law_names_here","_law_book","_law_model","_law_name","_law_k","_law_owner","_law_three"] ["_law_purse_here","_law_most"] (mC tD):=Y5
def ut(a:Yg) :XS:=(Ń (ý 2 (vn a) (j' 5) (F' (j' 7) J')))
def pS(a:Yg) :XS:=(X6 (Yd 9 (x2 (j' 4) (V' 2 (mP a) (F' (j' 0) (F' (x2 (j' 2) (j' 8) YG) J'))) Yb)) (X6 (Yd 10 (Y7 (F' (V' 1 (oj a) (F' (j' 0) J')) (F' (V' 1 (oj a) (F' (j' 0) J')) (F' (xB (F' (V' 1 (oj a) (F' (j' 0) J')) J') ĝ) J'))))) (X6 (Ń (ý 6 (xz a) (j' 5) (F' (x2 (j' 4) (x2 (j' 2) (j' 8) YG) Yb) (F' (j' 9) (F' (x2 (j' 10) (xC (.int 0)) Yb) (F' (x2 (j' 10) (xC (.int 1)) Yb) (F' (x2 (j' 10) (xC (.int 2)) Yb) J'))))))) (û (j' 6) (x2 (j' 4) (x2 (j' 2) (j' 8) YG) Yb) (ç (F' (ū (j' 9) (Y7 (F' (xC (.int 1)) (F' (xC (.int 1)) J')))) (F' (j' 10) J')))))))
def pR(a:Yg) :XS:=(Ń (V' 4 (rN a) (F' (j' 0) (F' (j' 6) (F' (j' 4) (F' (j' 5) J'))))))
def wq(a:Yg):XS:=(X6 (Yd 2 (x2 (xC (.int 1)) (V' 2 (mP a) (F' (j' 0) (F' (xC (.int 3)) J'))) YG)) (X6 (Yd 3 (V' 2 (mP a) (F' (j' 0) (F' (x2 (j' 1) (xC (.int 1)) YG) J')))) (X6 (Yd 4 (V' 2 (tR a) (F' (j' 0) (F' (x2 (j' 2) (j' 3) YG) J')))) (X6 (Yd 5 ϐ) (X6 (Yd 6 Ϗ) (X6 (À (Yw (Ϧ (j' 4) Ę (Ì (j' 2)))) (X9 7) (ut a)) (X6 (À (Zl (F' (j' 3) J')) (X9 8) (pS a)) (X6 (å (YJ (x2 (j' 3) (xC (.int 0)) fGt)) (À (Zl (F' (V' 2 (mP a) (F' (j' 0) (F' (x2 (x2 (xC (.int 4)) (j' 3) Yr) (xC (.int 1)) YG) J'))) J')) (X9 8) (pR a)) Y') (YA (Y7 (F' (j' 5) (F' (xB (F' (Ϧ (j' 4) Ę (Ì (j' 2))) J') mY) (F' (j' 6) J')))))))))))))
def tT(a:Yg):XF:=(ZG 11 (wq a))
variable (P w K mg base a) in abbrev tP:=Fn P w K mg base "_law_built" 6 ["_law_purse_here","_law_most"] (YX K a.X8 2 (tT a))
def Bo(Y:Yz K mg a)(c:Gf K "_law_built" tD)(A0:oR P w K mg base a)(A1:tM P w K mg base a)(A2:EB P w K mg base a)(A3:BJ P w K mg base a)(A4:Dl P w K mg base a)(A5:sd P w K mg base a)(A6:uR P w K mg base a):tP P w K mg base a :=
 Ø c Y λT F=>og F AX rfl λ_ _ _ _ _ _ hr S=>(ms (mQ 2 (oA mD (mX A0 (mE (mf 0) (mB mD))))) (ms (mQ 3 (mX A0 (mE (mf 0) (mB (oA (mf 1) mD))))) (ms (mQ 4 (mX A1 (mE (mf 0) (mB (oA (mf 2) (mf 3)))))) (ms (mQ 5 (Oj A2)) (ms (mQ 6 Od) (ms (rb (qF (Jm (mf 4) zW (zV (mf 2)))) (m9 7) (mG (BO (Eb (mf 5) A3 (mB (mf 7)))))) (ms (rb (qw (mB (mf 3))) (m9 8) (ms (mQ 9 (mR (mf 4) (mX A0 (mE (mf 0) (mB (oA (mf 2) (mf 8))))))) (ms (mQ 10 (qh (mE (mX A5 (mB (mf 0))) (mE (mX A5 (mB (mf 0))) (mB (nG ð (mB (mX A5 (mB (mf 0)))))))))) (ms (BO (Eb (mf 5) A4 (mE (mR (mf 4) (oA (mf 2) (mf 8))) (mE (mf 9) (mE (mR (mf 10) mD) (mE (mR (mf 10) mD) (mB (mR (mf 10) mD)))))))) (mG (BB (mf 6) (mR (mf 4) (oA (mf 2) (mf 8))) (wD (mE (Oi (mf 9) (qh (mE mD (mB mD)))) (mB (mf 10)))))))))) (ms (rn (pf O3 (mf 3) mD) (mG (rb (qw (mB (mX A0 (mE (mf 0) (mB (oA (nL mD (mf 3)) mD)))))) (m9 8) (mG (BO (mX A6 (mE (mf 0) (mE (mf 6) (mE (mf 4) (mB (mf 5)))))))))) ot) (mG (m8 (qh (mE (mf 5) (mE (nG (YS rfl) (mB (Jm (mf 4) zW (zV (mf 2))))) (mB (mf 6)))))))))))))))
structure Wy(K:aa)(mg:Str->Option ae)(a:Yg):Prop where
 c:Ŕ K a.Yx
 Ć:YV K a.Yx "bottom"
 ą:YV K a.Yx "top_of"
 g:mg "Ways"=Za (.ref a.Yx)
 m:fO K a.Yx=true
 k:bV K (.ref a.Yx)=true
def gom(c:Gm K a.Yx x q st)(Y:Yz K mg a)(W:Wy K mg a)(o:∀{f:ag}{fd:cg},Txt K mg a->Z' K x q st f fd->Yt P w K mg base (YW P w) k f fd ps sp)(b:Bd x q st ps:=by first|exact bd1|exact bd2|exact bd3|exact bd4|exact bd5|exact bd6|exact bd0):Mt P w K mg base a.Yx x k ps sp:=Gm.mt W.c c (o Y.T) b
def gok(c:Gm K a.Yx "__init__" q st)(Y:Yz K mg a)(W:Wy K mg a)(o:∀{f:ag}{fd:cg},Txt K mg a->Z' K "__init__" q st f fd->Yt P w K mg base (YW P w) k f fd ps sp)(b:Bd "__init__" q st ps:=by first|exact bd1|exact bd2|exact bd3|exact bd4|exact bd5|exact bd6|exact bd0):MkB P w K mg base "Ways" a.Yx k ps sp :=
 let⟨f,fd,n,i,U⟩:=c.ex;⟨f,fd,o Y.T U,W.g,⟨W.m,n,i,W.k⟩,U.binds b⟩
abbrev As:bK:=top 18
def Ig:K' ["top","bottom","common"] ["top","bottom"] (mC As):=Y5
def KB(a:Yg):XS:=(X6 (Yd 2 (V' 2 (nS a) (F' (j' 0) (F' (j' 1) J')))) (YA (Y7 (F' (x2 (j' 0) (j' 2) Å) (F' (x2 (j' 1) (j' 2) Å) J')))))
def wZ(a:Yg):XF:=(ZG 3 (KB a))
variable (P w K mg base a) in abbrev AH:=Fn P w K mg base "lowest" 2 ["top","bottom"] (YX K a.X8 2 (wZ a))
def Ix(Y:Yz K mg a)(c:Gf K "lowest" As)(A0:sH P w K mg base a):AH P w K mg base a :=
 Ø c Y λT F=>og F Ig rfl λ_ _ _ _ _ _ hr S=>(ms (mQ 2 (mX A0 (mE (mf 0) (mB (mf 1))))) (mG (m8 (qh (mE (uk (mf 0) (mf 2)) (mB (uk (mf 1) (mf 2))))))))
abbrev xK:bK:=top 2
def FF:K' ["row","by","turn","former"] ["row","by","turn","former"] (mC xK):=Y5
def IQ(a:Yg):XS:=(YA (oX (K3 (F' (j' 0) (F' (j' 1) J'))) [3,1,2,0] nI (x2 (x2 (x2 (x2 (j' 3) (j' 4) Yb) (j' 0) Yr) (x2 (x2 (j' 5) (j' 4) Yb) (j' 1) Yr) Ó) (j' 2) Å)))
def sP(a:Yg):XF:=(ZG 4 (IQ a))
variable (P w K mg base a) in abbrev xY:=Fn P w K mg base "cleared" 1 ["row","by","turn","former"] (YX K a.X8 4 (sP a))
def FP(Y:Yz K mg a)(c:Gf K "cleared" xK)(ZN:mg "zip"=Zb):xY P w K mg base a :=
 Ø c Y λT F=>og F FF rfl λ_ _ _ _ _ _ hr S=>(mG (m8 (wW (fr:=["former","by","turn","row"]) (LM (mE (mf 0) (mB (mf 1))) (hm:=ZN)) (λ_ _ _ _ _=>(uk (yQ (nL (mR (mf 3) (mf 4)) (mf 0)) (nL (mR (mf 5) (mf 4)) (mf 1))) (mf 2))))))
abbrev Aq:bK:=top 3
def Ic:K' ["rows","bottom","now","turn","by"] ["rows"] (mC Aq):=Y5
def we(a:Yg) :XS:=(X6 (Yd 4 (x2 (j' 2) (j' 3) Yb)) (X6 (Yd 2 (oX (wI (F' (j' 2) J')) [3,4,1] nI (ę (YJ (x2 (j' 0) (j' 2) Ô)) (j' 1) (V' 4 (sP a) (F' (j' 1) (F' (j' 3) (F' (j' 2) (F' (j' 4) J')))))))) (Yd 1 (x2 (j' 4) (j' 3) Yb))))
def KA(a:Yg):XS:=(X6 (Yd 1 (xC (.int 1))) (X6 (Yd 2 (j' 0)) (X6 (À (Zl (F' (xB (F' (j' 0) J') ZH) J')) (X9 3) (we a)) (YA (Y7 (F' (o9 (Yw (j' 2)) [0] nI (Ϧ (j' 0) (Ì (xB (F' (j' 1) J') ZH)) Ę)) (F' (j' 1) J')))))))
def wY(a:Yg):XF:=(ZG 5 (KA a))
variable (P w K mg base a) in abbrev AF:=Fn P w K mg base "solved" 2 ["rows"] (YX K a.X8 1 (wY a))
def Is(Y:Yz K mg a)(c:Gf K "solved" Aq)(EN:mg "enumerate"=Zb)(A0:xY P w K mg base a):AF P w K mg base a :=
 Ø c Y λT F=>og F Ic rfl λ_ _ _ _ _ _ hr S=>(ms (mQ 1 mD) (ms (mQ 2 (mf 0)) (ms (rb (qw (mB (nG Zy (mB (mf 0))))) (m9 3) (ms (mQ 4 (mR (mf 2) (mf 3))) (ms (yn (fr:=["turn","by","bottom"]) (Dy (mB (mf 2)) rfl EN) (λ_ _ _ _ _=>(GM (pf CH (mf 0) (mf 2)) (mf 1) (mX A0 (mE (mf 1) (mE (mf 3) (mE (mf 2) (mB (mf 4))))))))) (mG (mQ 1 (mR (mf 4) (mf 3))))))) (mG (m8 (qh (mE (qL (fr:=["rows"]) (qF (mf 2)) (λ_ _ _ _ _=>(Jm (mf 0) (zV (nG Zy (mB (mf 1)))) zW))) (mB (mf 1)))))))))
abbrev pX:bK:=top 23
def wf:K' ["book","house","group"] ["book","house","group"] (mC pX):=Y5
def xq(a:Yg):XS:=(YA (xB (F' (oX (Yw (ý 2 (oY a) (j' 0) (F' (j' 1) J'))) [2] nI (x2 (j' 0) (j' 2) fIn)) J') ϙ))
def oW(a:Yg):XF:=(ZG 3 (xq a))
variable (P w K mg base a) in abbrev p7:=Fn P w K mg base "is_held_within" 4 ["book","house","group"] (YX K a.X8 3 (oW a))
def wj(Y:Yz K mg a)(c:Gf K "is_held_within" pX)(A0:vN P w K mg base a):p7 P w K mg base a :=
 Ø c Y λT F=>og F wf rfl λ_ _ _ _ _ _ hr S=>(mG (m8 (nG (Ŋ rfl) (mB (wW (fr:=["group"]) (qF (Eb (mf 0) A0 (mB (mf 1)))) (λ_ _ _ _ _=>(BR ÁP (mf 0) (mf 2))))))))
abbrev rP:bK:=top 24
def yU:K' ["book","group","inside"] ["book"] (mC rP):=Y5
def m6(a:Yg) :XS:=(X6 (Yd 2 (o9 (Yw (j' 1)) [0,1] (YJ (V' 3 (oW a) (F' (j' 1) (F' (j' 0) (F' (j' 2) J'))))) (j' 0))) (X6 (å (YJ (x2 (j' 2) (j' 1) Ô)) (YA (j' 1)) Y') (Yd 1 (j' 2))))
def Bv(a:Yg):XS:=(X6 (Yd 1 (ý 1 (om a) (j' 0) J')) (ua (YJ (xC (.bl true))) (m6 a)))
def sf(a:Yg):XF:=(ZG 3 (Bv a))
variable (P w K mg base a) in abbrev rZ:=Fn P w K mg base "whole_group" 5 ["book"] (YX K a.X8 1 (sf a))
def y7(Y:Yz K mg a)(c:Gf K "whole_group" rP)(A0:o8 P w K mg base a)(A1:p7 P w K mg base a):rZ P w K mg base a :=
 Ø c Y λT F=>og F yU rfl λ_ _ _ _ _ _ hr S=>(ms (mQ 1 (wF (mf 0) A0)) (mG (AA (vL F9) (ms (wa (fr:=["book","group"]) (qF (mf 1)) (λ_ _ _ _ _=>(mf 0)) (λ_ _ _ _ _=>(AB (vL (mX A1 (mE (mf 1) (mE (mf 0) (mB (mf 2))))))))) (ms (rn (pf CH (mf 2) (mf 1)) (mG (m8 (mf 1))) ot) (mG (mQ 1 (mf 2))))))))
abbrev oH:bK:=top 25
def sK:K' ["book","group"] ["book"] (mC oH):=Y5
def t5(a:Yg):XS:=(X6 (Yd 1 (V' 1 (sf a) (F' (j' 0) J'))) (å (YJ (x2 (j' 1) (ç J') œ)) (GR a.Zp (j' 1)) Y'))
def nT(a:Yg):XF:=(ZG 2 (t5 a))
variable (P w K mg base a) in abbrev oI:=Fn P w K mg base "need_no_whole_group" 6 ["book"] (YX K a.X8 1 (nT a))
def sL(Y:Yz K mg a)(c:Gf K "need_no_whole_group" oH)(WH:Wh P w K mg base "Whole" a.Zp 2)(A0:rZ P w K mg base a):oI P w K mg base a :=
 Ø c Y λT F=>og F sK rfl λ_ _ _ _ _ _ hr S=>(ms (mQ 1 (mX A0 (mB (mf 0)))) (mG (rn (pf Js (mf 1) (wD yR)) (mG (IU WH (mf 1))) ot)))
abbrev Ma:bK:=top 26
def Pm:K' ["shares","pieces","holder","share"] ["shares"] (mC Ma):=Y5
def xu(a:Yg) :XS:=(Yd 1 (x2 (j' 1) (x2 (x2 (j' 3) (xC (.int 1)) Yb) (V' 2 (nS a) (F' (j' 1) (F' (x2 (j' 3) (xC (.int 1)) Yb) J'))) Å) Yr))
def OW(a:Yg):XS:=(X6 (Yd 1 (xC (.int 1))) (X6 (À (Yw (j' 0)) (Zr 2 (Yj (X9 2) (Yj (X9 3) Zs))) (xu a)) (YA (xB (F' (oX (Yw (j' 0)) [1] nI (Y7 (F' (j' 0) (F' (x2 (x2 (j' 1) (xC (.int 0)) Yb) (x2 (j' 2) (x2 (j' 1) (xC (.int 1)) Yb) Å) Yr) J')))) J') zU))))
def Jo(a:Yg):XF:=(ZG 4 (OW a))
variable (P w K mg base a) in abbrev Mu:=Fn P w K mg base "cut" 2 ["shares"] (YX K a.X8 1 (Jo a))
def P9(Y:Yz K mg a)(c:Gf K "cut" Ma)(DN:mg "dict"=Zb)(A0:sH P w K mg base a):Mu P w K mg base a :=
 Ø c Y λT F=>og F Pm rfl λ_ _ _ _ _ _ hr S=>(ms (mQ 1 mD) (ms (rb (qF (mf 0)) (uj (nF (m9 2) (nF (m9 3) rA))) (mG (mQ 1 (nL (mf 1) (uk (mR (mf 3) mD) (mX A0 (mE (mf 1) (mB (mR (mf 3) mD))))))))) (mG (m8 (sO (Ed rfl) (mB (wW (fr:=["pieces"]) (qF (mf 0)) (λ_ _ _ _ _=>(qh (mE (mf 0) (mB (nL (mR (mf 1) mD) (uk (mf 2) (mR (mf 1) mD))))))))) (hm:=DN) (hv:=ã))))))
abbrev xL:bK:=top 27
def FG:K' ["book"] ["book"] (mC xL):=Y5
def IR(a:Yg):XS:=(YA (xB (F' (o9 (Yw (ý 1 (om a) (j' 0) J')) [0] nI (Y7 (F' (j' 0) (F' (V' 1 (Jo a) (F' (ý 2 (oY a) (j' 1) (F' (j' 0) J')) J')) J')))) J') zU))
def x6(a:Yg):XF:=(ZG 1 (IR a))
variable (P w K mg base a) in abbrev xZ:=Fn P w K mg base "all_cut" 4 ["book"] (YX K a.X8 1 (x6 a))
def FQ(Y:Yz K mg a)(c:Gf K "all_cut" xL)(DN:mg "dict"=Zb)(A0:Mu P w K mg base a)(A1:o8 P w K mg base a)(A2:vN P w K mg base a):xZ P w K mg base a :=
 Ø c Y λT F=>og F FG rfl λ_ _ _ _ _ _ hr S=>(mG (m8 (sO (Ed rfl) (mB (qL (fr:=["book"]) (qF (wF (mf 0) A1)) (λ_ _ _ _ _=>(qh (mE (mf 0) (mB (mX A0 (mB (Eb (mf 1) A2 (mB (mf 0))))))))))) (hm:=DN) (hv:=ã))))
abbrev Ar:bK:=top 28
def Ie:K' ["house","houses","pieces_of","row"] ["house","houses","pieces_of"] (mC Ar):=Y5
def E8(a:Yg):XS:=(X6 (Yd 3 (yG (Yw (j' 1)) [0,2] nI (x1 (Ù (x2 (j' 2) (j' 0) Yb) (j' 1) (xC (.int 0))) ň))) (X6 (Je (j' 3) (AK (j' 1) (F' (j' 0) J')) (Fm (x2 (j' 2) (j' 0) Yb))) (YA (j' 3))))
def AJ(a:Yg):XF:=(ZG 4 (E8 a))
variable (P w K mg base a) in abbrev AG:=Fn P w K mg base "owning" 1 ["house","houses","pieces_of"] (YX K a.X8 3 (AJ a))
def Iw(Y:Yz K mg a)(c:Gf K "owning" Ar)(SM:mg "sum"=Zb):AG P w K mg base a :=
 Ø c Y λT F=>og F Ie rfl λ_ _ _ _ _ _ hr S=>(ms (Ey (fr:=["house","pieces_of"]) (qF (mf 1)) (λ_ _ _ _ _=>(QK (GN (mR (mf 2) (mf 0)) (mf 1) mD)))) (ms (N3 (mf 3) (KI (mf 1) (mB (mf 0))) (Oa (mR (mf 2) (mf 0)) (hm:=SM))) (mG (m8 (mf 3)))))
abbrev uA:bK:=top 29
def CQ:K' ["house","houses","pieces_of"] ["house","houses","pieces_of"] (mC uA):=Y5
def Eu(a:Yg):XS:=(YA (x2 (V' 3 (AJ a) (F' (j' 0) (F' (j' 1) (F' (j' 2) J')))) (o9 (Yw (j' 1)) [0] nI (ę (YJ (x2 (j' 0) (j' 1) Ô)) (xC (.int 1)) (xC (.int 0)))) YG))
def rM(a:Yg):XF:=(ZG 3 (Eu a))
variable (P w K mg base a) in abbrev uQ:=Fn P w K mg base "agreement" 2 ["house","houses","pieces_of"] (YX K a.X8 3 (rM a))
def C6(Y:Yz K mg a)(c:Gf K "agreement" uA)(A0:AG P w K mg base a):uQ P w K mg base a :=
 Ø c Y λT F=>og F CQ rfl λ_ _ _ _ _ _ hr S=>(mG (m8 (oA (mX A0 (mE (mf 0) (mE (mf 1) (mB (mf 2))))) (qL (fr:=["house"]) (qF (mf 1)) (λ_ _ _ _ _=>(GM (pf CH (mf 0) (mf 1)) mD mD))))))
abbrev uG:bK:=oo (top 30) 0
def CY:K' ["self","book","houses","pieces_of","solution","place","house","holder","top","other","piece"] ["self","book"] (mC uG):=Y5
def o7(a:Yg) :XS:=(OC 8 (x2 (Ù (x2 (j' 3) (j' 9) Yb) (j' 7) (xC (.int 0))) (x2 (j' 10) (j' 5) Yb) Yr))
def o6(a:Yg) :XS:=(X6 (Yd 8 (ę (YJ (x2 (j' 7) (j' 6) Ô)) (Fs a.Yx "bottom" (j' 0)) (xC (.int 0)))) (X6 (À (K3 (F' (j' 2) (F' (x2 (j' 4) (xC (.int 0)) Yb) J'))) (Zr 2 (Yj (X9 9) (Yj (X9 10) Zs))) (o7 a)) (Jd (Fs a.Yx "top_of" (j' 0)) (F' (j' 7) (F' (j' 6) J')) (j' 8))))
def qj(a:Yg) :XS:=(À (Yw (x2 (ý 1 (pP a) (j' 1) J') (j' 2) YG)) (X9 7) (o6 a))
def ym(a:Yg):XS:=(X6 (Ń (V' 1 (nT a) (F' (j' 1) J'))) (X6 (Yd 2 (ý 1 (om a) (j' 1) J')) (X6 (Yd 3 (V' 1 (x6 a) (F' (j' 1) J'))) (X6 (Yd 4 (V' 1 (wY a) (F' (o9 (Yw (j' 2)) [2,3] nI (V' 3 (rM a) (F' (j' 0) (F' (j' 1) (F' (j' 2) J'))))) J'))) (X6 (Fo a.Yx "bottom" (j' 0) (x2 (j' 4) (xC (.int 1)) Yb)) (X6 (Fo a.Yx "top_of" (j' 0) OB) (À (wI (F' (j' 2) J')) (Zr 2 (Yj (X9 5) (Yj (X9 6) Zs))) (qj a))))))))
def qC(a:Yg):XF:=(ZG 11 (ym a))
variable (P w K mg base a) in abbrev rL:=MkB P w K mg base "Ways" a.Yx 7 ["self","book"] (YX K a.X8 2 (qC a))
def Dc(Y:Yz K mg a)(WY:Wy K mg a)(c:Gm K a.Yx "__init__" "Ways.__init__" uG)(EN:mg "enumerate"=Zb)(ZN:mg "zip"=Zb)(A0:oI P w K mg base a)(A1:o8 P w K mg base a)(A2:xZ P w K mg base a)(A3:AF P w K mg base a)(A4:uQ P w K mg base a)(A5:uu P w K mg base a):rL P w K mg base a :=
 gok c Y WY λT F=>og F CY rfl λ_ _ _ _ _ _ hr S=>(ms (BO (mX A0 (mB (mf 1)))) (ms (mQ 2 (wF (mf 1) A1)) (ms (mQ 3 (mX A2 (mB (mf 1)))) (ms (mQ 4 (mX A3 (mB (qL (fr:=["houses","pieces_of"]) (qF (mf 2)) (λ_ _ _ _ _=>(mX A4 (mE (mf 0) (mE (mf 1) (mB (mf 2)))))))))) (ms (LK (mf 0) (mR (mf 4) mD) WY.c WY.Ć) (ms (LK (mf 0) Oc WY.c WY.ą) (mG (rb (Dy (mB (mf 2)) rfl EN) (uj (nF (m9 5) (nF (m9 6) rA))) (mG (rb (qF (oA (wF (mf 1) A5) (mf 2))) (m9 7) (ms (mQ 8 (GM (pf CH (mf 7) (mf 6)) (Ea (mf 0) WY.c WY.Ć) mD)) (ms (rb (LM (mE (mf 2) (mB (mR (mf 4) mD))) (hm:=ZN)) (uj (nF (m9 9) (nF (m9 10) rA))) (mG (QF 8 (nL (GN (mR (mf 3) (mf 9)) (mf 7) mD) (mR (mf 10) (mf 5)))))) (mG (N1 (Ea (mf 0) WY.c WY.ą) (mE (mf 7) (mB (mf 6))) (mf 8)))))))))))))))
abbrev rR:bK:=oo (top 30) 1
def yW:K' ["self","holder","things"] ["self","holder","things"] (mC rR):=Y5
def Bw(a:Yg):XS:=(YA (xB (F' (o9 (ī (j' 2)) [2,0,1] nI (x2 (Mw (Fs a.Yx "top_of" (j' 2)) (F' (j' 3) (F' (j' 0) J'))) (x2 (j' 1) (j' 0) Yb) Yr)) J') OY))
def qm(a:Yg):XF:=(ZG 3 (Bw a))
variable (P w K mg base a) in abbrev se:=Mt P w K mg base a.Yx "top_by" 1 ["self","holder","things"] (YX K a.X8 3 (qm a))
def za(Y:Yz K mg a)(WY:Wy K mg a)(c:Gm K a.Yx "top_by" "Ways.top_by" rR)(SM:mg "sum"=Zb):se P w K mg base a :=
 gom c Y WY λT F=>og F yW rfl λ_ _ _ _ _ _ hr S=>(mG (m8 (nG (ÁR rfl) (mB (qL (fr:=["things","self","holder"]) (N5 (mf 2)) (λ_ _ _ _ _=>(nL (QL (Ea (mf 2) WY.c WY.ą) (mE (mf 3) (mB (mf 0)))) (mR (mf 1) (mf 0)))))) (hm:=SM) (hv:=LV))))
abbrev rS:bK:=oo (top 30) 2
def yX:K' ["self","holders","things"] ["self","holders","things"] (mC rS):=Y5
def Bx(a:Yg):XS:=(YA (o9 (Yw (j' 1)) [2,0] nI (Y7 (F' (j' 0) (F' (V' 2 (wZ a) (F' (ϰ a.Yx "top_by" 3 (qm a) (j' 2) (F' (j' 0) (F' (j' 1) J'))) (F' (Fs a.Yx "bottom" (j' 2)) J'))) J')))))
def qo(a:Yg):XF:=(ZG 3 (Bx a))
variable (P w K mg base a) in abbrev qk:=Mt P w K mg base a.Yx "all_by" 3 ["self","holders","things"] (YX K a.X8 3 (qo a))
def zc(Y:Yz K mg a)(WY:Wy K mg a)(c:Gm K a.Yx "all_by" "Ways.all_by" rS)(A0:AH P w K mg base a)(A1:se P w K mg base a):qk P w K mg base a :=
 gom c Y WY λT F=>og F yX rfl λ_ _ _ _ _ _ hr S=>(mG (m8 (qL (fr:=["things","self"]) (qF (mf 1)) (λ_ _ _ _ _=>(qh (mE (mf 0) (mB (mX A0 (mE (Ms (mf 2) A1 (mE (mf 0) (mB (mf 1)))) (mB (Ea (mf 2) WY.c WY.Ć)))))))))))
abbrev sX:bK:=top 31
def AQ:K' ["book"] ["book"] (mC sX):=Y5
def De(a:Yg):XS:=(YA (xB (F' (o9 (Yw (ý 1 (om a) (j' 0) J')) [0] nI (Y7 (F' (j' 0) (F' (x2 (ý 2 (L5 a) (j' 1) (F' (j' 0) J')) (xC (.int 0)) Yb) J')))) J') zU))
def qP(a:Yg):XF:=(ZG 1 (De a))
variable (P w K mg base a) in abbrev qO:=Fn P w K mg base "own_things" 4 ["book"] (YX K a.X8 1 (qP a))
def Bg(Y:Yz K mg a)(c:Gf K "own_things" sX)(DN:mg "dict"=Zb)(A0:o8 P w K mg base a)(A1:Jc P w K mg base a):qO P w K mg base a :=
 Ø c Y λT F=>og F AQ rfl λ_ _ _ _ _ _ hr S=>(mG (m8 (sO (Ed rfl) (mB (qL (fr:=["book"]) (qF (wF (mf 0) A0)) (λ_ _ _ _ _=>(qh (mE (mf 0) (mB (mR (Eb (mf 1) A1 (mB (mf 0))) mD))))))) (hm:=DN) (hv:=ã))))
abbrev Ap:bK:=top 32
def Ib:K' ["book"] ["book"] (mC Ap):=Y5
def Kz(a:Yg):XS:=(YA (ϰ a.Yx "all_by" 3 (qo a) (xMk a.Yx 2 (qC a) (F' (j' 0) J')) (F' (ý 1 (om a) (j' 0) J') (F' (V' 1 (qP a) (F' (j' 0) J')) J'))))
def AI(a:Yg):XF:=(ZG 1 (Kz a))
variable (P w K mg base a) in abbrev AE:=Fn P w K mg base "worths" 9 ["book"] (YX K a.X8 1 (AI a))
def Ir(Y:Yz K mg a)(c:Gf K "worths" Ap)(A0:qk P w K mg base a)(A1:o8 P w K mg base a)(A2:qO P w K mg base a)(A3:rL P w K mg base a):AE P w K mg base a :=
 Ø c Y λT F=>og F Ib rfl λ_ _ _ _ _ _ hr S=>(mG (m8 (Ms (O0 A3 (mB (mf 0))) A0 (mE (wF (mf 0) A1) (mB (mX A2 (mB (mf 0))))))))
abbrev Do:bK:=top 33
def JH:K' ["book"] ["book"] (mC Do):=Y5
def NQ(a:Yg):XS:=(YA (ϰ a.Yx "all_by" 3 (qo a) (xMk a.Yx 2 (qC a) (F' (j' 0) J')) (F' (ý 1 (pP a) (j' 0) J') (F' (V' 1 (qP a) (F' (j' 0) J')) J'))))
def xy(a:Yg):XF:=(ZG 1 (NQ a))
variable (P w K mg base a) in abbrev Ah:=Fn P w K mg base "parts" 9 ["book"] (YX K a.X8 1 (xy a))
def J4(Y:Yz K mg a)(c:Gf K "parts" Do)(A0:qk P w K mg base a)(A1:uu P w K mg base a)(A2:qO P w K mg base a)(A3:rL P w K mg base a):Ah P w K mg base a :=
 Ø c Y λT F=>og F JH rfl λ_ _ _ _ _ _ hr S=>(mG (m8 (Ms (O0 A3 (mB (mf 0))) A0 (mE (wF (mf 0) A1) (mB (mX A2 (mB (mf 0))))))))
structure Wg(K:aa)(mg:Str->Option ae)(a:Yg):Prop where
 cb:Cb K a.Zp
 tr:∀c∈[a.Zp],Ϥ K c/\bS K c (.ref a.Zp)=Za true
 gc:Gc K a.Zp
 g:mg "Whole"=Za (.ref a.Zp)
abbrev sY:bK:=top 47
def AR:K' ["_law_found"] ["_law_found"] (mC sY):=Y5
def Df(a:Yg):XS:=(YA (þ (ü .int (j' 0)) (ώ (ü .bool (j' 0)))))
def qQ(a:Yg):XF:=(ZG 1 (Df a))
variable (P w K mg base a) in abbrev tJ:=Fn P w K mg base "_law_whole" 1 ["_law_found"] (YX K a.X8 1 (qQ a))
def Bi(Y:Yz K mg a)(c:Gf K "_law_whole" sY):tJ P w K mg base a :=
 Ø c Y λT F=>og F AR rfl λ_ _ _ _ _ _ hr S=>(mG (m8 (GO (xr _ (mf 0)) (GL (QJ (xr _ (mf 0)))))))
abbrev tw:bK:=top 53
def AW:K' ["_law_model","_law_group_here","_law_kept"] ["_law_model"] (mC tw):=Y5
def nq(a:Yg) :XS:=(X6 (å (YJ (x2 (j' 2) (xC .Yh) Ċ)) (Yd 1 (j' 2)) Y') (Yd 2 (o9 (Yw (j' 1)) [1,0] (YJ (x2 (ww (x2 (x2 (j' 2) (j' 0) Yb) (xC (.int 0)) Yb) [1] (YJ (x2 (j' 0) (j' 1) yO)) (j' 0)) (ç J') Ô)) (j' 0))))
def Dh(a:Yg):XS:=(X6 (Yd 1 (xB (F' (j' 0) J') mY)) (X6 (Yd 2 (xC .Yh)) (X6 (ua (YJ (x2 (j' 2) (j' 1) œ)) (nq a)) (YA (j' 1)))))
def tS(a:Yg):XF:=(ZG 3 (Dh a))
variable (P w K mg base a) in abbrev tO:=Fn P w K mg base "_law_group" 1 ["_law_model"] (YX K a.X8 1 (tS a))
def Bn(Y:Yz K mg a)(c:Gf K "_law_group" tw):tO P w K mg base a :=
 Ø c Y λT F=>og F AW rfl λ_ _ _ _ _ _ hr S=>(ms (mQ 1 (nG (YS rfl) (mB (mf 0)))) (ms (mQ 2 D9) (ms (AA (pf Js (mf 2) (mf 1)) (ms (rn (pf LU (mf 2) D9) (mG (mQ 1 (mf 2))) ot) (mG (wa (fr:=["_law_group_here","_law_model"]) (qF (mf 1)) (λ_ _ _ _ _=>(mf 0)) (λ_ _ _ _ _=>(AB (pf CH (KJ (fr:=["_law_group_here"]) (S:=⟨rfl,Zf rfl,rfl,Zf rfl,Zf rfl,by decide,Zf rfl,Zf rfl,rfl⟩) (mR (mR (mf 2) (mf 0)) mD) (λ_ _ _ _ _=>(mf 0)) (λ_ _ _ _ _=>(AB (pf Os (mf 0) (mf 1))))) (wD yR)))))))) (mG (m8 (mf 1))))))
abbrev vV:bK:=top 54
def Ei:K' ["_law_some","_law_top","_law_low","_law_number_here"] ["_law_some"] (mC vV):=Y5
def tI(a:Yg) :XS:=(è (V' 2 (nC a) (F' (x2 (x2 (j' 1) (x2 (j' 3) (xC (.int 1)) Yb) Yr) (x2 (x2 (j' 3) (xC (.int 0)) Yb) (j' 2) Yr) YG) (F' (x2 (j' 2) (x2 (j' 3) (xC (.int 1)) Yb) Yr) J'))) (Zr 2 (Yj (X9 1) (Yj (X9 2) Zs))))
def F4(a:Yg):XS:=(X6 (è (Y7 (F' (xC (.int 0)) (F' (xC (.int 1)) J'))) (Zr 2 (Yj (X9 1) (Yj (X9 2) Zs)))) (X6 (À (Yw (j' 0)) (X9 3) (tI a)) (YA (Y7 (F' (j' 1) (F' (j' 2) J'))))))
def rE(a:Yg):XF:=(ZG 4 (F4 a))
variable (P w K mg base a) in abbrev tZ:=Fn P w K mg base "_law_sum" 3 ["_law_some"] (YX K a.X8 1 (rE a))
def Ep(Y:Yz K mg a)(c:Gf K "_law_sum" vV)(A0:pK P w K mg base a):tZ P w K mg base a :=
 Ø c Y λT F=>og F Ei rfl λ_ _ _ _ _ _ hr S=>(ms (BC (qh (mE mD (mB mD))) (uj (nF (m9 1) (nF (m9 2) rA)))) (ms (rb (qF (mf 0)) (m9 3) (mG (BC (mX A0 (mE (oA (nL (mf 1) (mR (mf 3) mD)) (nL (mR (mf 3) mD) (mf 2))) (mB (nL (mf 2) (mR (mf 3) mD))))) (uj (nF (m9 1) (nF (m9 2) rA)))))) (mG (m8 (qh (mE (mf 1) (mB (mf 2))))))))
abbrev sZ:bK:=top 55
def AS:K' ["_law_one","_law_other"] ["_law_one","_law_other"] (mC sZ):=Y5
def Dg(a:Yg):XS:=(YA (V' 2 (nC a) (F' (x2 (x2 (j' 0) (xC (.int 0)) Yb) (x2 (j' 1) (xC (.int 0)) Yb) Yr) (F' (x2 (x2 (j' 0) (xC (.int 1)) Yb) (x2 (j' 1) (xC (.int 1)) Yb) Yr) J'))))
def tQ(a:Yg):XF:=(ZG 2 (Dg a))
variable (P w K mg base a) in abbrev tK:=Fn P w K mg base "_law_times" 3 ["_law_one","_law_other"] (YX K a.X8 2 (tQ a))
def Bj(Y:Yz K mg a)(c:Gf K "_law_times" sZ)(A0:pK P w K mg base a):tK P w K mg base a :=
 Ø c Y λT F=>og F AS rfl λ_ _ _ _ _ _ hr S=>(mG (m8 (mX A0 (mE (nL (mR (mf 0) mD) (mR (mf 1) mD)) (mB (nL (mR (mf 0) mD) (mR (mf 1) mD)))))))
abbrev uE:bK:=top 56
def CV:K' ["_law_model","_law_holder","_law_by","_law_some","_law_house"] ["_law_model","_law_holder","_law_by"] (mC uE):=Y5
def oJ(a:Yg) :XS:=(å (YJ (x2 (j' 1) (x2 (x2 (j' 0) (j' 4) Yb) (xC (.int 0)) Yb) fIn)) (Ń (Zw (j' 3) (F' (V' 2 (tQ a) (F' (x2 (x2 (x2 (j' 0) (j' 4) Yb) (xC (.int 0)) Yb) (j' 1) Yb) (F' (x2 (j' 2) (j' 4) Yb) J'))) J'))) Y')
def yk(a:Yg):XS:=(X6 (Yd 3 (ġ J')) (X6 (Fq 0 (X9 4) (oJ a)) (YA (V' 1 (rE a) (F' (ł (j' 3)) J')))))
def uU(a:Yg):XF:=(ZG 5 (yk a))
variable (P w K mg base a) in abbrev uT:=Fn P w K mg base "_law_held" 4 ["_law_model","_law_holder","_law_by"] (YX K a.X8 3 (uU a))
def Da(Y:Yz K mg a)(c:Gf K "_law_held" uE)(A0:tZ P w K mg base a)(A1:tK P w K mg base a):uT P w K mg base a :=
 Ø c Y λT F=>og F CV rfl λ_ _ _ _ _ _ hr S=>(ms (mQ 3 (z5 yR)) (ms (N2 0 (m9 4) (mG (rn (pf ÁP (mf 1) (mR (mR (mf 0) (mf 4)) mD)) (mG (BO (Cu (mf 3) (mB (mX A1 (mE (mR (mR (mR (mf 0) (mf 4)) mD) (mf 1)) (mB (mR (mf 2) (mf 4))))))))) ot))) (mG (m8 (mX A0 (mB (LP (mf 3))))))))
abbrev pj:bK:=top 57
def uX:K' ["_law_found"] ["_law_found"] (mC pj):=Y5
def vP(a:Yg):XS:=(X6 (å (ϧ (ė (YJ (ü .tuple (j' 0)))) (ϧ (YJ (x2 (xB (F' (j' 0) J') ZH) (xC (.int 2)) œ)) (ϧ (ė (YJ (V' 1 (qQ a) (F' (x2 (j' 0) (xC (.int 0)) Yb) J')))) (ė (YJ (V' 1 (qQ a) (F' (x2 (j' 0) (xC (.int 1)) Yb) J'))))))) (YA (xC (.bl false))) Y') (YA (þ (x2 (x2 (j' 0) (xC (.int 1)) Yb) (xC (.int 0)) fGt) (x2 (V' 2 (oz a) (F' (x2 (j' 0) (xC (.int 0)) Yb) (F' (x2 (j' 0) (xC (.int 1)) Yb) J'))) (xC (.int 1)) Ô))))
def pC(a:Yg):XF:=(ZG 1 (vP a))
variable (P w K mg base a) in abbrev pB:=Fn P w K mg base "_law_is_fraction" 2 ["_law_found"] (YX K a.X8 1 (pC a))
def vd(Y:Yz K mg a)(c:Gf K "_law_is_fraction" pj)(A0:tJ P w K mg base a)(A1:pT P w K mg base a):pB P w K mg base a :=
 Ø c Y λT F=>og F uX rfl λ_ _ _ _ _ _ hr S=>(ms (rn (DW.dt (D5 (yP (vL (xr _ (mf 0)))) (D5 (pf Js (nG Zy (mB (mf 0))) mD) (D5 (yP (vL (mX A0 (mB (mR (mf 0) mD))))) (GI (yP (vL (mX A0 (mB (mR (mf 0) mD)))))))))) (mG (m8 F9)) ot) (mG (m8 (GO (BR O3 (mR (mf 0) mD) mD) (GL (BR CH (mX A1 (mE (mR (mf 0) mD) (mB (mR (mf 0) mD)))) mD))))))
abbrev qT:bK:=top 58
def yt:K' ["_law_book","_law_group_here","_law_caught","e"] ["_law_book","_law_group_here"] (mC qT):=Y5
def ze(a:Yg):XS:=(X6 (Yd 2 (xC .Yh)) (X6 (Mv 3 [a.Zp] (Ń (AL 1 (xy a) (F' (j' 0) J'))) (Yd 2 (j' 3))) (YA (þ (x2 (j' 2) (xC .Yh) Ċ) (x2 (ÀE a.Zp (j' 2)) (j' 1) Ô)))))
def qY(a:Yg):XF:=(ZG 4 (ze a))
variable (P w K mg base a) in abbrev qX:=Fn P w K mg base "_law_refused" 10 ["_law_book","_law_group_here"] (YX K a.X8 2 (qY a))
def yw(Y:Yz K mg a)(c:Gf K "_law_refused" qT)(WG:Wg K mg a)(A0:Ah P w K mg base a):qX P w K mg base a :=
 Ø c Y λT F=>og F yt rfl λ_ _ _ _ _ _ hr S=>(ms (mQ 2 D9) (ms (QD rfl rfl rfl rfl (QC (QH A0 (mB (mf 0)))) rfl WG.g WG.cb WG.tr S.nd rfl rfl (λ_=>(mG (mQ 2 (mf 3))))) (mG (m8 (GO (BR LU (mf 2) D9) (GL (BR CH (QM WG.gc (mf 2)) (mf 1))))))))
abbrev L9:bK:=top 59
def Pl:K' ["_law_script","_law_purse_here","_law_book","_law_persons","_law_model","_law_group_here","_law_by","_law_found","_law_one","_law_things"] ["_law_script"] (mC L9):=Y5
def DF(a:Yg) :XS:=(X6 (å (ϧ (ė (YJ (ü .tuple (j' 8)))) (ϧ (YJ (x2 (xB (F' (j' 8) J') ZH) (xC (.int 2)) œ)) (ė (YJ (V' 1 (pC a) (F' (x2 (j' 8) (xC (.int 1)) Yb) J')))))) (YA (xC (.bl false))) Y') (å (YJ (x2 (x2 (j' 8) (xC (.int 1)) Yb) (V' 3 (uU a) (F' (j' 4) (F' (x2 (j' 8) (xC (.int 0)) Yb) (F' (j' 6) J')))) œ)) (YA (xC (.bl false))) Y'))
def Jk(a:Yg):XS:=(X6 (Yd 1 (V' 1 (pU a) (F' (j' 0) J'))) (X6 (è (V' 2 (tT a) (F' (j' 1) (F' (xC (.int 6)) J'))) (Zr 3 (Yj (X9 2) (Yj (X9 3) (Yj (X9 4) Zs))))) (X6 (Yd 5 (V' 1 (tS a) (F' (j' 4) J'))) (X6 (å (YJ (x2 (j' 5) (ç J') œ)) (YA (V' 2 (qY a) (F' (j' 2) (F' (j' 5) J')))) Y') (X6 (Yd 6 (xB (F' (V' 1 (AI a) (F' (j' 2) J')) J') zU)) (X6 (Yd 7 (V' 1 (xy a) (F' (j' 2) J'))) (X6 (å (ϧ (ė (YJ (ü .list (j' 7)))) (YJ (x2 (o9 (Yw (j' 7)) [] nI (x2 (j' 0) (xC (.int 0)) Yb)) (j' 3) œ))) (YA (xC (.bl false))) Y') (X6 (À (Yw (j' 7)) (X9 8) (DF a)) (X6 (Yd 9 (yF 4 [4] nI (Y7 (F' (x2 (x2 (x2 (j' 1) (j' 0) Yb) (xC (.int 1)) Yb) (xC (.int 0)) Yb) (F' (xC (.int 1)) J'))))) (YA (x2 (V' 1 (rE a) (F' (oX (Yw (j' 7)) [] nI (j' 1)) J')) (V' 1 (rE a) (F' (j' 9) J')) Ô)))))))))))
def BS(a:Yg):XF:=(ZG 10 (Jk a))
def P7(T:Txt K mg a)(F:Z' K "law" "law" L9 f fd)(DN:mg "dict"=Zb)(A0:tL P w K mg base a)(A1:tP P w K mg base a)(A2:tO P w K mg base a)(A3:Ah P w K mg base a)(A4:qX P w K mg base a)(A5:AE P w K mg base a)(A6:tZ P w K mg base a)(A7:uT P w K mg base a)(A8:pB P w K mg base a):Yt P w K mg base (YW P w) 11 f fd ["_law_script"] (YX K a.X8 1 (BS a)) :=
 og F Pl rfl λ_ _ _ _ _ _ hr S=>(ms (mQ 1 (mX A0 (mB (mf 0)))) (ms (BC (mX A1 (mE (mf 1) (mB mD))) (uj (nF (m9 2) (nF (m9 3) (nF (m9 4) rA))))) (ms (mQ 5 (mX A2 (mB (mf 4)))) (ms (rn (pf Js (mf 5) (wD yR)) (mG (m8 (mX A4 (mE (mf 2) (mB (mf 5)))))) ot) (ms (mQ 6 (sO (Ed rfl) (mB (mX A5 (mB (mf 2)))) (hm:=DN) (hv:=ã))) (ms (mQ 7 (mX A3 (mB (mf 2)))) (ms (rn (DW.dt (D5 (yP (vL (xr _ (mf 7)))) (GI (pf Js (qL (fr:=[]) (qF (mf 7)) (λ_ _ _ _ _=>(mR (mf 0) mD))) (mf 3))))) (mG (m8 F9)) ot) (ms (rb (qF (mf 7)) (m9 8) (ms (rn (DW.dt (D5 (yP (vL (xr _ (mf 8)))) (D5 (pf Js (nG Zy (mB (mf 8))) mD) (GI (yP (vL (mX A8 (mB (mR (mf 8) mD))))))))) (mG (m8 F9)) ot) (mG (rn (pf Js (mR (mf 8) mD) (mX A7 (mE (mf 4) (mE (mR (mf 8) mD) (mB (mf 6)))))) (mG (m8 F9)) ot)))) (ms (Ex (fr:=["_law_model"]) 4 (λ_ _ _ _ _=>(qh (mE (mR (mR (mR (mf 1) (mf 0)) mD) mD) (mB mD))))) (mG (m8 (BR CH (mX A6 (mB (wW (fr:=[]) (qF (mf 7)) (λ_ _ _ _ _=>(mf 1))))) (mX A6 (mB (mf 9)))))))))))))))
end
def Sm(x:Str):Prop:=x.length<=9/\∀c∈x.cps.toList,c<128
def Sm.nm{x}(h:Sm x):Nm x:=⟨aJ h.1 (Zf rfl),λc hc=>ia (h.2 c hc) (Zf rfl)⟩
def Kj(x:Str):x.length=x.cps.toList.length:=by show x.cps.size=_;simp
def AD(x y:Str):(x++y).cps.toList=x.cps.toList++y.cps.toList:=PyProof.Rows.cps_toList_append x y
def NC:∀j,j<26->(b6 "abcdefghijklmnopqrstuvwxyz").cps.toList[j]?=Za (97+j):=by decide +kernel
def Qj{i}(h0:0<=i)(h1:i<26):Z9 (b6 "abcdefghijklmnopqrstuvwxyz").cps.toList i=Za (97+i.toNat):=by
 have e:i=(i.toNat:Int):=by lia
 have:=nJ (NC i.toNat (by lia));rw[<-e] at this;exact this
def JB{ys:List Str}(h:∀y∈ys,y.length<=1):(ys.map (·.length)).sum<=ys.length:=by
 induction ys with
 |nil=>exact ak _
 |cons y r ih =>
  have:=ih λz hz=>h z (ah _ hz);have:=h y al;simp[am,fT,bw];lia
structure FrB(k:Nat)(v:Int)(q:Int×Int):Prop where
 low:æ q
 nn:0<=q.1
 le:q.1<=v*q.2
 bb:Bt k q.2
def MV{q}(h:0<q.2):(red q).2∣q.2:=by obtain⟨v,hv⟩:(aH q.1 q.2:Int)∣q.2:=cm ..;have hg:0<aH q.1 q.2:=bx _ (by lia);refine⟨(aH q.1 q.2:Int),?_⟩;unfold red;simp only;rw[Int.ediv_mul_cancel (cm ..)]
def wX{p q}(hp:0<p.2)(hq:0<q.2):(oG p q).1*(p.2*q.2)=(p.1*q.2+q.1*p.2)*(oG p q).2:=(t7 (q:=(p.1*q.2+q.1*p.2,p.2*q.2)) (bv hp hq)).2
def HL{k l}{p q}(hp:0<p.2)(hq:0<q.2)(bp:Bt k p.2)(bq:Bt l q.2):Bt (k+l) (oG p q).2 :=
 (bp.mul bq).dvd (Int.ne_of_gt (bv hp hq)) (MV (q:=(p.1*q.2+q.1*p.2,p.2*q.2)) (bv hp hq))
def vq{a b d:Int}(hd:0<d)(h:a*d<=b*d):a<=b:=km h hd
def zi{k:Nat}{v:Int}{g q:Int×Int}(hg:FrB k v g)(hq:æ q)(q0:0<q.1)(h:q.1*g.2<=g.1*q.2)(bq:Bt 97 q.2):FrB (k+97) v (oG g (-q.1,q.2)):=by
 have g0:=hg.low.1;have p0:=hq.1;have lq:æ (-q.1,q.2):=⟨hq.1,by have:=hq.2;unfold Ĕ aH at *;simp[iM];exact this⟩;have lo:=Fk hg.low lq;have D0:0<g.2*q.2:=bv g0 p0;have ev:=wX (p:=g) (q:=(-q.1,q.2)) g0 p0;simp only at ev;generalize hr:oG g (-q.1,q.2)=r at *;have r0:=lo.1;refine⟨lo,?_,?_,?_⟩
 .apply vq D0;rw[ev,Int.zero_mul];refine iO ?_ (bF r0);rw[jG];lia
 .apply vq D0;rw[ev];have h1:g.1*q.2+-q.1*g.2<=v*g.2*q.2:=by have a1:g.1*q.2<=v*g.2*q.2:=aS hg.le (bF p0);have a2:0<=q.1*g.2:=iO (bF q0) (bF g0);rw[jG];lia
  have h2:=aS h1 (bF r0);have e:v*g.2*q.2*r.2=v*r.2*(g.2*q.2):=by simp[bh,fD,bR]
  rw[<-e];exact h2
 .rw[<-hr];exact HL g0 p0 hg.bb bq
def Ox{k:Nat}{v:Int}{g q:Int×Int}(hg:FrB k v g)(hq:æ q)(q0:0<q.1)(h:q.1<=v*q.2)(bq:Bt 97 q.2):FrB (k+97) (2*v) (oG g q)/\0<(oG g q).1:=by
 have g0:=hg.low.1;have p0:=hq.1;have lo:=Fk hg.low hq;have D0:0<g.2*q.2:=bv g0 p0;have ev:=wX (p:=g) (q:=q) g0 p0;have bt:=HL (p:=g) (q:=q) g0 p0 hg.bb bq;generalize hr:oG g q=r at *;have r0:=lo.1;have pos:0<r.1:=by
  have a1:0<=g.1*q.2:=iO hg.nn (bF p0);have a2:0<q.1*g.2:=bv q0 g0;have a3:0<(g.1*q.2+q.1*g.2)*r.2:=bv (by lia) r0;rw[<-ev] at a3;by_cases z:0<r.1
  .exact z
  .have:=i7 (show r.1<=0 by lia) (bF D0);lia
 refine⟨⟨lo,bF pos,?_,bt⟩,pos⟩;apply vq D0;rw[ev];have h1:g.1*q.2+q.1*g.2<=2*v*g.2*q.2:=by
  have a1:g.1*q.2<=v*g.2*q.2:=aS hg.le (bF p0);have a2:q.1*g.2<=v*q.2*g.2:=aS h (bF g0);have e1:v*q.2*g.2=v*g.2*q.2:=eY ..;have e2:2*v*g.2*q.2=2*(v*g.2*q.2):=by rw[bh 2,bh 2]
  rw[e2];lia
 have h2:=aS h1 (bF r0);have e:2*v*g.2*q.2*r.2=2*v*r.2*(g.2*q.2):=by simp[bh,fD,bR]
 rw[<-e];exact h2
def He{k:Nat}{v:Int}{g q:Int×Int}(hg:FrB k v g)(hq:æ q)(h:q.1*g.2<=g.1*q.2):q.1<=v*q.2:=by refine vq hg.low.1 (ig h ?_);have:=aS hg.le (bF hq.1);rw[eY];exact this
def ő(c:Nat)(q:Int×Int):Prop:=FrB (194*c+2) (2^c:Nat) q
def ő.top{c}{q}(h:ő c q):Bt (195*c+2) q.1:=by
 have h1:=h.le;have h0:=h.nn;have hb:Bt (c+1) ((2^c:Nat):Int):=by unfold Bt;rw[i6,lc];have:=cy c;lia
 have h2:q.1.natAbs<=(((2^c:Nat):Int)*q.2).natAbs:=by lia
 unfold Bt;apply aX h2;rw[iN,i6];have hb2:q.2.natAbs<2^(194*c+2):=h.bb;have:2^c*q.2.natAbs<2^c*2^(194*c+2):=Nat.mul_lt_mul_of_pos_left hb2 (cy c);rw[<-lN] at this;have e:c+(194*c+2)=195*c+2:=by lia
 rw[e] at this;exact this
def ő.sz{c}{q}(h:ő c q)(hc:c<=45):Sz q:=⟨h.low,h.top.mono (by lia),h.bb.mono (by lia)⟩
theorem ő.mono{c d}{q}(h:ő c q)(hc:c<=d):ő d q:=by refine⟨h.low,h.nn,ig h.le ?_,h.bb.mono (by lia)⟩;refine aS ?_ (bF h.low.1);exact ib.mpr (b8 (Zf rfl) hc)
def ÁE(c):ő c (0,1):=⟨⟨Zf rfl,(rfl:aH 0 1=1)⟩,Int.le_refl _,by rw[lQ];exact Int.natCast_nonneg _,bt1 (by lia)⟩
def ÂN(c):ő c (1,1):=⟨⟨Zf rfl,(rfl:aH 1 1=1)⟩,Zf rfl,by rw[lQ];exact ib.mpr (cy c),bt1 (by lia)⟩
structure Ť(q:Int×Int):Prop where
 low:æ q
 bt:Bt 200 q.1
 bb:Bt 97 q.2
def Ť.sz{q}(h:Ť q):Sz q:=⟨h.low,h.bt.mono (Zf rfl),h.bb.mono (Zf rfl)⟩
def vJ{l}{n}(h:n∉l.map (·.1)):mO l n=(0,1):=by
 unfold mO nc;have:l.find? (λq=>decide (q.1=n))=none:=by rw[gz];exact λx hx z=>h (aq.mpr ⟨x,hx,Zf z⟩)
 rw[this];rfl
def rv(q:Int×Int):Rat:=aN q.1 q.2
def Lh{p q}(hp:0<p.2)(hq:0<q.2):rv (oG p q)=rv p+rv q:=by have h:=wX hp hq;have h2:0<(oG p q).2:=(t7 (q:=(p.1*q.2+q.1*p.2,p.2*q.2)) (bv hp hq)).1.1;unfold rv;rw[li _ _ (by lia) (by lia),kC (by lia) (by have:=bv hp hq;lia)];exact h
def Lg(q):rv (-q.1,q.2)=-rv q:=by unfold rv;rw[Rat.neg_divInt]
def mU:List Rat->Rat
 |[]=>0
 |x::l=>x+mU l
theorem wM:∀l m:List Rat,mU (l++m)=mU l+mU m
 |[],m=>by show mU m=0+mU m;rw[jc]
 |x::l,m=>by show x+mU (l++m)=x+mU l+mU m;rw[wM l m,Rat.add_assoc]
theorem EJ{f g}{o}(h:∀n,n≠o->f n=g n):∀ns:List Str,ns.Nodup->mU (ns.map f)=if o∈ns then mU (ns.map g)+(f o-g o) else mU (ns.map g)
 |[],_=>rfl
 |n::ns,nd=>by
  obtain⟨n1,n2⟩:=aL.mp nd;have ih:=EJ h ns n2;show f n+mU (ns.map f)=_;by_cases e:n=o
  .subst e;rw[Zd n1] at ih;rw[Zc al,ih];show f n+mU (ns.map g)=g n+mU (ns.map g)+(f n-g n)
   grind
  .have m:o∈n::ns↔o∈ns:=⟨λz=>(ao.mp z).resolve_left λq=>e q.symm,ah _⟩;by_cases z:o∈ns
   .rw[Zc z] at ih;rw[Zc (m.mpr z),ih,h n e];show g n+(mU (ns.map g)+(f o-g o))=g n+mU (ns.map g)+(f o-g o);rw[Rat.add_assoc]
   .rw[Zd z] at ih;rw[Zd (λq=>z (m.mp q)),ih,h n e];rfl
def Jq(l:Hl):Rat:=mU ((l.map (·.1)).map λn=>rv (mO l n))
def EK{l}(nd:(l.map (·.1)).Nodup)(o)(q):Jq (oB l o q)=Jq l+(rv q-rv (mO l o)):=by
 have h:∀n,n≠o->rv (mO (oB l o q) n)=rv (mO l n):=λn hn=>by rw[nR,Zd hn]
 have ho:rv (mO (oB l o q) o)=rv q:=by rw[nR,Zc rfl]
 have u:=EJ h (l.map (·.1)) nd;unfold Jq;rw[oi];by_cases z:o∈l.map (·.1)
 .rw[Zc z] at u ⊢;rw[u,ho]
 .rw[Zd z] at u ⊢;rw[aC,wM,u,vJ z];show _+(rv (mO (oB l o q) o)+0)=_;have:rv (0,1)=0:=ii 1;rw[ho,this]
  grind
structure On(D:Int)(q:Int×Int)(u:Int):Prop where
 low:æ q
 ev:q.1*D=u*q.2
def On.dvd{D}{q}{u}(h:On D q u):q.2∣D:=DD h.low.2.symm ⟨u,by rw[h.ev,bR]⟩
def On.add{D}{p q}{u v}(h:On D p u)(g:On D q v):On D (oG p q) (u+v):=by
 have p0:=h.low.1;have q0:=g.low.1;have ev:=wX p0 q0;have pq:0<p.2*q.2:=bv p0 q0;refine⟨(t7 (q:=(p.1*q.2+q.1*p.2,p.2*q.2)) pq).1,eA (a:=p.2*q.2) (by lia) ?_⟩;generalize oG p q=r at ev ⊢;have e1:=h.ev;have e2:=g.ev
 calc r.1*D*(p.2*q.2)=(r.1*(p.2*q.2))*D:=by rw[bh,bR D,<-bh]
  _=((p.1*q.2+q.1*p.2)*r.2)*D:=by rw[ev]
  _=((p.1*D)*q.2+(q.1*D)*p.2)*r.2:=by
   rw[bh,bR r.2 D,<-bh,Int.add_mul (p.1*q.2)]
   congr 2
   .rw[bh,bR q.2,<-bh]
   .rw[bh,bR p.2,<-bh]
  _=((u*p.2)*q.2+(v*q.2)*p.2)*r.2:=by rw[e1,e2]
  _=(u+v)*r.2*(p.2*q.2):=by
   have a1:u*p.2*q.2=u*(p.2*q.2):=bh ..;have a2:v*q.2*p.2=v*(p.2*q.2):=by rw[bh,bR q.2]
   rw[a1,a2,<-Int.add_mul,bh,bR (p.2*q.2),<-bh]
def On.neg{D}{q}{u}(h:On D q u):On D (-q.1,q.2) (-u) :=
 ⟨⟨h.low.1,by have:=h.low.2;unfold Ĕ aH at *;simp[iM];exact this⟩,by show -q.1*D=-u*q.2;rw[jG,jG,h.ev]⟩
def On.scale{D}{q}{u}(h:On D q u)(k):On (D*k) q (u*k) :=
 ⟨h.low,by rw[<-bh,h.ev,bh,bR q.2,<-bh]⟩
def Nq(D):On D (0,1) 0:=⟨⟨Zf rfl,rfl⟩,by simp⟩
def P6(D):On D (1,1) D:=⟨⟨Zf rfl,rfl⟩,by show 1*D=D*1;lia⟩
def Nr{q}(h:æ q):On q.2 q q.1:=⟨h,rfl⟩
structure HR(c:Nat)(hl hm:Hl):Prop where
 q:∀n,mO hl n=mO hm n
 nm:∀n,n∈hl.map (·.1)↔0<(mO hl n).1
 n1:(hl.map (·.1)).Nodup
 n2:(hm.map (·.1)).Nodup
 l1:hl.length<=c+1
 l2:hm.length<=c+1
 fr:∀n,ő c (mO hl n)
 ex:∃n,0<(mO hl n).1
 sm:∀n∈hm.map (·.1),Sm n
 one:Jq hm=1
 dv:∃(D:Int)(U:Str->Int),0<D/\Bt (97*c+1) D/\∀n,On D (mO hm n) (U n)
def Qs(c){o}(ho:Sm o):HR c [(o,1,1)] [(o,1,1)]:=by
 have g:∀n,mO [(o,1,1)] n=if n=o then(1,1) else(0,1):=λn=>by
  unfold mO nc;rw[bQ];by_cases e:o=n
  .rw[show decide ((o,((1:Int),(1:Int))).1=n)=true from Zg e,Zc e.symm];rfl
  .rw[show decide ((o,((1:Int),(1:Int))).1=n)=false from Zh e,Zd λz=>e z.symm];rfl
 refine⟨λ_=>rfl,λn=>?_,by simp,by simp,by simp,by simp,λn=>?_,⟨o,by rw[g,Zc rfl];decide⟩,λn hn=>by rw[ax.mp hn];exact ho,by
  show rv (mO [(o,1,1)] o)+0=1;rw[g,Zc rfl,g8];exact Rat.divInt_self' (Zf rfl),1,λn=>if n=o then 1 else 0,Zf rfl,bt1 (by lia),λn=>by
   rw[g];by_cases e:n=o
   .rw[Zc e];show On 1 (1,1) (if n=o then 1 else 0);rw[Zc e];exact P6 1
   .rw[Zd e];show On 1 (0,1) (if n=o then 1 else 0);rw[Zd e];exact Nq 1⟩
 .rw[g];by_cases e:n=o
  .rw[Zc e];simp[e]
  .rw[Zd e];simp[e]
 .rw[g];by_cases e:n=o
  .rw[Zc e];exact ÂN c
  .rw[Zd e];exact ÁE c
def HR.had{c}{hl hm}(h:HR c hl hm){n}(h0:0<(mO hm n).1):n∈hm.map (·.1):=by
 by_cases z:n∈hm.map (·.1)
 .exact z
 .rw[vJ z] at h0;exact absurd h0 (Zf rfl)
def Aw{q}(h:æ q)(h0:q.1=0):q=(0,1):=by
 obtain⟨t,b⟩:=q;obtain⟨h1,h2⟩:=h;simp only at h0 h1 h2;subst h0;have e:b=1:=by have:aH 0 b=1:=h2;rw[Int.gcd_zero_left] at this;lia
 rw[e]
def HR.ϓ{c}{hl hm}(h:HR c hl hm){o1 o2}{q}(hq:Ť q)(so:Sm o2)(nt:¬pL hl o1 q):HR (c+1) (ZT hl o1 o2 q) (Jj hm o1 o2 q):=by
 have q0:0<q.1:=by by_cases z:0<q.1;exact z;exact absurd (.inl z) nt
 have Sh:q.1*(mO hl o1).2<=(mO hl o1).1*q.2:=by
  by_cases z:q.1*(mO hl o1).2>(mO hl o1).1*q.2
  .exact absurd (.inr z) nt
  .lia
 have R:=zi (h.fr o1) hq.low q0 Sh hq.bb;have qv:=He (h.fr o1) hq.low Sh;have Ta:o1∈hl.map (·.1):=by
  rw[h.nm];by_cases z:0<(mO hl o1).1
  .exact z
  .have a1:(mO hl o1).1*q.2<=0:=i7 (by lia) (bF hq.low.1);have a2:0<q.1*(mO hl o1).2:=bv q0 (h.fr o1).low.1;lia
 have U9:o1∈hm.map (·.1):=h.had (by rw[<-h.q];exact(h.nm o1).mp Ta);generalize hr:oG (mO hl o1) (-q.1,q.2)=r at *;have key:∃l1 m1:Hl,ZT hl o1 o2 q=oB l1 o2 (oG (mO l1 o2) q)/\Jj hm o1 o2 q=oB m1 o2 (oG (mO m1 o2) q)/\(∀n,mO l1 n=mO m1 n)/\(∀n,n∈l1.map (·.1)↔0<(mO l1 n).1)/\(l1.map (·.1)).Nodup/\(m1.map (·.1)).Nodup/\l1.length<=c+1/\m1.length<=c+1/\(∀n,FrB (194*c+2+97) (2^c:Nat) (mO l1 n))/\(∀n∈m1.map (·.1),Sm n)/\Jq m1+rv q=1/\∃(D:Int)(U:Str->Int),0<D/\Bt (97*(c+1)+1) D/\On D q (U cq)/\∀n,∃u,On D (mO m1 n) u:=by
  have gm:∀n,mO (oB hm o1 r) n=if n=o1 then r else mO hl n:=λn=>by rw[nR,h.q]
  have lm:(oB hm o1 r).length<=c+1:=by have:=congrArg cE (oi hm o1 r);rw[Zc U9,ac,ac] at this;rw[this];exact h.l2
  have UX:∀n,FrB (194*c+2+97) (2^c:Nat) (if n=o1 then r else mO hl n):=λn=>by
   by_cases e:n=o1
   .rw[Zc e];exact R
   .rw[Zd e];exact⟨(h.fr n).low,(h.fr n).nn,(h.fr n).le,(h.fr n).bb.mono (by lia)⟩
  have em:Jj hm o1 o2 q=oB (oB hm o1 r) o2 (oG (mO (oB hm o1 r) o2) q):=by unfold Jj;simp[<-h.q o1,hr]
  have smm:∀n∈(oB hm o1 r).map (·.1),Sm n:=λn hn=>by rw[oi,Zc U9] at hn;exact h.sm n hn
  have Ϲ:Jq (oB hm o1 r)+rv q=1:=by
   rw[EK h.n2,h.one,<-hr,Lh (q:=(-q.1,q.2)) (h.fr o1).low.1 hq.low.1,Lg,h.q]
   grind
  have dv1:∃(D:Int)(U:Str->Int),0<D/\Bt (97*(c+1)+1) D/\On D q (U cq)/\∀n,∃u,On D (mO (oB hm o1 r) n) u:=by
   obtain⟨D,U,d1,d2,d3⟩:=h.dv;have oq:On (D*q.2) q (q.1*D):=by rw[bR D];exact(Nr hq.low).scale D
   refine⟨D*q.2,λ_=>q.1*D,bv d1 hq.low.1,(d2.mul hq.bb).mono (by lia),oq,λn=>?_⟩;rw[nR];by_cases e:n=o1
   .rw[Zc e,<-hr,h.q];exact⟨_,((d3 o1).scale q.2).add oq.neg⟩
   .rw[Zd e];exact⟨_,(d3 n).scale q.2⟩
  by_cases rz:r=(0,1)
  .have gl:∀n,mO (oh hl o1) n=if n=o1 then r else mO hl n:=λn=>by rw[qu,rz]
   refine⟨oh hl o1,oB hm o1 r,?_,em,λn=>by rw[gl,gm],λn=>?_,Du _ h.n1,wz _ _ h.n2,aJ (E2 _ _) h.l1,lm,λn=>by rw[gl];exact UX n,smm,Ϲ,dv1⟩
   .unfold ZT;simp[hr,rz,if_true]
   .rw[zG,bi,gl,h.nm,decide_eq_true_iff];by_cases e:n=o1
    .rw[Zc e,rz];exact⟨λz=>absurd e z.2,λz=>absurd z (Zf rfl)⟩
    .rw[Zd e];exact⟨λz=>z.1,λz=>⟨z,e⟩⟩
  .have gl:∀n,mO (oB hl o1 r) n=if n=o1 then r else mO hl n:=λn=>nR ..
   have rp:0<r.1:=by
    have:=R.nn;by_cases z:r.1=0
    .exact absurd (Aw R.low z) rz
    .lia
   refine⟨oB hl o1 r,oB hm o1 r,?_,em,λn=>by rw[gl,gm],λn=>?_,wz _ _ h.n1,wz _ _ h.n2,?_,lm,λn=>by rw[gl];exact UX n,smm,Ϲ,dv1⟩
   .unfold ZT;simp[hr,rz,if_false]
   .rw[oi,Zc Ta,gl,h.nm];by_cases e:n=o1
    .rw[Zc e];exact⟨λ_=>rp,λ_=>by rw[e];exact(h.nm o1).mp Ta⟩
    .rw[Zd e]
   .have:=congrArg cE (oi hl o1 r);rw[Zc Ta,ac,ac] at this;rw[this];exact h.l1
 obtain⟨l1,m1,es,em,gq,nm1,nd1,nd2,Â1,Â0,UX,sm1,Ϲ,D1,U1,d1,d2,oq,dm⟩:=key;obtain⟨U,up⟩:=Ox (UX o2) hq.low q0 qv hq.bb;have ev:(2*((2^c:Nat):Int))=((2^(c+1):Nat):Int):=by rw[lc,Int.natCast_mul,bR];rfl
 rw[es,em];refine⟨λn=>?_,λn=>?_,wz _ _ nd1,wz _ _ nd2,aJ (Hk _ _ _) (by lia),aJ (Hk _ _ _) (by lia),λn=>?_,⟨o2,by rw[nR,Zc rfl];exact up⟩,λn hn=>?_,?_,?_⟩
 .rw[nR,nR,gq,gq]
 .rw[nR,oi];by_cases e:n=o2
  .rw[Zc e];refine⟨λ_=>up,λ_=>?_⟩;rw[e];by_cases z:o2∈l1.map (·.1)
   .rw[Zc z];exact z
   .rw[Zd z];exact aM _ (ax.mpr rfl)
  .rw[Zd e,<-nm1];by_cases z:o2∈l1.map (·.1)
   .rw[Zc z]
   .rw[Zd z,ba];exact⟨λy=>y.elim id λy=>absurd (ax.mp y) e,λy=>.inl y⟩
 .rw[nR];by_cases e:n=o2
  .rw[Zc e];unfold ő;rw[<-ev];exact⟨U.low,U.nn,U.le,U.bb.mono (by lia)⟩
  .rw[Zd e];have:=UX n;refine⟨this.low,this.nn,ig this.le ?_,this.bb.mono (by lia)⟩;exact aS (ib.mpr (b8 (Zf rfl) (by lia))) (bF this.low.1)
 .rw[oi] at hn;by_cases z:o2∈m1.map (·.1)
  .rw[Zc z] at hn;exact sm1 n hn
  .rw[Zd z] at hn;obtain y|y:=ba.mp hn
   .exact sm1 n y
   .rw[ax.mp y];exact so
 .rw[EK nd2,Lh (by rw[<-gq];exact(UX o2).low.1) hq.low.1]
  grind
 .have:∀n,∃u,On D1 (mO (oB m1 o2 (oG (mO m1 o2) q)) n) u:=λn=>by
   rw[nR];by_cases e:n=o2
   .rw[Zc e];obtain⟨u,hu⟩:=dm o2;exact⟨_,hu.add oq⟩
   .rw[Zd e];exact dm n
  exact⟨D1,λn=>Classical.choose (this n),d1,d2,λn=>Classical.choose_spec (this n)⟩
def HR.Ào{c}{hl hm}(h:HR c hl hm)(hc:c<=44){o1}{q}(hq:Ť q):ĺ hl o1 q:=by
 refine⟨aX h.l1 (by lia),λn=>(h.fr n).sz (by lia),λnt=>?_⟩;have q0:0<q.1:=by by_cases z:0<q.1;exact z;exact absurd (.inl z) nt
 have Sh:q.1*(mO hl o1).2<=(mO hl o1).1*q.2:=by
  by_cases z:q.1*(mO hl o1).2>(mO hl o1).1*q.2
  .exact absurd (.inr z) nt
  .lia
 have R:=zi (h.fr o1) hq.low q0 Sh hq.bb;refine ő.sz (c:=c+1) ⟨R.low,R.nn,ig R.le ?_,R.bb.mono (by lia)⟩ (by lia);exact aS (ib.mpr (b8 (Zf rfl) (by lia))) (bF R.low.1)
def Hj{body:PV->XS}(l:List PV)(I:Nat->En->N'->Prop)(h:∀k q Z s,l[k]?=Za q->I k Z s->∃Yi s',body q Z s=.nx Yi s'/\I (k+1) Yi s'){Z:En}{s:N'}(h0:I 0 Z s):∃Yi s',nZ body l Z s=.nx Yi s'/\I l.length Yi s':=by
 have main:∀r k (Z:En) s,k<=l.length->l.drop k=r->I k Z s->∃Yi s',nZ body r Z s=.nx Yi s'/\I l.length Yi s':=by
  intro r;induction r with
  |nil =>
   intro k Z s hk e hI;have:=jS hk (lz.mp e);subst this;exact⟨Z,s,rfl,hI⟩
  |cons q r ih =>
   intro k Z s hk e hI;have hq:l[k]?=Za q:=by
    have:=congrArg List.head? e;rw[List.head?_drop] at this
    simp_all
   obtain⟨Yi,s',h1,h2⟩:=h k q Z s hq hI;have e2:l.drop (k+1)=r:=by rw[<-List.tail_drop,e];rfl
   obtain⟨Ŗ,s2,h3,h4⟩:=ih (k+1) Yi s' ((aR.mp hq).1) e2 h2;refine⟨Ŗ,s2,?_,h4⟩;unfold nZ
   simp_all
 exact main l 0 Z s (aY _) rfl h0
def wP(n:Nat):(vz 0 n).length=n:=by simp[vz]
def JL{n k:Nat}{q:PV}(h:(vz 0 n)[k]?=Za q):k<n/\q=.int (k:Int):=by
 unfold vz at h;by_cases hk:k<n
 .simp_all
 .simp_all
def vf{body:PV->XS}(n:Nat)(I:Nat->En->N'->Prop)(h:∀(k:Nat) Z s,k<n->I k Z s->∃Yi s',body (.int (k:Int)) Z s=.nx Yi s'/\I (k+1) Yi s'){Z:En}{s:N'}(h0:I 0 Z s):∃Yi s',nZ body (vz 0 n) Z s=.nx Yi s'/\I n Yi s':=by have:=Hj (vz 0 n) I (λk q Z s hq hI=>by obtain⟨h1,h2⟩:=JL hq;rw[h2];exact h k Z s h1 hI) h0;rw[wP] at this;exact this
def pG(s:N')(i:Int):PV.data s 12 (.int i)=Za (.int i):=rfl
def sG(i j:Int):cH (.int i) (.int j)=(i==j):=rfl
theorem E6:∀(l:List (Nat×Cell))(n:Nat)(c d:Cell),qA l n=Za c->qA (pM n d l) n=Za d
 |(k,e)::r,n,c,d,h=>by
  unfold qA at h;unfold pM;split at h
  .rename_i z;rw[Zc z];unfold qA;rw[Zc rfl]
  .rename_i z;rw[Zd z];unfold qA;rw[Zd z];exact E6 r n c d h
def nQ{s:N'}{n:Nat}{c d:Cell}(h:s.get n=Za c):(s.set n d).get n=Za d:=E6 s.cs n c d h
def ny(s:N')(c:Cell)(k:Nat):(s.add c).get k=if s.nx=k then Za c else s.get k:=by rfl
def mF(s:N'){n k:Nat}(c:Cell)(h:k≠n):(s.set n c).get k=s.get k:=rK h
def FC(s:N')(c d:Cell){p:Nat}(h:s.nx≠p):(s.add d).set p c=(s.set p c).add d:=by unfold N'.set N'.add;simp[pM,h]
def zq(s:N')(c d:Cell):(s.add d).set s.nx c=s.add c:=by unfold N'.set N'.add;simp[pM]
def sj(s:N')(n:Nat)(c d:Cell):(s.set n c).set n d=s.set n d:=by
 have:∀l,pM n d (pM n c l)=pM n d l:=by
  intro l;induction l with
  |nil=>rfl
  |cons q r ih =>
   obtain⟨k,e⟩:=q;by_cases h:k=n
   .simp[pM,h]
   .simp[pM,h,ih]
 unfold N'.set;simp[this]
def An(s:N')(n:Nat)(c:Cell)(h:s.get n=Za c):s.set n c=s:=by
 have:∀l,qA l n=Za c->pM n c l=l:=by
  intro l;induction l with
  |nil=>intro h;rfl
  |cons q r ih =>
   intro h;obtain⟨k,e⟩:=q;by_cases hk:k=n
   .simp[qA,hk] at h;simp[pM,hk,h]
   .simp[qA,hk] at h;simp[pM,hk,ih h]
 unfold N'.set;rw[this _ h]
def N'.bump(s:N'):N':=⟨s.nx+1,s.cs⟩
def N6(s:N')(d:Cell):(s.add d).del s.nx=N'.bump s:=by unfold N'.del N'.add N'.bump;simp[Dz]
def Kx(s:N')(k:Nat):(N'.bump s).get k=s.get k:=rfl
def Ys(s:N')(p:Nat):Prop:=∃x y,s.get p=Za (.lst [.int x,.int y])
def Yv(s:N')(p:Nat)(x y:Int):N':=s.set p (.lst [.int x,.int y])
def Pu(s:N')(p:Nat)(x y:Int):(Yv s p x y).nx=s.nx:=rfl
theorem Ys.Yv{s:N'}{p:Nat}(h:Ys s p)(x y:Int):Ys (Yv s p x y) p:=let⟨_,_,h⟩:=h;⟨x,y,zp h⟩
theorem Ys.add{s:N'}{p:Nat}(h:Ys s p)(c:Cell)(hp:p<s.nx):Ys (s.add c) p:=by obtain⟨x,y,h⟩:=h;exact⟨x,y,by rw[ny,Zd (by lia)];exact h⟩
def M0(s:N')(p:Nat)(x y x' y':Int)(d:Cell)(hp:p<s.nx):((Yv s p x y).add d).set p (.lst [.int x',.int y'])=(Yv s p x' y').add d:=by rw[FC _ _ _ (by rw[Pu];lia)];unfold Yv;rw[sj]
def Oo{c:XT}{e:XE}{cap:En}(l:List PV)(I:Nat->List PV->N'->Prop)(h:∀k q vs s,l[k]?=Za q->I k vs s->(∃s1,c (Za q::cap) s=.ok false s1/\I (k+1) vs s1)\/(∃s1 v s2,c (Za q::cap) s=.ok true s1/\e (Za q::cap) s1=.ok v s2/\I (k+1) (vs++[v]) s2)){s:N'}(h0:I 0 [] s) :
  ∃vs s',n9 c e cap l s=.ok vs s'/\I l.length vs s':=by
 have main:∀r k vs s,k<=l.length->l.drop k=r->I k vs s->∃ws s',n9 c e cap r s=.ok ws s'/\I l.length (vs++ws) s':=by
  intro r;induction r with
  |nil =>
   intro k vs s hk e hI;have:=jS hk (lz.mp e);subst this;exact⟨[],s,rfl,by simpa using hI⟩
  |cons q r ih =>
   intro k vs s hk e' hI;have hq:l[k]?=Za q:=by
    have:=congrArg List.head? e';rw[List.head?_drop] at this
    simp_all
   have e2:l.drop (k+1)=r:=by rw[<-List.tail_drop,e'];rfl
   have Wi:=(aR.mp hq).1;rcases h k q vs s hq hI with⟨s1,h1,h2⟩|⟨s1,v,s2,h1,h2,h3⟩
   .obtain⟨ws,s',h3,h4⟩:=ih (k+1) vs s1 Wi e2 h2;exact⟨ws,s',by rw[oU,h1];exact h3,h4⟩
   .obtain⟨ws,s',h4,h5⟩:=ih (k+1) (vs++[v]) s2 Wi e2 h3;refine⟨v::ws,s',by rw[oU,h1];simp[h2,h4],by simpa using h5⟩
 obtain⟨ws,s',h1,h2⟩:=main l 0 [] s (aY _) rfl h0;exact⟨ws,s',h1,by simpa using h2⟩
theorem qx{c:XT}{e:XE}{cap:En}{s:N'}(p:PV->Bool)(f:PV->PV):∀(l:List PV),(∀q∈l,c (Za q::cap) s=.ok (p q) s)->(∀q∈l,p q=true->e (Za q::cap) s=.ok (f q) s)->n9 c e cap l s=.ok ((l.filter p).map f) s
 |[],_,_=>rfl
 |q::l,h1,h2=>by
  rw[oU,h1 q al];have ih:=qx p f l (λx hx=>h1 x (ah _ hx)) (λx hx=>h2 x (ah _ hx));cases hp:p q with
  |false=>simp[ih,hp]
  |true=>simp[ih,hp,h2 q al hp]
def pW{n:Int}(h0:0<n)(h1:n<2^64):Bt 9000 n:=by
 have:Bt 64 n:=by unfold Bt;lia
 exact this.mono (Zf rfl)
def Et:(b6 "abcdefghijklmnopqrstuvwxyz").length<=100000:=Zf rfl
def t9(a:Yg)(s:N')(p:Nat)(n:Int)(h:Ys s p)(h0:0<n)(h1:Bt 9000 n):∃r x y,0<=r/\r<n/\mP a [.ref p,.int n] s=.ok (.int r) (s.set p (.lst [.int x,.int y])):=by
 obtain⟨x,y,h⟩:=h;have hd:zZ n:=⟨h0,h1⟩;by_cases hx:x=0
 .refine⟨y%n,y/n,y,eV _ (by lia),dN _ h0,?_⟩;subst hx;simp[Ĥ,rm,mY,tY,mP,uO,h,Z9,Œ,pG,sG,hd,h0,nQ h,sj]
 .refine⟨x%n,x/n,y,eV _ (by lia),dN _ h0,?_⟩;simp[Ĥ,rm,mY,tY,mP,uO,h,Z9,Œ,pG,sG,hd,h0,hx]
def KO(l:List Int)(lo hi:Option Int):∃k:List Int,DC (l.map PV.int) lo hi=k.map PV.int/\k.length<=l.length/\∀x∈k,x∈l:=by
 refine⟨(l.drop (HT.YY l.length 0 lo)).take (HT.YY l.length l.length hi-HT.YY l.length 0 lo),?_,?_,λx hx=>ly (lw hx)⟩
 .unfold DC;simp[List.map_drop]
 .rw[eC,gN];lia
def HJ{l:List Int}{i:Int}(h0:0<=i)(h1:i<l.length):∃x∈l,Z9 (l.map PV.int) i=Za (.int x):=by
 obtain⟨j,rfl⟩:∃j:Nat,i=j:=⟨i.toNat,by lia⟩;have hj:j<l.length:=by lia
 exact⟨l[j],cU hj,nJ (by simp[hj])⟩
def Ke(a:Yg)(s:N')(c:Int)(k:Nat)(hc:cA c<=1048576)(hk:k<64):∃v,qR a [.int c,.int k] s=.ok (.int v) s:=by have m1:jN c c:=Qh (by lia) (by lia);have m2:qE 3 c:=.inr (.inl ⟨Zf rfl,Zf rfl⟩);have m3:qE 7919 k:=.inr (.inl ⟨Zf rfl,Zf rfl⟩);have m4:qE (c*c+3*c+7919*k+1) 48271:=.inr (.inr ⟨Zf rfl,Zf rfl⟩);generalize hz:((c*c+3*c+7919*k+1)*48271)%2147483629=z;have m5:qE z z:=.inr (.inl ⟨by lia,by lia⟩);refine⟨(z*z+7)%2147483587,?_⟩;simp[Ĥ,rm,mY,tY,qR,wo,F6,m1,m2,m3,m4,hz,m5]
def JP(a:Yg)(s:N')(l:List Int)(hl:l.length<=63)(hw:Att.Ō l):∃x y,pU a [.seq (l.map .int)] s=.ok (.ref s.nx) (s.add (.lst [.int x,.int y])):=by
 obtain⟨c,hc,Re,Um⟩:=KO l Zb (Za 63);have hsz:c.length<=99999:=by lia
 have Uk:(0:Int)<c.length+1:=by lia
 have h2:2<=aG:=Zf rfl;have hw2:∀x∈c++[0],cA x<=1048576:=λx hx=>by
  obtain z|z:=ba.mp hx
  .exact hw x (Um x z)
  .rw[ax.mp z];decide
 obtain⟨Yi,s',Tg,rfl,v,k,rfl⟩:=vf (body:=nr (X9 3) (qW a)) 64
  (λ_ Z t=>t=s/\∃v k,Z=[Za (.seq (l.map .int)),Za (.lst ((c++[0]).map .int)),Za (.int v),k])
  (λk Z t hk hI=>by obtain⟨rfl,v,k',rfl⟩:=hI;obtain⟨x,hxm,hx⟩:=HJ (l:=c++[0]) (i:=k%(c.length+1)) (eV _ (by lia)) (by have:=dN k Uk;simpa using this);obtain⟨u,hu⟩:=Ke a t x k (hw2 x hxm) hk;have m3:qE v 2147483587:=.inr (.inr ⟨Zf rfl,Zf rfl⟩);refine⟨_,_,?_,rfl,v*2147483587+u,Za (.int k),rfl⟩;simp[aC,am,cT] at hx;simp[Ĥ,rm,mY,tY,nr,qW,hx,m3,Uk,hu]) ⟨rfl,1,Zb,rfl⟩
 obtain⟨x0,_,Vi⟩:=HJ (l:=c++[0]) (i:=0) (by lia) (by simp);simp[aC,am,cT] at Vi Tg;generalize hab:(if x0<0 then -x0 else x0)=x1 at *;by_cases h18:(1000000000000000000:Int)<=x1
 .refine⟨x1,v,?_⟩;simp[Ĥ,rm,mY,tY,pU,tG,hc,hsz,Tg,Vi,hab,h18,h2]
 .refine⟨v,v,?_⟩;simp[Ĥ,rm,mY,tY,pU,tG,hc,hsz,Tg,Vi,hab,h18,h2]
structure Â3(p q:Int×Int):Prop where
 p0:0<p.2
 q0:0<q.2
 b:Bt 4400 p.2/\Bt 4400 q.2
 t:Bt 9000 p.1/\Bt 9000 q.1
def sF{i j:Int}(h:Bt 9000 i)(g:Bt 9000 j):qE i j:=.inl ⟨h.mono (by decide),g.mono (by decide)⟩
def Di(a:Yg)(s:N'):∀(k:Nat)(t b:Int),0<=t->0<=b->b.toNat<=k->∃n t',m7 (YJ (x2 (j' 1) (xC (.int 0)) fGt)) (oV a) n [Za (.int t),Za (.int b)] s=.nx [Za (.int t'),Za (.int 0)] s/\0<=t'/\t'.natAbs=aH t b:=by
 intro k;induction k with
 |zero =>
  intro t b ht h0 hk;have:b=0:=by lia
  subst this;refine⟨1,t,?_,ht,by simp[aH]⟩;unfold m7;simp[Ĥ,rm,mY,tY]
 |succ k ih =>
  intro t b ht h0 hk;by_cases hb:b=0
  .subst hb;refine⟨1,t,?_,ht,by simp[aH]⟩;unfold m7;simp[Ĥ,rm,mY,tY]
  .have hp:0<b:=by lia
   have m0:=eV t hb;have m1:=dN t hp;obtain⟨n,t',h1,h3,h2⟩:=ih b (t%b) h0 m0 (by lia);refine⟨n+1,t',?_,h3,by rw[h2];exact E7 t b hp⟩;have hs:oV a [Za (.int t),Za (.int b)] s=.nx [Za (.int b),Za (.int (t%b))] s:=by simp[Ĥ,rm,mY,tY,oV,hp]
   unfold m7;simp[Ĥ,rm,mY,tY,hp,hs,h1]
def zX(a:Yg)(s:N')(t b:Int):oz a [.int t,.int b] s=.ok (.int (aH t b)) s:=by
 have e1:(if t<0 then -t else t)=t.natAbs:=by split<;>lia
 have e2:(if b<0 then -b else b)=b.natAbs:=by split<;>lia
 obtain⟨n,t',h1,h3,h2⟩:=Di a s (b.natAbs:Int).toNat t.natAbs b.natAbs (by lia) (by lia) (ak _);have hw:=xD h1 (by simp);simp[Ĥ,rm,mY,tY,oz,ur,e1,e2,hw];have:aH t.natAbs b.natAbs=aH t b:=by simp[aH]
 rw[<-this,<-h2];lia
def xm(a:Yg)(s:N')(t b:Int)(hb:0<b)(hB:Bt 9000 b):nC a [.int t,.int b] s=.ok (Zx (red (t,b))) s:=by
 have hg:0<aH t b:=bx _ (by lia);have hd:zZ (aH t b:Int):=⟨by lia,hB.dvd (by lia) (cm ..)⟩;have e:=zX a s t b;have hn:¬b<0:=by lia
 simp[Ĥ,rm,mY,tY,nC,yj,e,hd,hn,Zx,red]
def BG{n:Int}{k:Nat}(h:n.natAbs<2^k)(hk:k<=9000):Bt 9000 n:=az h (b8 (by decide) hk)
def six{r:Int}(h0:0<=r)(h1:r<6):r=0\/r=1\/r=2\/r=3\/r=4\/r=5:=by lia
def Cd{s:N'}{p:Nat}{x y:Int}(h:Ys s p):Ys (s.set p (.lst [.int x,.int y])) p:=by obtain⟨u,v,h⟩:=h;exact⟨x,y,nQ h⟩
def IA(a:Yg)(s:N')(p:Nat)(h:Ys s p):∃v x y,oj a [.ref p] s=.ok (.int v) (s.set p (.lst [.int x,.int y]))/\Bt 100 v:=by
 obtain⟨r,x,y,r0,r1,e1⟩:=t9 a s p 6 h (Zf rfl) (BG (k:=4) (Zf rfl) (by decide));have h2:=Cd (x:=x) (y:=y) h;obtain⟨m,hm,hm0,hmB,RT⟩:∃m:Int,Z9 [PV.int 10,.int 10,.int 100,.int 3,.int (10^6),.int (10^20)] r=Za (.int m)/\0<m/\(2*m).natAbs<2^100/\True:=by
  obtain z|z|z|z|z|z:=six r0 r1<;>subst z
  .exact⟨10,rfl,by decide,by decide,trivial⟩
  .exact⟨10,rfl,by decide,by decide,trivial⟩
  .exact⟨100,rfl,Zf rfl,Zf rfl,trivial⟩
  .exact⟨3,rfl,by decide,Zf rfl,trivial⟩
  .exact⟨10^6,rfl,Zf rfl,Zf rfl,trivial⟩
  .exact⟨10^20,rfl,Zf rfl,Zf rfl,trivial⟩
 obtain⟨r',x',y',q0,q1,e2⟩:=t9 a (s.set p (.lst [.int x,.int y])) p (2*m) h2 (by lia) (BG hmB (Zf rfl));have m2:qE 2 m:=.inr (.inl ⟨Zf rfl,Zf rfl⟩);have d3:zZ 3:=⟨by decide,BG (k:=4) (Zf rfl) (by decide)⟩;rw[sj] at e2;refine⟨r'-m/3,x',y',?_,by unfold Bt;lia⟩;have TV:Z9 [PV.int 10,.int 10,.int 100,.int 3,.int 1000000,.int 100000000000000000000] r=Za (.int m):=hm;simp[Ĥ,rm,mY,tY,oj,vK,e1,TV,e2,m2,d3]
def ÂO{r:Int}(h0:0<=r)(h1:r<5):r=0\/r=1\/r=2\/r=3\/r=4:=by lia
structure ť(q q':Int×Int):Prop where
 low:æ q'
 pos:0<q'.1
 le:q'.1*q.2<=q.1*q'.2
def J3{q:Int×Int}(h:æ q)(h0:0<q.1){m l:Int}(m0:0<m)(ml:m<=l):ť q (red (q.1*m,q.2*l)):=by
 have hl:0<l:=by lia
 have hb:=bv h.1 hl;obtain⟨lo,ev⟩:=t7 (q:=(q.1*m,q.2*l)) hb;have b0:=lo.1;generalize red (q.1*m,q.2*l)=z at *;have p1:=bv (bv h0 m0) b0;have p2:0<z.1:=by
  rw[<-ev] at p1;by_cases z0:0<z.1
  .exact z0
  .have:=aS (show z.1<=0 by lia) (bF hb)
   grind
 refine⟨lo,p2,?_⟩;refine km ?_ hl;have e1:z.1*q.2*l=z.1*(q.2*l):=by rw[bh]
 have e2:q.1*z.2*l=q.1*l*z.2:=by grind
 simp_all
def Nh(a:Yg)(s:N')(p:Nat)(h:Ys s p)(q:Int×Int)(hq:æ q)(h0:0<q.1)(hB:Bt 8900 q.2):∃q' x y,ť q q'/\qB a [.ref p,Zx q] s=.ok (Zx q') (s.set p (.lst [.int x,.int y])):=by
 obtain⟨r,x,y,r0,r1,e1⟩:=t9 a s p 5 h (Zf rfl) (BG (k:=4) (Zf rfl) (Zf rfl));have h2:=Cd (x:=x) (y:=y) h;by_cases hz:r=0
 .subst hz;refine⟨q,x,y,⟨hq,h0,Int.le_refl _⟩,?_⟩;simp[Ĥ,rm,mY,tY,qB,uN,e1,pG,sG,Zx]
 .obtain⟨l,hl,l1,lB,_⟩:∃l:Int,Z9 [PV.int 2,.int 3,.int 7,.int (10^6)] (r-1)=Za (.int l)/\1<l/\l<=10^6/\True:=by
   obtain z|z|z|z|z:=ÂO r0 r1<;>subst z
   .exact absurd rfl hz
   .exact⟨2,rfl,Zf rfl,Zf rfl,trivial⟩
   .exact⟨3,rfl,Zf rfl,Zf rfl,trivial⟩
   .exact⟨7,rfl,Zf rfl,Zf rfl,trivial⟩
   .exact⟨10^6,rfl,Zf rfl,Zf rfl,trivial⟩
  obtain⟨r',x',y',s0,s1,e2⟩:=t9 a (s.set p (.lst [.int x,.int y])) p (l-1) h2 (by lia) (BG (k:=20) (by lia) (Zf rfl));rw[sj] at e2;have m1:qE q.1 (1+r'):=.inr (.inr ⟨by lia,by lia⟩);have m2:qE q.2 l:=.inr (.inr ⟨by lia,by lia⟩);have bB:Bt 9000 (q.2*l):=(hB.mul (show Bt 20 l by show l.natAbs<1048576;lia)).mono (Zf rfl);have em:=xm a (s.set p (.lst [.int x',.int y'])) (q.1*(1+r')) (q.2*l) (bv hq.1 (by lia)) bB;refine⟨red (q.1*(1+r'),q.2*l),x',y',J3 hq h0 (by lia) (by lia),?_⟩;have Up:Z9 [PV.int 2,.int 3,.int 7,.int 1000000] (r-1)=Za (.int l):=hl;have q1:Z9 [PV.int q.1,.int q.2] 0=Za (.int q.1):=rfl;have q2:Z9 [PV.int q.1,.int q.2] 1=Za (.int q.2):=rfl;simp[Ĥ,rm,mY,tY,qB,uN,e1,pG,sG,Zx,hz,Up,e2,m1,m2,q1,q2,em]
def Dm{x y:Str}(h:x.cps.toList=y.cps.toList):x=y:=by
 obtain⟨a⟩:=x
 simp_all
def ů(cs:List Nat):Str:=⟨cs.toArray⟩
def rF(cs):(ů cs).cps.toList=cs:=by simp[ů]
def Hh(cs):(ů cs).length=cs.length:=by rw[Kj,rF]
theorem zM:∀cs:List Nat,Str.join (b6 "") (cs.map λc=>(⟨#[c]⟩:Str))=ů cs
 |[]=>rfl
 |[c]=>rfl
 |c::d::r=>by have ih:=zM (d::r);have e:Str.join (b6 "") ((c::d::r).map λc=>(⟨#[c]⟩:Str))=(⟨#[c]⟩:Str)++b6 ""++Str.join (b6 "") ((d::r).map λc=>(⟨#[c]⟩:Str)):=rfl;rw[e,ih];apply Dm;rw[AD,AD,rF,rF];rfl
def F0(cs):Txt.join (b6 "") (cs.map λc=>(⟨#[c]⟩:Str))=ů cs:=(StrLaws.glued_eq_join _ _).trans (zM cs)
noncomputable def DM(vs:List Int)(j:Nat):Int:=(vs[j]?).getD 0
def qd(vs:List Int)(d k j:Nat):Int:=DM vs j+5*(k:Int)*(if j=d then 1 else 0)
def đ(vs:List Int)(d k:Nat):List Nat:=(br vs.length).map λj=>97+(qd vs d k j%26).toNat
def w4(vs)(d k):(đ vs d k).length=vs.length:=by simp[đ]
def MA(vs)(d k):∀c∈đ vs d k,97<=c/\c<=122:=λc hc=>by
 obtain⟨j,_,rfl⟩:=aq.mp hc
 grind
def K6(vs)(hd:d<vs.length)(k):(đ vs d k)[d]?=Za (97+((DM vs d+5*(k:Int))%26).toNat):=by
 unfold đ qd
 simp_all
def ģ(vs:List Int)(d:Nat)(fl:Bool)(k:Nat):Str:=ů (đ vs d k++if fl=true/\k%2=1 then [120] else [])
def Mx(hd:d<vs.length)(hi:i<10)(hj:j<10)(h:ģ vs d fl i=ģ vs d fl j):i=j:=by
 have e:đ vs d i++(if fl=true/\i%2=1 then [120] else [])=đ vs d j++(if fl=true/\j%2=1 then [120] else []):=by have:=congrArg (λx:Str=>x.cps.toList) h;simpa[ģ,rF] using this
 have e2:=congrArg (λl:List Nat=>l[d]?) e;rw[de (by rw[w4];exact hd),de (by rw[w4];exact hd),K6 vs hd,K6 vs hd] at e2;have e3:=bL e2;omega
def K5(h0:0<vs.length)(h7:vs.length<=7)(d)(fl)(k):Sm (ģ vs d fl k)/\yg (ģ vs d fl k)=true:=by
 have hl:(ģ vs d fl k).length=vs.length+(if fl=true/\k%2=1 then 1 else 0):=by unfold ģ;rw[Hh,aZ,w4];split<;>rfl
 have hc:∀c∈(ģ vs d fl k).cps.toList,97<=c/\c<=122:=λc hc=>by
  unfold ģ at hc;rw[rF] at hc;obtain z|z:=ba.mp hc
  .exact MA vs d k c z
  .grind
 have Vq:1<=(ģ vs d fl k).length/\(ģ vs d fl k).length<=8:=by rw[hl];split<;>lia
 refine⟨⟨by lia,λc h=>by have:=hc c h;lia⟩,?_⟩;unfold yg;rw[Zg Vq.1,Zg Vq.2];simp only[iW,dG];intro c h;have:=hc c h;simp[low];lia
theorem Ab(g:Nat->Str->Str):∀(ws:List Str)(k:Nat),(∀j w,w∈ws->e [Za (.int (j:Nat)),Za (.str w)] s=.ok (.str (g j w)) s)->nz nI e [] (sJ k (ws.map .str)) s=.ok (((br ws.length).map λi=>g (k+i) ((ws[i]?).getD cq)).map .str) s
 |[],k,_=>rfl
 |w::r,k,h=>by have ih:=Ab g r (k+1) λj w hw=>h j w (ah _ hw);show nz nI e [] (.tup [.int k,.str w]::sJ (k+1) (r.map .str)) s=_;rw[yq];have h0:=h k w al;simp only[DR,nI,h0,ih];simp[kT,Function.comp_def,kI,Nat.add_comm 1]
def Lf{f g:XS}{Z Yi:En}{s s':N'}(h:f Z s=.nx Yi s'):X6 f g Z s=g Yi s':=by unfold X6;rw[h]
def vm{α β:Type}(v:α)(s:N')(f:α->N'->Out β):(Out.ok v s).bind f=f v s:=rfl
def ÂA(n:Nat):-(2^62)<=(n:Int):=by grind
def ÂI{n:Nat}(hn:n<1000000):(n:Int)<2^62:=by grind
def MU{fa:XA}{Z:En}{s s1:N'}{j:Int}(h:fa Z s=.ok [.int j] s1):Zl fa Z s=if -(2^62)<=j/\j<2^62 then Out.ok (vz 0 j.toNat) s1 else Out.bad:=by unfold Zl;rw[h,vm]
def vA{fa:XA}{Z:En}{s s1:N'}{n:Nat}(h:fa Z s=.ok [.int n] s1)(hn:n<1000000):Zl fa Z s=.ok (vz 0 n) s1:=by rw[MU h,Zc ⟨ÂA n,ÂI hn⟩,Int.toNat_natCast]
def rY{fi:XA}{y:XG}{body:XS}{Z Yi:En}{s s1 s':N'}{l:List PV}(h1:fi Z s=.ok l s1)(h2:nZ (nr y body) l Z s1=.nx Yi s'):À fi y body Z s=.nx Yi s':=by unfold À;rw[h1];simp[Out.so];rw[h2];rfl
def o5{fi:XA}{ix:List Nat}{c:XT}{e:XE}{Z:En}{s s1 s2:N'}{l vs:List PV}(h1:fi Z s=.ok l s1)(hl:l.length<=100000)(h2:n9 c e (nM ix Z) l s1=.ok vs s2):o9 fi ix c e Z s=.ok (.lst vs) s2:=by unfold o9;rw[h1];simp[Out.bind,hl,if_true];rw[h2]
def Gu{f g:XS}{Z:En}{s s':N'}{v:PV}(h:f Z s=.rt v s'):X6 f g Z s=.rt v s':=by unfold X6;rw[h]
def mS{f:XE}{i:Nat}{Z:En}{s s':N'}{v:PV}(h:f Z s=.ok v s'):Yd i f Z s=.nx (Z.set i (Za v)) s':=by unfold Yd;rw[h];rfl
def mM{f g:XE}{F:PV->PV->N'->Out PV}{Z:En}{s s1 s2:N'}{v w:PV}(h1:f Z s=.ok v s1)(h2:g Z s1=.ok w s2):x2 f g F Z s=F v w s2:=by unfold x2;rw[h1];simp[Out.bind];rw[h2]
def mj{f:XE}{fa:XA}{Z:En}{s s1 s2:N'}{v:PV}{vs:List PV}(h1:f Z s=.ok v s1)(h2:fa Z s1=.ok vs s2):F' f fa Z s=.ok (v::vs) s2:=by unfold F';rw[h1];simp[Out.bind];rw[h2]
def qZ{fa:XA}{Z:En}{s s1:N'}{vs:List PV}(h1:fa Z s=.ok vs s1)(hl:vs.length<=100000:=by exact fI rfl):Y7 fa Z s=.ok (.tup vs) s1:=by unfold Y7;rw[h1];exact Zc hl
def ug{c:XT}{A B:XS}{Z:En}{s s1:N'}(h:c Z s=.ok false s1):å c A B Z s=B Z s1:=by unfold å;rw[h];rfl
def ul{f:XE}{fa:XA}{Z:En}{s s1 s2:N'}{k m:Nat}{D:XF}{pp:List Str}{L:List Ent}{vs:List PV}(h1:f Z s=.ok (.ref k) s1)(h2:s1.get k=Za (.book pp L))(h3:fa Z s1=.ok vs s2)(h4:vs.length+1=m):ý m D f fa Z s=D (.ref k::vs) s2:=by
 unfold ý;rw[h1];simp[Out.bind,h2]
 simp_all
def yL{fa:XA}{Z:En}{s s1:N'}{vs:List PV}(h1:fa Z s=.ok vs s1)(hl:vs.length<=100000:=by exact fI rfl):ç fa Z s=.ok (.lst vs) s1:=by unfold ç;rw[h1];exact Zc hl
def mL{D:XF}{fa:XA}{Z:En}{s s1:N'}{vs:List PV}{n:Nat}{o:Out PV}(h1:fa Z s=.ok vs s1)(hn:vs.length=n)(h2:D vs s1=o):V' n D fa Z s=o:=by
 unfold V';rw[h1];simp[Out.bind]
 grind
def pO{i:Nat}{u:XS}{q:PV}{Z:En}{s:N'}:nr (X9 i) u q Z s=u (Z.set i (Za q)) s:=rfl
def yC{c:XT}{A B:XS}{Z:En}{s s1:N'}(h:c Z s=.ok true s1):å c A B Z s=A Z s1:=by unfold å;rw[h];rfl
def BP{f:XE}{Z:En}{s s':N'}{v:PV}(h:f Z s=.ok v s'):Ń f Z s=.nx Z s':=by unfold Ń;rw[h];rfl
def nW{f:XE}{Z:En}{s s':N'}{v:PV}(h:f Z s=.ok v s'):YA f Z s=.rt v s':=by unfold YA;rw[h];rfl
def BI{fa:XA}{F:List PV->N'->Out PV}{Z:En}{s s1:N'}{vs:List PV}(h1:fa Z s=.ok vs s1):xB fa F Z s=F vs s1:=by unfold xB;rw[h1];rfl
noncomputable def abc:Str:="abcdefghijklmnopqrstuvwxyz"
def EW(n:Nat):vz 0 n=(br n).map λk=>PV.int (k:Nat):=by
 unfold vz
 grind
abbrev nE(p m:Nat)(vs:List Int)(d x:Nat)(u v:Option PV):En:=[Za (.ref p),Za (.int (m:Nat)),Za (.str abc),Za (.int (vs.length:Nat)),Za (.lst (vs.map .int)),Za (.int (d:Nat)),Za (.ref x),u,v]
def IB(a:Yg)(T:N')(p m:Nat)(vs:List Int)(h0:0<vs.length)(h7:vs.length<=7)(d:Nat)(hd:d<vs.length)(ws:List Str)(hw:ws.length<100)(k:Nat)(hk:k<100)(u v:Option PV) :
  nr (X9 7) (oQ a) (.int (k:Nat)) (nE p m vs d T.nx u v) (T.add (.lst (ws.map .str))) =
   .nx (nE p m vs d T.nx (Za (.int (k:Nat))) (Za (.lst (((br vs.length).map (qd vs d k)).map .int)))) (T.add (.lst ((ws++[ů (đ vs d k)]).map .str))):=by
 have Vl:(-4611686018427387904:Int)<=(vs.length:Int):=by lia
 have hr2:(vs.length:Int)<(4611686018427387904:Int):=by lia
 have Re:(vz 0 vs.length).length<=100000:=by rw[wP];lia
 have m1:qE 5 (k:Int):=.inr (.inl ⟨Zf rfl,Zf rfl⟩);have m2:∀z:Int,qE z 0:=λz=>.inr (.inr ⟨Zf rfl,Zf rfl⟩);have m3:∀z:Int,qE z 1:=λz=>.inr (.inr ⟨Zf rfl,Zf rfl⟩);have c1:n9 nI (x2 (x2 (j' 1) (j' 0) Yb) (x2 (x2 (xC (.int 5)) (j' 2) Yr) (xB (F' (x2 (j' 0) (j' 3) Ô) J') Ĵ) Yr) YG) [Za (.lst (vs.map .int)),Za (.int (k:Nat)),Za (.int (d:Nat))] (vz 0 vs.length) (T.add (.lst (ws.map .str)))=.ok (((br vs.length).map (qd vs d k)).map .int) (T.add (.lst (ws.map .str))):=by
  have:=qx (c:=nI) (e:=x2 (x2 (j' 1) (j' 0) Yb) (x2 (x2 (xC (.int 5)) (j' 2) Yr) (xB (F' (x2 (j' 0) (j' 3) Ô) J') Ĵ) Yr) YG) (cap:=[Za (.lst (vs.map .int)),Za (.int (k:Nat)),Za (.int (d:Nat))]) (s:=T.add (.lst (ws.map .str))) (λ_=>true) (λq=>match q with|.int j=>.int (qd vs d k j.toNat)|_=>.Yh) (vz 0 vs.length) (λ_ _=>rfl) λq hq _=>by
   rw[EW] at hq;obtain⟨j,hj,rfl⟩:=aq.mp hq;have hj:j<vs.length:=cX.mp hj;have e1:Z9 (vs.map PV.int) (j:Nat)=Za (.int (DM vs j)):=nJ (by unfold DM;rw[aF,aA hj];rfl);by_cases hz:j=d
   .subst hz;simp[Ĥ,rm,mY,tY,e1,m1,m3,pG,sG,qd]
   .have W5:((j:Int)==(d:Int))=false:=by simp;lia
    simp[Ĥ,rm,mY,tY,e1,m1,m2,pG,sG,qd,hz,W5]
  rw[this]
  congr 1
  rw[iS.mpr (λ_ _=>rfl),EW,aD,aD];rfl
 have c2:n9 nI (x2 (j' 1) (x2 (j' 0) (xC (.int 26)) ZZ) Yb) [Za (.str abc)] (((br vs.length).map (qd vs d k)).map .int) (T.add (.lst (ws.map .str)))=.ok (((đ vs d k).map λc=>(⟨#[c]⟩:Str)).map .str) (T.add (.lst (ws.map .str))):=by
  have:=qx (c:=nI) (e:=x2 (j' 1) (x2 (j' 0) (xC (.int 26)) ZZ) Yb) (cap:=[Za (.str abc)]) (s:=T.add (.lst (ws.map .str))) (λ_=>true) (λq=>match q with|.int j=>.str ⟨#[97+(j%26).toNat]⟩|_=>.Yh) (((br vs.length).map (qd vs d k)).map .int) (λ_ _=>rfl) λq hq _=>by obtain⟨z,_,rfl⟩:=aq.mp hq;have e1:=Qj (eV z (show(26:Int)≠0 by decide)) (dN z (show(0:Int)<26 by decide));simp[Ĥ,rm,mY,tY,abc,e1,Et]
  rw[this]
  congr 1
  rw[iS.mpr (λ_ _=>rfl),aD,aD,aD];unfold đ;rw[aD];rfl
 have hj:((((đ vs d k).map λc=>(⟨#[c]⟩:Str)).map (·.length)).sum+((đ vs d k).map λc=>(⟨#[c]⟩:Str)).length*(b6 "").length)<=16777216:=by
  have e:(b6 "").length=0:=rfl;have:=JB (ys:=(đ vs d k).map λc=>(⟨#[c]⟩:Str)) λz hz=>by obtain⟨c,_,rfl⟩:=aq.mp hz;exact ak _
  rw[ac,w4] at this;rw[e];lia
 have Vp:(((br vs.length).map (qd vs d k)).map PV.int).length<=100000:=by simp;lia
 have hg:(T.add (.lst (ws.map .str))).get T.nx=Za (.lst (ws.map .str)):=by rw[ny,Zc rfl]
 have W8:∀c,(T.add (.lst (ws.map .str))).set T.nx c=T.add c:=λc=>zq T _ _;have s1:o9 (Zl (F' (j' 3) J')) [4,7,5] nI (x2 (x2 (j' 1) (j' 0) Yb) (x2 (x2 (xC (.int 5)) (j' 2) Yr) (xB (F' (x2 (j' 0) (j' 3) Ô) J') Ĵ) Yr) YG) (nE p m vs d T.nx (Za (.int (k:Nat))) (v)) (T.add (.lst (ws.map .str)))=.ok (.lst (((br vs.length).map (qd vs d k)).map .int)) (T.add (.lst (ws.map .str))):=by
  have er:Zl (F' (j' 3) J') (nE p m vs d T.nx (Za (.int (k:Nat))) (v)) (T.add (.lst (ws.map .str)))=.ok (vz 0 vs.length) (T.add (.lst (ws.map .str))):=by exact vA rfl (by lia)
  exact o5 er Re c1
 apply(pO (i:=7)).trans;unfold oQ;apply(Lf (mS s1)).trans;have e2:o9 (Yw (j' 8)) [2] nI (x2 (j' 1) (x2 (j' 0) (xC (.int 26)) ZZ) Yb) (nE p m vs d T.nx (Za (.int (k:Nat))) (Za (.lst (((br vs.length).map (qd vs d k)).map .int)))) (T.add (.lst (ws.map .str)))=.ok (.lst (((đ vs d k).map λc=>(⟨#[c]⟩:Str)).map .str)) (T.add (.lst (ws.map .str))):=o5 rfl Vp c2;show Ń (Zw (j' 6) (F' (Ģ (xC (.str "")) (F' (o9 (Yw (j' 8)) [2] nI (x2 (j' 1) (x2 (j' 0) (xC (.int 26)) ZZ) Yb)) J')) J')) (nE p m vs d T.nx (Za (.int (k:Nat))) (Za (.lst (((br vs.length).map (qd vs d k)).map .int)))) (T.add (.lst (ws.map .str)))=_;have e3:Ģ (xC (.str "")) (F' (o9 (Yw (j' 8)) [2] nI (x2 (j' 1) (x2 (j' 0) (xC (.int 26)) ZZ) Yb)) J') (nE p m vs d T.nx (Za (.int (k:Nat))) (Za (.lst (((br vs.length).map (qd vs d k)).map .int)))) (T.add (.lst (ws.map .str)))=.ok (.str (ů (đ vs d k))) (T.add (.lst (ws.map .str))):=by unfold Ģ;have e4:=mj (fa:=J') e2 rfl;simp only[xC,Out.bind,e4,YB,vR];rw[Zc hj,F0]
 apply BP (v:=.Yh);have e4:=mj (fa:=J') e3 rfl;unfold Zw;simp only[j',Out.bind,gQ,gP,hg,e4,W8,ac];rw[Zc (show ws.length<100000 by lia)];simp
def mh(h:Z[i]?=Za (Za v)):j' i Z s=.ok v s:=by unfold j';rw[h]
def xj(s)(p)(x y x' y'):(Yv s p x y).set p (.lst [.int x',.int y'])=Yv s p x' y':=sj _ _ _ _
def vi(a)(hP:Ys s p)(x y)(h0:0<n)(h1:Bt 9000 n):∃r x' y',0<=r/\r<n/\mP a [.ref p,.int n] (Yv s p x y)=.ok (.int r) (Yv s p x' y'):=by obtain⟨r,x',y',r0,r1,e⟩:=t9 a (Yv s p x y) p n (hP.Yv x y) h0 h1;rw[xj] at e;exact⟨r,x',y',r0,r1,e⟩
def va(hP:Ys s p):∃x y,s=Yv s p x y:=by obtain⟨x,y,h⟩:=hP;exact⟨x,y,(An s p _ h).symm⟩
def mI(h:f Z s=.nx Yi s')(k:g Yi s'=o):X6 f g Z s=o:=(Lf h).trans k
def mZ(h:g (vs.map Za++aQ (N-vs.length) Zb) s=.rt v s'):ZG N g vs s=.ok v s':=by unfold ZG;rw[h]
def Ay(h:g (vs.map Za++aQ (N-vs.length) Zb) s=.nx Z s'):ZG N g vs s=.ok .Yh s':=by unfold ZG;rw[h]
def rO(vs:List Int)(d k:Nat):List Str:=(br k).map λi=>ů (đ vs d i)
def Kb(a)(s)(p)(hp:p<s.nx)(hP:Ys s p)(m)(hm:m<=10):∃x y vs d fl,0<vs.length/\vs.length<=7/\d<vs.length/\tR a [.ref p,.int (m:Nat)] s=.ok (.lst (((br m).map (ģ vs d fl)).map .str)) (N'.bump (Yv s p x y)):=by
 obtain⟨xa,y0,es⟩:=va hP;obtain⟨r,xb,y1,r0,r1,e1⟩:=vi a hP xa y0 (n:=7) (by decide) (pW (by decide) (by decide));rw[<-es] at e1;obtain⟨n,hn,rfl⟩:∃n:Nat,1<=n/\r=(n:Int)-1:=⟨r.toNat+1,by lia,by lia⟩;have Wd:n<=7:=by lia
 obtain⟨pv,t2,hc,vs,xc,y2,rfl,rfl,hvl⟩:=Oo (c:=nI) (e:=V' 2 (mP a) (F' (j' 1) (F' (xC (.int 26)) J'))) (cap:=[Za (.ref p)]) (vz 0 n)
  (λi pv t=>∃(vs:List Int)(x y:Int),pv=vs.map PV.int/\t=Yv s p x y/\vs.length=i)
  (λi q pv t hq hI=>by obtain⟨vs,x,y,rfl,rfl,hl⟩:=hI;obtain⟨b,x',y',_,_,e⟩:=vi a hP x y (n:=26) (by decide) (pW (by decide) (by decide));exact .inr ⟨_,.int b,_,rfl,mL (mj (mh rfl) (mj rfl rfl)) rfl e,vs++[b],x',y',by simp,rfl,by simp[hl]⟩)
  (s:=Yv s p xb y1) ⟨[],xb,y1,rfl,rfl,rfl⟩
 rw[wP] at hvl;subst hvl;obtain⟨d',xd,y3,d0,d1,e3⟩:=vi a hP xc y2 (n:=(vs.length:Int)) (by lia) (pW (by lia) (by lia));obtain⟨d,rfl⟩:∃d:Nat,d'=d:=⟨d'.toNat,by lia⟩;have hd:d<vs.length:=by lia
 have lp:∃u v,nZ (nr (X9 7) (oQ a)) (vz 0 m) (nE p m vs d s.nx Zb Zb) ((Yv s p xd y3).add (.lst []))=.nx (nE p m vs d s.nx u v) ((Yv s p xd y3).add (.lst ((rO vs d m).map .str))):=by
  obtain⟨Yi,s',hl,u,v,rfl,rfl⟩:=vf (body:=nr (X9 7) (oQ a)) m
   (λk Z t=>∃u v,Z=(nE p m vs d s.nx u v)/\t=(Yv s p xd y3).add (.lst ((rO vs d k).map .str)))
   (λk Z t hk hI=>by
    obtain⟨u,v,rfl,rfl⟩:=hI;have:=IB a (Yv s p xd y3) p m vs (by lia) Wd d hd (rO vs d k) (by simp[rO];lia) k (by lia) u v;refine⟨_,_,this,_,_,rfl,?_⟩;have:rO vs d (k+1)=rO vs d k++[ů (đ vs d k)]:=by unfold rO;rw[List.range_succ,aC];rfl
    rw[this]) (Z:=(nE p m vs d s.nx Zb Zb)) (s:=(Yv s p xd y3).add (.lst [])) ⟨Zb,Zb,rfl,rfl⟩
  exact⟨u,v,hl⟩
 obtain⟨u,v,lp⟩:=lp;have hq:Ys ((Yv s p xd y3).add (.lst ((rO vs d m).map .str))) p:=(hP.Yv xd y3).add _ hp;obtain⟨f,xe,y4,_,_,e4⟩:=t9 a _ p 4 hq (by decide) (pW (by decide) (by decide));rw[M0 _ _ _ _ _ _ _ hp] at e4;have hg:((Yv s p xe y4).add (.lst ((rO vs d m).map .str))).get s.nx=Za (.lst ((rO vs d m).map .str)):=by have:(Yv s p xe y4).nx=s.nx:=rfl;rw[ny,Zc this]
 have TY:((Yv s p xe y4).add (.lst ((rO vs d m).map .str))).del s.nx=N'.bump (Yv s p xe y4):=N6 (Yv s p xe y4) _;have head:∀(o:SO),X6 (å (YJ (x2 (V' 2 (mP a) (F' (j' 0) (F' (xC (.int 4)) J'))) (xC (.int 0)) Ô)) (Yd 6 (oX (wI (F' (ł (j' 6)) J')) [] nI (x2 (j' 1) (x2 (xC (.str "x")) (x2 (j' 0) (xC (.int 2)) ZZ) zT) YG))) Y') (YA (Fp (j' 6))) (nE p m vs d s.nx u v) ((Yv s p xd y3).add (.lst ((rO vs d m).map .str)))=o->tH a [Za (.ref p),Za (.int (m:Nat)),Zb,Zb,Zb,Zb,Zb,Zb,Zb] s=o:=λo ho=>by
  unfold tH;apply mI (mS rfl);refine mI (mS (v:=.int (vs.length:Nat)) (s':=Yv s p xb y1) ((mM rfl (mL (mj (mh rfl) (mj rfl rfl)) rfl e1)).trans ?_)) ?_
  .show Out.ok (PV.int (1+((vs.length:Int)-1))) _=_;rw[show(1:Int)+((vs.length:Int)-1)=(vs.length:Nat) by lia]
  refine mI (mS (o5 (vA (n:=vs.length) rfl (by lia)) (by rw[wP];lia) hc)) ?_;apply mI (mS (mL (mj (mh rfl) (mj (mh rfl) rfl)) rfl e3));apply mI (mS (v:=.ref s.nx) (s':=(Yv s p xd y3).add (.lst [])) rfl);apply mI (rY (vA (n:=m) rfl (by lia)) lp);exact ho
 have c1:x2 (V' 2 (mP a) (F' (j' 0) (F' (xC (.int 4)) J'))) (xC (.int 0)) Ô (nE p m vs d s.nx u v) ((Yv s p xd y3).add (.lst ((rO vs d m).map .str)))=.ok (.bl (f==0)) ((Yv s p xe y4).add (.lst ((rO vs d m).map .str))):=by apply(mM (mL (mj (mh rfl) (mj rfl rfl)) rfl e4) rfl).trans;show ZP false _ _ _=_;unfold ZP;rw[pG,pG];simp[sG,GQ]
 by_cases hf:f=0
 .refine⟨xe,y4,vs,d,true,by lia,Wd,hd,mZ (head _ ?_)⟩;refine mI ((yC (s1:=(Yv s p xe y4).add (.lst ((rO vs d m).map .str))) (by unfold YJ;rw[c1,hf];rfl)).trans (mS (v:=.lst (((br m).map (ģ vs d true)).map .str)) (s':=N'.bump (Yv s p xe y4)) ?_)) ?_
  .unfold oX wI;have ef:F' (ł (j' 6)) J' (nE p m vs d s.nx u v) ((Yv s p xe y4).add (.lst ((rO vs d m).map .str)))=.ok [.lst ((rO vs d m).map .str)] (N'.bump (Yv s p xe y4)):=by refine mj ?_ rfl;unfold ł;rw[mh (v:=.ref s.nx) rfl];simp[Out.bind,à,hg,TY]
   rw[ef];simp only[Out.bind];rw[Zc (by rw[sN,ac];simp[rO];lia)];have cp:=Ab (e:=x2 (j' 1) (x2 (xC (.str "x")) (x2 (j' 0) (xC (.int 2)) ZZ) zT) YG) (s:=N'.bump (Yv s p xe y4)) (λj w=>w++if j%2=1 then b6 "x" else cq) (rO vs d m) 0 λj w hw=>by
    obtain⟨k,_,rfl⟩:=aq.mp hw;have hl:(ů (đ vs d k)).length<=7:=by rw[Hh,w4];exact Wd
    have Vq:(ů (đ vs d k)).length+1<=100000:=by lia
    have Uo:(ů (đ vs d k)).length<=100000:=by lia
    have lx:(b6 "x").length=1:=rfl;have l0:cq.length=0:=rfl;obtain z|z:=Nat.mod_two_eq_zero_or_one j
    .have z':(j:Int)%2=0:=by lia
     simp[Ĥ,rm,mY,tY,zT,z,z',l0,Uo]
    .have z':(j:Int)%2=1:=by lia
     simp[Ĥ,rm,mY,tY,zT,z,z',lx,Vq]
   have el:((br (rO vs d m).length).map λi=>(((rO vs d m)[i]?).getD cq)++if(0+i)%2=1 then b6 "x" else cq)=(br m).map (ģ vs d true):=by
    have:(rO vs d m).length=m:=by simp[rO]
    rw[this];refine aW λk hk=>?_;have hk:=cX.mp hk;have:(rO vs d m)[k]?=Za (ů (đ vs d k)):=by unfold rO;rw[aF,lP hk];rfl
    rw[this,fA];apply Dm;unfold ģ;rw[AD,rF];simp only[Option.getD_some,rF];by_cases hk2:k%2=1
    .rw[Zc hk2,Zc ⟨trivial,hk2⟩];rfl
    .rw[Zd hk2,Zd (λz=>hk2 z.2)];rfl
   rw[el] at cp;show((nz nI _ [] _ _).bind _)=_;rw[cp];rfl
  .apply nW;unfold Fp;rw[mh (v:=.lst (((br m).map (ģ vs d true)).map .str)) rfl];rfl
 .refine⟨xe,y4,vs,d,false,by lia,Wd,hd,mZ (head _ ?_)⟩;refine mI ((ug (s1:=(Yv s p xe y4).add (.lst ((rO vs d m).map .str))) (by unfold YJ;rw[c1,beq_eq_false_iff_ne.mpr hf];rfl)).trans rfl) ?_;apply nW;unfold Fp;rw[mh (v:=.ref s.nx) rfl];simp only[Out.bind,Q6,à,hg,TY];have:(br m).map (ģ vs d false)=rO vs d m:=aW λk _=>by unfold ģ;simp
  rw[this]
def yz(l:Hl)(o1 o2:Str)(q:Int×Int):Hl :=
 let r:=oG (mO l o1) (-q.1,q.2);let l1:=if 0<r.1 then oB (oh l o1) o1 r else oh l o1
 oB l1 o2 (oG (mO l1 o2) q)
structure HM(c:Nat)(hl hm:Hl):Prop where
 r:∃hz,HR c hl hz
 nd:(hm.map (·.1)).Nodup
 q:∀n,mO hm n=mO hl n
 mem:∀n,n∈hm.map (·.1)↔n∈hl.map (·.1)
def Qt(c)(ho:Sm o):HM c [(o,1,1)] [(o,1,1)]:=⟨⟨_,Qs c ho⟩,by simp,λ_=>rfl,λ_=>Iff.rfl⟩
def vG:n∈(oB l o q).map (·.1)↔n=o\/n∈l.map (·.1):=by
 rw[oi]
 grind
def Ä:n∈(oh l o).map (·.1)↔n≠o/\n∈l.map (·.1):=by
 unfold oh;simp[aq,bi]
 grind
theorem HM.ϓ{c:Nat}{hl hm:Hl}(h:HM c hl hm){o1 o2:Str}{q:Int×Int}(hq:Ť q)(so:Sm o2)(nt:¬pL hl o1 q):HM (c+1) (ZT hl o1 o2 q) (yz hm o1 o2 q):=by
 obtain⟨hz,R⟩:=h.r;have q0:0<q.1:=by by_cases z:0<q.1;exact z;exact absurd (.inl z) nt
 have Sh:q.1*(mO hl o1).2<=(mO hl o1).1*q.2:=by
  by_cases z:q.1*(mO hl o1).2>(mO hl o1).1*q.2
  .exact absurd (.inr z) nt
  .lia
 have B:=zi (R.fr o1) hq.low q0 Sh hq.bb;have eq1:=h.q o1;generalize hr:oG (mO hl o1) (-q.1,q.2)=r at B;have e1:∀n,mO (if 0<r.1 then oB (oh hm o1) o1 r else oh hm o1) n=mO (if r=(0,1) then oh hl o1 else oB hl o1 r) n:=λn=>by
  by_cases z:0<r.1
  .have z':r≠(0,1):=λe=>by rw[e] at z;exact absurd z (by decide)
   rw[Zc z,Zd z',nR,nR,qu];by_cases e:n=o1
   .simp_all
   .rw[Zd e,Zd e,Zd e,h.q]
  .have z':=Aw B.low (by have:=B.nn;lia);rw[Zd z,Zc z',qu,qu];by_cases e:n=o1
   .simp_all
   .rw[Zd e,Zd e,h.q]
 have Ta:o1∈hl.map (·.1):=by
  apply(R.nm o1).mpr;by_cases z:0<(mO hl o1).1
  .exact z
  .exfalso;have b0:=(R.fr o1).low.1;have b1:=hq.low.1;have n0:=(R.fr o1).nn;have:(mO hl o1).1=0:=by lia
   rw[this,Int.zero_mul] at Sh;have:=bv q0 b0;lia
 have m1:∀n,n∈(if 0<r.1 then oB (oh hm o1) o1 r else oh hm o1).map (·.1)↔n∈(if r=(0,1) then oh hl o1 else oB hl o1 r).map (·.1):=λn=>by
  by_cases z:0<r.1
  .have z':r≠(0,1):=λe=>by rw[e] at z;exact absurd z (by decide)
   rw[Zc z,Zd z',vG,vG,Ä,h.mem]
   grind
  .have z':=Aw B.low (by have:=B.nn;lia);rw[Zd z,Zc z',Ä,Ä,h.mem]
 have em:yz hm o1 o2 q=oB (if 0<r.1 then oB (oh hm o1) o1 r else oh hm o1) o2 (oG (mO (if 0<r.1 then oB (oh hm o1) o1 r else oh hm o1) o2) q):=by unfold yz;simp[eq1,hr]
 have es:ZT hl o1 o2 q=oB (if r=(0,1) then oh hl o1 else oB hl o1 r) o2 (oG (mO (if r=(0,1) then oh hl o1 else oB hl o1 r) o2) q):=by unfold ZT;simp[hr]
 refine⟨⟨_,R.ϓ hq so nt⟩,?_,λn=>?_,λn=>?_⟩
 .rw[em];apply wz _ _;split
  .exact wz _ _ (Du _ h.nd)
  .exact Du _ h.nd
 .rw[em,es,nR,nR,e1 o2,e1 n]
 .rw[em,es,vG,vG,m1]
theorem HM.Yu(h:HM c hl hm):Yu (hm.map (·.1))=Yu (hl.map (·.1)):=by obtain⟨hz,R⟩:=h.r;refine qf ?_ (p8 _) (p8 _);refine(jY ((mJ _).nodup_iff.mpr h.nd) ((mJ _).nodup_iff.mpr R.n1)).mpr λn=>?_;rw[(mJ _).mem_iff,(mJ _).mem_iff,h.mem]
def HM.len(h:HM c hl hm):hm.length=hl.length:=by have:=congrArg cE h.Yu;rw[(mJ _).length_eq,(mJ _).length_eq,ac,ac] at this;exact this
def xE(h:k∉l.map (·.1)):qM l k=none:=by
 unfold qM
 grind
def hP(l:Hl):List (Key×PV):=l.map λq=>(ap q.1,Zx q.2)
def Bu(l)(n)(h:n∈l.map (·.1)):qM (hP l) (ap n)=Za (Zx (mO l n)):=by
 unfold qM hP mO nc;rw[gy,Option.map_map];have e:((λkv:Key×PV=>decide (kv.1=ap n))∘λq:Str×Int×Int=>((ap q.1:Key),Zx q.2))=λq=>decide (q.1=n):=by
  funext q
  simp_all
 rw[e];cases hf:l.find? (λq=>decide (q.1=n)) with
 |none =>
  grind
 |some q=>rfl
def Dw(l):(hP l).map (·.1)=l.map λq=>ap q.1:=by unfold hP;rw[aD];rfl
def Qw(l)(n):(qM (hP l) (ap n)).getD (.tup [.int 0,.int 1])=Zx (mO l n):=by
 by_cases h:n∈l.map (·.1)
 .rw[Bu l n h];rfl
 .rw[xE,vJ h]
  .rfl
  .rw[Dw]
   grind
def LA(l)(n)(q):zx (hP l) (ap n) (Zx q)=hP (oB l n q):=by
 unfold zx oB hP;rw[g7];have e:((λkv:Key×PV=>decide (kv.1=ap n))∘λq:Str×Int×Int=>((ap q.1:Key),Zx q.2))=λq=>decide (q.1=n):=by
  funext q
  simp_all
 rw[e];split
 .rw[aD,aD];refine aW λz _=>?_
  grind
 .simp
def Ax(pp)(w):p4 pp w=true↔w∈pp:=by
 unfold p4
 grind
def qr(L)(w):nv L w=true↔w∈L.map (·.nm):=by
 unfold nv n8
 grind
def Cg(a)(h1:yg w=true)(h2:w∉pp)(h3:w∉L.map (·.nm)):sD a pp L w=none:=by
 unfold sD;have e1:p4 pp w=false:=by rw[gI];exact λz=>h2 ((Ax _ _).mp z)
 have e2:nv L w=false:=by rw[gI];exact λz=>h3 ((qr _ _).mp z)
 grind
def K1{ws:List Str}{r:Int}(h0:0<=r)(h1:r<ws.length):∃w∈ws,Z9 (ws.map PV.str) r=Za (.str w):=by
 obtain⟨j,rfl⟩:∃j:Nat,r=j:=⟨r.toNat,by lia⟩;have hj:j<ws.length:=by lia
 exact⟨ws[j],cU hj,nJ (by simp[hj])⟩
def wT(hn:e.nm∉A.map (·.nm)):n8 (A++e::B) e.nm=Za e:=by
 unfold n8;rw[ja,gz.mpr]
 .simp
 .grind
def HZ(g)(h1:e.nm∉A.map (·.nm))(h2:e.nm∉B.map (·.nm)):FD (A++e::B) e.nm g=A++g e::B:=by
 have no:∀{l:List Ent},e.nm∉l.map (·.nm)->l.map (λx=>if x.nm=e.nm then g x else x)=l:=λ{l} h=>by
  conv=>rhs;rw[<-iF l]
  refine aW λx hx=>?_
  grind
 unfold FD
 grind
def NO(l)(n):D6 (hP l) (ap n)=hP (oh l n):=by
 unfold D6 hP oh;rw[dP]
 congr 1
 refine List.filter_congr λx _=>?_
 simp_all
def Qv(l):(hP l).length=l.length:=by unfold hP;grind
theorem Dv:∀(l:List (Key×PV))(ss:List Str),l.map (·.1)=ss.map ap->keysOf l=Za ss
 |[],[],_=>rfl
 |(k,v)::r,s::ss,h=>by have h1:k=ap s:=(im h).1;have h2:=Dv r ss (im h).2;subst h1;simp[keysOf,h2]
def NH(l):keysOf (hP l)=Za (l.map (·.1)):=Dv _ _ (by rw[Dw,aD];rfl)
structure Md where
 nm:Str
 cell:Nat
 hl:Hl
 th:Int
 mr:Int
 ls:Int
def Z6(e:Md):Key×PV:=(ap e.nm,.lst [.ref e.cell,.tup [.int e.th,.int e.mr,.int e.ls]])
def Hm(M:List Md):keysOf (M.map Z6)=Za (M.map (·.nm)):=Dv _ _ (by rw[aD,aD];rfl)
structure ϣ(N:List Str)(c:Nat)(e:Ent)(m:Md):Prop where
 nm:e.nm=m.nm
 th:e.th=m.th
 mr:e.mr=m.mr
 ls:e.ls=m.ls
 hm:HM c e.held m.hl
 ow:∀n∈m.hl.map (·.1),n∈N
 tb:Bt 100 e.th/\Bt 100 e.mr/\Bt 100 e.ls
inductive ä (N:List Str):Nat->List Ent->List Md->Prop
 |nil {c:Nat}:ä N c [] []
 |cons {c1 c2 c:Nat}{e:Ent}{m:Md}{L:List Ent}{M:List Md}:ϣ N c1 e m->ä N c2 L M->c1+c2<=c->ä N c (e::L) (m::M)
def ä.mono(hc:c<=d):∀{L:List Ent}{M:List Md},ä N c L M->ä N d L M
 |_,_,.nil=>.nil
 |_,_,.cons h r k=>.cons h r (aJ k hc)
theorem ä.names:∀{c:Nat}{L:List Ent}{M:List Md},ä N c L M->L.map (·.nm)=M.map (·.nm)
 |_,_,_,.nil=>rfl
 |_,_,_,.cons h r _=>by rw[am,am,h.nm,r.names]
theorem ä.app:∀{c:Nat}{L L':List Ent}{M M':List Md},ä N c L M->ä N d L' M'->ä N (c+d) (L++L') (M++M')
 |_,_,_,_,_,.nil,k=>k.mono (Nat.le_add_left _ _)
 |_,_,_,_,_,.cons h r q,k=>.cons h (r.app k) (by lia)
theorem ä.cut:∀{c:Nat}{L:List Ent}{M:List Md},ä N c L M->∀{h:Str},h∈M.map (·.nm)->∃A e B A' m B' k1 k2 k3,L=A++e::B/\M=A'++m::B'/\m.nm=h/\h∉A'.map (·.nm)/\ä N k1 A A'/\ϣ N k2 e m/\ä N k3 B B'/\k1+k2+k3<=c
 |_,_,_,.nil,_,hh=>nomatch hh
 |c,e::L,m::M,.cons (c1:=c1) (c2:=c2) k r q,h,hh=>by
  by_cases z:m.nm=h
  .exact⟨[],e,L,[],m,M,0,c1,c2,rfl,rfl,z,by simp,.nil,k,r,by lia⟩
  .have Us:h∈M.map (·.nm):=(ao.mp hh).elim (λq=>absurd q.symm z) id;obtain⟨A,e',B,A',m',B',k1,k2,k3,e1,e2,e3,e4,e5,e6,e7,e8⟩:=r.cut Us;refine⟨e::A,e',B,m::A',m',B',c1+k1,k2,k3,by rw[e1];rfl,by rw[e2];rfl,e3,λq=>?_,.cons k e5 (ak _),e6,e7,by lia⟩
   grind
structure ţ(t:N')(p nb nd:Nat)(N:List Str)(c:Nat)(pp:List Str)(L:List Ent)(M:List Md):Prop where
 pu:Ys t p
 bk:t.get nb=Za (.book pp L)
 md:t.get nd=Za (.Yl (M.map Z6))
 sh:∀m∈M,t.get m.cell=Za (.Yl (hP m.hl))
 i1:p≠nb
 i2:p≠nd
 i3:nb≠nd
 i4:∀m∈M,m.cell≠p/\m.cell≠nb/\m.cell≠nd
 i5:(M.map (·.cell)).Nodup
 lt:p<t.nx/\nb<t.nx/\nd<t.nx/\∀m∈M,m.cell<t.nx
 pr:ä N c L M
theorem ţ.Yv(W:ţ t p nb nd N c pp L M)(x y):ţ (Yv t p x y) p nb nd N c pp L M :=
 ⟨W.pu.Yv x y,by rw[<-W.bk];exact mF _ _ (bU W.i1),by rw[<-W.md];exact mF _ _ (bU W.i2),λm hm=>by rw[<-W.sh m hm];exact mF _ _ (W.i4 m hm).1,W.i1,W.i2,W.i3,W.i4,W.i5,W.lt,W.pr⟩
theorem ţ.mono(W:ţ t p nb nd N c pp L M)(hc:c<=d):ţ t p nb nd N d pp L M :=
 ⟨W.pu,W.bk,W.md,W.sh,W.i1,W.i2,W.i3,W.i4,W.i5,W.lt,W.pr.mono hc⟩
def ţ.ϓ(W:ţ t p nb nd N c pp (A++e::B) (A'++m::B'))(c1:ä N k1 A A')(c2:ϣ N k2 e m)(c3:ä N k3 B B')(ck:k1+k2+k3<=c)(h:HM (k2+1) Up TV)(ow:∀n∈TV.map (·.1),n∈N):ţ ((t.set nb (.book pp (A++{ e with held:=Up }::B))).set m.cell (.Yl (hP TV))) p nb nd N (c+1) pp (A++{ e with held:=Up }::B) (A'++{ m with hl:=TV }::B'):=by
 have hm:=W.i4 m (aM _ al);have WU:=W.i5;rw[aC,am] at WU;obtain⟨nA,nB,nX⟩:=b5.mp WU;obtain⟨nm,nB⟩:=aL.mp nB;have S8:∀m'∈A'++B',m'.cell≠m.cell/\m'∈A'++m::B':=λm' h'=>by
  grind
 have g1:(t.set nb (.book pp (A++{ e with held:=Up }::B))).get m.cell=Za (.Yl (hP m.hl)):=by rw[mF _ _ hm.2.1];exact W.sh m (aM _ al)
 refine⟨?_,?_,?_,λm' h'=>?_,W.i1,W.i2,W.i3,λm' h'=>?_,?_,⟨W.lt.1,W.lt.2.1,W.lt.2.2.1,λm' h'=>?_⟩,ä.mono (c:=k1+(k2+1+k3)) (by lia) (c1.app (.cons (c1:=k2+1) ⟨c2.nm,c2.th,c2.mr,c2.ls,h,ow,c2.tb⟩ c3 (ak _)))⟩
 .obtain⟨x,y,e⟩:=W.pu;exact⟨x,y,by rw[mF _ _ (bU hm.1),mF _ _ W.i1];exact e⟩
 .rw[mF _ _ (bU hm.2.1)];exact nQ W.bk
 .rw[mF _ _ (bU hm.2.2),mF _ _ (bU W.i3),W.md];simp[Z6]
 .obtain z|z:=ba.mp h'
  .obtain⟨q1,q2⟩:=S8 m' (b7 _ z);rw[mF _ _ q1,mF _ _ (W.i4 m' q2).2.1];exact W.sh m' q2
  .obtain z|z:=ao.mp z
   .subst z;exact nQ g1
   .obtain⟨q1,q2⟩:=S8 m' (aM _ z);rw[mF _ _ q1,mF _ _ (W.i4 m' q2).2.1];exact W.sh m' q2
 .obtain z|z:=ba.mp h'
  .exact W.i4 m' (b7 _ z)
  .obtain z|z:=ao.mp z
   .subst z;exact hm
   .exact W.i4 m' (aM _ (ah _ z))
 .rw[aC,am];exact WU
 .obtain z|z:=ba.mp h'
  .exact W.lt.2.2.2 m' (b7 _ z)
  .obtain z|z:=ao.mp z
   .subst z;exact W.lt.2.2.2 m (aM _ al)
   .exact W.lt.2.2.2 m' (aM _ (ah _ z))
def MR(a)(hb:t.get nb=Za (.book pp (A++e::B)))(nd:((A++e::B).map (·.nm)).Nodup)(hn:Nm e.nm/\Nm o1/\Nm o2)(hz:Sz q)(ok:ĺ e.held o1 q)(h1:(p4 pp o1||nv (A++e::B) o1)=true)(h2:(p4 pp o2||nv (A++e::B) o2)=true)(nt:¬pL e.held o1 q) :
  wH a [.ref nb,.str e.nm,.str o1,.str o2,Zx q] t=.ok .Yh (t.set nb (.book pp (A++{ e with held:=ZT e.held o1 o2 q }::B))):=by
 rw[aC,am] at nd;have n1:=λz=>(b5.mp nd).2.2 _ z _ al rfl;have n2:=(aL.mp (b5.mp nd).2.1).1;have hS:Ϡ (A++e::B) e.nm o1 o2 q:=⟨by rw[aC,am];exact nd,hn,hz,λe' he=>by rw[wT n1] at he;grind⟩;simp[wH,oy,hb,hS,wT n1,nt,Zx,HZ _ n1 n2]
 grind
def vT(h:t.get n=Za (.Yl l))(hk:keysOf l=Za ss)(hl:ss.length<64):mY [.ref n] t=.ok (.lst ((Yu ss).map .str)) t:=by simp[mY,YB,Zv,h,hk,hl]
def Bs{t:N'}{ws:List Str}{r:Int}{w:Str}(h:Z9 (ws.map PV.str) r=Za (.str w)):Yb (.lst (ws.map .str)) (.int r) t=.ok (.str w) t:=by simp[Yb,YB,h]
def NE:ZH [.lst l] t=.ok (.int (l.length:Nat)) t:=by simp[ZH,YB]
def GD(h:t.get n=Za (.Yl l))(hv:qM l (ap w)=Za v):Yb (.ref n) (.str w) t=.ok v t:=by simp[Yb,YB,Zv,h,ZY,hv]
def Lv(h:m.nm∉A'.map (·.nm)):qM ((A'++m::B').map Z6) (ap m.nm)=Za (.lst [.ref m.cell,.tup [.int m.th,.int m.mr,.int m.ls]]):=by
 unfold qM;rw[aC,ja];have:(A'.map Z6).find? (λkv=>decide (kv.1=ap m.nm))=none:=by
  rw[gz];intro x hx;obtain⟨m',h',rfl⟩:=aq.mp hx;intro z;have z:(ap m'.nm:Key)=ap m.nm:=Zf z
  grind
 rw[this];simp[Z6]
theorem HM.fr(h:HM c hl hm)(n):ő c (mO hm n):=by obtain⟨z,R⟩:=h.r;rw[h.q];exact R.fr n
def HM.pos(h:HM c hl hm)(hn:n∈hm.map (·.1)):0<(mO hm n).1:=by obtain⟨z,R⟩:=h.r;rw[h.q];exact(R.nm n).mp ((h.mem n).mp hn)
def Ng(hc:c<=40)(hg:ő c g)(h:ť g q)(hb:q.2<10^29):Ť q:=by
 have b0:=h.low.1;have hq:=He hg h.low h.le;have b97:Bt 97 q.2:=by
  show q.2.natAbs<2^97
  grind
 refine⟨h.low,?_,b97⟩;have h2:Bt 200 (((2^c:Nat):Int)*q.2):=((show Bt (c+1) ((2^c:Nat):Int) from by show((2^c:Nat):Int).natAbs<2^(c+1);exact lM (Zf rfl) (by lia)).mul b97).mono (by lia)
 show q.1.natAbs<2^200;have h3:(((2^c:Nat):Int)*q.2).natAbs<2^200:=h2;have:=h.pos
 grind
def ţ.ϛ(W:ţ t p nb nd N c pp L M)(a)(x y)(h0:0<n)(h1:Bt 9000 n):∃r x' y',0<=r/\r<n/\mP a [.ref p,.int n] (My.Yv t p x y)=.ok (.int r) (My.Yv t p x' y'):=by obtain⟨r,x',y',r0,r1,e⟩:=t9 a (My.Yv t p x y) p n (W.Yv x y).pu h0 h1;rw[xj] at e;exact⟨r,x',y',r0,r1,e⟩
def O4(h:f Z s=.ok (.tup [v,w]) s'):è f (Zr 2 (Yj (X9 i) (Yj (X9 j) Zs))) Z s=.nx ((Z.set i (Za v)).set j (Za w)) s':=by unfold è;rw[h];rfl
def Dq(h1:fv Z s=.ok v s1)(h2:fo Z s1=.ok (.ref n) s1)(h3:fi Z s1=.ok (.str w) s1)(hg:s1.get n=Za (.Yl l))(hl:l.length<100000):û fo fi fv Z s=.nx Z (s1.set n (.Yl (zx l (ap w) v))):=by unfold û;rw[h1];simp[Out.so];rw[h2];simp only;rw[h3];simp[tY,hg,ZY,hl]
def Kh(a)(s)(hg:æ g)(hq:æ q)(bg:Bt 8800 g.2)(bq:Bt 100 q.2):nC a [.int (g.1*q.2-q.1*g.2),.int (g.2*q.2)] s=.ok (Zx (oG g (-q.1,q.2))) s:=by
 have e:=xm a s (g.1*q.2-q.1*g.2) (g.2*q.2) (bv hg.1 hq.1) ((bg.mul bq).mono (Zf rfl));rw[e];unfold oG
 grind
def Ki(a)(s)(hg:æ g)(hq:æ q)(bg:Bt 8800 g.2)(bq:Bt 100 q.2):nC a [.int (g.1*q.2+q.1*g.2),.int (g.2*q.2)] s=.ok (Zx (oG g q)) s :=
 xm a s (g.1*q.2+q.1*g.2) (g.2*q.2) (bv hg.1 hq.1) ((bg.mul bq).mono (Zf rfl))
def ix0:Yb (Zx q) (.int 0) t=.ok (.int q.1) t:=by simp[Yb,Zx,Z9,Œ]
def ϖ:Yb (Zx q) (.int 1) t=.ok (.int q.2) t:=by simp[Yb,Zx,Z9,Œ]
def pI(h1:f Z s=.ok (.int i) s1)(h2:g Z s1=.ok (.int j) s2)(hm:qE i j):x2 f g Yr Z s=.ok (.int (i*j)) s2:=by rw[mM h1 h2];simp[Yr,hm]
def Pi(h1:f Z s=.ok (.int i) s1)(h2:g Z s1=.ok (.int j) s2):x2 f g Ó Z s=.ok (.int (i-j)) s2:=by rw[mM h1 h2];rfl
def wG(h1:f Z s=.ok (.int i) s1)(h2:g Z s1=.ok (.int j) s2):x2 f g YG Z s=.ok (.int (i+j)) s2:=by rw[mM h1 h2];rfl
def Qx(h1:f Z s=.ok (.ref n) s)(hg:s.get n=Za (.Yl l))(h2:g Z s=.ok (.str w) s)(h3:h Z s=.ok z s):Ù f g h Z s=.ok ((qM l (ap w)).getD z) s:=by unfold Ù;rw[h1];simp[Out.bind,Zv,hg,h2,h3,ZY]
def N4(h1:f Z s=.ok (.ref n) s)(hg:s.get n=Za (.Yl l))(h2:g Z s=.ok (.str w) s)(hv:qM l (ap w)=Za v):Ft f g Z s=.ok v (s.set n (.Yl (D6 l (ap w)))):=by unfold Ft;rw[h1];simp[Out.bind,hg,h2,ZY,hv]
def IC(h1:o1∈l.map (·.1))(h:n∈(yz l o1 o2 q).map (·.1)):n∈l.map (·.1)\/n=o2:=by
 unfold yz at h;rw[vG] at h;obtain h|h:=h
 .exact .inr h
 .refine .inl ?_;split at h
  .rw[vG] at h;obtain h|h:=h
   .rw[h];exact h1
   .exact(Ä.mp h).2
  .exact(Ä.mp h).2
def Lb(h:l≠[]):0<(Yu l).length:=by rw[(mJ l).length_eq];exact iQ.mpr h
def Q0(a:Yg){t:N'}{p nb nd:Nat}{N:List Str}{c:Nat}{pp:List Str}{L:List Ent}{M:List Md}(W:ţ t p nb nd N c pp L M)(x y:Int){ws:List Str}(h0:0<ws.length)(hl:ws.length<1000){i:Nat}{Z:En}(hp:Z[0]?=Za (Za (.ref p)))(hi:Z[i]?=Za (Za (.lst (ws.map .str)))) :
  ∃w x' y',w∈ws/\x2 (j' i) (V' 2 (mP a) (F' (j' 0) (F' (xB (F' (j' i) J') ZH) J'))) Yb Z (Yv t p x y)=.ok (.str w) (Yv t p x' y'):=by
 obtain⟨r,x',y',r0,r1,e⟩:=W.ϛ a x y (n:=ws.length) (by lia) (pW (by lia) (by lia));obtain⟨w,hw,RT⟩:=K1 r0 r1;refine⟨w,x',y',hw,?_⟩;have e2:xB (F' (j' i) J') ZH Z (Yv t p x y)=.ok (.int ws.length) (Yv t p x y):=by rw[BI (mj (mh hi) rfl),NE,ac]
 exact(mM (mh hi) (mL (mj (mh hp) (mj e2 rfl)) rfl e)).trans (Bs RT)
abbrev sE(p nd:Nat)(N:List Str)(nb:Nat)(r:En):En:=Za (.ref p)::Za (.ref nd)::Za (.lst (N.map .str))::Za (.ref nb)::r
def ML(a:Yg){t:N'}{p nb nd:Nat}{N:List Str}{c:Nat}{pp:List Str}{L:List Ent}{M:List Md}(W:ţ t p nb nd N c pp L M)(hc:c<=40)(hM:M≠[])(Z8:(L.map (·.nm)).Nodup)(Wm:∀n∈N,Sm n)(hLN:∀n∈L.map (·.nm),n∈N)(hN1:∀n∈N,(p4 pp n||nv L n)=true)(hN0:N≠[])(hNl:N.length<64)(hL8:L.length<=8) :
  ∃t' L' M',rN a [.ref p,.ref nd,.lst (N.map .str),.ref nb] t=.ok .Yh t'/\ţ t' p nb nd N (c+1) pp L' M'/\L'.map (·.nm)=L.map (·.nm)/\M'.map (·.cell)=M.map (·.cell)/\t'.nx=t.nx/\∀k,k≠p->k≠nb->k∉M.map (·.cell)->t'.get k=t.get k:=by
 have hml:M.length=L.length:=by have:=congrArg cE W.pr.names;simpa using this.symm
 obtain⟨x0,y0,et⟩:=va W.pu;have s1:mY [.ref nd] t=.ok (.lst ((Yu (M.map (·.nm))).map .str)) t:=vT W.md (Hm M) (by rw[ac];lia);obtain⟨h,xa,ya,hh,eh⟩:=Q0 a W x0 y0 (ws:=Yu (M.map (·.nm))) (Lb (by simpa using hM)) (by rw[(mJ _).length_eq,ac];lia) (i:=4) (Z:=(sE p nd N nb [Za (.lst ((Yu (M.map (·.nm))).map .str)),Zb,Zb,Zb,Zb,Zb,Zb,Zb,Zb,Zb])) rfl rfl;rw[<-et] at eh;have hh:=(mJ _).mem_iff.mp hh;obtain⟨A,e,B,A',m,B',k1,kk,k3,rfl,rfl,rfl,hA,c1,c2,c3,ck⟩:=W.pr.cut hh;have hck:kk<=40:=by lia
 have Xi:m∈A'++m::B':=aM _ al;obtain⟨i4a,i4b,i4c⟩:=W.i4 m Xi;have g0:∀x y,(Yv t p x y).get m.cell=Za (.Yl (hP m.hl)):=λx y=>(W.Yv x y).sh m Xi;have gd:∀x y,(Yv t p x y).get nd=Za (.Yl ((A'++m::B').map Z6)):=λx y=>(W.Yv x y).md;have gb:∀x y,(Yv t p x y).get nb=Za (.book pp (A++e::B)):=λx y=>(W.Yv x y).bk;obtain⟨hz,R⟩:=c2.hm.r;have Re:m.hl.length<=45:=by rw[c2.hm.len];exact aJ R.l1 (by lia)
 have RB:m.hl.map (·.1)≠[]:=by obtain⟨n,hn⟩:=R.ex;exact l9 ((c2.hm.mem n).mpr ((R.nm n).mpr hn))
 have s2:∀x y,mY [.ref m.cell] (Yv t p x y)=.ok (.lst ((Yu (m.hl.map (·.1))).map .str)) (Yv t p x y):=λx y=>vT (g0 x y) (NH m.hl) (by rw[ac];lia);obtain⟨o1,xb,yb,ho,eo⟩:=Q0 a W xa ya (ws:=Yu (m.hl.map (·.1))) (Lb RB) (by rw[(mJ _).length_eq,ac];lia) (i:=7) (Z:=(sE p nd N nb [Za (.lst ((Yu ((A'++m::B').map (·.nm))).map .str)),Za (.str m.nm),Za (.ref m.cell),Za (.lst ((Yu (m.hl.map (·.1))).map .str)),Zb,Zb,Zb,Zb,Zb,Zb])) rfl rfl;have ho:=(mJ _).mem_iff.mp ho;obtain⟨o2,xc,yc,TB,eo2⟩:=Q0 a W xb yb (ws:=N) (iQ.mpr hN0) (by lia) (i:=2) (Z:=(sE p nd N nb [Za (.lst ((Yu ((A'++m::B').map (·.nm))).map .str)),Za (.str m.nm),Za (.ref m.cell),Za (.lst ((Yu (m.hl.map (·.1))).map .str)),Za (.str o1),Zb,Zb,Zb,Zb,Zb])) rfl rfl;have F1:=c2.hm.fr o1;have p0:=c2.hm.pos ho;obtain⟨q,xd,yd,hq,ep⟩:=Nh a (Yv t p xc yc) p (W.Yv xc yc).pu (mO m.hl o1) F1.low p0 (F1.bb.mono (by lia));rw[xj] at ep;have v1:∀x y,Yb (.ref m.cell) (.str o1) (Yv t p x y)=.ok (Zx (mO m.hl o1)) (Yv t p x y):=λx y=>GD (g0 x y) (Bu m.hl o1 ho);have v0:∀x y,Yb (.ref nd) (.str m.nm) (Yv t p x y)=.ok (.lst [.ref m.cell,.tup [.int m.th,.int m.mr,.int m.ls]]) (Yv t p x y):=λx y=>GD (gd x y) (Lv hA);have head:∀(o:SO),X6 (å (YJ (x2 (x2 (j' 10) (xC (.int 1)) Yb) (x2 (xC (.int 10)) (xC (.int 29)) á) fGe)) Ū Y') (X6 (Ń (ý 5 (wH a) (j' 3) (F' (j' 5) (F' (j' 8) (F' (j' 9) (F' (j' 10) J')))))) (X6 (è (Ft (j' 6) (j' 8)) (Zr 2 (Yj (X9 11) (Yj (X9 12) Zs)))) (X6 (Yd 13 (V' 2 (nC a) (F' (x2 (x2 (j' 11) (x2 (j' 10) (xC (.int 1)) Yb) Yr) (x2 (x2 (j' 10) (xC (.int 0)) Yb) (j' 12) Yr) Ó) (F' (x2 (j' 12) (x2 (j' 10) (xC (.int 1)) Yb) Yr) J')))) (X6 (å (YJ (x2 (x2 (j' 13) (xC (.int 0)) Yb) (xC (.int 0)) fGt)) (û (j' 6) (j' 8) (j' 13)) Y') (X6 (è (Ù (j' 6) (j' 9) (Y7 (F' (xC (.int 0)) (F' (xC (.int 1)) J')))) (Zr 2 (Yj (X9 11) (Yj (X9 12) Zs)))) (û (j' 6) (j' 9) (V' 2 (nC a) (F' (x2 (x2 (j' 11) (x2 (j' 10) (xC (.int 1)) Yb) Yr) (x2 (x2 (j' 10) (xC (.int 0)) Yb) (j' 12) Yr) YG) (F' (x2 (j' 12) (x2 (j' 10) (xC (.int 1)) Yb) Yr) J')))))))))
   (sE p nd N nb [Za (.lst ((Yu ((A'++m::B').map (·.nm))).map .str)),Za (.str m.nm),Za (.ref m.cell),Za (.lst ((Yu (m.hl.map (·.1))).map .str)),Za (.str o1),Za (.str o2),Za (Zx q),Zb,Zb,Zb]) (Yv t p xd yd)=o ->
   uM a (sE p nd N nb [Zb,Zb,Zb,Zb,Zb,Zb,Zb,Zb,Zb,Zb]) t=o:=λo ho=>by
  unfold uM;refine mI (mS ((BI (mj (mh rfl) rfl)).trans s1)) ?_;refine mI (mS eh) ?_;refine mI (mS (v:=.ref m.cell) (s':=Yv t p xa ya) ((mM ((mM (mh rfl) (mh rfl)).trans (v0 xa ya)) rfl).trans rfl)) ?_;refine mI (mS ((BI (mj (mh rfl) rfl)).trans (s2 xa ya))) ?_;refine mI (mS eo) ?_;refine mI (mS eo2) ?_;refine mI (mS (mL (mj (mh rfl) (mj ((mM (mh rfl) (mh rfl)).trans (v1 xc yc)) rfl)) rfl ep)) ?_;exact ho
 have pw:∀(Z:En)(s:N'),x2 (xC (.int 10)) (xC (.int 29)) á Z s=.ok (.int (10^29)) s:=λZ s=>by simp[x2,xC,á,Out.bind]
 generalize ē:(sE p nd N nb [Za (.lst ((Yu ((A'++m::B').map (·.nm))).map .str)),Za (.str m.nm),Za (.ref m.cell),Za (.lst ((Yu (m.hl.map (·.1))).map .str)),Za (.str o1),Za (.str o2),Za (Zx q)])=ò at *;have TR:∀u v w,(sE p nd N nb [Za (.lst ((Yu ((A'++m::B').map (·.nm))).map .str)),Za (.str m.nm),Za (.ref m.cell),Za (.lst ((Yu (m.hl.map (·.1))).map .str)),Za (.str o1),Za (.str o2),Za (Zx q),u,v,w])=ò++[u,v,w]:=λu v w=>by rw[<-ē];rfl
 rw[TR] at head;have r3:∀u v w,(ò++[u,v,w])[3]?=Za (Za (.ref nb)):=λu v w=>by rw[<-ē];rfl
 have r5:∀u v w,(ò++[u,v,w])[5]?=Za (Za (.str m.nm)):=λu v w=>by rw[<-ē];rfl
 have r6:∀u v w,(ò++[u,v,w])[6]?=Za (Za (.ref m.cell)):=λu v w=>by rw[<-ē];rfl
 have r8:∀u v w,(ò++[u,v,w])[8]?=Za (Za (.str o1)):=λu v w=>by rw[<-ē];rfl
 have r9:∀u v w,(ò++[u,v,w])[9]?=Za (Za (.str o2)):=λu v w=>by rw[<-ē];rfl
 have Ud:∀u v w,(ò++[u,v,w])[10]?=Za (Za (Zx q)):=λu v w=>by rw[<-ē];rfl
 have U7:∀u v w,(ò++[u,v,w])[11]?=Za u:=λu v w=>by rw[<-ē];rfl
 have UK:∀u v w,(ò++[u,v,w])[12]?=Za v:=λu v w=>by rw[<-ē];rfl
 have V1:∀u v w,(ò++[u,v,w])[13]?=Za w:=λu v w=>by rw[<-ē];rfl
 have st:∀u v w u' v',((ò++[u,v,w]).set 11 u').set 12 v'=ò++[u',v',w]:=λu v w u' v'=>by rw[<-ē];rfl
 have WJ:∀u v w w',(ò++[u,v,w]).set 13 w'=ò++[u,v,w']:=λu v w w'=>by rw[<-ē];rfl
 clear TR;have cond:∀s,x2 (x2 (j' 10) (xC (.int 1)) Yb) (x2 (xC (.int 10)) (xC (.int 29)) á) fGe (ò++[Zb,Zb,Zb]) s=.ok (.bl (decide ((10:Int)^29<=q.2))) s:=λs=>(mM ((mM (mh (Ud _ _ _)) rfl).trans ϖ) (pw _ _)).trans rfl;by_cases hb:(10:Int)^29<=q.2
 .refine⟨Yv t p xd yd,_,_,mZ (head _ (Gu ((yC (s1:=Yv t p xd yd) (by unfold YJ;rw[cond,Zg hb];rfl)).trans rfl))),(W.Yv xd yd).mono (fb _),rfl,rfl,rfl,λk k1 _ _=>mF _ _ k1⟩
 have Sl:Ť q:=Ng hck F1 hq (by lia);have nt:¬pL e.held o1 q:=λz=>by
  unfold pL at z;rw[<-c2.hm.q] at z;obtain z|z:=z
  .exact z hq.pos
  .have:=hq.le;lia
 have oN1:=c2.ow o1 ho;have hnm:m.nm∈N:=hLN _ (by rw[<-c2.nm];exact aq.mpr ⟨e,aM _ al,rfl⟩);have sl:=MR a (gb xd yd) Z8 ⟨by rw[c2.nm];exact(Wm _ hnm).nm,(Wm _ oN1).nm,(Wm _ TB).nm⟩ Sl.sz (R.Ào (by lia) Sl) (hN1 _ oN1) (hN1 _ TB) nt;have sl:wH a [.ref nb,.str m.nm,.str o1,.str o2,Zx q] (Yv t p xd yd)=.ok .Yh ((Yv t p xd yd).set nb (.book pp (A++{ e with held:=ZT e.held o1 o2 q }::B))):=by have h:=sl;rw[show PV.str m.nm=PV.str e.nm by rw[c2.nm]];exact h
 have B1:=zi (R.fr o1) Sl.low hq.pos (by rw[<-c2.hm.q];exact hq.le) Sl.bb;rw[<-c2.hm.q] at B1;generalize hr:oG (mO m.hl o1) (-q.1,q.2)=r at B1;have Fr:ő (kk+1) r:=⟨B1.low,B1.nn,ig B1.le (aS (ib.mpr (b8 (by decide) (by lia))) (bF B1.low.1)),B1.bb.mono (by lia)⟩;have T:∀{d:Nat}{g:Int×Int},d<=41->ő d g->Bt 9000 g.1/\Bt 8800 g.2/\æ g:=λhd h=>⟨h.top.mono (by lia),h.bb.mono (by lia),h.low⟩;obtain⟨g1,g2,g3⟩:=T (by lia) F1;have qa:Bt 9000 q.1:=Sl.bt.mono (by decide);have qb:Bt 9000 q.2:=Sl.bb.mono (by decide);have qc:Bt 100 q.2:=Sl.bb.mono (by decide);have b9:∀{x:Int},Bt 8800 x->Bt 9000 x:=λh=>h.mono (by decide);generalize hT:(Yv t p xd yd).set nb (.book pp (A++{ e with held:=ZT e.held o1 o2 q }::B))=T6 at sl;have g6:T6.get m.cell=Za (.Yl (hP m.hl)):=by rw[<-hT,mF _ _ i4b];exact g0 xd yd
 have c6:∀l l',(T6.set m.cell (.Yl (hP l))).set m.cell (.Yl (hP l'))=T6.set m.cell (.Yl (hP l')):=λl l'=>sj _ _ _ _;have gl:∀l,(T6.set m.cell (.Yl (hP l))).get m.cell=Za (.Yl (hP l)):=λl=>nQ g6;have TN:∀l:Hl,l.length<=46->(hP l).length<100000:=λl h=>by rw[Qv];lia
 have X0:(oh m.hl o1).length<=45:=aJ (dW _ _) Re;have WQ:∀(l:Hl) o q,l.length<=45->(oB l o q).length<=46:=λl o q h=>by
  have:=congrArg cE (oi l o q);rw[ac] at this;rw[this];split
  .rw[ac];lia
  .rw[aZ,ac];simp;lia
 generalize TW:(if 0<r.1 then oB (oh m.hl o1) o1 r else oh m.hl o1)=l1;have em:yz m.hl o1 o2 q=oB l1 o2 (oG (mO l1 o2) q):=by unfold yz;simp only[hr,TW]
 have F2:ő (kk+1) (mO l1 o2):=by
  rw[<-TW];split
  .rw[nR,qu];split
   .exact Fr
   .exact(c2.hm.fr o2).mono (by lia)
  .rw[qu];split
   .exact ÁE _
   .exact(c2.hm.fr o2).mono (by lia)
 obtain⟨k1,k2,k3⟩:=T (by lia) F2;have l1l:l1.length<=46:=by
  rw[<-TW];split
  .exact WQ _ _ _ X0
  .lia
 refine⟨T6.set m.cell (.Yl (hP (yz m.hl o1 o2 q))),A++{ e with held:=ZT e.held o1 o2 q }::B,A'++{ m with hl:=yz m.hl o1 o2 q }::B',Ay (Z:=ò++[Za (.int (mO l1 o2).1),Za (.int (mO l1 o2).2),Za (Zx r)]) (head _ ?_),?_,?_,?_,?_,λk h1 h2 h3=>?_⟩
 .refine mI ((ug (s1:=Yv t p xd yd) (by unfold YJ;rw[cond,Zh hb];rfl)).trans rfl) ?_;refine mI (BP ((ul (mh (r3 _ _ _)) (gb xd yd) (mj (mh (r5 _ _ _)) (mj (mh (r8 _ _ _)) (mj (mh (r9 _ _ _)) (mj (mh (Ud _ _ _)) rfl)))) rfl).trans sl)) ?_;refine mI (O4 (v:=.int (mO m.hl o1).1) (w:=.int (mO m.hl o1).2) (s':=T6.set m.cell (.Yl (hP (oh m.hl o1)))) ((N4 (mh (r6 _ _ _)) g6 (mh (r8 _ _ _)) (Bu m.hl o1 ho)).trans (by rw[NO];exact rfl))) ?_;rw[st];have R3:∀u v w s,x2 (j' 10) (xC (.int 1)) Yb (ò++[u,v,w]) s=.ok (.int q.2) s:=λu v w s=>(mM (mh (Ud _ _ _)) rfl).trans ϖ;have x0':∀u v w s,x2 (j' 10) (xC (.int 0)) Yb (ò++[u,v,w]) s=.ok (.int q.1) s:=λu v w s=>(mM (mh (Ud _ _ _)) rfl).trans ix0;refine mI (mS (mL (mj (Pi (pI (mh (U7 _ _ _)) (R3 _ _ _ _) (sF g1 qb)) (pI (x0' _ _ _ _) (mh (UK _ _ _)) (sF qa (b9 g2)))) (mj (pI (mh (UK _ _ _)) (R3 _ _ _ _) (sF (b9 g2) qb)) rfl)) rfl (Kh a _ g3 Sl.low g2 qc))) ?_;rw[WJ,hr];have cr:∀u v s,x2 (x2 (j' 13) (xC (.int 0)) Yb) (xC (.int 0)) fGt (ò++[u,v,Za (Zx r)]) s=.ok (.bl (decide (0<r.1))) s:=λu v s=>(mM ((mM (mh (V1 _ _ _)) rfl).trans ix0) rfl).trans rfl;refine mI (Yi:=ò++[Za (.int (mO m.hl o1).1),Za (.int (mO m.hl o1).2),Za (Zx r)]) (s':=T6.set m.cell (.Yl (hP l1))) ?_ ?_
  .rw[<-TW];by_cases z:0<r.1
   .rw[Zc z];refine(yC (s1:=T6.set m.cell (.Yl (hP (oh m.hl o1)))) (by unfold YJ;rw[cr,Zg z];rfl)).trans ?_;refine(Dq (mh (V1 _ _ _)) (mh (r6 _ _ _)) (mh (r8 _ _ _)) (gl _) (TN _ (by lia))).trans ?_;rw[LA,c6]
   .rw[Zd z];exact(ug (s1:=T6.set m.cell (.Yl (hP (oh m.hl o1)))) (by unfold YJ;rw[cr,Zh z];rfl)).trans rfl
  refine mI (O4 (v:=.int (mO l1 o2).1) (w:=.int (mO l1 o2).2) (s':=T6.set m.cell (.Yl (hP l1))) ((Qx (mh (r6 _ _ _)) (gl l1) (mh (r9 _ _ _)) (qZ (mj rfl (mj rfl rfl)))).trans (by rw[Qw];rfl))) ?_;rw[st];refine(Dq (mL (mj (wG (pI (mh (U7 _ _ _)) (R3 _ _ _ _) (sF k1 qb)) (pI (x0' _ _ _ _) (mh (UK _ _ _)) (sF qa (b9 k2)))) (mj (pI (mh (UK _ _ _)) (R3 _ _ _ _) (sF (b9 k2) qb)) rfl)) rfl (Ki a _ k3 Sl.low k2 qc)) (mh (r6 _ _ _)) (mh (r9 _ _ _)) (gl l1) (TN _ l1l)).trans ?_;rw[LA,c6,em]
 .rw[<-hT];exact(W.Yv xd yd).ϓ c1 c2 c3 ck (c2.hm.ϓ Sl (Wm _ TB) nt) λn hn=>(IC ho hn).elim (c2.ow n) λz=>z▸TB
 .rw[aC,aC];rfl
 .rw[aC,aC];rfl
 .rw[<-hT];rfl
 .have hk:k≠m.cell:=λz=>h3 (z▸aq.mpr ⟨m,Xi,rfl⟩);rw[mF _ _ hk,<-hT,mF _ _ h2];exact mF _ _ h1
def Il(a)(hb:t.get nb=Za (.book pp L))(h1:yg w=true)(hs:Sm w)(h2:w∉pp)(h3:w∉L.map (·.nm))(h6:pp.length<6):vn a [.ref nb,.str w] t=.ok .Yh (t.set nb (.book (pp++[w]) L)):=by
 have e:xk a pp L w=none:=by unfold xk;rw[Cg a h1 h2 h3];exact Zd (by lia)
 simp[vn,oy,hb,hs.nm,e]
def Kq(a)(hb:t.get nb=Za (.book pp L))(h1:yg w=true)(hs:Sm w)(so:Sm o)(h2:w∉pp)(h3:w∉L.map (·.nm))(ho:(p4 pp o||nv L o)=true)(hl:0<=ls)(h8:L.length<8):xz a [.ref nb,.str w,.str o,.int th,.int mr,.int ls] t=.ok .Yh (t.set nb (.book pp (L++[⟨w,th,mr,ls,[(o,1,1)]⟩]))):=by
 have e:xp a pp L w o ls=none:=by
  unfold xp;rw[Cg a h1 h2 h3]
  grind
 simp[xz,oy,hb,hs.nm,so.nm,e]
structure ï(s t:N')(p nb nd:Nat)(N:List Str)(c:Nat)(pp:List Str)(L:List Ent)(M:List Md):Prop where
 w:ţ t p nb nd N c pp L M
 nx:s.nx<=t.nx
 fr:∀j,j<s.nx->j≠p->t.get j=s.get j
 lo:s.nx<=nb/\s.nx<=nd/\∀m∈M,s.nx<=m.cell
section
variable{s t:N'}{p nb nd:Nat}{N:List Str}{c:Nat}{pp:List Str}{L:List Ent}{M:List Md}
theorem ï.Yv(B:ï s t p nb nd N c pp L M)(x y):ï s (My.Yv t p x y) p nb nd N c pp L M:=⟨B.w.Yv x y,B.nx,λj h1 h2=>(mF _ _ h2).trans (B.fr j h1 h2),B.lo⟩
def ï.person(B:ï s t p nb nd N c pp L M)(w):ï s (t.set nb (.book (pp++[w]) L)) p nb nd N c (pp++[w]) L M:=by have W:=B.w;refine⟨⟨?_,nQ W.bk,by rw[mF _ _ (bU W.i3)];exact W.md,λm hm=>by rw[mF _ _ (W.i4 m hm).2.1];exact W.sh m hm,W.i1,W.i2,W.i3,W.i4,W.i5,W.lt,W.pr⟩,B.nx,λj h1 h2=>(mF _ _ (by have:=B.lo.1;lia)).trans (B.fr j h1 h2),B.lo⟩;obtain⟨x,y,e⟩:=W.pu;exact⟨x,y,by rw[mF _ _ W.i1];exact e⟩
def Qi(h:x∉M.map (·.nm)):zx (M.map Z6) (ap x) v=M.map Z6++[(ap x,v)]:=by
 unfold zx;rw[Zd];intro z;obtain⟨kv,h1,h2⟩:=gS.mp z;obtain⟨m,hm,rfl⟩:=aq.mp h1;have:(ap m.nm:Key)=ap x:=Zf h2
 grind
def ï.Áz(B:ï s t p nb nd N c pp L M){w o:Str}{th mr ls:Int}(hw:w∉M.map (·.nm))(so:Sm o)(oN:o∈N)(tb:Bt 100 th/\Bt 100 mr/\Bt 100 ls) :
  ï s (((t.set nb (.book pp (L++[⟨w,th,mr,ls,[(o,1,1)]⟩]))).add (.Yl [(ap o,Zx (1,1))])).set nd (.Yl (zx (M.map Z6) (ap w) (.lst [.ref t.nx,.tup [.int th,.int mr,.int ls]])))) p nb nd N c pp (L++[⟨w,th,mr,ls,[(o,1,1)]⟩]) (M++[⟨w,t.nx,[(o,1,1)],th,mr,ls⟩]):=by
 have W:=B.w;obtain⟨l1,l2,l3,l4⟩:=W.lt;have g:∀k,k≠nd->k≠nb->k≠t.nx->(((t.set nb (.book pp (L++[⟨w,th,mr,ls,[(o,1,1)]⟩]))).add (.Yl [(ap o,Zx (1,1))])).set nd (.Yl (zx (M.map Z6) (ap w) (.lst [.ref t.nx,.tup [.int th,.int mr,.int ls]])))).get k=t.get k:=λk h1 h2 h3=>by rw[mF _ _ h1,ny,Zd (show(t.set nb _).nx≠k from λz=>h3 z.symm),mF _ _ h2]
 have onl:∀n∈[(o,(1:Int),(1:Int))].map (·.1),n∈N:=λn hn=>by
  grind
 have gnd:((t.set nb (.book pp (L++[⟨w,th,mr,ls,[(o,1,1)]⟩]))).add (.Yl [(ap o,Zx (1,1))])).get nd=Za (.Yl (M.map Z6)):=by rw[ny,Zd (show(t.set nb _).nx≠nd from λz=>by have:t.nx=nd:=z;lia),mF _ _ (bU W.i3)];exact W.md
 refine⟨⟨?_,?_,?_,λm hm=>?_,W.i1,W.i2,W.i3,λm hm=>?_,?_,⟨cj l1,cj l2,cj l3,λm hm=>?_⟩,W.pr.app (d:=0) (.cons (c1:=0) (c2:=0) ⟨rfl,rfl,rfl,rfl,Qt 0 so,onl,tb⟩ .nil (ak _))⟩,Nat.le_succ_of_le B.nx,λj h1 h2=>?_,B.lo.1,B.lo.2.1,λm hm=>?_⟩
 .obtain⟨x,y,e⟩:=W.pu;exact⟨x,y,by rw[g p W.i2 W.i1 (by lia)];exact e⟩
 .rw[mF _ _ W.i3,ny,Zd (show(t.set nb _).nx≠nb from λz=>by have:t.nx=nb:=z;lia)];exact nQ W.bk
 .rw[nQ gnd,Qi hw,aC];rfl
 .obtain z|z:=ba.mp hm
  .obtain⟨a1,a2,a3⟩:=W.i4 m z;rw[g _ a3 a2 (by have:=l4 m z;lia)];exact W.sh m z
  .rw[ax.mp z];show((_:N').set nd _).get t.nx=_;rw[mF _ _ (by lia),ny,Zc (show(t.set nb _).nx=t.nx from rfl)];rfl
 .obtain z|z:=ba.mp hm
  .exact W.i4 m z
  .rw[ax.mp z];exact⟨by show t.nx≠p;lia,by show t.nx≠nb;lia,by show t.nx≠nd;lia⟩
 .rw[aC,b5];refine⟨W.i5,by simp,λx hx y hy z=>?_⟩
  grind
 .obtain z|z:=ba.mp hm
  .exact cj (l4 m z)
  .rw[ax.mp z];exact ci _
 .have:=B.lo;rw[g j (by lia) (by lia) (by have:=B.nx;lia)];exact B.fr j h1 h2
 .obtain z|z:=ba.mp hm
  .exact B.lo.2.2 m z
  .rw[ax.mp z];exact B.nx
end
structure Wds(N:List Str):Prop where
 nd:N.Nodup
 sm:∀n∈N,Sm n
 nm:∀n∈N,yg n=true
def Ju(h0:0<vs.length)(h7:vs.length<=7)(hd:d<vs.length)(hm:m<=10):Wds ((br m).map (ģ vs d fl)):=by
 refine⟨?_,λn hn=>?_,λn hn=>?_⟩
 .show List.Pairwise _ _;rw[List.pairwise_map];exact List.Pairwise.imp_of_mem (λ{i j} hi hj Vv e=>Vv (Mx hd (by have:=cX.mp hi;lia) (by have:=cX.mp hj;lia) e)) List.nodup_range
 .obtain⟨k,_,rfl⟩:=aq.mp hn;exact(K5 h0 h7 d fl k).1
 .obtain⟨k,_,rfl⟩:=aq.mp hn;exact(K5 h0 h7 d fl k).2
def IE(h:body q Z s=.nx Yi s'):nZ body (q::l) Z s=nZ body l Yi s':=by
 conv=>lhs;unfold nZ
 rw[h]
noncomputable def bE(p nb nd:Nat)(mo my cn:PV)(N:List Str)(u7 u8 u9 Ro:Option PV):En:=[Za (.ref p),Za mo,Za my,Za cn,Za (.lst (N.map .str)),Za (.ref nb),Za (.ref nd),u7,u8,u9,Ro]
theorem wl(a)(WN:Wds N)(mo my cn)(u8 u9 Ro):∀(r done:List Str)(u:Option PV)(t:N'),ï s t p nb nd N 0 done [] []->(∀n∈done++r,n∈N)->(done++r).Nodup->(done++r).length<=6->∃u' t',nZ (nr (X9 7) (ut a)) (r.map .str) (bE p nb nd mo my cn N u u8 u9 Ro) t=.nx (bE p nb nd mo my cn N u' u8 u9 Ro) t'/\ï s t' p nb nd N 0 (done++r) [] []
 |[],done,u,t,B,_,_,_=>⟨u,t,rfl,by rw[bW];exact B⟩
 |w::r,done,u,t,B,hN,nd',hl=>by
  have hw:=hN w (aM _ al);have n1:=λz=>(b5.mp nd').2.2 _ z _ al rfl;have e1:=Il a B.w.bk (WN.nm w hw) (WN.sm w hw) n1 (by simp) (by grind);have e2:done++w::r=done++[w]++r:=by simp
  obtain⟨u',t',h1,h2⟩:=wl a WN mo my cn u8 u9 Ro r (done++[w]) (Za (.str w)) _ (B.person w) (by rw[<-e2];exact hN) (by rw[<-e2];exact nd') (by rw[<-e2];exact hl);refine⟨u',t',?_,by rw[e2];exact h2⟩;rw[<-h1];refine IE ((pO).trans ?_);exact BP ((ul (mh rfl) B.w.bk (mj (mh rfl) rfl) rfl).trans e1)
def Jz{N:List Str}{k:Nat}{r:Int}(h0:0<=r)(h1:r<(k:Nat))(hk:k<=N.length):∃w∈N.take k,Z9 (N.map PV.str) r=Za (.str w):=by
 obtain⟨j,rfl⟩:∃j:Nat,r=j:=⟨r.toNat,by lia⟩;have hj:j<N.length:=by lia
 refine⟨N[j],?_,nJ (by simp[hj])⟩;rw[bZ];exact⟨j,by rw[List.getElem?_take,Zc (by lia),aA hj]⟩
def vX(a)(hP:Ys t p)(x y):∃v x' y',oj a [.ref p] (Yv t p x y)=.ok (.int v) (Yv t p x' y')/\Bt 100 v:=by obtain⟨v,x',y',e,b⟩:=IA a (Yv t p x y) p (hP.Yv x y);rw[xj] at e;exact⟨v,x',y',e,b⟩
def FX(a:Yg){s t:N'}{p nb nd:Nat}{pp hs:List Str}(WN:Wds (pp++hs))(hp6:pp.length<=6)(SU:1<=pp.length)(hh:hs.length<=8){L:List Ent}{M:List Md}(mo cn:PV)(u7 u8 u9 Ro:Option PV)(k:Nat)(hk:k<hs.length)(B:ï s t p nb nd (pp++hs) 0 pp L M)(hL:L.map (·.nm)=hs.take k) :
  ∃UG u9' WB t' L' M',nr (X9 8) (pS a) (.int (k:Nat)) (bE p nb nd mo (.int (pp.length:Nat)) cn (pp++hs) u7 u8 u9 Ro) t=.nx (bE p nb nd mo (.int (pp.length:Nat)) cn (pp++hs) u7 UG u9' WB) t'/\ï s t' p nb nd (pp++hs) 0 pp L' M'/\L'.map (·.nm)=hs.take (k+1):=by
 obtain⟨x0,y0,et⟩:=va B.w.pu;have ek:((pp.length:Int)+(k:Int))=((pp.length+k:Nat):Int):=by lia
 obtain⟨r,xa,ya,r0,r1,e1⟩:=B.w.ϛ a x0 y0 (n:=((pp.length+k:Nat):Int)) (by lia) (pW (by lia) (by lia));rw[<-et] at e1;obtain⟨o,ho,RT⟩:=Jz (N:=pp++hs) r0 r1 (by rw[aZ];lia);obtain⟨v1,xb,yb,f1,b1⟩:=vX a B.w.pu xa ya;obtain⟨v2,xc,yc,f2,b2⟩:=vX a B.w.pu xb yb;obtain⟨v3,xd,yd,f3,b3⟩:=vX a B.w.pu xc yc;have oN:o∈pp++hs:=lw ho;have TB:(p4 pp o||nv L o)=true:=by rw[eT,Ax,qr,hL];rw[List.take_length_add_append] at ho;exact ba.mp ho
 obtain⟨w,hw⟩:∃w,hs[k]?=Za w:=⟨hs[k],aA hk⟩;have wh:w∈hs:=dq hw;have wN:w∈pp++hs:=aM _ wh;have wpp:w∉pp:=λz=>(b5.mp WN.nd).2.2 _ z _ wh rfl;have tk:hs.take (k+1)=hs.take k++[w]:=by rw[d6,hw];rfl
 have wL:w∉L.map (·.nm):=λz=>by rw[hL] at z;have:=(b5.mp WN.nd).2.1;have h2:(hs.take (k+1)).Nodup:=this.sublist (List.take_sublist _ _);rw[tk] at h2;exact(b5.mp h2).2.2 _ z _ (by simp) rfl
 have wat:Z9 ((pp++hs).map PV.str) ((pp.length+k:Nat):Int)=Za (.str w):=nJ (by rw[aF,cY (by lia),kR,hw];rfl);have L8:L.length<8:=by have:=congrArg cE hL;rw[ac,eC] at this;lia
 have nn:(0:Int)<=if v3<0 then -v3 else v3:=by split<;>lia
 have bz:Bt 100 (if v3<0 then -v3 else v3):=by
  split
  .exact by unfold Bt at *;lia
  .exact b3
 generalize hz:(if v3<0 then -v3 else v3)=z at nn bz;have B4:=B.Yv xd yd;have eh:=Kq a (th:=v1) (mr:=v2) (ls:=z) B4.w.bk (WN.nm w wN) (WN.sm w wN) (WN.sm o oN) wpp wL TB nn L8;have B5:=B4.Áz (w:=w) (o:=o) (th:=v1) (mr:=v2) (ls:=z) (by rw[<-B.w.pr.names];exact wL) (WN.sm o oN) oN ⟨b1,b2,bz⟩;refine⟨Za (.int (k:Nat)),Za (.str o),Za (.tup [.int v1,.int v2,.int z]),_,_,_,?_,B5,by rw[aC,hL,tk];rfl⟩;apply(pO (i:=8)).trans;unfold pS;have ad:∀u9 Ro s,x2 (j' 2) (j' 8) YG (bE p nb nd mo (.int (pp.length:Nat)) cn (pp++hs) u7 (Za (.int (k:Nat))) u9 Ro) s=.ok (.int ((pp.length+k:Nat):Int)) s:=λu9 Ro s=>(wG (i:=(pp.length:Nat)) (j:=(k:Nat)) (mh rfl) (mh rfl)).trans (by rw[ek]);have nw:∀u9 Ro s,x2 (j' 4) (x2 (j' 2) (j' 8) YG) Yb (bE p nb nd mo (.int (pp.length:Nat)) cn (pp++hs) u7 (Za (.int (k:Nat))) u9 Ro) s=.ok (.str w) s:=λu9 Ro s=>(mM (mh rfl) (ad _ _ _)).trans (Bs wat);apply mI (mS (v:=.str o) (s':=Yv t p xa ya) ((mM (mh rfl) (mL (mj (mh rfl) (mj (ad _ _ _) rfl)) rfl e1)).trans (Bs RT)));refine mI (mS (v:=.tup [.int v1,.int v2,.int z]) (s':=Yv t p xd yd) (qZ (mj (mL (mj (mh rfl) rfl) rfl f1) (mj (mL (mj (mh rfl) rfl) rfl f2) (mj ((BI (mj (mL (mj (mh rfl) rfl) rfl f3) rfl)).trans (show ĝ [.int v3] (Yv t p xd yd)=.ok (.int z) (Yv t p xd yd) by rw[<-hz];rfl)) rfl))))) ?_;apply mI (BP ((ul (mh rfl) B4.w.bk (mj (nw _ _ _) (mj (mh rfl) (mj ((mM (mh rfl) rfl).trans rfl) (mj ((mM (mh rfl) rfl).trans rfl) (mj ((mM (mh rfl) rfl).trans rfl) rfl))))) rfl).trans eh));have l4:=B4.w.lt.2.2.1;refine(Dq (yL (mj (v:=.ref t.nx) (s1:=((Yv t p xd yd).set nb (.book pp (L++[⟨w,v1,v2,z,[(o,1,1)]⟩]))).add (.Yl [(ap o,Zx (1,1))])) ?_ (mj (mh rfl) rfl))) (mh rfl) (nw _ _ _) (l:=M.map Z6) ?_ ?_).trans rfl
 .rfl
 .rw[ny,Zd (show((Yv t p xd yd).set nb _).nx≠nd from λq=>by have:t.nx=nd:=q;have:nd<t.nx:=l4;lia),mF _ _ (bU B4.w.i3)];exact B4.w.md
 .rw[ac];have:=congrArg cE B.w.pr.names;rw[ac,ac] at this;lia
def KM(ws:List PV)(k:Nat)(hk:k<=ws.length):DC ws Zb (Za (k:Int))=ws.take k:=by
 unfold DC;have e1:HT.YY ws.length 0 Zb=0:=rfl;have e2:HT.YY ws.length ws.length (Za k)=k:=by
  simp[HT.YY]
  grind
 simp_all
def nO(h:f Z s=.ok (.lst l) s1):Yw f Z s=.ok l s1:=by unfold Yw;rw[h];rfl
def ï.start(hp:p<s.nx)(hP:Ys s p)(x y)(N):ï s (((N'.bump (My.Yv s p x y)).add (.book [] [])).add (.Yl [])) p (s.nx+1) (s.nx+2) N 0 [] [] []:=by
 have n1:(N'.bump (My.Yv s p x y)).nx=s.nx+1:=rfl;have n2:((N'.bump (My.Yv s p x y)).add (.book [] [])).nx=s.nx+2:=rfl;have g:∀k,k<s.nx+1->(((N'.bump (My.Yv s p x y)).add (.book [] [])).add (.Yl [])).get k=(My.Yv s p x y).get k:=λk hk=>by rw[ny,Zd (by lia),ny,Zd (by lia),Kx]
 refine⟨⟨?_,?_,?_,(λm hm=>nomatch hm),by lia,by lia,by lia,(λm hm=>nomatch hm),by simp,⟨?_,?_,?_,(λm hm=>nomatch hm)⟩,.nil⟩,?_,λj h1 h2=>?_,by lia,by lia,(λm hm=>nomatch hm)⟩
 .obtain⟨u,v,e⟩:=hP.Yv x y;exact⟨u,v,by rw[g p (by lia)];exact e⟩
 .rw[ny,Zd (by lia),ny,Zc n1]
 .rw[ny,Zc n2];rfl
 .show p<s.nx+3;lia
 .show s.nx+1<s.nx+3;lia
 .show s.nx+2<s.nx+3;lia
 .show s.nx<=s.nx+3;lia
 .rw[g j (by lia)];exact mF _ _ h2
def ï.ZT(B:ï s t p nb nd (pp++hs) c pp L M)(a)(WN:Wds (pp++hs))(hL:L.map (·.nm)=hs)(hh:hs≠[])(h8:hs.length<=8)(hp6:pp.length<=6)(hc:c<=40) :
  ∃t' L' M',rN a [.ref p,.ref nd,.lst ((pp++hs).map .str),.ref nb] t=.ok .Yh t'/\ï s t' p nb nd (pp++hs) (c+1) pp L' M'/\L'.map (·.nm)=hs:=by
 have l8:L.length<=8:=by grind
 have hM:M≠[]:=λz=>by
  have:=B.w.pr.names
  grind
 obtain⟨t',L',M',e,W,n1,n2,nx,fr⟩:=ML a B.w hc hM (by rw[hL];exact(b5.mp WN.nd).2.1) WN.sm (λn hn=>aM _ (hL▸hn)) (λn hn=>by rw[eT,Ax,qr,hL];exact ba.mp hn) (λz=>hh (List.append_eq_nil_iff.mp z).2) (by grind) l8
 refine⟨t',L',M',e,⟨W,by rw[nx];exact B.nx,λj h1 h2=>?_,B.lo.1,B.lo.2.1,λm hm=>?_⟩,n1.trans hL⟩
 .rw[fr j h2 (by have:=B.lo.1;lia) λz=>?_]
  .exact B.fr j h1 h2
  .obtain⟨m,hm,z⟩:=aq.mp z;have:=B.lo.2.2 m hm;lia
 .have:=n2▸aq.mpr ⟨m,hm,rfl⟩;obtain⟨m',h',z⟩:=aq.mp this;rw[<-z];exact B.lo.2.2 m' h'
def K0(a:Yg)(s:N')(p:Nat)(hp:p<s.nx)(hP:Ys s p)(mx:Nat)(hm:mx<=7):∃t nb nd pp hs c L M,tT a [.ref p,.int (mx:Nat)] s=.ok (.tup [.ref nb,.lst ((Yu pp).map .str),.ref nd]) t/\ï s t p nb nd (pp++hs) c pp L M/\L.map (·.nm)=hs/\Wds (pp++hs)/\1<=pp.length/\pp.length<=3/\hs.length<=mx/\c<=28:=by
 obtain⟨x0,y0,et⟩:=va hP;obtain⟨r,xa,ya,r0,r1,e1⟩:=vi a hP x0 y0 (n:=3) (by decide) (pW (by decide) (Zf rfl));rw[<-et] at e1;obtain⟨my,hmy,rfl⟩:∃my:Nat,1<=my/\r=(my:Int)-1:=⟨r.toNat+1,by lia,by lia⟩;obtain⟨cn',xb,yb,c0,cn1,e2⟩:=vi a hP xa ya (n:=((mx+1:Nat):Int)) (by lia) (pW (by lia) (by lia));obtain⟨cn,rfl⟩:∃cn:Nat,cn'=cn:=⟨cn'.toNat,by lia⟩;obtain⟨xc,yc,vs,d,fl,v0,v7,hd,e3⟩:=Kb a (Yv s p xb yb) p hp (hP.Yv xb yb) (my+cn) (by lia);have WN:=Ju (fl:=fl) (m:=my+cn) v0 v7 hd (by lia);have pq:Yv (Yv s p xb yb) p xc yc=Yv s p xc yc:=xj _ _ _ _ _ _;rw[pq] at e3;generalize hN:(br (my+cn)).map (ģ vs d fl)=N at *;have hNl:N.length=my+cn:=by rw[<-hN];simp
 obtain⟨pp,hs,rfl,rfl⟩:∃pp hs:List Str,N=pp++hs/\pp.length=my:=⟨N.take my,N.drop my,(lf my N).symm,by rw[eC];lia⟩;have hsl:hs.length=cn:=by rw[aZ] at hNl;lia
 subst hsl;have B0:=ï.start hp hP xc yc (pp++hs);obtain⟨u7,t1,lp1,B1⟩:=wl a WN (.int (mx:Nat)) (.int (pp.length:Nat)) (.int (hs.length:Nat)) Zb Zb Zb pp [] Zb _ B0 (λn hn=>b7 _ hn) ((b5.mp WN.nd).1) (by rw[eS];lia);rw[eS] at B1;obtain⟨Ŗ,t2,lp2,u8,u9,Ro,L2,M2,rfl,B2,XJ⟩:=vf (body:=nr (X9 8) (pS a)) hs.length
  (λk Z t=>∃u8 u9 Ro L M,Z=bE p (s.nx+1) (s.nx+2) (.int (mx:Nat)) (.int (pp.length:Nat)) (.int (hs.length:Nat)) (pp++hs) u7 u8 u9 Ro/\ï s t p (s.nx+1) (s.nx+2) (pp++hs) 0 pp L M/\L.map (·.nm)=hs.take k)
  (λk Z t hk hI=>by obtain⟨u8,u9,Ro,L,M,rfl,B,hL⟩:=hI;obtain⟨a8,a9,a10,t',L',M',q1,q2,q3⟩:=FX a WN (by lia) hmy (by lia) (.int (mx:Nat)) (.int (hs.length:Nat)) u7 u8 u9 Ro k hk B hL;exact⟨_,_,q1,_,_,_,_,_,rfl,q2,q3⟩) (Z:=bE p (s.nx+1) (s.nx+2) (.int (mx:Nat)) (.int (pp.length:Nat)) (.int (hs.length:Nat)) (pp++hs) u7 Zb Zb Zb) (s:=t1) ⟨Zb,Zb,Zb,[],[],rfl,B1,by simp⟩
 rw[jj] at XJ;have sl:∃UG t3 c L3 M3,å (YJ (x2 (j' 3) (xC (.int 0)) fGt)) (À (Zl (F' (V' 2 (mP a) (F' (j' 0) (F' (x2 (x2 (xC (.int 4)) (j' 3) Yr) (xC (.int 1)) YG) J'))) J')) (X9 8) (pR a)) Y' (bE p (s.nx+1) (s.nx+2) (.int (mx:Nat)) (.int (pp.length:Nat)) (.int (hs.length:Nat)) (pp++hs) u7 u8 u9 Ro) t2=.nx (bE p (s.nx+1) (s.nx+2) (.int (mx:Nat)) (.int (pp.length:Nat)) (.int (hs.length:Nat)) (pp++hs) u7 UG u9 Ro) t3/\ï s t3 p (s.nx+1) (s.nx+2) (pp++hs) c pp L3 M3/\L3.map (·.nm)=hs/\c<=28:=by
  by_cases hc0:hs=[]
  .refine⟨u8,t2,0,L2,M2,(ug (s1:=t2) ?_).trans rfl,B2,XJ,by lia⟩;unfold YJ;rw[mM (mh rfl) rfl,hc0];rfl
  .have Uk:0<hs.length:=iQ.mpr hc0;obtain⟨R1,y2',et2⟩:=va B2.w.pu;obtain⟨n',xe,ye,n0,n1,e5⟩:=B2.w.ϛ a R1 y2' (n:=((4*hs.length+1:Nat):Int)) (by lia) (pW (by lia) (by lia));rw[<-et2] at e5;obtain⟨n,rfl⟩:∃n:Nat,n'=n:=⟨n'.toNat,by lia⟩;obtain⟨ρ3,t3,lp3,UG,L3,M3,rfl,B3,XI⟩:=vf (body:=nr (X9 8) (pR a)) n
    (λk Z t=>∃u8 L M,Z=bE p (s.nx+1) (s.nx+2) (.int (mx:Nat)) (.int (pp.length:Nat)) (.int (hs.length:Nat)) (pp++hs) u7 u8 u9 Ro/\ï s t p (s.nx+1) (s.nx+2) (pp++hs) k pp L M/\L.map (·.nm)=hs)
    (λk Z t hk hI=>by obtain⟨u8,L,M,rfl,B,hL⟩:=hI;obtain⟨t',L',M',q1,q2,q3⟩:=B.ZT a WN hL hc0 (by lia) (by lia) (by lia);refine⟨_,t',(pO (i:=8)).trans ?_,Za (.int (k:Nat)),L',M',rfl,q2,q3⟩;unfold pR;exact BP (mL (mj (mh rfl) (mj (mh rfl) (mj (mh rfl) (mj (mh rfl) rfl)))) rfl q1)) (Z:=bE p (s.nx+1) (s.nx+2) (.int (mx:Nat)) (.int (pp.length:Nat)) (.int (hs.length:Nat)) (pp++hs) u7 u8 u9 Ro) (s:=Yv t2 p xe ye) ⟨u8,L2,M2,rfl,B2.Yv xe ye,XJ⟩
   refine⟨UG,t3,n,L3,M3,(yC (s1:=t2) ?_).trans (rY (vA (n:=n) (mj (mL (mj (mh rfl) (mj ((wG (pI (i:=4) (j:=(hs.length:Nat)) rfl (mh rfl) (.inr (.inl ⟨Zf rfl,Zf rfl⟩))) rfl).trans ?_) rfl)) rfl e5) rfl) (by lia)) lp3),B3,XI,by lia⟩
   .unfold YJ;rw[mM (mh rfl) rfl];show Out.bind (Out.ok (PV.bl (decide ((0:Int)<(hs.length:Nat)))) _) _=_;rw[Zg (by lia)];rfl
   .rw[show(4:Int)*(hs.length:Nat)+1=((4*hs.length+1:Nat):Int) by lia]
 obtain⟨UG,t3,c,L3,M3,e6,B3,XI,hc⟩:=sl;refine⟨t3,s.nx+1,s.nx+2,pp,hs,c,L3,M3,mZ ?_,B3,XI,WN,hmy,by lia,by lia,hc⟩;have VU:∀u7 u8 u9 Ro nb nd s',Ϧ (j' 4) Ę (Ì (j' 2)) (bE p nb nd (.int (mx:Nat)) (.int (pp.length:Nat)) (.int (hs.length:Nat)) (pp++hs) u7 u8 u9 Ro) s'=.ok (.lst (pp.map .str)) s':=λu7 u8 u9 Ro nb nd s'=>by
  have:DC ((pp++hs).map PV.str) Zb (Za ((pp.length:Nat):Int))=pp.map PV.str:=by rw[KM _ _ (by simp),<-List.map_take,List.take_left'];rfl
  simp only[Ϧ,j',bE,gQ,gP,Out.bind,Ę,Ì,fSl,YB,this]
 unfold wq;apply mI (mS (v:=.int (pp.length:Nat)) (s':=Yv s p xa ya) ((wG (i:=1) rfl (mL (mj (mh rfl) (mj rfl rfl)) rfl e1)).trans (by rw[show(1:Int)+((pp.length:Int)-1)=(pp.length:Nat) by lia])));apply mI (mS (mL (mj (mh rfl) (mj ((wG (i:=(mx:Nat)) (j:=1) (mh rfl) rfl).trans (by rw[show((mx:Nat):Int)+1=((mx+1:Nat):Int) by lia])) rfl)) rfl e2));apply mI (mS (mL (mj (mh rfl) (mj ((wG (i:=(pp.length:Nat)) (j:=(hs.length:Nat)) (mh rfl) (mh rfl)).trans (by rw[show((pp.length:Nat):Int)+(hs.length:Nat)=((pp.length+hs.length:Nat):Int) by lia])) rfl)) rfl e3));apply mI (mS (v:=.ref (s.nx+1)) (s':=(N'.bump (Yv s p xc yc)).add (.book [] [])) rfl);apply mI (mS (v:=.ref (s.nx+2)) (s':=((N'.bump (Yv s p xc yc)).add (.book [] [])).add (.Yl [])) rfl);refine mI (rY (l:=pp.map .str) (s1:=((N'.bump (Yv s p xc yc)).add (.book [] [])).add (.Yl [])) ?_ lp1) ?_
 .exact nO (VU Zb Zb Zb Zb (s.nx+1) (s.nx+2) _)
 apply mI (rY (vA (n:=hs.length) (mj (mh rfl) rfl) (by lia)) lp2);apply mI e6;refine nW (qZ (mj (mh rfl) (mj ((BI (mj (VU _ _ _ _ _ _ _) rfl)).trans ?_) (mj (mh rfl) rfl))));simp[mY,YB,vR,show pp.length<64 by lia]
def own(L:List Ent)(n:Str):List Str:=match n8 L n with
 |some e=>Yu (e.held.map (·.1))
 |none=>[]
def Cl(L:List Ent)(h:Str)(S:Str->Prop):Prop:=(∀x∈own L h,S x)/\∀y,S y->∀x∈own L y,S x
structure Rch(L:List Ent)(h:Str)(F:List Str):Prop where
 nd:F.Nodup
 cl:Cl L h (·∈F)
 mn:∀S,Cl L h S->∀x∈F,S x
def Ϲ(L:List Ent)(q:List Str×List Str)(n:Str):List Str×List Str:=if n∈q.1 then q else(q.1++[n],if nv L n=true then q.2++[n] else q.2)
structure Inv1(L:List Ent)(N:List Str)(h:Str)(F W:List Str):Prop where
 nd:F.Nodup
 sub:∀x∈F,x∈N
 wt:∀x∈W,nv L x=true
 mn:∀S,Cl L h S->∀x∈F,S x
 wr:∀x∈W,x=h\/x∈F
def Lp(h:nv L n=false):own L n=[]:=by
 unfold nv at h;unfold own
 grind
theorem Mj:∀{F N:List Str},F.Nodup->(∀x∈F,x∈N)->F.length<=N.length
 |[],_,_,_=>aY _
 |x::F,N,h,k=>by
  have hx:=k x al;have h:=aL.mp h;have:=Mj h.2 λy z=>(List.mem_erase_of_ne (λe:y=x=>h.1 (e▸z))).mpr (k y (ah _ z))
  grind
abbrev LS(U:List Str):PV:=.lst (U.map .str)
def Jv(h:m7 c b n Z s=.nx Yi s'):ua c b Z s=.nx Yi s':=(xD h (by grind)).trans rfl
theorem Ci(s)(k):∀(U:List Str),(∀x∈U,bA x=true)->yS (PV.data s (k+1)) (U.map PV.str)=Za (U.map jA)
 |[],_=>rfl
 |x::r,h=>by
  rw[am];unfold yS;rw[Ci s k r λy hy=>h y (ah _ hy)];have e:PV.data s (k+1) (.str x)=Za (.str x):=by unfold PV.data;rw[Zc (h x al)]
  rw[e];rfl
def xt(s)(k)(h:∀x∈U,bA x=true):PV.data s (k+2) (LS U)=Za (.list (U.map jA)):=by unfold PV.data;rw[Ci s k U h];rfl
def wO(h:Sm x):bA x=true:=by unfold bA;rw[<-Array.all_toList,dG];exact λc hc=>Zg (ia (h.2 c hc) (Zf rfl))
def oF(h:f Z s=.ok (.bl b) s1):YJ f Z s=.ok b s1:=by unfold YJ;rw[h];rfl
def FY(l)(n):(nc l n).1=n:=by
 unfold nc;cases e:l.find? λq=>decide (q.1=n) with
 |none=>rfl
 |some q=>grind
structure Ho(L:List Ent)(N:List Str):Prop where
 ow:∀n e,n8 L n=Za e->e.held.length<64/\∀x∈e.held.map (·.1),x∈N
 sm:∀n∈N,Sm n
 le:N.length<64
 hn:∀n,nv L n=true->n∈N
def Ho.sub(H:Ho L N)(y):∀x∈own L y,x∈N:=by
 unfold own;cases e:n8 L y with
 |none=>grind
 |some e'=>exact λx z=>(H.ow y e' e).2 x ((mJ _).mem_iff.mp z)
abbrev LI(l:List Int):PV:=.lst (l.map .int)
theorem CD(g):∀(l k:List Int),(∀x∈l,∀y∈k,e (Za (.int x)::Za (.int y)::cap) s=.ok (.int (g x y)) s)->nz nI e cap (vx (l.map .int) (k.map .int)) s=.ok ((kS g l k).map .int) s
 |[],_,_=>rfl
 |_::_,[],_=>rfl
 |x::l,y::k,h=>by
  have ih:=CD g l k λx' hx y' hy=>h x' (ah _ hx) y' (ah _ hy);have h0:=h x al y al;show(match nI (Za (.int x)::Za (.int y)::cap) s with
   |.ok true s1=>match e (Za (.int x)::Za (.int y)::cap) s1 with
    |.ok v s2=>match nz nI e cap (vx (l.map .int) (k.map .int)) s2 with
     |.ok vs s3=>Out.ok (v::vs) s3
     |_=>.bad
    |_=>.bad
   |.ok false s1=>nz nI e cap (vx (l.map .int) (k.map .int)) s1
   |_=>.bad)=_
  simp only[nI,h0,ih];rfl
def DZ(h:l[i]?=Za x):Yb (LI l) (.int (i:Nat)) t=.ok (.int x) t:=by have:Z9 (l.map PV.int) i=Za (.int x):=nJ (by rw[aF,h];rfl);simp[Yb,YB,this]
noncomputable def clr(p r d:Int)(row RJ:List Int):List Int:=kS (λx y=>(p*x-r*y)/d) row RJ
def BD(h1:f Z s=.ok (.int i) s1)(h2:g Z s1=.ok (.int j) s2)(hd:zZ j):x2 f g Å Z s=.ok (.int (i/j)) s2:=by rw[mM h1 h2];exact Zc hd
def Lu(h1:f Z s=.ok (.int i) s1)(h2:g Z s1=.ok (.int j) s2)(hm:qE i j):x2 f g Yr Z s=.ok (.int (i*j)) s2:=by rw[mM h1 h2];exact Zc hm
def Ph(h1:f Z s=.ok (.int i) s1)(h2:g Z s1=.ok (.int j) s2):x2 f g Ó Z s=.ok (.int (i-j)) s2:=by rw[mM h1 h2];rfl
def Ge(a)(s)(hl:row.length<=1000)(hb:RJ.length<=1000)(hp:RJ[t]?=Za p)(hr:row[t]?=Za r)(hd:zZ d)(m1:∀x∈row,qE p x)(m2:∀y∈RJ,qE r y) :
  sP a [LI row,LI RJ,.int (t:Nat),.int d] s=.ok (LI (clr p r d row RJ)) s:=by
 apply mZ;apply nW;have c:=CD (s:=s) (cap:=[Za (.int d),Za (LI RJ),Za (.int t),Za (LI row)]) (e:=x2 (x2 (x2 (x2 (j' 3) (j' 4) Yb) (j' 0) Yr) (x2 (x2 (j' 5) (j' 4) Yb) (j' 1) Yr) Ó) (j' 2) Å) (λx y=>(p*x-r*y)/d) row RJ λx hx y hy =>
  BD (Ph (Lu ((mM (mh rfl) (mh rfl)).trans (DZ hp)) (mh rfl) (m1 x hx)) (Lu ((mM (mh rfl) (mh rfl)).trans (DZ hr)) (mh rfl) (m2 y hy))) (mh rfl) hd
 have z:K3 (F' (j' 0) (F' (j' 1) J')) ([LI row,LI RJ,PV.int t,.int d].map Za++aQ (4-4) Zb) s=.ok (vx (row.map .int) (RJ.map .int)) s:=by rfl
 show((K3 (F' (j' 0) (F' (j' 1) J')) ([LI row,LI RJ,PV.int t,.int d].map Za++aQ (4-4) Zb) s).bind _)=_;show(if(vx (row.map PV.int) (RJ.map PV.int)).length<=100000 then _ else _)=_;rw[Zc (by rw[Ak,ac,ac];lia)];show(nz nI _ [Za (.int d),Za (LI RJ),Za (.int t),Za (LI row)] (vx (row.map PV.int) (RJ.map PV.int)) s).bind _=_;rw[c];rfl
theorem Aa(g:Nat->List Int->List Int):∀(M:List (List Int))(k:Nat),(∀i row,M[i]?=Za row->e (Za (.int ((k+i:Nat):Int))::Za (LI row)::cap) s=.ok (LI (g (k+i) row)) s)->nz nI e cap (sJ k (M.map LI)) s=.ok ((M.mapIdx λi row=>g (k+i) row).map LI) s
 |[],_,_=>rfl
 |row::M,k,h=>by
  have ih:=Aa g M (k+1) λi q' hq=>by have:=h (i+1) q' hq;rw[show k+(i+1)=k+1+i by lia] at this;exact this
  have h0:=h 0 row rfl;rw[Nat.add_zero] at h0;show(match nI (Za (.int k)::Za (LI row)::cap) s with
   |.ok true s1=>match e (Za (.int k)::Za (LI row)::cap) s1 with
    |.ok v s2=>match nz nI e cap (sJ (k+1) (M.map LI)) s2 with
     |.ok vs s3=>Out.ok (v::vs) s3
     |_=>.bad
    |_=>.bad
   |.ok false s1=>nz nI e cap (sJ (k+1) (M.map LI)) s1
   |_=>.bad)=_
  simp[nI,h0,ih]
  grind
abbrev LL(M:List (List Int)):PV:=.lst (M.map LI)
def at2(M:List (List Int))(i j:Nat):Int:=(((M[i]?).getD [])[j]?).getD 0
def ϋ(t:Nat)(d:Int)(M:List (List Int)):List (List Int):=M.mapIdx λi row=>if i=t then row else clr (at2 M t t) ((row[t]?).getD 0) d row ((M[t]?).getD [])
noncomputable def ZK(M:List (List Int)):Nat->Int×List (List Int)
 |0=>(1,M)
 |t+1=>(at2 (ZK M t).2 t t,ϋ t (ZK M t).1 (ZK M t).2)
structure Rows(n w:Nat)(q:Int×List (List Int)):Prop where
 n:q.2.length=n
 w:∀row∈q.2,row.length=w
 b:∀row∈q.2,∀x∈row,Bt 20000 x
 d:zZ q.1
def ME(a:Yg)(s:N')(R:Rows n w q)(hn:n<=1000)(hw:w<=1000)(ht:t<n)(Wc:n<=w)(rows:PV)(u4:Option PV) :
  we a [Za rows,Za (.int q.1),Za (LL q.2),Za (.int (t:Nat)),u4] s=.nx [Za rows,Za (.int (at2 q.2 t t)),Za (LL (ϋ t q.1 q.2)),Za (.int (t:Nat)),Za (LI ((q.2[t]?).getD []))] s:=by
 obtain⟨RJ,hM⟩:∃r,q.2[t]?=Za r:=⟨_,aA (by rw[R.n];exact ht)⟩;have Xz:=bZ.mpr ⟨t,hM⟩;have hbl:=R.w RJ Xz;have hp:RJ[t]?=Za (at2 q.2 t t):=by unfold at2;rw[hM];show RJ[t]?=Za ((RJ[t]?).getD 0);rw[aA (by lia)];rfl
 unfold we;refine mI (mS (v:=LI RJ) (s':=s) ((mM (mh rfl) (mh rfl)).trans ?_)) ?_
 .have:Z9 (q.2.map LI) (t:Int)=Za (LI RJ):=nJ (by rw[aF,hM];rfl);simp[Yb,YB,this]
 have lt:∀{row:List Int},row∈q.2->row[t]?=Za ((row[t]?).getD 0):=λ{row} hr=>by have:=R.w row hr;rw[aA (by lia)];rfl
 have c:=Aa (s:=s) (cap:=[Za (.int (t:Nat)),Za (LI RJ),Za (.int q.1)]) (e:=ę (YJ (x2 (j' 0) (j' 2) Ô)) (j' 1) (V' 4 (sP a) (F' (j' 1) (F' (j' 3) (F' (j' 2) (F' (j' 4) J'))))))
  (λi row=>if i=t then row else clr (at2 q.2 t t) ((row[t]?).getD 0) q.1 row RJ) q.2 0 λi row Xa=>by
   have hm:row∈q.2:=bZ.mpr ⟨i,Xa⟩;have eq:YJ (x2 (j' 0) (j' 2) Ô) [Za (.int ((0+i:Nat):Int)),Za (LI row),Za (.int (t:Nat)),Za (LI RJ),Za (.int q.1)] s=.ok (decide (i=t)) s:=by
    unfold YJ;rw[mM (mh rfl) (mh rfl),fA];show(ZP false _ _ _).bind _=_;unfold ZP;rw[pG,pG];show(Out.ok (PV.bl (cH (.int (i:Int)) (.int (t:Int)))) s).bind _=_;rw[sG];show Out.ok (((i:Int)==(t:Int))) s=_
    congr 1
    rw[cx,beq_iff_eq,decide_eq_true_iff];lia
   unfold ę;rw[eq,fA];by_cases z:i=t
   .rw[Zg z,Zc z];rfl
   .rw[Zh z,Zd z];have hl:=R.w row hm;show V' 4 (sP a) (F' (j' 1) (F' (j' 3) (F' (j' 2) (F' (j' 4) J')))) [Za (.int (i:Int)),Za (LI row),Za (.int (t:Nat)),Za (LI RJ),Za (.int q.1)] s=_;exact mL (mj (mh rfl) (mj (mh rfl) (mj (mh rfl) (mj (mh rfl) rfl)))) rfl (Ge a s (by lia) (by lia) hp (lt hm) R.d (λx hx=>.inl ⟨R.b RJ Xz _ (bZ.mpr ⟨t,hp⟩),R.b row hm x hx⟩) (λy hy=>.inl ⟨R.b row hm _ (bZ.mpr ⟨t,lt hm⟩),R.b RJ Xz y hy⟩))
 have nx:ϋ t q.1 q.2=q.2.mapIdx λi row=>if 0+i=t then row else clr (at2 q.2 t t) ((row[t]?).getD 0) q.1 row RJ:=by
  unfold ϋ;rw[hM]
  congr 1
  funext i row
  rw[fA];rfl
 rw[<-nx] at c;refine mI (mS (v:=LL (ϋ t q.1 q.2)) (s':=s) ?_) ((mS ((mM (mh rfl) (mh rfl)).trans (DZ hp))).trans (by rw[hM];rfl));unfold oX;have z:wI (F' (j' 2) J') [Za rows,Za (.int q.1),Za (LL q.2),Za (.int (t:Nat)),Za (LI RJ)] s=.ok (sJ 0 (q.2.map LI)) s:=by unfold wI;rw[mj (mh (v:=LL q.2) rfl) rfl];rfl
 show((wI (F' (j' 2) J') [Za rows,Za (.int q.1),Za (LL q.2),Za (.int (t:Nat)),Za (LI RJ)] s).bind _)=_;rw[z];show(if(sJ 0 (q.2.map LI)).length<=100000 then _ else _)=_;rw[Zc (by rw[sN,ac,R.n];lia)];show(nz nI _ [Za (.int (t:Nat)),Za (LI RJ),Za (.int q.1)] (sJ 0 (q.2.map LI)) s).bind _=_;rw[c];rfl
def KN(ws:List PV)(k:Nat)(hk:k<=ws.length):DC ws (Za (k:Int)) Zb=ws.drop k:=by
 unfold DC;have e1:HT.YY ws.length 0 (Za k)=k:=by
  simp[HT.YY]
  grind
 have e2:HT.YY ws.length ws.length Zb=ws.length:=rfl;rw[e1,e2];exact g5 (by rw[gN];omega)
def II(h:f Z s=.ok (.lst l) s1):Yw f Z s=.ok l s1:=by unfold Yw;rw[h];rfl
def HX(a:Yg)(s:N')(hn:n<=1000)(hw:w<=1000)(Wc:n<=w)(R:∀t,t<=n->Rows n w (ZK rows t)):wY a [LL rows] s=.ok (.tup [LL ((ZK rows n).2.map (·.drop n)),.int (ZK rows n).1]) s:=by
 have len:rows.length=n:=(R 0 (aY _)).n;obtain⟨Yi,s',lp,u3,u4,rfl,rfl⟩:=vf n
  (λk Z s'=>∃u3 u4,Z=[Za (LL rows),Za (.int (ZK rows k).1),Za (LL (ZK rows k).2),u3,u4]/\s'=s)
  (λk Z s' hk hI=>by obtain⟨u3,u4,rfl,rfl⟩:=hI;exact⟨_,_,(pO (i:=3)).trans (ME a s' (R k (fC hk)) hn hw hk Wc (LL rows) u4),_,_,rfl,rfl⟩) ⟨Zb,Zb,rfl,rfl⟩
 apply mZ;have ln:∀(Z:En) s i,Z[i]?=Za (Za (LL rows))->xB (F' (j' i) J') ZH Z s=.ok (.int n) s:=λZ s i h=>by rw[BI (mj (mh h) rfl)];simp[ZH,YB,len]
 apply mI (mS rfl);apply mI (mS (mh rfl));apply mI (rY (vA (mj (ln _ _ 0 rfl) rfl) (by omega)) lp);have c:=qx (s:=s') (cap:=[Za (LL rows)]) (c:=nI) (e:=Ϧ (j' 0) (Ì (xB (F' (j' 1) J') ZH)) Ę) (λ_=>true) (λp=>match p with|.lst l=>.lst (l.drop n)|p=>p) ((ZK rows n).2.map LI) (λq _=>rfl) (λq hq _=>by obtain⟨row,hr,rfl⟩:=aq.mp hq;have hl:=(R n (ak _)).w row hr;have cd:=KN (row.map PV.int) n (by grind);have l1:=ln [Za (LI row),Za (LL rows)] s' 1 rfl;simp only[Ϧ,j',gP,Out.bind,Ì,l1,Ę,fSl,YB,cd])
 have e1:((((ZK rows n).2.map LI).filter λ_=>true).map λp=>match p with|.lst l=>PV.lst (l.drop n)|p=>p)=((ZK rows n).2.map (·.drop n)).map LI:=by
  rw[iS.mpr (λ_ _=>rfl),aD,aD];exact aW λrow _=>by show PV.lst ((row.map PV.int).drop n)=PV.lst ((row.drop n).map PV.int);rw[List.map_drop]
 rw[e1] at c;exact nW (qZ (mj (o5 (II (mh rfl)) (by rw[ac,(R n (ak _)).n];omega) c) (mj (mh rfl) rfl)))
end My
namespace El
noncomputable def sm(f:Nat->Rat):Nat->Rat
 |0=>0
 |n+1=>sm f n+f n
theorem Ym:∀{n:Nat},(∀k,k<n->f k=g k)->sm f n=sm g n
 |0,_=>rfl
 |n+1,h=>by unfold sm;rw[Ym λk hk=>h k (by lia),h n (by lia)]
theorem ZU(a c)(f g):∀n:Nat,sm (λk=>a*f k+c*g k) n=a*sm f n+c*sm g n
 |0=>by unfold sm;grind
 |n+1=>by unfold sm;rw[ZU a c f g n];grind
theorem Â(a)(f):∀n:Nat,sm (λk=>a*f k) n=a*sm f n
 |0=>by unfold sm;grind
 |n+1=>by unfold sm;rw[Â a f n];grind
theorem ĭ:∀{n:Nat},(∀k,k<n->f k=0)->sm f n=0
 |0,_=>rfl
 |n+1,h=>by unfold sm;rw[ĭ λk hk=>h k (by lia),h n (by lia)];grind
theorem ZA:∀{n:Nat},p<n->(∀k,k<n->k≠p->f k=0)->sm f n=f p
 |0,hp,_=>absurd hp (by lia)
 |n+1,hp,h=>by
  unfold sm;by_cases c:p=n
  .subst c;rw[ĭ λk hk=>h k (by lia) (by lia)];grind
  .rw[ZA (p:=p) (by lia) λk hk=>h k (by lia),h n (by lia) (by lia)];grind
theorem Le(hpq:p<q):∀{n:Nat},q<n->(∀k,k<n->k≠p->k≠q->f k=0)->sm f n=f p+f q
 |0,hp,_=>absurd hp (by lia)
 |n+1,hp,h=>by
  unfold sm;by_cases c:q=n
  .subst c;rw[ZA hpq λk hk z=>h k (by lia) z (by lia)]
  .rw[Le hpq (by lia) λk hk=>h k (by lia),h n (by lia) (by lia) (by lia)];grind
def skip(j k:Nat):Nat:=if k<j then k else k+1
def sg(j:Nat):Rat:=if j%2=0 then 1 else -1
def MO(j):sg (j+1)=- sg j:=by
 unfold sg
 grind
noncomputable def dt:Nat->(Nat->Nat->Rat)->Rat
 |0,_=>1
 |n+1,M=>sm (λj=>sg j*M 0 j*dt n (λi k=>M (i+1) (skip j k))) (n+1)
def upd(M:Nat->Nat->Rat)(p:Nat)(b:Nat->Rat):Nat->Nat->Rat:=λi k=>if k=p then b i else M i k
theorem wV:∀{n:Nat}{M N:Nat->Nat->Rat},(∀i,i<n->∀k,k<n->M i k=N i k)->dt n M=dt n N
 |0,_,_,_=>rfl
 |n+1,M,N,h=>by unfold dt;refine Ym λj hj=>?_;rw[h 0 (by lia) j hj,wV (n:=n) λi hi k hk=>h (i+1) (by lia) (skip j k) (by unfold skip;split<;>lia)]
theorem ì:∀{n:Nat}{M:Nat->Nat->Rat}{p:Nat}(a c:Rat)(u v:Nat->Rat),p<n->dt n (upd M p λi=>a*u i+c*v i)=a*dt n (upd M p u)+c*dt n (upd M p v)
 |0,_,_,_,_,_,_,hp=>absurd hp (by lia)
 |n+1,M,p,a,c,u,v,hp=>by
  unfold dt;rw[<-ZU];refine Ym λj hj=>?_;by_cases e:j=p
  .subst e;have mi:∀w:Nat->Rat,(λi k=>upd M j w (i+1) (skip j k))=λi k=>M (i+1) (skip j k):=λw=>by
    funext i k
    unfold upd;rw[Zd (by unfold skip;split<;>lia)]
   rw[mi,mi,mi];unfold upd
   grind
  .have mi:∀w:Nat->Rat,(λi k=>upd M p w (i+1) (skip j k))=upd (λi k=>M (i+1) (skip j k)) (if p<j then p else p-1) λi=>w (i+1):=λw=>by
    funext i k
    unfold upd;have:skip j k=p↔k=if p<j then p else p-1:=by unfold skip;grind
    grind
   rw[mi,mi,mi,ì a c (λi=>u (i+1)) (λi=>v (i+1)) (by grind)];unfold upd;rw[Zd e,Zd e,Zd e]
   grind
theorem GJ:∀{n:Nat}{M:Nat->Nat->Rat}{p:Nat},p+1<n->(∀i,M i p=M i (p+1))->dt n M=0
 |0,_,_,hp,_=>absurd hp (by lia)
 |n+1,M,p,hp,h=>by
  unfold dt;rw[Le (p:=p) (q:=p+1) (by lia) hp]
  .have mi:(λi k=>M (i+1) (skip p k))=λi k=>M (i+1) (skip (p+1) k):=by
    funext i k
    by_cases c:k=p
    .subst c;have e1:skip k k=k+1:=by unfold skip;grind
     have e2:skip (k+1) k=k:=by unfold skip;grind
     rw[e1,e2,h]
    .have:skip p k=skip (p+1) k:=by unfold skip;grind
     rw[this]
   rw[mi,MO,h 0]
   grind
  .intro j hj h1 h2;rw[GJ (p:=if p<j then p else p-1) (by grind)]
   .grind
   .intro i;have e1:skip j (if p<j then p else p-1)=p:=by unfold skip;grind
    have e2:skip j ((if p<j then p else p-1)+1)=p+1:=by unfold skip;grind
    simp_all
def w5(M)(h:p≠q)(u v):upd (upd M p u) q v=upd (upd M q v) p u:=by
 funext i k
 unfold upd
 grind
def NY(hp:p+1<n):dt n (upd (upd M p λi=>M i (p+1)) (p+1) λi=>M i p)=- dt n M:=by
 let F:=λu v:Nat->Rat=>dt n (upd (upd M p u) (p+1) v);have hF:∀u,F u u=0:=λu=>GJ hp λi=>by unfold upd;rw[Zd (by lia),Zc rfl,Zc rfl]
 have l2:∀u v w,F u (λi=>1*v i+1*w i)=1*F u v+1*F u w:=λu v w=>ì 1 1 v w hp;have l1:∀u v w,F (λi=>1*v i+1*w i) u=1*F v u+1*F w u:=λu v w=>by show dt n _=1*dt n _+1*dt n _;rw[w5 M (show p≠p+1 by lia) _ u,w5 M (show p≠p+1 by lia) v u,w5 M (show p≠p+1 by lia) w u];exact ì 1 1 v w (by lia)
 have e:=hF λi=>1*M i p+1*M i (p+1);rw[l1,l2,l2,hF,hF] at e;have e1:F (λi=>M i p) (λi=>M i (p+1))=dt n M:=by
  show dt n _=_
  congr 1
  funext i k
  unfold upd;split
  .rename_i z;rw[z]
  .simp_all
 grind
theorem Mq:∀(d:Nat){M:Nat->Nat->Rat}{p:Nat},p+d+1<n->(∀i,M i p=M i (p+d+1))->dt n M=0
 |0,_,_,hp,h=>GJ hp h
 |d+1,M,p,hp,h=>by
  have e:=NY (M:=M) (p:=p+d+1) hp;have z:=Mq (n:=n) d (M:=upd (upd M (p+d+1) λi=>M i (p+d+1+1)) (p+d+1+1) λi=>M i (p+d+1)) (p:=p) (by lia) λi=>by
   unfold upd
   grind
  rw[z] at e
  grind
def NZ(hp:p<n)(hq:q<n)(h:p≠q)(e:∀i,M i p=M i q):dt n M=0:=by
 obtain c|c:=Nat.lt_or_gt_of_ne h
 .obtain⟨d,rfl⟩:∃d,q=p+d+1:=⟨q-p-1,by lia⟩;exact Mq d hq e
 .obtain⟨d,rfl⟩:∃d,p=q+d+1:=⟨p-q-1,by lia⟩;exact Mq d hp λi=>(e i).symm
theorem LJ(hp:p<n)(x:Nat->Rat)(C:Nat->Nat->Rat):∀m:Nat,dt n (upd M p λi=>sm (λl=>x l*C i l) m)=sm (λl=>x l*dt n (upd M p λi=>C i l)) m
 |0=>by
  have:=ì (M:=M) 0 0 (λ_=>0) (λ_=>0) hp;unfold sm
  grind
 |m+1=>by
  have:=ì (M:=M) 1 (x m) (λi=>sm (λl=>x l*C i l) m) (λi=>C i m) hp;unfold sm;rw[LJ hp x C m] at this
  grind
def ĵ(hp:p<n)(x b:Nat->Rat)(h:∀i,i<n->b i=sm (λl=>x l*M i l) n):dt n (upd M p b)=x p*dt n M:=by
 have e1:dt n (upd M p b)=dt n (upd M p λi=>sm (λl=>x l*M i l) n):=wV λi hi k hk=>by
  unfold upd
  simp_all
 rw[e1,LJ hp x M n,ZA hp]
 .congr 2
  funext i k
  unfold upd
  grind
 .intro k hk z;rw[NZ hp hk (by lia)]
  .grind
  .intro i;unfold upd;grind
def Hw(x:Nat->Rat):dt (n+1) (upd M n λi=>M i n-sm (λl=>x l*M i l) n)=dt (n+1) M:=by
 have e:=ĵ (n:=n+1) (p:=n) (by lia) (λl=>if l=n then 1 else-x l) (λi=>M i n-sm (λl=>x l*M i l) n) λi _=>by
  show M i n-sm (λl=>x l*M i l) n=sm (λl=>(if l=n then 1 else-x l)*M i l) n+(if n=n then 1 else-x n)*M i n;have:sm (λl=>(if l=n then 1 else-x l)*M i l) n=(-1)*sm (λl=>x l*M i l) n:=by rw[<-Â];exact Ym λk hk=>by rw[Zd (by lia)];grind
  rw[this]
  grind
 grind
theorem Dx:∀{n:Nat}{M:Nat->Nat->Rat},(∀i,i<n->M i n=0)->dt (n+1) M=M n n*dt n M
 |0,M,_=>by
  show sm (λj=>sg j*M 0 j*1) 1=M 0 0*1;unfold sm sm sg;simp
  grind
 |n+1,M,h=>by
  have e:dt (n+2) M=sm (λj=>sg j*M 0 j*dt (n+1) (λi k=>M (i+1) (skip j k))) (n+2):=rfl;have e2:dt (n+1) M=sm (λj=>sg j*M 0 j*dt n (λi k=>M (i+1) (skip j k))) (n+1):=rfl;rw[e,e2,<-Â];show sm _ (n+1)+sg (n+1)*M 0 (n+1)*_=_;rw[h 0 (by lia),Ym (g:=λj=>M (n+1) (n+1)*(sg j*M 0 j*dt n (λi k=>M (i+1) (skip j k)))) λj hj=>?_]
  .grind
  .have sk:skip j n=n+1:=by unfold skip;grind
   rw[Dx λi hi=>by rw[sk];exact h (i+1) (by lia),sk]
   grind
def Ē(q:Rat):Prop:=∃z:Int,q=(z:Rat)
def Ē.add:Ē a->Ē b->Ē (a+b):=λ⟨x,h⟩ ⟨y,k⟩=>⟨x+y,by rw[h,k];grind⟩
def Ē.mul:Ē a->Ē b->Ē (a*b):=λ⟨x,h⟩ ⟨y,k⟩=>⟨x*y,by rw[h,k];grind⟩
def Ē.sub:Ē a->Ē b->Ē (a-b):=λ⟨x,h⟩ ⟨y,k⟩=>⟨x-y,by rw[h,k];exact(jI x y).symm⟩
theorem GE:∀{n:Nat},(∀k,k<n->Ē (f k))->Ē (sm f n)
 |0,_=>⟨0,rfl⟩
 |n+1,h=>(GE λk hk=>h k (by lia)).add (h n (by lia))
def Qr(j):Ē (sg j):=by
 unfold sg;split
 .exact⟨1,rfl⟩
 .exact⟨-1,rfl⟩
theorem GF:∀{n:Nat}{M:Nat->Nat->Rat},(∀i k,Ē (M i k))->Ē (dt n M)
 |0,_,_=>⟨1,rfl⟩
 |n+1,M,h=>GE λj _=>((Qr j).mul (h 0 j)).mul (GF λi k=>h _ _)
structure Cl(A:Nat->Nat->Rat)(t:Nat)(d:Rat)(M X:Nat->Nat->Rat):Prop where
 d0:d≠0
 dt:d=dt t A
 so:∀i,i<t->∀j,sm (λl=>X l j*A i l) t=A i j
 up:∀i,i<t->∀j,M i j=d*X i j
 lo:∀i,t<=i->∀j,M i j=d*(A i j-sm (λl=>X l j*A i l) t)
def nextM(t:Nat)(d:Rat)(M:Nat->Nat->Rat):Nat->Nat->Rat:=λi j=>if i=t then M t j else(M t t*M i j-M i t*M t j)/d
def Cl.zero(A):Cl A 0 1 A λ_ _=>0:=⟨Zf rfl,rfl,λi h=>absurd h (by lia),λi h=>absurd h (by lia),λi _ j=>by show A i j=1*(A i j-0);grind⟩
def Cl.next(C:Cl A t d M X)(hp:M t t≠0):∃X',Cl A (t+1) (M t t) (nextM t d M) X':=by
 have d0:=C.d0;have hs:M t t=d*(A t t-sm (λl=>X l t*A t l) t):=C.lo t (ak _) t;generalize hsd:A t t-sm (λl=>X l t*A t l) t=s at hs;have s0:s≠0:=λz=>hp (by rw[hs,z];grind);let y:=λj=>(A t j-sm (λl=>X l j*A t l) t)/s;have hy:∀j,s*y j=A t j-sm (λl=>X l j*A t l) t:=λj=>by show s*(_/s)=_;grind
 let X':Nat->Nat->Rat:=λi j=>if i=t then y j else X i j-X i t*y j
 have hX:∀(c:Nat->Rat)(j:Nat),sm (λl=>X' l j*c l) (t+1)=sm (λl=>X l j*c l) t-y j*sm (λl=>X l t*c l) t+y j*c t:=λc j=>by
  show sm (λl=>X' l j*c l) t+X' t j*c t=_;have e:sm (λl=>X' l j*c l) t=sm (λl=>1*(X l j*c l)+(- y j)*(X l t*c l)) t:=Ym λk hk=>by
   show(if k=t then y j else X k j-X k t*y j)*c k=_;rw[Zd (by lia)]
   grind
  rw[e,ZU];show _+(if t=t then y j else _)*c t=_;rw[Zc rfl]
  grind
 refine⟨X',hp,?_,λi hi j=>?_,λi hi j=>?_,λi hi j=>?_⟩
 .rw[<-Hw (n:=t) (M:=A) λl=>X l t,Dx]
  .have e:El.dt t (upd A t λi=>A i t-sm (λl=>X l t*A i l) t)=El.dt t A:=wV λi hi k hk=>by unfold upd;rw[Zd (by lia)]
   rw[e,<-C.dt];unfold upd;rw[Zc rfl];show M t t=(A t t-sm (λl=>X l t*A t l) t)*d;rw[hsd,hs]
   grind
  .intro i hi;unfold upd;rw[Zc rfl];show A i t-sm (λl=>X l t*A i l) t=0;rw[C.so i hi t]
   grind
 .rw[hX];by_cases c:i=t
  .subst c;have:=hy j
   grind
  .rw[C.so i (by lia) j,C.so i (by lia) t]
   grind
 .show nextM t d M i j=_*(if i=t then y j else X i j-X i t*y j);unfold nextM;have hj:=C.lo t (ak _) j;have:=hy j;by_cases c:i=t
  .rw[Zc c,Zc c,hj,hs]
   grind
  .rw[Zd c,Zd c,C.up i (by lia) j,C.up i (by lia) t,hj,hs]
   grind
 .rw[hX];unfold nextM;have hj:=C.lo t (ak _) j;have:=hy j;rw[Zd (by lia),C.lo i (by lia) j,C.lo i (by lia) t,hj,hs]
  grind
def Cl.whole(C:Cl A t d M X)(hA:∀i j,Ē (A i j)):Ē d/\∀i j,Ē (M i j):=by
 have hd:Ē d:=by rw[C.dt];exact GF hA
 have up:∀i,i<t->∀j,Ē (d*X i j):=λi hi j=>by
  have e:=ĵ hi (λl=>X l j) (λk=>A k j) λk hk=>(C.so k hk j).symm;rw[<-C.dt] at e;have:d*X i j=El.dt t (upd A i λk=>A k j):=by rw[e];grind
  rw[this];refine GF λk l=>?_;unfold upd
  grind
 refine⟨hd,λi j=>?_⟩;by_cases c:i<t
 .rw[C.up i c j];exact up i c j
 .rw[C.lo i (by lia) j];have e:d*(A i j-sm (λl=>X l j*A i l) t)=d*A i j-sm (λl=>(d*X l j)*A i l) t:=by
   have:sm (λl=>(d*X l j)*A i l) t=d*sm (λl=>X l j*A i l) t:=by
    rw[<-Â]
    grind
   rw[this]
   grind
  rw[e];exact(hd.mul (hA i j)).sub (GE λk hk=>(up k hk j).mul (hA i k))
def gs(n:Nat)(G:Nat->Bool)(S:Nat->Nat->Rat)(j:Nat):Rat:=sm (λi=>if G i=true then S i j else 0) n
structure Zm(n t:Nat)(S:Nat->Nat->Rat):Prop where
 off:∀i j,t<=i->i<n->t<=j->j<n->i≠j->S i j<=0
 col:∀G:Nat->Bool,(∀i,G i=true->t<=i)->∀j,j<n->G j=true->0<=gs n G S j
 grp:∀G:Nat->Bool,(∀i,G i=true->t<=i/\i<n)->(∃j,G j=true)->∃j,G j=true/\0<gs n G S j
def E5(h:∀i,i<n->G i=true->S i j=T i j):gs n G S j=gs n G T j:=Ym λi hi=>by
 grind
def Zm.congr(h:Zm n t S)(e:∀i j,t<=i->i<n->T i j=S i j):Zm n t T:=by
 refine⟨λi j a b c d f=>by rw[e i j a b];exact h.off i j a b c d f,λG hG j hj gj=>?_,λG hG hx=>?_⟩
 .rw[E5 λi hi gi=>e i j (hG i gi) hi];exact h.col G hG j hj gj
 .obtain⟨j,gj,p⟩:=h.grp G hG hx;exact⟨j,gj,by rw[E5 λi hi gi=>e i j (hG i gi).1 hi];exact p⟩
def Zm.piv(h:Zm n t S)(ht:t<n):0<S t t:=by
 obtain⟨j,gj,p⟩:=h.grp (λi=>decide (i=t)) (λi z=>by lia) ⟨t,Zg rfl⟩;have:=Zf gj;subst this;have e:gs n (λi=>decide (i=j)) S j=S j j:=by
  unfold gs;rw[ZA ht]
  .simp
  .simp_all
 simp_all
def zD(t:Nat)(S:Nat->Nat->Rat):Nat->Nat->Rat:=λi j=>S i j-S i t*(S t j/S t t)
def LC(ht:t<n)(hG:G t=false)(j):gs n (λi=>G i||decide (i=t)) S j=gs n G S j+S t j:=by
 unfold gs;have e:sm (λi=>if decide (i=t)=true then S t j else 0) n=S t j:=by
  rw[ZA ht]
  .simp
  .simp_all
 rw[show sm (λi=>if G i=true then S i j else 0) n+S t j=1*sm (λi=>if G i=true then S i j else 0) n+1*sm (λi=>if decide (i=t)=true then S t j else 0) n by rw[e];grind,<-ZU];refine Ym λi _=>?_;by_cases c:i=t
 .subst c;simp[hG];grind
 .simp[c];grind
def Hr(j):gs n G (zD t S) j=gs n G S j-gs n G S t*(S t j/S t t):=by unfold gs;generalize hq:S t j/S t t=q;rw[show sm (λi=>if G i=true then S i j else 0) n-sm (λi=>if G i=true then S i t else 0) n*q=1*sm (λi=>if G i=true then S i j else 0) n+(-q)*sm (λi=>if G i=true then S i t else 0) n by grind,<-ZU];refine Ym λi _=>?_;unfold zD;rw[hq];split<;>grind
def np{a b:Rat}(ha:a<=0)(hb:b<=0):0<=a*b:=by
 have:=bH (a:=-a) (b:=-b) (by grind) (by grind)
 grind
def QG{a b:Rat}(ha:a<=0)(hb:0<b):a/b<=0:=by
 have h1:=kX (Rat.inv_pos.mpr hb);have:=bH (a:=-a) (by grind) h1
 grind
def KH{a b:Rat}(ha:a<0)(hb:0<b):a/b<0:=by
 have:=iH (a:=-a) (by grind) (Rat.inv_pos.mpr hb)
 grind
def Zm.next{n t:Nat}{S:Nat->Nat->Rat}(h:Zm n t S)(ht:t<n):Zm n (t+1) (zD t S):=by
 have pv:=h.piv ht;have q0:∀j,t+1<=j->j<n->S t j/S t t<=0:=λj h1 h2=>QG (h.off t j (ak _) ht (by lia) h2 (by lia)) pv;have main:∀G:Nat->Bool,(∀i,G i=true->t+1<=i)->∀j,gs n G (zD t S) j=gs n (λi=>G i||decide (i=t)) S j-gs n (λi=>G i||decide (i=t)) S t*(S t j/S t t):=λG hG j=>by
  have gt:G t=false:=by
   cases c:G t with
   |false=>rfl
   |true=>have:=hG t c;lia
  rw[Hr,LC ht gt,LC ht gt];have:S t t*(S t j/S t t)=S t j:=by grind
  grind
 have ZR:∀G:Nat->Bool,(∀i,G i=true->t+1<=i)->∀i,(G i||decide (i=t))=true->t<=i:=λG hG i z=>by
  rcases(eT _ _).mp z with z|z
  .have:=hG i z;lia
  .have:=Zf z;lia
 have sg0:∀G:Nat->Bool,(∀i,G i=true->t+1<=i)->0<=gs n (λi=>G i||decide (i=t)) S t:=λG hG=>h.col _ (ZR G hG) t ht (by simp);have ge:∀G:Nat->Bool,(∀i,G i=true->t+1<=i)->∀j,j<n->G j=true->gs n (λi=>G i||decide (i=t)) S j<=gs n G (zD t S) j:=λG hG j hj gj=>by
  rw[main G hG];have:=bH (a:=gs n (λi=>G i||decide (i=t)) S t) (b:=-(S t j/S t t)) (sg0 G hG) (by have:=q0 j (hG j gj) hj;grind)
  grind
 refine⟨λi j a b c d f=>?_,λG hG j hj gj=>?_,λG hG hx=>?_⟩
 .have h1:=h.off i j (by lia) b (by lia) d f;have h2:=np (h.off i t (by lia) b (ak _) ht (by lia)) (q0 j c d);unfold zD
  grind
 .have h1:=h.col (λi=>G i||decide (i=t)) (ZR G hG) j hj (by simp[gj]);have h2:=ge G hG j hj gj
  grind
 .have UC:=λi z=>(hG i z).1;obtain⟨j,gj,p⟩:=h.grp (λi=>G i||decide (i=t)) (λi z=>⟨ZR G UC i z,by
   rcases(eT _ _).mp z with z|z
   .exact(hG i z).2
   .have:=Zf z;lia⟩) (by obtain⟨j,gj⟩:=hx;exact⟨j,by simp[gj]⟩)
  rcases(eT _ _).mp gj with gj|gj
  .refine⟨j,gj,?_⟩;have:=ge G UC j (hG j gj).2 gj
   grind
  .have:=Zf gj;subst this;by_cases c:∃k,G k=true/\S j k<0
   .obtain⟨k,gk,nk⟩:=c;refine⟨k,gk,?_⟩;rw[main G UC];have h1:=h.col (λi=>G i||decide (i=j)) (ZR G UC) k (hG k gk).2 (by simp[gk]);have h2:=iH (a:=gs n (λi=>G i||decide (i=j)) S j) (b:=-(S j k/S j j)) p (by have:=KH nk pv;grind)
    grind
   .obtain⟨k,gk,pk⟩:=h.grp G (λi z=>⟨by have:=UC i z;lia,(hG i z).2⟩) hx;refine⟨k,gk,?_⟩;have h0:S j k=0:=by
     have h1:=h.off j k (ak _) ht (by have:=UC k gk;lia) (hG k gk).2 (by have:=UC k gk;lia);have h2:¬S j k<0:=λz=>c ⟨k,gk,z⟩
     grind
    rw[Hr,h0];have:(0:Rat)/S j j=0:=by grind
    rw[this]
    grind
noncomputable def bm(A:Nat->Nat->Rat):Nat->Rat×(Nat->Nat->Rat)
 |0=>(1,A)
 |t+1=>((bm A t).2 t t,nextM t (bm A t).1 (bm A t).2)
theorem run(h:Zm n 0 A):∀t,t<=n->(∃X,Cl A t (bm A t).1 (bm A t).2 X)/\0<(bm A t).1/\Zm n t λi j=>(bm A t).2 i j/(bm A t).1
 |0,_=>⟨⟨_,Cl.zero A⟩,(by decide:(0:Rat)<1),h.congr λi j _ _=>by show A i j/1=A i j;grind⟩
 |t+1,ht=>by
  obtain⟨⟨X,C⟩,dp,Zj⟩:=run h t (by lia);have pv:=Zj.piv (by lia);have d0:(bm A t).1≠0:=λz=>by rw[z] at dp;grind
  have pp:0<(bm A t).2 t t:=by
   have:=iH dp pv;have e:(bm A t).1*((bm A t).2 t t/(bm A t).1)=(bm A t).2 t t:=by grind
   simp_all
  have p0:(bm A t).2 t t≠0:=λz=>by rw[z] at pp;grind
  refine⟨C.next p0,pp,(Zj.next (by lia)).congr λi j hi _=>?_⟩;show nextM t (bm A t).1 (bm A t).2 i j/(bm A t).2 t t=zD t _ i j;unfold nextM zD;rw[Zd (by lia)]
  grind
end El
namespace My
open PySem L2 Fra
def rD(h:M[i]?=Za row)(k:row[j]?=Za x):at2 M i j=x:=by
 unfold at2
 simp_all
def Ou(hn:M.length=n)(hw:∀row∈M,row.length=w)(ht:t<n)(htw:t<w)(hi:i<n)(hj:j<w):at2 (ϋ t d M) i j=if i=t then at2 M t j else(at2 M t t*at2 M i j-at2 M i t*at2 M t j)/d:=by
 have get:∀k,k<n->∃row,M[k]?=Za row/\row.length=w:=λk hk=>by
  simp_all
 obtain⟨row,hr,rl⟩:=get i hi;obtain⟨RJ,hb,bl⟩:=get t ht;obtain⟨x,hx⟩:∃x,row[j]?=Za x:=⟨_,aA (by lia)⟩;obtain⟨r,hrt⟩:∃r,row[t]?=Za r:=⟨_,aA (by lia)⟩;obtain⟨y,hy⟩:∃y,RJ[j]?=Za y:=⟨_,aA (by lia)⟩;rw[rD hb hy,rD hr hx,rD hr hrt];have e:(ϋ t d M)[i]?=Za (if i=t then row else clr (at2 M t t) ((row[t]?).getD 0) d row ((M[t]?).getD [])):=by unfold ϋ;rw[List.getElem?_mapIdx,hr];rfl
 by_cases c:i=t
 .rw[Zc c] at e ⊢;subst c;rw[hr] at hb;cases hb;rw[hx] at hy;cases hy;exact rD e hx
 .rw[Zd c] at e ⊢;rw[hb,hrt] at e;apply rD e;show(kS (λx y=>(at2 M t t*x-r*y)/d) row RJ)[j]?=_
  simp_all
def Nx(t)(d)(M):(ϋ t d M).length=M.length:=by unfold ϋ;grind
def Ái(hw:∀row∈M,row.length=w)(ht:t<M.length):∀row∈ϋ t d M,row.length=w:=by
 intro row hr;obtain⟨i,hi,e⟩:=List.mem_mapIdx.mp hr;have h1:=hw _ (cU hi);have e2:=aA ht;rw[<-e];split
 .exact h1
 .rw[e2];unfold clr
  grind
theorem LZ(hn:rows.length=n)(hw:∀row∈rows,row.length=w)(Wc:n<=w)(Zj:El.Zm n 0 λi j=>((at2 rows i j:Int):Rat)):∀t,t<=n->(ZK rows t).2.length=n/\(∀row∈(ZK rows t).2,row.length=w)/\(((ZK rows t).1:Int):Rat)=(El.bm (λi j=>((at2 rows i j:Int):Rat)) t).1/\∀i j,i<n->j<w->((at2 (ZK rows t).2 i j:Int):Rat)=(El.bm (λi j=>((at2 rows i j:Int):Rat)) t).2 i j
 |0,_=>⟨hn,hw,rfl,λ_ _ _ _=>rfl⟩
 |t+1,ht=>by
  obtain⟨h1,h2,h3,h4⟩:=LZ hn hw Wc Zj t (by lia);obtain⟨⟨X,C⟩,dp,_⟩:=El.run Zj t (by lia);obtain⟨⟨X',C'⟩,_,_⟩:=El.run Zj (t+1) ht;refine⟨(Nx _ _ _).trans h1,Ái h2 (by lia),h4 t t (by lia) (by lia),λi j hi hj=>?_⟩;show((at2 (ϋ t (ZK rows t).1 (ZK rows t).2) i j:Int):Rat)=El.nextM t _ _ i j;rw[Ou h1 h2 (by lia) (by lia) hi hj];obtain⟨z,hz⟩:=(C'.whole λi j=>⟨_,rfl⟩).2 i j;have hz:El.nextM t _ _ i j=z:=hz;unfold El.nextM at hz ⊢;by_cases c:i=t
  .simp_all
  .rw[Zd c] at hz ⊢;rw[Zd c,hz];rw[<-h4 t t (by lia) (by lia),<-h4 i j hi hj,<-h4 i t hi (by lia),<-h4 t j (by lia) hj,<-h3] at hz;rw[<-h3] at dp;have d0:(((ZK rows t).1:Int):Rat)≠0:=λq=>by rw[q] at dp;grind
   generalize (ZK rows t).1=d at *;generalize at2 (ZK rows t).2 t t=p at *;generalize at2 (ZK rows t).2 i j=x at *;generalize at2 (ZK rows t).2 i t=r at *;generalize at2 (ZK rows t).2 t j=y at *;have e:((p*x-r*y:Int):Rat)=((d*z:Int):Rat):=by
    grind
   have e:=Rat.intCast_inj.mp e;have dz:d≠0:=λq=>d0 (by rw[q];rfl)
   simp_all
theorem uP(hl)(g):∀(ns:List Str),(∀n∈ns,e (Za (.str n)::Za (Zx (nc hl n).2)::cap) s=.ok (g n) s)->nz nI e cap (ns.map λn=>ue (nc hl n)) s=.ok (ns.map g) s
 |[],_=>rfl
 |n::ns,h=>by
  have ih:=uP hl g ns λm hm=>h m (ah _ hm);have h0:=h n al;rw[am];have ep:ue (nc hl n)=.tup [.str n,Zx (nc hl n).2]:=by unfold ue;rw[FY]
  rw[ep];show(match nI (Za (.str n)::Za (Zx (nc hl n).2)::cap) s with
   |.ok true s1=>match e (Za (.str n)::Za (Zx (nc hl n).2)::cap) s1 with
    |.ok v s2=>match nz nI e cap (ns.map λn=>ue (nc hl n)) s2 with
     |.ok vs s3=>Out.ok (v::vs) s3
     |_=>.bad
    |_=>.bad
   |.ok false s1=>nz nI e cap (ns.map λn=>ue (nc hl n)) s1
   |_=>.bad)=_
  simp only[nI,h0,ih];rfl
theorem vQ:∀U:List Str,toVs (U.map PV.str)=Za (U.map V.str)
 |[]=>rfl
 |x::r=>by rw[am];unfold toVs;rw[vQ r];rfl
def Cp(n:Str)(U:List Str):inV (.str n) (U.map V.str)=decide (n∈U):=by
 unfold inV;rw[g7,cx,gS,decide_eq_true_iff];constructor
 .rintro⟨x,hx,e⟩
  have e:(x==n)=true:=e
  grind
 .exact λh=>⟨n,h,beq_self_eq_true n⟩
def Át(n:Str)(V:List Str)(s:N'):fIn (.str n) (LS V) s=.ok (.bl (decide (n∈V))) s:=by simp[fIn,rm,Zv,toV,YB,vQ,GQ,Cp]
theorem HF(g):∀ns:List Str,Ag (ns.map λn=>PV.bl (g n))=Za (ns.map g)
 |[]=>rfl
 |n::ns=>by rw[am];unfold Ag;rw[HF g ns];rfl
def ZR(L:List Ent)(G:List Str)(h:Str):Bool:=(own L h).all λn=>decide (n∈G)
def NN(a)(H:Ho L N)(hb:T.get nb=Za (.book pp L))(hh:nv L h=true):oW a [.ref nb,.str h,LS G] T=.ok (.bl (ZR L G h)) T:=by
 obtain⟨e,fe,oe⟩:∃e,n8 L h=Za e/\own L h=Yu (e.held.map (·.1)):=by have:=hh;obtain⟨e,he⟩:=eJ.mp this;exact⟨e,he,by unfold own;rw[he]⟩
 have hl:=(H.ow h e fe).1;have sh:oY a [.ref nb,.str h] T=.ok (rg e.held) T:=by
  simp[oY,oy,hb];rw[Zc (H.sm h (H.hn h hh)).nm,fe]
  simp_all
 apply mZ;have c:=uP (cap:=[Za (LS G)]) (e:=x2 (j' 0) (j' 2) fIn) e.held (λn=>.bl (decide (n∈G))) (Yu (e.held.map (·.1))) λn _=>(mM (mh rfl) (mh rfl)).trans (Át n G T);have it:Yw (ý 2 (oY a) (j' 0) (F' (j' 1) J')) [Za (.ref nb),Za (.str h),Za (LS G)] T=.ok ((Yu (e.held.map (·.1))).map λn=>ue (nc e.held n)) T:=nO ((ul (mh rfl) hb (mj (mh rfl) rfl) rfl).trans sh);have cc:oX (Yw (ý 2 (oY a) (j' 0) (F' (j' 1) J'))) [2] nI (x2 (j' 0) (j' 2) fIn) [Za (.ref nb),Za (.str h),Za (LS G)] T=.ok (.lst ((Yu (e.held.map (·.1))).map λn=>PV.bl (decide (n∈G)))) T:=by unfold oX;rw[it];show(if((Yu (e.held.map (·.1))).map λn=>ue (nc e.held n)).length<=100000 then _ else _)=_;rw[Zc (by rw[ac,(mJ _).length_eq,ac];lia)];show(nz nI _ [Za (LS G)] _ T).bind _=_;rw[c];rfl
 refine nW ((BI (mj cc rfl)).trans ?_);show(match Ag ((Yu (e.held.map (·.1))).map λn=>PV.bl (decide (n∈G))) with
  |some bs=>Out.ok (PV.bl (bs.all id)) T
  |none=>.bad)=_
 rw[HF (λn=>decide (n∈G))];unfold ZR
 simp_all
end My
namespace El
def ab(x:Rat):Rat:=if x<0 then -x else x
def Í(x):0<=ab x:=by unfold ab;split<;>grind
def QR(x y):ab (x+y)<=ab x+ab y:=by unfold ab;split<;>split<;>split<;>grind
def Ţ(x y):ab (x*y)=ab x*ab y:=by
 unfold ab;by_cases hx:x<0<;>by_cases hy:y<0
 .have:=iH (a:=-x) (b:=-y) (by grind) (by grind);rw[Zd (by grind),Zc hx,Zc hy];grind
 .have:=bH (a:=-x) (b:=y) (by grind) (by grind);rw[Zc hx,Zd hy]
  grind
 .have:=bH (a:=x) (b:=-y) (by grind) (by grind);rw[Zd hx,Zc hy]
  grind
 .have:=bH (a:=x) (b:=y) (by grind) (by grind)
  grind
def ÁU(j):ab (sg j)=1:=by unfold sg;split<;>decide
def pr(f:Nat->Rat):Nat->Rat
 |0=>1
 |n+1=>pr f n*f n
theorem Me:∀{n:Nat},(∀k,k<n->0<=f k)->0<=pr f n
 |0,_=>by show(0:Rat)<=1;decide
 |n+1,h=>bH (Me λk hk=>h k (by lia)) (h n (by lia))
theorem Ü:∀{n:Nat},(∀k,k<n->f k=g k)->pr f n=pr g n
 |0,_=>rfl
 |n+1,h=>by unfold pr;rw[Ü λk hk=>h k (by lia),h n (by lia)]
def Ml{a b c d:Rat}(ha:0<=a)(hd:0<=d)(h1:a<=b)(h2:c<=d):a*c<=b*d:=by
 have e1:=bH (b:=d-c) ha (by grind);have e2:=bH (a:=b-a) (by grind) hd
 grind
theorem Û{f g:Nat->Rat}:∀{n:Nat},(∀k,k<n->0<=f k/\f k<=g k)->pr f n<=pr g n
 |0,_=>by show(1:Rat)<=1;grind
 |n+1,h=>by have ih:=Û (n:=n) λk hk=>h k (by lia);have hn:=h n (by lia);have p0:0<=pr f n:=Me λk hk=>(h k (by lia)).1;exact Ml p0 (by grind) ih hn.2
theorem Į:∀{n:Nat},(∀k,k<n->f k<=g k)->sm f n<=sm g n
 |0,_=>by show(0:Rat)<=0;grind
 |n+1,h=>by
  have ih:=Į (n:=n) λk hk=>h k (by lia);have:=h n (by lia);unfold sm
  grind
theorem O5(f):∀n:Nat,ab (sm f n)<=sm (λk=>ab (f k)) n
 |0=>by show ab 0<=0;decide
 |n+1=>by
  have ih:=O5 f n;have:=QR (sm f n) (f n);show ab (sm f n+f n)<=sm (λk=>ab (f k)) n+ab (f n)
  grind
theorem EH{a b:Nat->Rat}(ha:∀k,0<=a k)(hb:∀k,0<=b k):∀n:Nat,sm (λj=>a j*pr (λk=>b (skip j k)) n) (n+1)<=pr (λk=>a k+b k) (n+1)
 |0=>by
  show(0:Rat)+a 0*1<=1*(a 0+b 0);have:=hb 0
  grind
 |n+1=>by
  have ih:=EH ha hb n;show sm (λj=>a j*pr (λk=>b (skip j k)) (n+1)) (n+1)+a (n+1)*pr (λk=>b (skip (n+1) k)) (n+1)<=pr (λk=>a k+b k) (n+1)*(a (n+1)+b (n+1));have e1:sm (λj=>a j*pr (λk=>b (skip j k)) (n+1)) (n+1)=b (n+1)*sm (λj=>a j*pr (λk=>b (skip j k)) n) (n+1):=by
   rw[<-Â];refine Ym λj hj=>?_;show a j*(pr (λk=>b (skip j k)) n*b (skip j n))=_;rw[show skip j n=n+1 by unfold skip;grind]
   grind
  have e2:pr (λk=>b (skip (n+1) k)) (n+1)=pr b (n+1):=Ü λk hk=>by rw[show skip (n+1) k=k by unfold skip;split<;>lia]
  have e3:pr b (n+1)<=pr (λk=>a k+b k) (n+1):=Û λk _=>⟨hb k,by grind⟩;rw[e1,e2];have f1:=bH (a:=b (n+1)) (b:=pr (λk=>a k+b k) (n+1)-sm (λj=>a j*pr (λk=>b (skip j k)) n) (n+1)) (hb _) (by grind);have f2:=bH (a:=a (n+1)) (b:=pr (λk=>a k+b k) (n+1)-pr b (n+1)) (ha _) (by grind)
  grind
theorem ű:∀(n:Nat)(M:Nat->Nat->Rat),ab (dt n M)<=pr (λj=>sm (λi=>ab (M i j)) n) n
 |0,M=>by show ab 1<=1;decide
 |n+1,M=>by
  have h1:ab (dt (n+1) M)<=sm (λj=>ab (M 0 j)*pr (λk=>sm (λi=>ab (M (i+1) (skip j k))) n) n) (n+1):=by
   have:=O5 (λj=>sg j*M 0 j*dt n (λi k=>M (i+1) (skip j k))) (n+1);refine cK this (Į λj _=>?_);rw[Ţ,Ţ,ÁU];have ih:=ű n λi k=>M (i+1) (skip j k);have f:=bH (a:=ab (M 0 j)) (b:=pr (λk=>sm (λi=>ab (M (i+1) (skip j k))) n) n-ab (dt n λi k=>M (i+1) (skip j k))) (Í _) (by grind)
   grind
  have sn:∀f n,(∀k,0<=f k)->0<=sm f n:=λf n h=>by
   induction n with
   |zero=>show(0:Rat)<=0;grind
   |succ n ih=>show 0<=sm f n+f n;grind
  have h2:=EH (a:=λj=>ab (M 0 j)) (b:=λj=>sm (λi=>ab (M (i+1) j)) n) (λ_=>Í _) (λj=>sn _ _ λ_=>Í _) n;have sh:∀f n,sm f (n+1)=f 0+sm (λi=>f (i+1)) n:=λf n=>by
   induction n with
   |zero=>show 0+f 0=f 0+0;grind
   |succ n ih=>show sm f (n+1)+f (n+1)=f 0+(sm (λi=>f (i+1)) n+f (n+1));rw[ih];grind
  grind
def Cl.low(C:Cl A t d M X)(hi:t<=i):M i j=El.dt (t+1) λr c=>A (if r=t then i else r) (if c=t then j else c):=by
 have lt:∀r,r<t->(if r=t then i else r)=r:=λr h=>Zd (by lia);have lj:∀c,c<t->(if c=t then j else c)=c:=λc h=>Zd (by lia);rw[<-Hw λl=>X l j];have es:∀r,sm (λl=>X l j*A (if r=t then i else r) (if l=t then j else l)) t=sm (λl=>X l j*A (if r=t then i else r) l) t:=λr=>Ym λl hl=>by rw[lj l hl]
 rw[Dx]
 .have e1:El.dt t (upd (λr c=>A (if r=t then i else r) (if c=t then j else c)) t λr=>A (if r=t then i else r) (if t=t then j else t)-sm (λl=>X l j*A (if r=t then i else r) (if l=t then j else l)) t)=El.dt t A:=wV λr hr c hc=>by
   unfold upd;rw[Zd (by lia)]
   grind
  rw[e1,<-C.dt];unfold upd;rw[Zc rfl];show _=(A (if t=t then i else t) (if t=t then j else t)-sm (λl=>X l j*A (if t=t then i else t) (if l=t then j else l)) t)*d;rw[es,Zc rfl,Zc rfl,C.lo i hi j]
  grind
 .intro r hr;unfold upd;rw[Zc rfl];show A (if r=t then i else r) (if t=t then j else t)-sm (λl=>X l j*A (if r=t then i else r) (if l=t then j else l)) t=0;rw[es,lt r hr,Zc rfl,C.so r hr j]
  grind
def Cl.upp(C:Cl A t d M X)(hi:i<t):M i j=El.dt t (upd A i λk=>A k j):=by
 have e:=ĵ hi (λl=>X l j) (λk=>A k j) λk hk=>(C.so k hk j).symm;rw[e,<-C.dt,C.up i hi j]
 grind
theorem Ň(h:∀k,0<=f k):∀n,0<=sm f n
 |0=>by show(0:Rat)<=0;grind
 |n+1=>by have:=Ň h n;show 0<=sm f n+f n;grind
theorem Ji(h:∀k,0<=f k):∀{n:Nat},t<=n->sm f t<=sm f n
 |0,ht=>by
  have:t=0:=by lia
  grind
 |n+1,ht=>by
  by_cases c:t=n+1
  .grind
  .have:=Ji h (t:=t) (n:=n) (by lia);show sm f t<=sm f n+f n
   grind
theorem x8(h:∀k,0<=f k)(hi:t<=i):∀{n:Nat},i<n->sm f t+f i<=sm f n
 |0,hn=>absurd hn (by lia)
 |n+1,hn=>by
  show sm f t+f i<=sm f n+f n;by_cases c:i=n
  .subst c;have:=Ji h hi
   grind
  .have:=x8 h hi (n:=n) (by lia)
   grind
theorem G8(h:∀c,1<=B c):∀t,1<=pr B t
 |0=>by show(1:Rat)<=1;grind
 |t+1=>by
  have h1:=G8 h t;have h2:=h t;have:=Ml (Zf rfl) (by grind) h1 h2;show 1<=pr B t*B t
  grind
theorem G7(h:∀c,1<=B c)(i j):∀t,pr (λc=>if c=i then B j else B c) t<=pr B t*B j
 |0=>by have:=h j;show(1:Rat)<=1*B j;grind
 |t+1=>by
  show pr (λc=>if c=i then B j else B c) t*(if t=i then B j else B t)<=pr B t*B t*B j;by_cases c:t=i
  .have e:pr (λc=>if c=i then B j else B c) t=pr B t:=Ü λk hk=>Zd (by lia);have h1:=G8 h t;have h3:=h j;have h4:0<=pr B t*B j:=bH (by grind) (by grind);have:=bH (b:=B t-1) h4 (by grind)
   grind
  .rw[Zd c];have:=G7 h i j t;have h2:=h t;have:=bH (a:=B t) (b:=pr B t*B j-pr (λc=>if c=i then B j else B c) t) (by grind) (by grind)
   grind
def Cl.le(C:Cl A t d M X)(ht:t<=n)(h1:∀c,1<=B c)(hB:∀c,sm (λr=>ab (A r c)) n<=B c)(hi:i<n)(j):ab (M i j)<=pr B t*B j:=by
 by_cases c:i<t
 .rw[C.upp c];refine cK (ű _ _) (cK (Û λk _=>⟨Ň (λ_=>Í _) _,?_⟩) (G7 h1 i j t));show sm (λr=>ab (if k=i then A r j else A r k)) t<=if k=i then B j else B k
  split
  .exact cK (Ji (λ_=>Í _) ht) (hB j)
  .exact cK (Ji (λ_=>Í _) ht) (hB k)
 .rw[C.low (by lia)];apply cK (ű _ _);have col:∀k,sm (λr=>ab (A (if r=t then i else r) k)) (t+1)<=B k:=λk=>by show sm (λr=>ab (A (if r=t then i else r) k)) t+ab (A (if t=t then i else t) k)<=B k;rw[Ym λr hr=>by rw[Zd (by lia)],Zc rfl];exact cK (x8 (λ_=>Í _) (by lia) hi) (hB k)
  refine Ml (Me λk _=>Ň (λ_=>Í _) _) (by grind) (Û λk hk=>⟨Ň (λ_=>Í _) _,?_⟩) ?_
  .rw[Zd (show ¬k=t by lia)];exact col k
  .simp_all
end El
namespace My
open PySem L2 Fra
def xG(h:l.Perm m):mU l=mU m:=by
 induction h with
 |nil=>rfl
 |cons x _ ih=>show x+_=x+_;rw[ih]
 |swap x y l=>show y+(x+mU l)=x+(y+mU l);grind
 |trans _ _ a b=>exact a.trans b
def nV(x)(l):mU (x::l)=x+mU l:=rfl
theorem rH:∀{l:List α},(∀x∈l,p x=false->f x=0)->mU ((l.filter p).map f)=mU (l.map f)
 |[],_=>rfl
 |x::l,h=>by
  have ih:=rH λy hy=>h y (ah _ hy);rw[am,nV,<-ih];cases c:p x with
  |true=>rw[List.filter_cons_of_pos c,am,nV]
  |false =>
   rw[List.filter_cons_of_neg (by grind),h x al c,jc]
def mV{α:Type}{f g:α->Rat}{l:List α}(h:∀x∈l,f x=g x):mU (l.map f)=mU (l.map g):=by rw[aW h]
def uV{U W:List Str}{g:Str->Rat}(hU:U.Nodup)(hW:W.Nodup)(h:∀x∈U,x∉W->g x=0):mU (U.map g)=mU (W.map λx=>if x∈U then g x else 0):=by
 have e1:=rH λx hx c=>h x hx (of_decide_eq_false c);have e2:mU ((W.filter λx=>decide (x∈U)).map λx=>if x∈U then g x else 0)=mU (W.map λx=>if x∈U then g x else 0):=rH λx hx c=>Zd (of_decide_eq_false c);rw[<-e1,<-e2];have e3:mU ((W.filter λx=>decide (x∈U)).map λx=>if x∈U then g x else 0)=mU ((W.filter λx=>decide (x∈U)).map g):=mV λx hx=>Zc (Zf (bi.mp hx).2);rw[e3];refine xG (jy _ ((jY (hU.filter _) (hW.filter _)).mpr λx=>?_))
 grind
theorem zh:∀{l:List α},(∀x∈l,f x<=g x)->mU (l.map f)<=mU (l.map g)
 |[],_=>lC
 |x::l,h=>by
  have:=zh λy hy=>h y (ah _ hy);rw[am,am,nV,nV]
  grind
theorem GW:∀{l:List α},(∀x∈l,f x<=g x)->(∃x∈l,f x<g x)->mU (l.map f)<mU (l.map g)
 |[],_,⟨_,z,_⟩=>nomatch z
 |x::l,h,⟨y,hy,k⟩=>by
  have a1:=zh λy hy=>h y (ah _ hy);rw[am,am,nV,nV];obtain e|hy:=ao.mp hy
  .subst e;grind
  .have a3:=GW (λy hy=>h y (ah _ hy)) ⟨y,hy,k⟩
   grind
theorem qG(c)(f:α->Rat):∀l:List α,mU (l.map λx=>c*f x)=c*mU (l.map f)
 |[]=>(Rat.mul_zero c).symm
 |x::l=>by rw[am,am,nV,nV,qG c f l];grind
theorem sQ(f g:α->Rat):∀l:List α,mU (l.map λx=>f x+g x)=mU (l.map f)+mU (l.map g)
 |[]=>(g8 0).symm
 |x::l=>by rw[am,am,am,nV,nV,nV,sQ f g l];grind
def B6{α:Type}{f:α->Rat}{l:List α}(h:∀x∈l,f x=0):mU (l.map f)=0:=by
 induction l with
 |nil=>rfl
 |cons x l ih =>
  rw[am,nV,h x al,ih λy hy=>h y (ah _ hy)];exact g8 0
def MN(f:α->Rat)(l:List α):El.sm (λi=>((l[i]?).map f).getD 0) l.length=mU (l.map f):=by
 have:∀k,k<=l.length->El.sm (λi=>((l[i]?).map f).getD 0) k=mU ((l.take k).map f):=λk=>by
  induction k with
  |zero=>intro _;rfl
  |succ k ih =>
   intro hk;show El.sm _ k+_=_;rw[ih (by lia),d6,aC,wM];have e:l[k]?=Za l[k]:=aA (by lia);show _+((l[k]?).map f).getD 0=_;rw[e];show _+f l[k]=_+(f l[k]+0);rw[g8]
 grind
theorem xH{α β:Type}(f:α->β->Rat)(l:List α):∀m:List β,mU (l.map λx=>mU (m.map λy=>f x y))=mU (m.map λy=>mU (l.map λx=>f x y))
 |[]=>B6 λ_ _=>rfl
 |y::m=>by show mU (l.map λx=>f x y+mU (m.map λy=>f x y))=mU (l.map λx=>f x y)+mU (m.map λy=>mU (l.map λx=>f x y));rw[sQ,xH f l m]
inductive Cts:Nat->List Ent->Prop
 |nil {c:Nat}:Cts c []
 |cons {c1 c2 c:Nat}{e:Ent}{L:List Ent}:(∃hz,HR c1 e.held hz)->Cts c2 L->c1+c2<=c->Cts c (e::L)
theorem ä.cts:∀{c:Nat}{L:List Ent}{M:List Md},ä N c L M->Cts c L
 |_,_,_,.nil=>.nil
 |_,_,_,.cons h r q=>.cons h.hm.r r.cts q
theorem ä.tb:∀{c:Nat}{L:List Ent}{M:List Md},ä N c L M->∀e∈L,Bt 100 e.th
 |_,_,_,.nil,_,z=>nomatch z
 |_,_,_,.cons h r q,e,z=>(ao.mp z).elim (λz=>z▸h.tb.1) (r.tb e)
theorem Cts.mem:∀{c:Nat}{L:List Ent},Cts c L->∀e∈L,∃k hz,HR k e.held hz/\k<=c
 |_,_,.nil,_,z=>nomatch z
 |_,_,.cons (c1:=c1) ⟨hz,h⟩ r q,e,z=>by
  obtain z|z:=ao.mp z
  .subst z;exact⟨c1,hz,h,by lia⟩
  .obtain⟨k,hz,h,b⟩:=r.mem e z;exact⟨k,hz,h,by lia⟩
structure Gd(L:List Ent)(N:List Str)(c:Nat):Prop where
 ho:Ho L N
 nd:(L.map (·.nm)).Nodup
 ct:Cts c L
 tb:∀e∈L,Bt 200 e.th
 l8:L.length<=8
 c40:c<=41
def wU(h:n8 L n=Za e):e∈L/\e.nm=n:=by
 unfold n8 at h
 grind
def shr(L:List Ent)(h x:Str):Rat:=match n8 L h with
 |some e=>rv (mO e.held x)
 |none=>0
def OH(h1:0<=q.1)(h2:0<q.2):0<=rv q:=by
 unfold rv
 simp_all
def Po(h1:0<q.1)(h2:0<q.2):0<rv q:=by
 have:=OH (bF h1) h2;have z:rv q≠0:=λz=>by
  have k:=Lg q;have n:0<=rv (-q.1,q.2):=by rw[k];grind
  unfold rv at n;rw[Rat.divInt_nonneg_iff_of_pos_right h2] at n
  grind
 grind
section
variable{L:List Ent}{N:List Str}{c:Nat}
def Gd.hr(g:Gd L N c)(f:n8 L h=Za e):∃k hz,HR k e.held hz/\k<=c:=g.ct.mem e (wU f).1
def Gd.ent(g:Gd L N c)(hh:nv L h=true):∃e,n8 L h=Za e/\own L h=Yu (e.held.map (·.1))/\∀x,shr L h x=rv (mO e.held x):=by have:=hh;obtain⟨e,he⟩:=eJ.mp this;exact⟨e,he,by unfold own;rw[he],λx=>by unfold shr;rw[he]⟩
theorem Gd.nn(g:Gd L N c)(h x):0<=shr L h x:=by
 by_cases hh:nv L h=true
 .obtain⟨e,f,_,s⟩:=g.ent hh;obtain⟨k,hz,R,_⟩:=g.hr f;rw[s];exact OH (R.fr x).nn (R.fr x).low.1
 .have:n8 L h=none:=by
   unfold nv at hh
   simp_all
  unfold shr
  simp_all
def Gd.pos(g:Gd L N c)(hx:x∈own L h):0<shr L h x:=by
 by_cases hh:nv L h=true
 .obtain⟨e,f,o,s⟩:=g.ent hh;obtain⟨k,hz,R,_⟩:=g.hr f;rw[o,(mJ _).mem_iff] at hx;rw[s];exact Po ((R.nm x).mp hx) (R.fr x).low.1
 .rw[Lp (by grind)] at hx;cases hx
def Gd.zero(g:Gd L N c)(hx:x∉own L h):shr L h x=0:=by
 by_cases hh:nv L h=true
 .obtain⟨e,f,o,s⟩:=g.ent hh;rw[o,(mJ _).mem_iff] at hx;rw[s,vJ hx];exact ii 1
 .unfold shr;have:n8 L h=none:=by
   unfold nv at hh
   simp_all
  rw[this]
def Gd.ond(g:Gd L N c)(h):(own L h).Nodup:=by
 by_cases hh:nv L h=true
 .obtain⟨e,f,o,s⟩:=g.ent hh;obtain⟨k,hz,R,_⟩:=g.hr f;rw[o];exact(mJ _).nodup_iff.mpr R.n1
 .rw[Lp (by grind)];exact .nil
theorem Gd.one(g:Gd L N c)(hh:nv L h=true):mU ((own L h).map (shr L h))=1:=by
 obtain⟨e,f,o,s⟩:=g.ent hh;obtain⟨k,hz,R,_⟩:=g.hr f;have e1:=R.one;unfold Jq at e1;have e2:mU ((hz.map (·.1)).map λn=>rv (mO hz n))=mU ((hz.map (·.1)).map (shr L h)):=mV λx _=>by rw[s,R.q]
 rw[e2,uV R.n2 (g.ond h) (λx _ z=>g.zero z)] at e1;rw[<-e1];refine mV λx hx=>?_;rw[Zc];apply R.had;rw[<-R.q,<-R.nm];rw[o,(mJ _).mem_iff] at hx;exact hx
def Ľ(L:List Ent):Prop:=∀G:List Str,G≠[]->(∀h∈G,nv L h=true)->∃h∈G,∃x∈own L h,x∉G
def Y1(U:List Str)(i:Nat):Str:=(U[i]?).getD cq
def oO(h:i<U.length):U[i]?=Za (Y1 U i)/\Y1 U i∈U:=by
 unfold Y1
 simp_all
def zC(nd:U.Nodup)(hi:i<U.length)(hj:j<U.length)(h:Y1 U i=Y1 U j):i=j:=by have e1:=(oO hi).1;have e2:=(oO hj).1;rw[<-h] at e2;exact(List.getElem?_inj hi nd).mp (e1.trans e2.symm)
def mA(L:List Ent)(U:List Str)(i j:Nat):Rat:=(if i=j then 1 else 0)-shr L (Y1 U j) (Y1 U i)
def DP(f:Str->Rat):El.sm (λi=>f (Y1 U i)) U.length=mU (U.map f):=by rw[<-MN];refine El.Ym λi hi=>?_;rw[(oO hi).1];rfl
abbrev gl(U:List Str)(G:Nat->Bool):List Str:=((br U.length).filter G).map (Y1 U)
theorem Gd.gs(g:Gd L N c)(nd:U.Nodup)(hj:j<U.length)(Gj:G j=true):El.gs U.length G (mA L U) j=1-mU (U.map λx=>if x∈gl U G then shr L (Y1 U j) x else 0):=by
 unfold El.gs;have mem:∀i,i<U.length->(Y1 U i∈gl U G↔G i=true):=λi hi=>by
  constructor
  .intro z;obtain⟨k,hk,e⟩:=aq.mp z;obtain⟨k1,k2⟩:=bi.mp hk;rw[<-zC nd (cX.mp k1) hi e];exact k2
  .grind
 have e:El.sm (λi=>if G i=true then mA L U i j else 0) U.length=El.sm (λi=>1*(if i=j then 1 else 0)+(-1)*(if Y1 U i∈gl U G then shr L (Y1 U j) (Y1 U i) else 0)) U.length:=by
  refine El.Ym λi hi=>?_;have m:=mem i hi;by_cases q:G i=true
  .rw[Zc q,Zc (m.mpr q)];unfold mA
   grind
  .rw[Zd q,Zd (λz=>q (m.mp z)),Zd (λz=>q (by rw[z];exact Gj))]
   grind
 rw[e,El.ZU,El.ZA hj (λk _ hk=>Zd hk),Zc rfl,DP (λx=>if x∈gl U G then shr L (Y1 U j) x else 0)]
 grind
def Gd.zm(g:Gd L N c)(ng:Ľ L)(nd:U.Nodup)(hU:∀x∈U,nv L x=true):El.Zm U.length 0 (mA L U):=by
 have key:∀G j,j<U.length->G j=true->(0<=El.gs U.length G (mA L U) j/\((∃x∈own L (Y1 U j),x∉gl U G)->0<El.gs U.length G (mA L U) j)):=λG j hj Gj=>by
  rw[g.gs nd hj Gj];generalize gl U G=V;have hh:=hU _ (oO hj).2;have o:=g.one hh;generalize Y1 U j=h at *;have sw:=uV (g:=λx=>if x∈V then shr L h x else 0) nd (g.ond h) (λx _ z=>by rw[g.zero z];split<;>rfl);rw[sw];have le:∀x∈own L h,(if x∈U then(if x∈V then shr L h x else 0) else 0)<=shr L h x:=λx _=>by
   have:=g.nn h x
   grind
  refine⟨?_,λ⟨x,hx,hV⟩=>?_⟩
  .have:=zh le
   grind
  .have:=GW le ⟨x,hx,by rw[Zd hV];have:=g.pos hx;split<;>exact this⟩
   grind
 refine⟨λi j _ hi _ hj RB=>?_,λG _ j hj Gj=>(key G j hj Gj).1,λG hG hx=>?_⟩
 .unfold mA;rw[Zd RB];have:=g.nn (Y1 U j) (Y1 U i)
  grind
 .obtain⟨j0,hj0⟩:=hx;have hm:∀x∈gl U G,∃j,j<U.length/\G j=true/\Y1 U j=x:=λx hx=>by
   grind
  obtain⟨h,hh,x,hx,hxV⟩:=ng (gl U G) (l9 (aq.mpr ⟨j0,bi.mpr ⟨cX.mpr (hG j0 hj0).2,hj0⟩,rfl⟩)) (λh hh=>by obtain⟨j,hj,_,e⟩:=hm h hh;rw[<-e];exact hU _ (oO hj).2)
  obtain⟨j,hj,Gj,e⟩:=hm h hh;exact⟨j,Gj,(key G j hj Gj).2 ⟨x,by rw[e];exact hx,hxV⟩⟩
def QB(hp:p<n):El.dt n (El.upd M p λ_=>0)=0:=by
 have:=El.ì (M:=M) 0 0 (λ_=>0) (λ_=>0) hp
 grind
def Gd.uniq(g:Gd L N c)(ng:Ľ L){U:List Str}(nd:U.Nodup)(hU:∀x∈U,nv L x=true){v:Str->Rat}(h:∀x∈U,v x=mU (U.map λl=>shr L l x*v l)):∀x∈U,v x=0:=by
 obtain⟨⟨X,C⟩,dp,_⟩:=El.run (g.zm ng nd hU) U.length (ak _);rw[C.dt] at dp;intro x hx;obtain⟨p,hp⟩:=bZ.mp hx;have Rq:=(aR.mp hp).1;have cr:=El.ĵ Rq (λl=>v (Y1 U l)) (λ_=>0) λi hi=>by
  have hxi:=h (Y1 U i) (oO hi).2;have e:El.sm (λl=>v (Y1 U l)*mA L U i l) U.length=El.sm (λl=>1*(if l=i then v (Y1 U l) else 0)+(-1)*(λy=>shr L y (Y1 U i)*v y) (Y1 U l)) U.length:=El.Ym λl hl=>by
   unfold mA
   grind
  rw[e,El.ZU,El.ZA hi (λk _ hk=>Zd hk),Zc rfl,DP (λy=>shr L y (Y1 U i)*v y),<-hxi]
  grind
 rw[QB Rq] at cr;have e:Y1 U p=x:=by unfold Y1;rw[hp];rfl
 grind
end
theorem xU:∀U V:List Str,fG (U.map jA) (V.map jA)=decide (U=V)
 |[],[]=>by simp[fG]
 |[],y::V=>by simp[fG]
 |x::U,[]=>by simp[fG]
 |x::U,y::V=>by
  rw[am,am];unfold fG cH;rw[xU U V,cx,cJ,decide_eq_true_iff,decide_eq_true_iff];constructor
  .intro⟨h1,h2⟩;rw[eq_of_beq h1,h2]
  .intro h;cases h;exact⟨beq_self_eq_true _,rfl⟩
def Mo{U V:List Str}{s:N'}(hU:∀x∈U,bA x=true)(hV:∀x∈V,bA x=true):Ô (LS U) (LS V) s=.ok (.bl (decide (U=V))) s:=by have e1:=xt s 10 hU;have e2:=xt s 10 hV;show ZP false _ _ _=_;unfold ZP;rw[e1,e2];show Out.ok (PV.bl (cH (.list _) (.list _))) s=_;unfold cH;rw[xU]
def DX{U V:List Str}{s:N'}(hU:∀x∈U,bA x=true)(hV:∀x∈V,bA x=true):œ (LS U) (LS V) s=.ok (.bl (!decide (U=V))) s:=by have e1:=xt s 10 hU;have e2:=xt s 10 hV;show ZP true _ _ _=_;unfold ZP;rw[e1,e2];show Out.ok (PV.bl !(cH (.list _) (.list _))) s=_;unfold cH;rw[xU]
theorem rc{e:XE}{cap:En}{s:N'}(g:Str->PV):∀(X:List Str),(∀x∈X,e (Za (.str x)::cap) s=.ok (g x) s)->n9 nI e cap (X.map .str) s=.ok (X.map g) s
 |[],_=>rfl
 |x::X,h=>by rw[am,oU];simp only[nI,h x al,rc g X λy hy=>h y (ah _ hy),am]
def xW{e:XE}{cap:En}{s:N'}(g:Str->Int)(X:List Str)(h:∀x∈X,e (Za (.str x)::cap) s=.ok (.int (g x)) s):n9 nI e cap (X.map .str) s=.ok ((X.map g).map .int) s:=(rc (λx=>.int (g x)) X h).trans (by rw[aD];rfl)
structure WG(L:List Ent)(G0 G:List Str):Prop where
 sl:G.Sublist G0
 cl:∀h∈G,∀x∈own L h,x∈G
 mx:∀V:List Str,(∀h∈V,h∈G0)->(∀h∈V,∀x∈own L h,x∈V)->∀h∈V,h∈G
def Þ:ZR L G h=true↔∀x∈own L h,x∈G:=by
 unfold ZR
 grind
def HP(h:m7 c b n Z s=.rt v s'):ua c b Z s=.rt v s':=(xD h (by grind)).trans rfl
section
variable{T:N'}{nb:Nat}{pp N:List Str}{L:List Ent}{c:Nat}
def ÀF(a:Yg)(H:Ho L N)(hb:T.get nb=Za (.book pp L)):∀(k:Nat)(G:List Str)(u2:Option PV),G.length<=k->k<=100->(∀h∈G,nv L h=true)->∃G',m7 (YJ (xC (.bl true))) (m6 a) (k+1) [Za (.ref nb),Za (LS G),u2] T=.rt (LS G') T/\WG L G G':=by
 intro k;induction k with
 |zero =>
  intro G u2 hk _ hG;have:G=[]:=eX.mp (by omega);subst this;refine⟨[],rfl,⟨fX _,(λ_ z=>nomatch z),λV hV _ h hh=>hV h hh⟩⟩
 |succ k ih =>
  intro G u2 hk hk1 hG;have so:∀x∈G,bA x=true:=λx hx=>wO (H.sm x (H.hn x (hG x hx)));have c1:=qx (s:=T) (cap:=[Za (.ref nb),Za (LS G)]) (c:=YJ (V' 3 (oW a) (F' (j' 1) (F' (j' 0) (F' (j' 2) J'))))) (e:=j' 0) (λq=>match q with|.str x=>ZR L G x|_=>false) (λq=>q) (G.map .str) (λq hq=>by obtain⟨x,hx,rfl⟩:=aq.mp hq;exact oF (mL (mj (mh rfl) (mj (mh rfl) (mj (mh rfl) rfl))) rfl (NN a H hb (hG x hx)))) (λq hq _=>mh rfl)
  have e1:(((G.map PV.str).filter λq=>match q with|.str x=>ZR L G x|_=>false).map λq=>q)=(G.filter (ZR L G)).map PV.str:=by rw[List.map_id',dP];rfl
  rw[e1] at c1;have hl:(G.map PV.str).length<=100000:=by rw[ac];omega
  have bd:∀o:SO,X6 (å (YJ (x2 (j' 2) (j' 1) Ô)) (YA (j' 1)) Y') (Yd 1 (j' 2)) [Za (.ref nb),Za (LS G),Za (LS (G.filter (ZR L G)))] T=o->m6 a [Za (.ref nb),Za (LS G),u2] T=o:=λo ho=>by unfold m6;exact mI (mS (o5 (l:=G.map .str) (s1:=T) (nO (mh rfl)) hl c1)) ho
  have eq:=Mo (s:=T) (U:=G.filter (ZR L G)) (V:=G) (λx hx=>so x (bi.mp hx).1) so;by_cases z:G.filter (ZR L G)=G
  .rw[Zg z] at eq;refine⟨G,?_,⟨fX _,λh hh=>?_,λV hV _ h hh=>hV h hh⟩⟩
   .unfold m7;show(match m6 a [Za (.ref nb),Za (LS G),u2] T with
     |.nx Yi s'=>m7 (YJ (xC (.bl true))) (m6 a) (k+1) Yi s'
     |.ct Yi s'=>m7 (YJ (xC (.bl true))) (m6 a) (k+1) Yi s'
     |.bk Yi s'=>.nx Yi s'
     |o=>o)=_
    rw[bd (.rt (LS G) T) (Gu ((yC (s1:=T) (oF ((mM (mh rfl) (mh rfl)).trans eq))).trans (nW (mh rfl))))]
   .rw[<-z] at hh;exact Þ.mp (bi.mp hh).2
  .rw[Zh z] at eq;have lt:(G.filter (ZR L G)).length<G.length:=by
    have:=dW (ZR L G) G;by_cases q:(G.filter (ZR L G)).length=G.length
    .exact absurd (List.Sublist.eq_of_length iR q) z
    .omega
   obtain⟨G',e,W⟩:=ih (G.filter (ZR L G)) (Za (LS (G.filter (ZR L G)))) (by omega) (by omega) (λh hh=>hG h (bi.mp hh).1);refine⟨G',?_,⟨W.sl.trans iR,W.cl,λV hV cV h hh=>W.mx V (λy hy=>bi.mpr ⟨hV y hy,Þ.mpr λx hx=>hV x (cV y hy x hx)⟩) cV h hh⟩⟩;rw[m7];show(match m6 a [Za (.ref nb),Za (LS G),u2] T with
    |.nx Yi s'=>m7 (YJ (xC (.bl true))) (m6 a) (k+1) Yi s'
    |.ct Yi s'=>m7 (YJ (xC (.bl true))) (m6 a) (k+1) Yi s'
    |.bk Yi s'=>.nx Yi s'
    |o=>o)=_
   rw[bd (.nx [Za (.ref nb),Za (LS (G.filter (ZR L G))),Za (LS (G.filter (ZR L G)))] T) (mI ((ug (s1:=T) (oF ((mM (mh rfl) (mh rfl)).trans eq))).trans rfl) (mS (mh rfl)))];exact e
abbrev U'(L:List Ent):List Str:=Yu (L.map (·.nm))
def Yf{L}:h∈U' L↔nv L h=true:=by rw[(mJ _).mem_iff,qr]
def oC{L}:(U' L).length=L.length:=by rw[(mJ _).length_eq,ac]
def ED(a)(H:Ho L N)(hl:L.length<=64)(hb:T.get nb=Za (.book pp L)):∃G,sf a [.ref nb] T=.ok (LS G) T/\WG L (U' L) G:=by obtain⟨G,e,W⟩:=ÀF a H hb (U' L).length (U' L) Zb (ak _) (by rw[oC];omega) (λh hh=>Yf.mp hh);refine⟨G,mZ ?_,W⟩;refine mI (mS ((ul (vs:=[]) (mh rfl) hb rfl rfl).trans ?_)) (HP e);unfold om oy;simp[hb]
def WG.noG{L}(W:WG L (U' L) []):Ľ L:=by
 refine λG hG hh=>f7 λz=>?_;cases G with
 |nil=>exact hG rfl
 |cons g G =>
  have:=W.mx (g::G) (λh Us=>Yf.mpr (hh h Us)) (λh h1 x hx=>f7 λq=>z ⟨h,h1,x,hx,q⟩) g al;cases this
def WG.nil{L}(W:WG L (U' L) G)(ng:Ľ L):G=[]:=by refine f7 λz=>?_;obtain⟨h,h1,x,h2,h3⟩:=ng G z λh hh=>Yf.mp (W.sl.subset hh);exact h3 (W.cl h h1 x h2)
def Ny(a:Yg)(H:Ho L N)(hl:L.length<=64)(ng:Ľ L)(hb:T.get nb=Za (.book pp L)):nT a [.ref nb] T=.ok .Yh T:=by obtain⟨G,e,W⟩:=ED a H hl hb;have:=W.nil ng;subst this;apply Ay (Z:=[Za (.ref nb),Za (LS [])]);refine mI (mS (mL (mj (mh rfl) rfl) rfl e)) ((ug (oF ((mM (mh rfl) (yL rfl)).trans ?_))).trans rfl);exact DX (V:=[]) (λ_ z=>nomatch z) (λ_ z=>nomatch z)
end
noncomputable def ĥ(ns:List Str)(g:Str->PV):List (Key×PV):=ns.map λn=>(ap n,g n)
def Hf(h:x∈ns):qM (ĥ ns g) (ap x)=Za (g x):=by
 unfold qM ĥ;induction ns with
 |nil=>cases h
 |cons n ns ih =>
  grind
def Qf(h:x∉ns):qM (ĥ ns g) (ap x)=none:=by
 refine xE λz=>h ?_;obtain⟨kv,hk,e⟩:=aq.mp z;obtain⟨n,hn,rfl⟩:=aq.mp hk
 grind
theorem Ct:∀(ns:List Str)(Ru:List (Key×PV)),ns.Nodup->(∀n∈ns,(ap n:Key)∉Ru.map (·.1))->BQ Ru (ns.map λn=>.tup [.str n,g n])=Za (Ru++ĥ ns g)
 |[],Ru,_,_=>by simp[BQ,ĥ]
 |n::ns,Ru,nd,h=>by
  obtain⟨n1,n2⟩:=aL.mp nd;have e:zx Ru (ap n) (g n)=Ru++[(ap n,g n)]:=by
   unfold zx
   grind
  have ih:=Ct (g:=g) ns (Ru++[(ap n,g n)]) n2 λm hm z=>by
   grind
  show BQ (zx Ru (ap n) (g n)) (ns.map λn=>.tup [.str n,g n])=_;rw[e,ih,List.append_assoc];rfl
def D8(nd:ns.Nodup):zU [.lst (ns.map λn=>.tup [.str n,g n])] s=.ok (.Yl (ĥ ns g)) s:=by have:=Ct (g:=g) ns [] nd (λ_ _ z=>nomatch z);simp[zU,YB,this,eS]
def FV(h:x∈ns):Yb (.Yl (ĥ ns g)) (.str x) s=.ok (g x) s:=by simp[Yb,YB,Zv,ZY,Hf h]
def ZQ(l:Hl):Nat:=((Yu (l.map (·.1))).map λn=>(mO l n).2.toNat).foldl fV 1
def pc(l:Hl)(x:Str):Int:=(mO l x).1*((ZQ l:Int)/(mO l x).2)
theorem Fa{D:Nat}:∀(bs:List Nat)(p:Nat),0<p->p∣D->(∀b∈bs,0<b/\b∣D)->0<bs.foldl fV p/\p∣bs.foldl fV p/\bs.foldl fV p∣D/\∀b∈bs,b∣bs.foldl fV p
 |[],p,h0,hd,_=>⟨h0,Nat.dvd_refl _,hd,λ_ z=>nomatch z⟩
 |b::bs,p,h0,hd,hb=>by
  obtain⟨b0,bd⟩:=hb b al;obtain⟨a1,a2,a3,a4⟩:=Fa bs (fV p b) (Nat.lcm_pos h0 b0) (Nat.lcm_dvd hd bd) λx hx=>hb x (ah _ hx);refine⟨a1,Nat.dvd_trans (Nat.dvd_lcm_left p b) a2,a3,λx hx=>?_⟩;obtain e|hx:=ao.mp hx
  .subst e;exact Nat.dvd_trans (Nat.dvd_lcm_right p x) a2
  .exact a4 x hx
def Kl(p b:Nat):(p:Int)*((b:Int)/((aH (p:Int) (b:Int):Nat):Int))=(fV p b:Nat):=by rw[show aH p b=Nat.gcd p b from rfl,<-Int.natCast_ediv,<-Int.natCast_mul];unfold fV;rw[Nat.mul_div_assoc _ (Nat.gcd_dvd_right p b)]
section
variable{k:Nat}{l hz:Hl}
def HR.den(R:HR k l hz):∃D:Nat,0<D/\Bt (97*k+1) (D:Int)/\∀x,(mO l x).2.toNat∣D:=by
 obtain⟨D,U,d0,db,on⟩:=R.dv;refine⟨D.toNat,by lia,by rw[eO (by lia)];exact db,λx=>?_⟩;have h:=(on x).dvd;rw[<-R.q] at h;have b0:=(R.fr x).low.1;have:(((mO l x).2.toNat:Nat):Int)∣D.toNat:=by rw[eO (by lia),eO (by lia)];exact h
 exact fc.mp this
def HR.pieces(R:HR k l hz):0<ZQ l/\Bt (97*k+1) (ZQ l:Int)/\∀x,(mO l x).2∣(ZQ l:Int):=by
 obtain⟨D,d0,db,dv⟩:=R.den;obtain⟨a1,a2,a3,a4⟩:=Fa ((Yu (l.map (·.1))).map λn=>(mO l n).2.toNat) 1 (Zf rfl) (Nat.one_dvd _) λb hb=>by obtain⟨n,hn,rfl⟩:=aq.mp hb;exact⟨by have:=(R.fr n).low.1;lia,dv n⟩
 refine⟨a1,db.dvd (by lia) (fc.mpr a3),λx=>?_⟩;by_cases hx:x∈l.map (·.1)
 .have:=a4 (mO l x).2.toNat (aq.mpr ⟨x,(mJ _).mem_iff.mpr hx,rfl⟩);have:=fc.mpr this;rw[eO (bF (R.fr x).low.1)] at this;exact this
 .rw[vJ hx];grind
def HR.İ(R:HR k l hz)(x):((pc l x:Int):Rat)=(ZQ l:Int)*rv (mO l x):=by
 obtain⟨a1,a2,a3⟩:=R.pieces;obtain⟨m,hm⟩:=a3 x;unfold pc rv;rw[hm,cL _ (by lia),cD,eU,eU];have:(((mO l x).2:Int):Rat)≠0:=λz=>by
  simp_all
 grind
def HR.À4(R:HR k l hz)(x):0<=pc l x:=by exact iO (R.fr x).nn (Int.ediv_nonneg (by lia) (bF (R.fr x).low.1))
def QO(a)(s)(R:HR k l hz)(hk:k<=41)(hl:l.length<64):Jo a [rg l] s=.ok (.Yl (ĥ (Yu (l.map (·.1))) λx=>.int (pc l x))) s:=by
 obtain⟨D,d0,db,dv⟩:=R.den;have sh:∀x,Bt 9000 (mO l x).2/\0<(mO l x).2/\Bt 9000 (mO l x).1:=λx=>⟨(R.fr x).bb.mono (by lia),(R.fr x).low.1,(R.fr x).top.mono (by lia)⟩;have bD:∀p:Nat,0<p->p∣D->Bt 9000 (p:Int):=λp h0 hp=>(db.dvd (by lia) (fc.mpr hp)).mono (by lia);have lp:∀(ns:List Str)(p:Nat)(u2 u3:Option PV),0<p->p∣D->∃v2 v3,nZ (nr (Zr 2 (Yj (X9 2) (Yj (X9 3) Zs))) (xu a)) (ns.map λn=>ue (nc l n)) [Za (rg l),Za (.int (p:Nat)),u2,u3] s=.nx [Za (rg l),Za (.int (((ns.map λn=>(mO l n).2.toNat).foldl fV p:Nat):Int)),v2,v3] s:=by
  intro ns;induction ns with
  |nil=>exact λp u2 u3 _ _=>⟨u2,u3,rfl⟩
  |cons n ns ih =>
   intro p u2 u3 p0 pd;obtain⟨s1,s2,s3⟩:=sh n;have eb:((mO l n).2.toNat:Int)=(mO l n).2:=eO (by lia);have ld:=Nat.lcm_dvd pd (dv n);have l0:0<fV p (mO l n).2.toNat:=Nat.lcm_pos p0 (by lia);obtain⟨v2,v3,e⟩:=ih (fV p (mO l n).2.toNat) (Za (.str n)) (Za (Zx (mO l n))) l0 ld;refine⟨v2,v3,?_⟩;rw[am,am,List.foldl_cons];unfold nZ;have gp:0<aH (p:Int) (mO l n).2:=bx _ (by lia);have gb:Bt 9000 ((aH (p:Int) (mO l n).2:Nat):Int):=s1.dvd (by lia) (cm ..);have bd:nr (Zr 2 (Yj (X9 2) (Yj (X9 3) Zs))) (xu a) (ue (nc l n)) [Za (rg l),Za (.int (p:Nat)),u2,u3] s=.nx [Za (rg l),Za (.int ((fV p (mO l n).2.toNat:Nat):Int)),Za (.str n),Za (Zx (mO l n))] s:=by rw[IN];show xu a [Za (rg l),Za (.int (p:Nat)),Za (.str n),Za (Zx (mO l n))] s=_;unfold xu;have st:=Kl p (mO l n).2.toNat;rw[eb] at st;rw[<-st];refine mS (pI (mh rfl) (BD ((mM (mh rfl) rfl).trans ϖ) (mL (mj (mh rfl) (mj ((mM (mh rfl) rfl).trans ϖ) rfl)) rfl (show nS a [.int (p:Nat),.int (mO l n).2] s=.ok (.int ((aH (p:Int) (mO l n).2:Nat):Int)) s from Zc s2)) ⟨by lia,gb⟩) (sF (bD p p0 pd) s1.div))
   rw[bd];exact e
 obtain⟨v2,v3,e⟩:=lp (Yu (l.map (·.1))) 1 Zb Zb (Zf rfl) (Nat.one_dvd _);obtain⟨a1,a2,a3⟩:=R.pieces;apply mZ;unfold OW;apply mI (mS (v:=.int 1) (s':=s) rfl);apply mI (rY (nO (mh rfl)) e);have c:=uP (s:=s) (cap:=[Za (.int (ZQ l:Nat))]) (e:=Y7 (F' (j' 0) (F' (x2 (x2 (j' 1) (xC (.int 0)) Yb) (x2 (j' 2) (x2 (j' 1) (xC (.int 1)) Yb) Å) Yr) J'))) l (λn=>.tup [.str n,.int (pc l n)]) (Yu (l.map (·.1))) λn _=>by obtain⟨s1,s2,s3⟩:=sh n;rw[show(nc l n).2=mO l n from rfl];exact qZ (mj (mh rfl) (mj (pI ((mM (mh rfl) rfl).trans ix0) (BD (mh rfl) ((mM (mh rfl) rfl).trans ϖ) ⟨s2,s1⟩) (sF s3 (a2.mono (by lia)).div)) rfl))
 refine nW ((BI (mj (v:=.lst ((Yu (l.map (·.1))).map λn=>.tup [.str n,.int (pc l n)])) (s1:=s) ?_ rfl)).trans (D8 ((mJ _).nodup_iff.mpr R.n1)));unfold oX;rw[nO (l:=(Yu (l.map (·.1))).map λn=>ue (nc l n)) (s1:=s) (mh rfl)];show(if((Yu (l.map (·.1))).map λn=>ue (nc l n)).length<=100000 then _ else _)=_;rw[Zc (by rw[ac,(mJ _).length_eq,ac];lia)];show(nz nI _ [Za (.int (ZQ l:Nat))] _ s).bind _=_;rw[c];rfl
end
structure Gr(T T':N'):Prop where
 nx:T.nx<=T'.nx
 fr:∀k,k<T.nx->T'.get k=T.get k
def Gr.refl(T):Gr T T:=⟨ak _,λ_ _=>rfl⟩
theorem Gr.trans(h:Gr A B)(k:Gr B C):Gr A C:=⟨aJ h.nx k.nx,λj hj=>(k.fr j (az hj h.nx)).trans (h.fr j hj)⟩
theorem Gr.add(T)(c):Gr T (T.add c):=⟨fb _,λk hk=>by rw[ny,Zd (by lia)]⟩
theorem Cz(f):∀(l:List PV),(∀q∈l,∀s,Gr T s->∃s',e (Za q::cap) s=.ok (f q) s'/\Gr T s')->∀s,Gr T s->∃s',n9 nI e cap l s=.ok (l.map f) s'/\Gr T s'
 |[],_,s,g=>⟨s,rfl,g⟩
 |q::l,h,s,g=>by obtain⟨s1,e1,g1⟩:=h q al s g;obtain⟨s2,e2,g2⟩:=Cz f l (λq hq=>h q (ah _ hq)) s1 g1;refine⟨s2,?_,g2⟩;rw[oU];simp[nI,e1,e2,am]
def pl(L:List Ent)(h:Str):Hl:=match n8 L h with
 |some e=>e.held
 |none=>[]
def cv(L:List Ent)(h:Str):PV:=.Yl (ĥ (own L h) λx=>.int (pc (pl L h) x))
def av(L:List Ent):PV:=.Yl (ĥ (U' L) (cv L))
theorem qp(f:α->Int):∀l:List α,(((l.map f).sum:Int):Rat)=mU (l.map λx=>((f x:Int):Rat))
 |[]=>rfl
 |x::l=>by rw[am,fT,ij,qp f l];rfl
def LG(hx:bA x=true)(hy:bA y=true):Ô (.str x) (.str y) s=.ok (.bl (decide (x=y))) s:=by
 have e:∀x,bA x=true->PV.data s 12 (.str x)=Za (.str x):=λx h=>by unfold PV.data;rw[Zc h]
 show ZP false _ _ _=_;unfold ZP;rw[e x hx,e y hy]
 congr 2
def Hs(h1:f Z s=.ok (.Yl l) s)(h2:g Z s=.ok (.str w) s)(h3:h Z s=.ok z s):Ù f g h Z s=.ok ((qM l (ap w)).getD z) s:=by unfold Ù;rw[h1];simp[Out.bind,Zv];rw[h2];simp[h3,ZY]
section
variable{T:N'}{nb:Nat}{pp N:List Str}{L:List Ent}{c:Nat}
theorem Gd.held(g:Gd L N c)(hh:nv L h=true):∃e k hz,n8 L h=Za e/\pl L h=e.held/\own L h=Yu ((pl L h).map (·.1))/\HR k (My.pl L h) hz/\k<=c/\(∀x,shr L h x=rv (mO (My.pl L h) x))/\e∈L/\e.nm=h:=by
 obtain⟨e,f,o,s⟩:=g.ent hh;obtain⟨k,hz,R,kc⟩:=g.hr f;have ep:My.pl L h=e.held:=by unfold My.pl;rw[f]
 exact⟨e,k,hz,f,ep,by rw[ep];exact o,by rw[ep];exact R,kc,λx=>by rw[ep];exact s x,(wU f).1,(wU f).2⟩
def Gd.Z8(g:Gd L N c):(U' L).Nodup:=(mJ _).nodup_iff.mpr g.nd
def Gd.Ye(g:Gd L N c)(hh:h∈U' L):bA h=true:=wO (g.ho.sm h (g.ho.hn h (Yf.mp hh)))
def LQ(g:Gd L N c)(h x):(qM (ĥ (own L h) λx=>.int (pc (pl L h) x)) (ap x)).getD (.int 0)=.int (pc (pl L h) x):=by
 by_cases hx:x∈own L h
 .rw[Hf hx];rfl
 .rw[Qf hx];have:x∉(pl L h).map (·.1):=λz=>hx (by
   unfold own;unfold pl at z;cases e:n8 L h with
   |none=>rw[e] at z;cases z
   |some e'=>rw[e] at z;exact(mJ _).mem_iff.mpr z)
  unfold pc;rw[vJ this]
  grind
def Gd.Às(g:Gd L N c)(hh:nv L h=true):((own L h).map (pc (My.pl L h))).sum=(ZQ (My.pl L h):Int):=by
 obtain⟨e,k,hz,f,ep,o,R,kc,sv,_⟩:=g.held hh;apply Rat.intCast_inj.mp;rw[qp];have:mU ((own L h).map λx=>((pc (My.pl L h) x:Int):Rat))=mU ((own L h).map λx=>((ZQ (My.pl L h):Int):Rat)*shr L h x):=mV λx _=>by rw[R.İ,sv]
 rw[this,qG,g.one hh,Rat.mul_one]
def Gg(a)(g:Gd L N c)(hb:T.get nb=Za (.book pp L)):x6 a [.ref nb] T=.ok (av L) T:=by
 apply mZ;have c1:=rc (cap:=[Za (.ref nb)]) (e:=Y7 (F' (j' 0) (F' (V' 1 (Jo a) (F' (ý 2 (oY a) (j' 1) (F' (j' 0) J')) J')) J'))) (λh=>.tup [.str h,cv L h]) (U' L) (λh hh=>by
  have hh:=Yf.mp hh;obtain⟨e,k,hz,f,ep,o,R,kc,sv,_⟩:=g.held hh;have hl:=(g.ho.ow h e f).1;have sh:oY a [.ref nb,.str h] T=.ok (rg (pl L h)) T:=by
   simp[oY,oy,hb];rw[Zc (g.ho.sm h (g.ho.hn h hh)).nm,f,ep]
   simp_all
  have ct:=QO a T R (by have:=g.c40;lia) (by rw[ep];exact hl);rw[<-o] at ct;exact qZ (mj (mh rfl) (mj (mL (mj ((ul (mh rfl) hb (mj (mh rfl) rfl) rfl).trans sh) rfl) rfl ct) rfl)))
 refine nW ((BI (mj (o5 (nO ((ul (vs:=[]) (mh rfl) hb rfl rfl).trans ?_)) (by rw[ac,oC];have:=g.l8;lia) c1) rfl)).trans (D8 g.Z8));unfold om oy;simp[hb]
def Ą(L:List Ent)(h:Str):List Int:=(U' L).map λo=>(if o=h then(ZQ (pl L h):Int) else 0)-pc (pl L o) h
def Ÿ(L:List Ent)(h:Str):List Int:=(U' L).map λo=>if o=h then 1 else 0
def Io(a)(g:Gd L N c)(hh:h∈U' L)(T):AJ a [.str h,LS (U' L),av L] T=.ok (.ref T.nx) (T.add (.lst ((Ą L h).map .int))):=by
 apply mZ;unfold E8;have l8:(U' L).length<=8:=by rw[oC];exact g.l8
 have c1:=xW (s:=T) (cap:=[Za (.str h),Za (av L)]) (e:=x1 (Ù (x2 (j' 2) (j' 0) Yb) (j' 1) (xC (.int 0))) ň) (λo=>-pc (pl L o) h) (U' L) (λo ho=>by
  have e1:Ù (x2 (j' 2) (j' 0) Yb) (j' 1) (xC (.int 0)) [Za (.str o),Za (.str h),Za (av L)] T=.ok (.int (pc (pl L o) h)) T:=by rw[Hs ((mM (mh rfl) (mh rfl)).trans (FV ho)) (mh rfl) rfl,LQ g]
  unfold x1;rw[e1];rfl)
 have cc:yG (Yw (j' 1)) [0,2] nI (x1 (Ù (x2 (j' 2) (j' 0) Yb) (j' 1) (xC (.int 0))) ň) [Za (.str h),Za (LS (U' L)),Za (av L),Zb] T=.ok (.ref T.nx) (T.add (.lst (((U' L).map λo=>-pc (pl L o) h).map PV.int))):=by unfold yG;rw[nO (l:=(U' L).map .str) (s1:=T) (mh rfl)];show(if((U' L).map PV.str).length<=100000 then _ else _)=_;rw[Zc (by rw[ac];lia)];show(n9 nI _ [Za (.str h),Za (av L)] _ T).bind _=_;rw[c1];rfl
 apply mI (mS cc);generalize hT:T.add (.lst (((U' L).map λo=>-pc (pl L o) h).map PV.int))=T1;have g1:T1.get T.nx=Za (.lst (((U' L).map λo=>-pc (pl L o) h).map PV.int)):=by rw[<-hT,ny,Zc rfl]
 obtain⟨i,hi⟩:∃i,(U' L).findIdx? (λz=>decide (z=h))=Za i:=by
  cases e:(U' L).findIdx? (λz=>decide (z=h)) with
  |some i=>exact⟨i,rfl⟩
  |none=>exact absurd (Zg rfl) (by rw[List.findIdx?_eq_none_iff] at e;rw[e h hh];decide)
 obtain⟨il,ie,_⟩:=i0.mp hi;have ie:(U' L)[i]=h:=Zf ie;have ix:AK (j' 1) (F' (j' 0) J') [Za (.str h),Za (LS (U' L)),Za (av L),Za (.ref T.nx)] T1=.ok (.int (i:Nat)) T1:=by unfold AK;rw[mh (i:=1) (v:=LS (U' L)) rfl,vm];have ca:F' (j' 0) J' [Za (.str h),Za (LS (U' L)),Za (av L),Za (.ref T.nx)] T1=.ok [.str h] T1:=mj (mh (i:=0) (v:=.str h) rfl) rfl;simp only[ca,vm,vR,hi];rw[Zc (by lia)]
 have sv:Fm (x2 (j' 2) (j' 0) Yb) [Za (.str h),Za (LS (U' L)),Za (av L),Za (.ref T.nx)] T1=.ok (.int (ZQ (pl L h):Nat)) T1:=by
  unfold Fm;have e2:(ĥ (own L h) λx=>PV.int (pc (pl L h) x)).map (λkv:Key×PV=>kv.2)=((own L h).map (pc (pl L h))).map PV.int:=by unfold ĥ;rw[aD,aD];rfl
  rw[(mM (mh (i:=2) (v:=av L) rfl) (mh (i:=0) (v:=.str h) rfl)).trans (FV hh),vm];show(match uf ((ĥ (own L h) λx=>PV.int (pc (pl L h) x)).map λkv:Key×PV=>kv.2) with
    |some is=>Out.ok (PV.int is.sum) T1
    |none=>.bad)=_
  rw[e2,vZ];simp[g.Às (Yf.mp hh)]
 refine mI (Yi:=[Za (.str h),Za (LS (U' L)),Za (av L),Za (.ref T.nx)]) (s':=T.add (.lst ((Ą L h).map .int))) ?_ (nW (mh rfl));show Je (j' 3) (AK (j' 1) (F' (j' 0) J')) (Fm (x2 (j' 2) (j' 0) Yb)) [Za (.str h),Za (LS (U' L)),Za (av L),Za (.ref T.nx)] T1=_;unfold Je;rw[mh (i:=3) (v:=.ref T.nx) rfl];simp[Out.so];rw[ix];simp only[Out.so,g1,Int.toNat_natCast];rw[Zc (by lia)];have gi:(((U' L).map λo=>-pc (pl L o) h).map PV.int)[i]?=Za (.int (-pc (pl L h) h)):=by rw[aF,aF,aA il,ie];rfl
 rw[gi];simp only[sv,g1];rw[Zc (by rw[ac,ac];exact il)];have row:(((U' L).map λo=>-pc (pl L o) h).map PV.int).set i (.int (-pc (pl L h) h+(ZQ (pl L h):Nat)))=(Ą L h).map .int:=by
  refine jb λj=>?_;rw[gG];unfold Ą;by_cases q:i=j
  .subst q;rw[Zc rfl,Zc (by rw[ac,ac];exact il),aF,aF,aA il,ie];show Za (PV.int (-pc (pl L h) h+(ZQ (pl L h):Nat)))=Za (PV.int ((if h=h then(ZQ (pl L h):Int) else 0)-pc (pl L h) h));rw[Zc rfl]
   congr 2
   lia
  .rw[Zd q,aF,aF,aF,aF];cases e:(U' L)[j]? with
   |none=>rfl
   |some o =>
    have:o≠h:=λz=>q ((List.getElem?_inj il g.Z8).mp (by rw[e,z,aA il,ie]));show Za (PV.int (-pc (pl L o) h))=Za (PV.int ((if o=h then(ZQ (pl L h):Int) else 0)-pc (pl L o) h));rw[Zd this]
    congr 2
    lia
 rw[row,<-hT,zq]
def K2(a)(g:Gd L N c)(hh:h∈U' L)(T):rM a [.str h,LS (U' L),av L] T=.ok (LI (Ą L h++Ÿ L h)) (T.add (.lst ((Ą L h).map .int))):=by
 have l8:(U' L).length<=8:=by rw[oC];exact g.l8
 apply mZ;generalize hT:T.add (.lst ((Ą L h).map .int))=T1;have g1:T1.get T.nx=Za (.lst ((Ą L h).map .int)):=by rw[<-hT,ny,Zc rfl]
 have ow:=Io a g hh T;rw[hT] at ow;have c1:=xW (e:=ę (YJ (x2 (j' 0) (j' 1) Ô)) (xC (.int 1)) (xC (.int 0))) (λo=>if o=h then 1 else 0) (U' L) (λo ho=>by
  have e1:YJ (x2 (j' 0) (j' 1) Ô) [Za (.str o),Za (.str h)] T1=.ok (decide (o=h)) T1:=oF ((mM (mh rfl) (mh rfl)).trans (LG (g.Ye ho) (g.Ye hh)));unfold ę;rw[e1];by_cases z:o=h
  .rw[Zg z];show Out.ok (PV.int 1) T1=Out.ok (PV.int (if o=h then 1 else 0)) T1;rw[Zc z]
  .rw[Zh z];show Out.ok (PV.int 0) T1=Out.ok (PV.int (if o=h then 1 else 0)) T1;rw[Zd z])
 change n9 _ _ _ _ _=.ok ((Ÿ L h).map .int) T1 at c1
 refine nW ((mM (mL (mj (mh rfl) (mj (mh rfl) (mj (mh rfl) rfl))) rfl ow) (o5 (nO (mh rfl)) (by rw[ac];lia) c1)).trans ?_);have lo:(Ą L h).length<=8:=by unfold Ą;rw[ac];exact l8
 have lu:(Ÿ L h).length<=8:=by unfold Ÿ;rw[ac];exact l8
 simp[YG,YB,g1]
 grind
end
end My
namespace El
def Zm.scale(h:Zm n 0 S)(q:Nat->Rat)(hq:∀j,j<n->0<q j)(e:∀i j,i<n->j<n->T i j=q j*S i j):Zm n 0 T:=by
 have gse:∀G j,j<n->gs n G T j=q j*gs n G S j:=λG j hj=>by
  unfold gs;rw[<-Â];refine Ym λi hi=>?_;split
  .exact e i j hi hj
  .grind
 refine⟨λi j _ hi _ hj RB=>?_,λG hG j hj Gj=>?_,λG hG hx=>?_⟩
 .rw[e i j hi hj];have:=h.off i j (aY _) hi (aY _) hj RB;have:=bH (b:=-S i j) (kX (hq j hj)) (by grind)
  grind
 .rw[gse G j hj];exact bH (kX (hq j hj)) (h.col G hG j hj Gj)
 .obtain⟨j,Gj,p⟩:=h.grp G hG hx;have hj:=(hG j Gj).2;exact⟨j,Gj,by rw[gse G j hj];exact iH (hq j hj) p⟩
def ϟ(z:Int):ab (z:Rat)=((z.natAbs:Nat):Rat):=by
 unfold ab;split
 .rename_i h;have:=fu.mp h;rw[<-Rat.intCast_neg,<-cR]
  congr 1
  lia
 .rename_i h;have:=λq=>h (fu.mpr q);rw[<-cR]
  grind
end El
namespace My
open PySem L2 Fra
def pV:List Nat->Nat
 |[]=>1
 |x::l=>x*pV l
theorem xN:∀l m:List Nat,pV (l++m)=pV l*pV m
 |[],m=>(Nat.one_mul _).symm
 |x::l,m=>by show x*pV (l++m)=x*pV l*pV m;rw[xN l m,Nat.mul_assoc]
def FJ(h:l.Perm m):pV l=pV m:=by
 induction h with
 |nil=>rfl
 |cons x _ ih=>show x*_=x*_;rw[ih]
 |swap x y l=>show y*(x*pV l)=x*(y*pV l);grind
 |trans _ _ a b=>exact a.trans b
theorem G9(f:Str->Nat):∀k,k<=U.length->El.pr (λi=>((f (Y1 U i):Nat):Rat)) k=((pV ((U.take k).map f):Nat):Rat)
 |0,_=>rfl
 |k+1,hk=>by show El.pr _ k*_=_;rw[G9 f k (by lia),d6,(oO (U:=U) (i:=k) (by lia)).1,aC,xN,jH];show _*((f (Y1 U k):Nat):Rat)=_*(((f (Y1 U k))*1:Nat):Rat);rw[Nat.mul_one]
theorem Cts.prod:∀{c:Nat}{L:List Ent},Cts c L->pV (L.map λe=>2*ZQ e.held)<=2^(97*c+2*L.length)
 |_,_,.nil=>Nat.one_le_two_pow
 |_,_,.cons (c1:=c1) (c2:=c2) (c:=c) (e:=e) (L:=L) ⟨hz,R⟩ r q=>by
  have ih:=r.prod;obtain⟨_,b,_⟩:=R.pieces;have b:ZQ e.held<2^(97*c1+1):=b;have h1:2*ZQ e.held<=2^(97*c1+2):=by
   grind
  apply aJ (Nat.mul_le_mul h1 ih);rw[<-lN];apply b8 (by decide);rw[bw];lia
section
variable{N:List Str}{L:List Ent}{c:Nat}
abbrev nY(L:List Ent):List (List Int):=(U' L).map λh=>Ą L h++Ÿ L h
def qn(L:List Ent)(j:Nat):Nat:=ZQ (pl L (Y1 (U' L) j))
def EV(hi:i<(U' L).length):(nY L)[i]?=Za (Ą L (Y1 (U' L) i)++Ÿ L (Y1 (U' L) i)):=by rw[aF,(oO hi).1];rfl
def GZ(hi:i<(U' L).length)(hj:j<(U' L).length):at2 (nY L) i j=(if Y1 (U' L) j=Y1 (U' L) i then(ZQ (pl L (Y1 (U' L) i)):Int) else 0)-pc (pl L (Y1 (U' L) j)) (Y1 (U' L) i):=by
 apply rD (EV hi);have hl:(Ą L (Y1 (U' L) i)).length=(U' L).length:=by unfold Ą;rw[ac]
 rw[de (by lia)];unfold Ą;rw[aF,(oO hj).1];rfl
def G5(hi:i<(U' L).length)(hj:j<(U' L).length):at2 (nY L) i ((U' L).length+j)=if Y1 (U' L) j=Y1 (U' L) i then 1 else 0:=by
 apply rD (EV hi);have hl:(Ą L (Y1 (U' L) i)).length=(U' L).length:=by unfold Ą;rw[ac]
 rw[cY (by lia),hl,kR];unfold Ÿ;rw[aF,(oO hj).1];rfl
def JK(hj:2*(U' L).length<=j):at2 (nY L) i j=0:=by
 unfold at2;rw[aF];cases e:(U' L)[i]? with
 |none=>rfl
 |some h =>
  show((Ą L h++Ÿ L h)[j]?).getD 0=0;rw[dX]
  .rfl
  .rw[aZ];unfold Ą Ÿ;rw[ac,ac];lia
def Gd.mul(g:Gd L N c)(hi:i<(U' L).length)(hj:j<(U' L).length):((at2 (nY L) i j:Int):Rat)=(qn L j:Rat)*mA L (U' L) i j:=by
 rw[GZ hi hj];obtain⟨e,k,hz,f,ep,o,R,kc,sv,_⟩:=g.held (Yf.mp (oO hj).2);have pv:=R.İ (Y1 (U' L) i);rw[<-sv] at pv;unfold mA qn;rw[jI,pv,cR];by_cases q:i=j
 .subst q;rw[Zc rfl,Zc rfl,cR]
  grind
 .rw[Zd q,Zd λz=>q (zC g.Z8 hj hi z).symm]
  grind
def Gd.ÀY(g:Gd L N c)(hj:j<(U' L).length):1<=qn L j:=by obtain⟨e,k,hz,f,ep,o,R,kc,sv,_⟩:=g.held (Yf.mp (oO hj).2);exact R.pieces.1
def Gd.zmr(g:Gd L N c)(ng:Ľ L):El.Zm (U' L).length 0 λi j=>((at2 (nY L) i j:Int):Rat) :=
 (g.zm ng g.Z8 λx hx=>Yf.mp hx).scale (λj=>(qn L j:Rat)) (λj hj=>by
  have:=g.ÀY hj;have h:((0:Nat):Rat)<((qn L j:Nat):Rat):=by exact fu.mpr (by lia)
  exact h) λi j hi hj=>g.mul hi hj
def bC(L:List Ent)(j:Nat):Nat:=if j<(U' L).length then 2*qn L j else 1
def Gd.Âj(g:Gd L N c)(hh:nv L h=true):mU ((U' L).map (shr L h))<=1:=by
 rw[uV g.Z8 (g.ond h) (λx _ z=>g.zero z),<-g.one hh];refine zh λx _=>?_;have:=g.nn h x;split
 .exact lC
 .exact this
def Gd.col(g:Gd L N c)(j):El.sm (λr=>El.ab ((at2 (nY L) r j:Int):Rat)) (U' L).length<=(bC L j:Rat):=by
 unfold bC;by_cases hj:j<(U' L).length
 .rw[Zc hj];have hh:=Yf.mp (oO hj).2;have q0:(0:Rat)<=(qn L j:Rat):=by
   grind
  have e:El.sm (λr=>El.ab ((at2 (nY L) r j:Int):Rat)) (U' L).length<=El.sm (λr=>(qn L j:Rat)*(1*(if r=j then 1 else 0)+1*shr L (Y1 (U' L) j) (Y1 (U' L) r))) (U' L).length:=El.Į λr hr=>by
   rw[g.mul hr hj,El.Ţ];have a1:El.ab (qn L j:Rat)=(qn L j:Rat):=by unfold El.ab;rw[Zd];grind
   rw[a1];refine dL ?_ q0;unfold mA;have:=g.nn (Y1 (U' L) j) (Y1 (U' L) r);unfold El.ab;split<;>grind
  apply cK e;rw[El.Â,El.ZU,El.ZA hj (λk _ hk=>Zd hk),Zc rfl,DP (λx=>shr L (Y1 (U' L) j) x)];have s1:=g.Âj hh;have:(((2*qn L j:Nat):Nat):Rat)=(qn L j:Rat)*2:=by rw[Nat.mul_comm,jH];rfl
  rw[this];refine dL ?_ q0
  grind
 .rw[Zd hj];by_cases h2:j<2*(U' L).length
  .obtain⟨k,rfl⟩:∃k,j=(U' L).length+k:=⟨j-(U' L).length,by lia⟩;have hk:k<(U' L).length:=by lia
   have e:El.sm (λr=>El.ab ((at2 (nY L) r ((U' L).length+k):Int):Rat)) (U' L).length=El.sm (λr=>if r=k then 1 else 0) (U' L).length:=El.Ym λr hr=>by
    rw[G5 hr hk];by_cases q:r=k
    .subst q;rw[Zc rfl,Zc rfl];rfl
    .rw[Zd q,Zd λz=>q (zC g.Z8 hk hr z).symm];rfl
   rw[e,El.ZA hk (λk _ hk=>Zd hk),Zc rfl];exact lC
  .rw[El.ĭ λr hr=>by rw[JK (by lia)];rfl];decide
def Gd.bC1(g:Gd L N c)(j):1<=bC L j:=by
 unfold bC;split
 .rename_i h;have:=g.ÀY h;lia
 .grind
def Gd.ÂQ(g:Gd L N c)(j):bC L j<=2^3980:=by
 unfold bC;split
 .rename_i h;obtain⟨e,k,hz,f,ep,o,R,kc,sv,_⟩:=g.held (Yf.mp (oO h).2);have b:ZQ (pl L (Y1 (U' L) j))<2^(97*k+1):=R.pieces.2.1;have c4:=g.c40;have:2^(97*k+1)<=2^3979:=b8 (Zf rfl) (by lia);unfold qn
  grind
 .exact Nat.one_le_two_pow
theorem Gd.prod(g:Gd L N c)(ht:t<=(U' L).length):El.pr (λj=>(bC L j:Rat)) t<=((2^3993:Nat):Rat):=by
 have e0:∀k,k<=(U' L).length->El.pr (λj=>(bC L j:Rat)) k=((pV (((U' L).take k).map λh=>2*ZQ (pl L h)):Nat):Rat):=λk hk=>by rw[<-G9 (λh=>2*ZQ (pl L h)) k hk];refine El.Ü λj hj=>?_;unfold bC qn;rw[Zc (by lia)]
 have XU:pV ((U' L).map λh=>2*ZQ (pl L h))<=2^3993:=by
  have p1:pV ((U' L).map λh=>2*ZQ (pl L h))=pV ((L.map (·.nm)).map λh=>2*ZQ (pl L h)):=FJ ((mJ _).map _);have p2:(L.map (·.nm)).map (λh=>2*ZQ (pl L h))=L.map λe=>2*ZQ e.held:=by
   rw[aD];refine aW λe he=>?_;show 2*ZQ (pl L e.nm)=_;obtain⟨A,B,rfl⟩:=List.append_of_mem he;have hn:e.nm∉A.map (·.nm):=λz=>by
    have:=g.nd
    grind
   unfold pl;rw[wT hn]
  rw[p1,p2];refine aJ g.ct.prod (b8 (Zf rfl) ?_);have:=g.c40;have:=g.l8;lia
 rw[e0 t ht];refine dM.mpr (aJ ?_ XU);have sp:pV ((U' L).map λh=>2*ZQ (pl L h))=pV (((U' L).take t).map λh=>2*ZQ (pl L h))*pV (((U' L).drop t).map λh=>2*ZQ (pl L h)):=by rw[<-xN,<-aC,lf]
 rw[sp];apply Nat.le_mul_of_pos_right _;have pos:∀l:List Str,(∀h∈l,h∈U' L)->0<pV (l.map λh=>2*ZQ (pl L h)):=λl=>by
  induction l with
  |nil=>exact λ_=>Nat.one_pos
  |cons h l ih =>
   intro hl;obtain⟨e,k,hz,f,ep,o,R,kc,sv,_⟩:=g.held (Yf.mp (hl h al));have p:=R.pieces.1;have i:=ih λy hy=>hl y (ah _ hy);exact lO (lO (Zf rfl) p) i
 exact pos _ λh hh=>ly hh
def MT:(Ą L h++Ÿ L h).length=2*(U' L).length:=by rw[aZ];unfold Ą Ÿ;rw[ac,ac];lia
def Gd.bm(g:Gd L N c)(ng:Ľ L):=LZ (rows:=nY L) (n:=(U' L).length) (w:=2*(U' L).length) (by rw[ac]) (λrow hr=>by obtain⟨h,_,rfl⟩:=aq.mp hr;exact MT) (by lia) (g.zmr ng)
def Gd.big(g:Gd L N c)(ng:Ľ L)(ht:t<=(U' L).length)(hi:i<(U' L).length)(hj:j<2*(U' L).length):Bt 7980 (at2 (ZK (nY L) t).2 i j):=by
 obtain⟨h1,h2,h3,h4⟩:=g.bm ng t ht;obtain⟨⟨X,C⟩,dp,_⟩:=El.run (g.zmr ng) t ht;have le:=C.le ht (λj=>by have:=dM.mpr (g.bC1 j);exact this) (λj=>g.col j) hi j
 rw[<-h4 i j hi hj,El.ϟ] at le;have nn:(0:Rat)<=(bC L j:Rat):=by
  grind
 have p1:=g.prod ht;have p2:=dM.mpr (g.ÂQ j);have p0:(0:Rat)<=((2^3993:Nat):Rat):=by
  grind
 have W0:El.pr (λj=>(bC L j:Rat)) t*(bC L j:Rat)<=((2^3993:Nat):Rat)*((2^3980:Nat):Rat):=by have a1:=dL p1 nn;have a2:=dL p2 p0;refine cK ?_ a2;rw[jd,jd (((2^3993:Nat):Rat))];exact a1
 have Vd:=cK le W0;rw[<-jH] at Vd;have Vd:=dM.mp Vd;unfold Bt
 grind
def Gd.rows(g:Gd L N c)(ng:Ľ L):∀t,t<=(U' L).length->Rows (U' L).length (2*(U' L).length) (ZK (nY L) t):=by
 intro t ht;obtain⟨h1,h2,h3,h4⟩:=g.bm ng t ht;obtain⟨⟨X,C⟩,dp,_⟩:=El.run (g.zmr ng) t ht;refine⟨h1,h2,λrow hr x hx=>?_,?_,?_⟩
 .obtain⟨i,hi⟩:=bZ.mp hr;obtain⟨j,hj⟩:=bZ.mp hx;have il:=(aR.mp hi).1;have jl:=(aR.mp hj).1;rw[h2 row hr] at jl;rw[h1] at il;rw[<-rD hi hj];exact(g.big ng ht il jl).mono (Zf rfl)
 .rw[<-h3] at dp;exact fu.mp dp
 .cases t with
  |zero=>exact bt1 (Zf rfl)
  |succ t=>exact(g.big ng (by lia) (by lia) (by lia)).mono (Zf rfl)
def Gd.dle(g:Gd L N c)(ng:Ľ L):Bt 3994 (ZK (nY L) (U' L).length).1:=by obtain⟨h1,h2,h3,h4⟩:=g.bm ng (U' L).length (ak _);obtain⟨⟨X,C⟩,dp,_⟩:=El.run (g.zmr ng) (U' L).length (ak _);have le:=El.ű (U' L).length λi j=>((at2 (nY L) i j:Int):Rat);rw[<-C.dt,<-h3,El.ϟ] at le;have W0:=cK le (cK (El.Û λj _=>⟨El.Ň (λ_=>El.Í _) _,g.col j⟩) (g.prod (ak _)));have Vd:=dM.mp W0;exact aX Vd (lM (Zf rfl) (Zf rfl))
def õ(L:List Ent)(h:Str):Nat:=(U' L).idxOf h
def wB(hh:h∈U' L):õ L h<(U' L).length:=List.idxOf_lt_length_iff.mpr hh
def xl(hh:h∈U' L):Y1 (U' L) (õ L h)=h:=by have e:=(oO (wB hh)).1;rw[aA (wB hh)] at e;exact(bL e).symm.trans (List.getElem_idxOf _)
def zN(g:Gd L N c)(hi:i<(U' L).length):õ L (Y1 (U' L) i)=i:=zC g.Z8 (wB (oO hi).2) hi (xl (oO hi).2)
structure Ĩ(L:List Ent)(d:Int)(z:Str->Str->Int):Prop where
 d0:0<d
 db:Bt 9000 d
 dd:Bt 3994 d
 zb:∀l∈U' L,∀k∈U' L,Bt 7980 (z l k)
 eq:∀h∈U' L,∀k∈U' L,((ZQ (pl L h):Nat):Rat)*((z h k:Int):Rat)=(if h=k then(d:Rat) else 0)+mU ((U' L).map λl=>((pc (pl L l) h:Int):Rat)*((z l k:Int):Rat))
def Gd.solve(g:Gd L N c)(ng:Ľ L)(a):∃d z,Ĩ L d z/\∀s,wY a [LL (nY L)] s=.ok (.tup [LL ((U' L).map λl=>(U' L).map λk=>z l k),.int d]) s:=by
 have R:=g.rows ng;have l8:(U' L).length<=8:=by rw[oC];exact g.l8
 obtain⟨h1,h2,h3,h4⟩:=g.bm ng (U' L).length (ak _);obtain⟨⟨X,C⟩,dp,_⟩:=El.run (g.zmr ng) (U' L).length (ak _);have RN:=R (U' L).length (ak _);refine⟨(ZK (nY L) (U' L).length).1,λl k=>at2 (ZK (nY L) (U' L).length).2 (õ L l) ((U' L).length+õ L k),⟨RN.d.1,RN.d.2,g.dle ng,λl hl k hk=>g.big ng (ak _) (wB hl) (by have:=wB hk;lia),λh hh k hk=>?_⟩,λs=>?_⟩
 .have ih:=wB hh;have ik:=wB hk;have so:=C.so _ ih ((U' L).length+õ L k);have up:∀l,l<(U' L).length->((at2 (ZK (nY L) (U' L).length).2 l ((U' L).length+õ L k):Int):Rat)=(((ZK (nY L) (U' L).length).1:Int):Rat)*X l ((U' L).length+õ L k):=λl hl=>by rw[h4 l _ hl (by lia),C.up l hl,h3]
  generalize (ZK (nY L) (U' L).length).1=d at *;have rhs:((at2 (nY L) (õ L h) ((U' L).length+õ L k):Int):Rat)=if h=k then 1 else 0:=by
   rw[G5 ih ik,xl hh,xl hk];by_cases q:h=k
   .rw[Zc q,Zc q.symm];rfl
   .rw[Zd q,Zd λz=>q z.symm];rfl
  rw[rhs] at so;have e1:El.sm (λl=>((at2 (ZK (nY L) (U' L).length).2 l ((U' L).length+õ L k):Int):Rat)*((at2 (nY L) (õ L h) l:Int):Rat)) (U' L).length=(d:Rat)*if h=k then 1 else 0:=by
   rw[<-so,<-El.Â];refine El.Ym λl hl=>?_;rw[up l hl]
   grind
  have e2:El.sm (λl=>((at2 (ZK (nY L) (U' L).length).2 l ((U' L).length+õ L k):Int):Rat)*((at2 (nY L) (õ L h) l:Int):Rat)) (U' L).length=El.sm (λl=>1*(if l=õ L h then((ZQ (pl L h):Nat):Rat)*((at2 (ZK (nY L) (U' L).length).2 l ((U' L).length+õ L k):Int):Rat) else 0)+(-1)*(λy=>((pc (pl L y) h:Int):Rat)*((at2 (ZK (nY L) (U' L).length).2 (õ L y) ((U' L).length+õ L k):Int):Rat)) (Y1 (U' L) l)) (U' L).length:=El.Ym λl hl=>by
   rw[GZ ih hl,xl hh];simp only[zN g hl];by_cases q:l=õ L h
   .subst q;rw[Zc rfl,xl hh,Zc rfl,jI,cR]
    grind
   .rw[Zd q,Zd λz=>q (by rw[<-z,zN g hl])];have:((0-pc (pl L (Y1 (U' L) l)) h:Int):Rat)=-((pc (pl L (Y1 (U' L) l)) h:Int):Rat):=by rw[<-Rat.intCast_neg];congr 1;lia
    rw[this]
    grind
  rw[e2,El.ZU,El.ZA ih (λk _ hk=>Zd hk),Zc rfl,DP (λy=>((pc (pl L y) h:Int):Rat)*((at2 (ZK (nY L) (U' L).length).2 (õ L y) ((U' L).length+õ L k):Int):Rat))] at e1;have:(d:Rat)*(if h=k then 1 else 0)=if h=k then(d:Rat) else 0:=by split<;>grind
  rw[this] at e1
  grind
 .rw[HX a s (n:=(U' L).length) (w:=2*(U' L).length) (by lia) (by lia) (by lia) R]
  congr 4
  have row:∀i,i<(U' L).length->((ZK (nY L) (U' L).length).2[i]?).map (·.drop (U' L).length)=Za ((U' L).map λk=>at2 (ZK (nY L) (U' L).length).2 i ((U' L).length+õ L k)):=λi hi=>by
   have e:(ZK (nY L) (U' L).length).2[i]?=Za ((ZK (nY L) (U' L).length).2[i]'(by lia)):=aA (by lia);have rl:=h2 _ (cU (show i<(ZK (nY L) (U' L).length).2.length by lia));generalize (ZK (nY L) (U' L).length).2[i]'(by lia)=row at e rl;rw[e];show Za (row.drop (U' L).length)=_
   congr 1
   refine jb λj=>?_;rw[List.getElem?_drop,aF];by_cases hj:j<(U' L).length
   .rw[(oO hj).1];obtain⟨x,hx⟩:∃x,row[(U' L).length+j]?=Za x:=⟨_,aA (by lia)⟩;rw[hx];show Za x=Za (at2 _ i ((U' L).length+õ L (Y1 (U' L) j)));rw[zN g hj,rD e hx]
   .rw[dX (by lia),dX (by lia)];rfl
  refine jb λi=>?_;rw[aF,aF];by_cases hi:i<(U' L).length
  .rw[row i hi,(oO hi).1];show Za _=Za ((U' L).map λk=>at2 _ (õ L (Y1 (U' L) i)) _);rw[zN g hi]
  .rw[dX (by lia),dX (by lia)];rfl
end
section
variable{κ:Type}[DecidableEq κ]
def EF(l)(k k':κ)(p):uq (Dr l k p) k'=if k'=k then Za p else uq l k':=by
 have vc:∀kv (l:List (κ×PV)),uq (kv::l) k'=if kv.1=k' then Za kv.2 else uq l k':=λkv l=>by
  unfold uq
  grind
 unfold Dr;by_cases an:(l.any λkv=>decide (kv.1=k))=true
 .rw[Zc an];induction l with
  |nil=>cases an
  |cons kv l ih =>
   rw[am,vc,vc];by_cases e:kv.1=k
   .rw[Zc e];by_cases q:k'=k
    .simp_all
    .rw[Zd (show ¬kv.1=k' by rw[e];grind),Zd q,Zd (show ¬kv.1=k' by rw[e];grind)];by_cases an2:(l.any λkv=>decide (kv.1=k))=true
     .rw[ih an2,Zd q]
     .have:l.map (λkv=>if kv.1=k then(kv.1,p) else kv)=l:=by
       conv=>rhs;rw[<-iF l]
       refine aW λx hx=>?_
       grind
      rw[this]
   .grind
 .rw[Zd an];induction l with
  |nil =>
   grind
  |cons kv l ih =>
   grind
def JO(l)(k:κ)(p):(Dr l k p).length<=l.length+1:=by
 unfold Dr;split
 .simp_all
 .simp_all
end
theorem GP(f g:α->PV):∀l:List α,vx (l.map f) (l.map g)=l.map λx=>.tup [f x,g x]
 |[]=>rfl
 |x::l=>by rw[am,am,am];show PV.tup [f x,g x]::vx (l.map f) (l.map g)=_;rw[GP f g l]
def tp(L:List Ent)(d:Int)(z:Str->Str->Int)(x h:Str):Int:=(if x=h then d else 0)+((U' L).map λl=>pc (pl L l) x*z l h).sum
abbrev zL(L:List Ent)(z:Str->Str->Int):PV:=LL ((U' L).map λl=>(U' L).map λk=>z l k)
section
variable{T:N'}{nb k j:Nat}{pp N X:List Str}{L:List Ent}{c:Nat}{d:Int}{z:Str->Str->Int}
def wE(L:List Ent)(d:Int)(z:Str->Str->Int)(k nb:Nat)(u5 u6 u7 u8 u9 Ro:Option PV):En:=[Za (.ref k),Za (.ref nb),Za (LS (U' L)),Za (av L),Za (.tup [zL L z,.int d]),u5,u6,u7,u8,u9,Ro]
def Gd.pcb(g:Gd L N c)(hh:h∈U' L)(x):Bt 12000 (pc (pl L h) x):=by obtain⟨e,k,hz,f,ep,o,R,kc,sv,_⟩:=g.held (Yf.mp hh);have:=((R.fr x).top).mul ((R.pieces.2.1).div (d:=(mO (pl L h) x).2));have c4:=g.c40;exact this.mono (by lia)
theorem GT(a)(g:Gd L N c)(S:Ĩ L d z)(hi:(U' L)[i]?=Za h)(s):∀(ns:List Str)(t:Int)(u9 Ro:Option PV),(∀l∈ns,l∈U' L)->∃v9 SS,nZ (nr (Zr 2 (Yj (X9 9) (Yj (X9 10) Zs))) (o7 a)) (ns.map λl=>.tup [.str l,LI ((U' L).map λk=>z l k)]) (wE L d z k nb (Za (.int (i:Nat))) (Za (.str h)) (Za (.str x)) (Za (.int t)) u9 Ro) s=.nx (wE L d z k nb (Za (.int (i:Nat))) (Za (.str h)) (Za (.str x)) (Za (.int (t+(ns.map λl=>pc (pl L l) x*z l h).sum))) v9 SS) s
 |[],t,u9,Ro,_=>⟨u9,Ro,by rw[cT,cT,List.sum_nil,Int.add_zero];rfl⟩
 |l::ns,t,u9,Ro,hn=>by
  have hl:=hn l al;have hh:=dq hi;obtain⟨v9,SS,e⟩:=GT a g S hi s ns (t+pc (pl L l) x*z l h) (Za (.str l)) (Za (LI ((U' L).map λk=>z l k))) λy hy=>hn y (ah _ hy);refine⟨v9,SS,?_⟩;rw[am,am,fT,<-Int.add_assoc];unfold nZ;have bd:nr (Zr 2 (Yj (X9 9) (Yj (X9 10) Zs))) (o7 a) (.tup [.str l,LI ((U' L).map λk=>z l k)]) (wE L d z k nb (Za (.int i)) (Za (.str h)) (Za (.str x)) (Za (.int t)) u9 Ro) s=.nx (wE L d z k nb (Za (.int i)) (Za (.str h)) (Za (.str x)) (Za (.int (t+pc (pl L l) x*z l h))) (Za (.str l)) (Za (LI ((U' L).map λk=>z l k)))) s:=by
   show o7 a (wE L d z k nb (Za (.int i)) (Za (.str h)) (Za (.str x)) (Za (.int t)) (Za (.str l)) (Za (LI ((U' L).map λk=>z l k)))) s=_;unfold o7;have e1:Ù (x2 (j' 3) (j' 9) Yb) (j' 7) (xC (.int 0)) (wE L d z k nb (Za (.int i)) (Za (.str h)) (Za (.str x)) (Za (.int t)) (Za (.str l)) (Za (LI ((U' L).map λk=>z l k)))) s=.ok (.int (pc (pl L l) x)) s:=by rw[Hs ((mM (mh rfl) (mh rfl)).trans (FV hl)) (mh rfl) rfl,LQ g]
   have e2:=pI e1 ((mM (mh (i:=10) rfl) (mh (i:=5) rfl)).trans (DZ (by rw[aF,hi];rfl))) (.inl ⟨(g.pcb hl x).mono (Zf rfl),(S.zb l hl h hh).mono (Zf rfl)⟩);unfold OC;rw[e2];rfl
  rw[bd];exact e
structure Wob(a:Yg)(T:N')(k j:Nat)(L:List Ent)(X:List Str)(d:Int)(z:Str->Str->Int):Prop where
 ob:T.get k=Za (.obj a.Yx [("bottom",.int d),("top_of",.ref j)])
 dc:∃D,T.get j=Za (.Z7 D)/\∀x∈X,∀h∈U' L,uq D [ap x,ap h]=Za (.int (tp L d z x h))
def D3(h:f Z s=.ok (.ref n) s1)(hg:s1.get n=Za (.obj C fs))(hv:uq fs nm=Za p):Fs C nm f Z s=.ok p s1:=by unfold Fs;rw[h];simp[Out.bind,hg,if_true,hv]
def MZ(h1:v Z s=.ok q s)(h2:f Z s=.ok (.ref n) s)(h3:fa Z s=.ok vs s)(hg:s.get n=Za (.Z7 l))(hk:BM vs=Za ks)(hv:vs.length<=100000)(hl:l.length<100000):Jd f fa v Z s=.nx Z (s.set n (.Z7 (Dr l ks q))):=by
 unfold Jd;simp[Out.so]
 simp_all
def MC(a:Yg)(g:Gd L N c)(S:Ĩ L d z){h x:Str}{i j:Nat}(hi:(U' L)[i]?=Za h)(hx:bA x=true){s:N'}{D:List (List Key×PV)}(ob:s.get k=Za (.obj a.Yx [("bottom",.int d),("top_of",.ref j)]))(hd:s.get j=Za (.Z7 D))(hl:D.length<100000)(u7 u8 u9 Ro:Option PV) :
  ∃v8 v9 SS,nr (X9 7) (o6 a) (.str x) (wE L d z k nb (Za (.int (i:Nat))) (Za (.str h)) u7 u8 u9 Ro) s=.nx (wE L d z k nb (Za (.int (i:Nat))) (Za (.str h)) (Za (.str x)) v8 v9 SS) (s.set j (.Z7 (Dr D [ap x,ap h] (.int (tp L d z x h))))):=by
 have hh:=dq hi;obtain⟨v9,SS,e⟩:=GT a g S hi s (U' L) (if x=h then d else 0) u9 Ro λ_ z=>z;refine⟨Za (.int (tp L d z x h)),v9,SS,(pO).trans ?_⟩;show o6 a (wE L d z k nb (Za (.int i)) (Za (.str h)) (Za (.str x)) u8 u9 Ro) s=_;refine mI (mS (v:=.int (if x=h then d else 0)) (s':=s) ?_) ?_
 .have e1:YJ (x2 (j' 7) (j' 6) Ô) (wE L d z k nb (Za (.int i)) (Za (.str h)) (Za (.str x)) u8 u9 Ro) s=.ok (decide (x=h)) s:=oF ((mM (mh rfl) (mh rfl)).trans (LG hx (g.Ye hh)));unfold ę;rw[e1,vm];by_cases q:x=h
  .rw[Zg q,Zc q,Zc rfl];exact D3 (mh rfl) ob rfl
  .rw[Zh q,Zd q,Zd (Zf rfl)];rfl
 .refine mI (rY ?_ e) ?_
  .unfold K3;show Out.ok (vx ((U' L).map .str) (((U' L).map λl=>(U' L).map λk=>z l k).map LI)) s=_;rw[aD,GP];rfl
  .apply(MZ (mh rfl) (D3 (mh rfl) ob rfl) (mj (mh rfl) (mj (mh rfl) rfl)) hd rfl (fI rfl) hl).trans;rfl
theorem GS(a)(g:Gd L N c)(S:Ĩ L d z){i j}(hi:(U' L)[i]?=Za h)(UR:k≠j):∀(xs:List Str)(s:N')(D:List (List Key×PV))(u7 u8 u9 Ro:Option PV),(∀x∈xs,bA x=true)->s.get k=Za (.obj a.Yx [("bottom",.int d),("top_of",.ref j)])->s.get j=Za (.Z7 D)->D.length+xs.length<100000 ->
  ∃D' v7 v8 v9 SS,nZ (nr (X9 7) (o6 a)) (xs.map .str) (wE L d z k nb (Za (.int (i:Nat))) (Za (.str h)) u7 u8 u9 Ro) s=.nx (wE L d z k nb (Za (.int (i:Nat))) (Za (.str h)) v7 v8 v9 SS) (s.set j (.Z7 D'))/\D'.length<=D.length+xs.length/\(∀x∈xs,uq D' [ap x,ap h]=Za (.int (tp L d z x h)))/\∀x h',uq D [ap x,ap h']=Za (.int (tp L d z x h'))->uq D' [ap x,ap h']=Za (.int (tp L d z x h'))
 |[],s,D,u7,u8,u9,Ro,_,_,hd,_=>⟨D,u7,u8,u9,Ro,by
   rw[An _ _ _ hd];rfl,ak _,(λ_ z=>nomatch z),λ_ _ h=>h⟩
 |x::xs,s,D,u7,u8,u9,Ro,hx,ob,hd,hl=>by
  rw[bw] at hl;obtain⟨v8,v9,SS,e1⟩:=MC a g S hi (hx x al) ob hd (by lia) u7 u8 u9 Ro;have len:=JO D [ap x,ap h] (.int (tp L d z x h));obtain⟨D',w7,w8,w9,w10,e2,l2,a2,k2⟩:=GS a g S hi UR xs (s.set j (.Z7 (Dr D [ap x,ap h] (.int (tp L d z x h))))) _ (Za (.str x)) v8 v9 SS (λy hy=>hx y (ah _ hy)) (by rw[mF _ _ UR];exact ob) (nQ hd) (by lia);have old:∀y h',uq D [ap y,ap h']=Za (.int (tp L d z y h'))->uq (Dr D [ap x,ap h] (.int (tp L d z x h))) [ap y,ap h']=Za (.int (tp L d z y h')):=λy h' hy=>by
   rw[EF]
   grind
  refine⟨D',w7,w8,w9,w10,?_,by rw[bw];lia,λy hy=>?_,λy h' hy=>k2 y h' (old y h' hy)⟩
  .rw[am];unfold nZ;rw[e1];show nZ (nr (X9 7) (o6 a)) (xs.map .str) _ _=_;rw[e2,sj]
  .obtain q|hy:=ao.mp hy
   .rw[q];exact k2 x h (by rw[EF,Zc rfl])
   .exact a2 y hy
def GY(h1:v Z s=.ok p s1)(h2:f Z s1=.ok (.ref n) s1)(hg:s1.get n=Za (.obj C fs))(hl:fs.length<1000):Fo C nm f v Z s=.nx Z (s1.set n (.obj C (BL nm p fs))):=by
 unfold Fo;simp[Out.so]
 simp_all
structure Pp(pp N:List Str):Prop where
 sub:∀x∈pp,x∈N
 le:pp.length<=64
def MB(a)(g:Gd L N c)(ng:Ľ L)(P:Pp pp N)(hb:T.get nb=Za (.book pp L))(SZ:nb<T.nx)(hk:T.get k=Za (.obj a.Yx []))(hkT:k<T.nx)(hkb:nb≠k) :
  ∃d z j T',Ĩ L d z/\qC a [.ref k,.ref nb] T=.ok .Yh T'/\Wob a T' k j L (Yu pp++U' L) d z/\T.nx<=T'.nx/\T.nx<=j/\∀i,i<T.nx->i≠k->T'.get i=T.get i:=by
 obtain⟨d,z,S,es⟩:=g.solve ng a;have l8:(U' L).length<=8:=by rw[oC];exact g.l8
 have hso:om a [.ref nb] T=.ok (LS (U' L)) T:=by unfold om oy;simp only[hb]
 obtain⟨s1,c1,G1⟩:=Cz (T:=T) (cap:=[Za (LS (U' L)),Za (av L)]) (e:=V' 3 (rM a) (F' (j' 0) (F' (j' 1) (F' (j' 2) J')))) (λq=>match q with|.str h=>LI (Ą L h++Ÿ L h)|q=>q) ((U' L).map .str) (λq hq s gs=>by obtain⟨h,hh,rfl⟩:=aq.mp hq;exact⟨_,mL (mj (mh rfl) (mj (mh rfl) (mj (mh rfl) rfl))) rfl (K2 a g hh s),gs.trans (Gr.add _ _)⟩) T (Gr.refl T)
 have e1:(((U' L).map PV.str).map λq=>match q with|.str h=>LI (Ą L h++Ÿ L h)|q=>q)=(nY L).map LI:=by rw[aD,aD];rfl
 rw[e1] at c1;have ob1:s1.get k=Za (.obj a.Yx []):=(G1.fr k hkT).trans hk;have n1:=G1.nx;generalize Ui:s1.set k (.obj a.Yx (BL "bottom" (.int d) []))=s2;have R1:s2.nx=s1.nx:=by rw[<-Ui];rfl
 have ob2:s2.get k=Za (.obj a.Yx [("bottom",.int d)]):=by rw[<-Ui];exact nQ ob1
 have fr2:∀i,i<T.nx->i≠k->s2.get i=T.get i:=λi h1 h2=>by rw[<-Ui,mF _ _ h2];exact G1.fr i h1
 generalize hs3:(s2.add (.Z7 [])).set k (.obj a.Yx (BL "top_of" (.ref s2.nx) [("bottom",.int d)]))=s3;have gk:(s2.add (.Z7 [])).get k=Za (.obj a.Yx [("bottom",.int d)]):=by rw[ny,Zd (by lia)];exact ob2
 have ob3:s3.get k=Za (.obj a.Yx [("bottom",.int d),("top_of",.ref s2.nx)]):=by rw[<-hs3];exact nQ gk
 have XZ:s3.get s2.nx=Za (.Z7 []):=by rw[<-hs3,mF _ _ (by lia),ny,Zc rfl]
 have nx3:s3.nx=s2.nx+1:=by rw[<-hs3];rfl
 have VN:∀i,i<T.nx->i≠k->s3.get i=T.get i:=λi h1 h2=>by rw[<-hs3,mF _ _ h2,ny,Zd (by lia)];exact fr2 i h1 h2
 have UR:k≠s2.nx:=by lia
 have hX:∀x∈Yu pp++U' L,bA x=true:=λx hx=>by
  obtain hx|hx:=ba.mp hx
  .exact wO (g.ho.sm x (P.sub x ((mJ _).mem_iff.mp hx)))
  .exact g.Ye hx
 have lX:(Yu pp++U' L).length<=72:=by rw[aZ,(mJ _).length_eq];have:=P.le;lia
 obtain⟨ρ4,s4,lp,D4,u5,u6,u7,u8,u9,Ro,rfl,rfl,l4,v4⟩:=Hj (body:=nr (Zr 2 (Yj (X9 5) (Yj (X9 6) Zs))) (qj a)) (sJ 0 ((U' L).map .str))
  (λi Z s=>∃D u5 u6 u7 u8 u9 Ro,Z=wE L d z k nb u5 u6 u7 u8 u9 Ro/\s=s3.set s2.nx (.Z7 D)/\D.length<=72*i/\∀x∈Yu pp++U' L,∀i',i'<i->∀h,(U' L)[i']?=Za h->uq D [ap x,ap h]=Za (.int (tp L d z x h)))
  (λi q Z s hq hI=>by
   obtain⟨D,u5,u6,u7,u8,u9,Ro,rfl,rfl,lD,vD⟩:=hI;rw[xV,aF,fA] at hq;obtain⟨h,hi⟩:∃h,(U' L)[i]?=Za h:=by
    cases e:(U' L)[i]? with
    |none=>rw[e] at hq;cases hq
    |some h=>exact⟨h,rfl⟩
   rw[hi] at hq;cases hq;have il:i<(U' L).length:=(aR.mp hi).1;have obk:(s3.set s2.nx (.Z7 D)).get k=Za (.obj a.Yx [("bottom",.int d),("top_of",.ref s2.nx)]):=by rw[mF _ _ UR];exact ob3
   obtain⟨D',v7,v8,v9,SS,e,lD',a1,a2⟩:=GS (k:=k) (nb:=nb) a g S hi UR (Yu pp++U' L) (s3.set s2.nx (.Z7 D)) D u7 u8 u9 Ro hX obk (nQ XZ) (by lia);refine⟨_,_,?_,D',Za (.int (i:Nat)),Za (.str h),v7,v8,v9,SS,rfl,rfl,by lia,λx hx i' Vw h' Us=>?_⟩
   .show qj a (wE L d z k nb (Za (.int (i:Nat))) (Za (.str h)) u7 u8 u9 Ro) (s3.set s2.nx (.Z7 D))=_;unfold qj;rw[sj] at e;have bk:(s3.set s2.nx (.Z7 D)).get nb=Za (.book pp L):=by rw[mF _ _ (by lia)];exact(VN nb SZ hkb).trans hb
    refine rY (l:=(Yu pp++U' L).map .str) (s1:=s3.set s2.nx (.Z7 D)) (nO ((mM ((ul (vs:=[]) (s2:=s3.set s2.nx (.Z7 D)) (mh rfl) bk rfl rfl).trans (show pP a [.ref nb] (s3.set s2.nx (.Z7 D))=.ok (LS (Yu pp)) (s3.set s2.nx (.Z7 D)) by unfold pP oy;simp only[bk])) (mh rfl)).trans ?_)) e;simp only[YG,YB];rw[Zc (by rw[ac,ac,<-aZ];lia),<-aC]
   .by_cases q:i'=i
    .subst q;rw[hi] at Us;cases Us;exact a1 x hx
    .exact a2 x h' (vD x hx i' (by lia) h' Us)) (Z:=wE L d z k nb Zb Zb Zb Zb Zb Zb) (s:=s3.set s2.nx (.Z7 [])) ⟨[],Zb,Zb,Zb,Zb,Zb,Zb,rfl,rfl,aY _,λ_ _ _ h=>absurd h (by lia)⟩
 rw[An _ _ _ XZ] at lp;refine⟨d,z,s2.nx,s3.set s2.nx (.Z7 D4),S,Ay (Z:=wE L d z k nb u5 u6 u7 u8 u9 Ro) ?_,⟨by rw[mF _ _ UR];exact ob3,D4,nQ XZ,λx hx h hh=>?_⟩,by show T.nx<=s3.nx;lia,by lia,λi h1 h2=>?_⟩
 .unfold ym;refine mI (BP (mL (mj (mh rfl) rfl) rfl (Ny a g.ho (by have:=g.l8;lia) ng hb))) ?_;apply mI (mS ((ul (vs:=[]) (s2:=T) (mh rfl) hb rfl rfl).trans hso));apply mI (mS (mL (mj (mh rfl) rfl) rfl (Gg a g hb)));refine mI (mS (mL (mj (o5 (l:=(U' L).map .str) (s1:=T) (nO (mh rfl)) (by rw[ac];lia) c1) rfl) rfl (es s1))) ?_;apply mI (s':=s2) ((GY (s1:=s1) (p:=.int d) ((mM (mh (v:=.tup [zL L z,.int d]) rfl) rfl).trans rfl) (mh rfl) ob1 (by decide)).trans (by rw[Ui]));apply mI (s':=s3) ((GY (s1:=s2.add (.Z7 [])) (p:=.ref s2.nx) rfl (mh rfl) gk (Nat.lt_of_sub_eq_succ rfl)).trans (by rw[hs3]));refine rY (l:=sJ 0 ((U' L).map .str)) (s1:=s3) ?_ lp;unfold wI;rw[mj (mh (i:=2) (v:=LS (U' L)) rfl) rfl];rfl
 .obtain⟨i,hi⟩:=bZ.mp hh;refine v4 x hx i ?_ h hi;rw[sN,ac];exact(aR.mp hi).1
 .rw[mF _ _ (by lia)];exact VN i h1 h2
def Y4(q:Rat):PV:=Zx (q.num,(q.den:Int))
def NB(q:Rat):æ (q.num,(q.den:Int)):=⟨by have:=q.den_pos;lia,by exact q.reduced⟩
def zw(hb:0<b):red (t,b)=((aN t b).num,((aN t b).den:Int)):=by
 obtain⟨l,e⟩:=t7 (q:=(t,b)) hb;apply zI l (NB _);have h:=gA (aN t b);have d0:=(aN t b).den_pos;have h:=(kC (by lia) (by lia)).mp h;apply eA (a:=b) (by lia)
 grind
def ID(a)(s)(hb:0<b)(bb:Bt 9000 b):wZ a [.int t,.int b] s=.ok (Y4 (aN t b)) s:=by apply mZ;have gp:0<aH t b:=bx _ (by lia);have gb:Bt 9000 ((aH t b:Nat):Int):=bb.dvd (by lia) (cm ..);refine mI (mS (mL (mj (mh rfl) (mj (mh rfl) rfl)) rfl (Zc hb))) ?_;apply(nW (qZ (mj (BD (mh rfl) (mh rfl) ⟨by lia,gb⟩) (mj (BD (mh rfl) (mh rfl) ⟨by lia,gb⟩) rfl)))).trans;unfold Y4;rw[<-zw hb];rfl
def oZ(L:List Ent)(h:Str):Int:=match n8 L h with
 |some e=>e.th
 |none=>0
def thV(L:List Ent):PV:=.Yl (ĥ (U' L) λh=>.int (oZ L h))
def vE(a)(g:Gd L N c)(hb:T.get nb=Za (.book pp L)):qP a [.ref nb] T=.ok (thV L) T:=by
 apply mZ;have c1:=rc (cap:=[Za (.ref nb)]) (e:=Y7 (F' (j' 0) (F' (x2 (ý 2 (L5 a) (j' 1) (F' (j' 0) J')) (xC (.int 0)) Yb) J'))) (λh=>.tup [.str h,.int (oZ L h)]) (U' L) (λh hh=>by
  have hh:=Yf.mp hh;obtain⟨e,f,_⟩:=g.ent hh;have of:L5 a [.ref nb,.str h] T=.ok (.tup [.int e.th,.int e.mr,.int e.ls]) T:=by simp[L5,oy,hb];rw[Zc (g.ho.sm h (g.ho.hn h hh)).nm,f]
  have et:oZ L h=e.th:=by unfold oZ;rw[f]
  rw[et];exact qZ (mj (mh rfl) (mj ((mM ((ul (mh rfl) hb (mj (mh rfl) rfl) rfl).trans of) rfl).trans rfl) rfl)))
 refine nW ((BI (mj (o5 (nO ((ul (vs:=[]) (mh rfl) hb rfl rfl).trans ?_)) (by rw[ac,oC];have:=g.l8;lia) c1) rfl)).trans (D8 g.Z8));unfold om oy;simp[hb]
theorem yH{k}:∀(l:List Int),(∀x∈l,Bt k x)->Bt (k+l.length) l.sum
 |[],_=>by
  show(0:Int).natAbs<2^_;exact cy _
 |x::l,h=>by rw[fT,bw,<-kI];exact((h x al).mono (by lia)).add (yH l λy hy=>h y (ah _ hy))
def ÀH(g:Gd L N c)(S:Ĩ L d z)(x)(hh:h∈U' L):Bt 19995 (tp L d z x h):=by
 have l8:(U' L).length<=8:=by rw[oC];exact g.l8
 have h1:=yH ((U' L).map λl=>pc (pl L l) x*z l h) λy hy=>by obtain⟨l,hl,rfl⟩:=aq.mp hy;exact(g.pcb hl x).mul (S.zb l hl h hh)
 rw[ac] at h1;refine Bt.mono (k:=19990+1) (Bt.add ?_ (h1.mono (by lia))) (Zf rfl);split
 .exact S.db.mono (Zf rfl)
 .exact cy _
def ϒ(L:List Ent)(d:Int)(z:Str->Str->Int)(x:Str):Int:=((U' L).map λh=>tp L d z x h*oZ L h).sum
def Qq(h2:f Z s=.ok (.ref n) s)(h3:fa Z s=.ok vs s)(hg:s.get n=Za (.Z7 l))(hk:BM vs=Za ks)(hv:vs.length<=100000)(hq:uq l ks=Za q):Mw f fa Z s=.ok q s:=by
 unfold Mw;rw[h2];simp[Out.bind]
 simp_all
def Gd.thb(g:Gd L N c)(h):Bt 200 (oZ L h):=by
 unfold oZ;cases e:n8 L h with
 |none=>exact cy _
 |some e'=>exact g.tb e' (wU e).1
def HU(a)(g:Gd L N c)(S:Ĩ L d z)(W:Wob a T k j L X d z)(hx:x∈X):qm a [.ref k,.str x,thV L] T=.ok (.int (ϒ L d z x)) T:=by
 obtain⟨D,hD,vD⟩:=W.dc;apply mZ;have c1:=xW (cap:=[Za (thV L),Za (.ref k),Za (.str x)]) (e:=x2 (Mw (Fs a.Yx "top_of" (j' 2)) (F' (j' 3) (F' (j' 0) J'))) (x2 (j' 1) (j' 0) Yb) Yr) (λh=>tp L d z x h*oZ L h) (U' L) (λh hh=>by exact pI (Qq (D3 (mh rfl) W.ob rfl) (mj (mh rfl) (mj (mh rfl) rfl)) hD rfl (fI rfl) (vD x hx h hh)) ((mM (mh rfl) (mh rfl)).trans (FV hh)) (.inl ⟨(ÀH g S x hh).mono (Zf rfl),(g.thb h).mono (Zf rfl)⟩))
 refine nW ((BI (mj (o5 ?_ (by rw[ac,oC];have:=g.l8;lia) c1) rfl)).trans ?_)
 .unfold ī;show Out.ok ((ĥ (U' L) λh=>.int (oZ L h)).map λkv:Key×PV=>wn kv.1) T=_;unfold ĥ;rw[aD];rfl
 .simp only[OY,YB,vZ];rfl
def Fw(X:List Str)(w:Str->Rat):PV:=.lst (X.map λx=>.tup [.str x,Y4 (w x)])
def wv(L:List Ent)(d:Int)(z:Str->Str->Int)(x:Str):Rat:=aN (ϒ L d z x) d
def Mh{C:ag}{nm:Str}{n:Nat}{D:XF}{f:XE}{fa:XA}{Z:En}{s s1 s2:N'}{k:Nat}{fs:List (Str×PV)}{vs:List PV}{o:Out PV}(h1:f Z s=.ok (.ref k) s1)(hg:s1.get k=Za (.obj C fs))(hv:uq fs nm=Zb)(h2:fa Z s1=.ok vs s2)(hn:vs.length+1=n)(h3:D (.ref k::vs) s2=o):ϰ C nm n D f fa Z s=o:=by
 unfold ϰ;rw[h1];simp[Out.bind,hg]
 simp_all
def CN(a)(g:Gd L N c)(S:Ĩ L d z)(W:Wob a T k j L X d z)(hY:∀y∈Y,y∈X)(hl:Y.length<=1000):qo a [.ref k,LS Y,thV L] T=.ok (Fw Y (wv L d z)) T:=by
 apply mZ;have c1:=rc (cap:=[Za (thV L),Za (.ref k)]) (e:=Y7 (F' (j' 0) (F' (V' 2 (wZ a) (F' (ϰ a.Yx "top_by" 3 (qm a) (j' 2) (F' (j' 0) (F' (j' 1) J'))) (F' (Fs a.Yx "bottom" (j' 2)) J'))) J'))) (λx=>.tup [.str x,Y4 (wv L d z x)]) Y (λx hx=>by exact qZ (mj (mh rfl) (mj (mL (mj (Mh (mh rfl) W.ob rfl (mj (mh rfl) (mj (mh rfl) rfl)) rfl (HU a g S W (hY x hx))) (mj (D3 (mh rfl) W.ob rfl) rfl)) rfl (ID a T S.d0 S.db)) rfl)))
 exact nW (o5 (nO (mh rfl)) (by rw[ac];lia) c1)
def Sol(L:List Ent)(t:Str->Rat)(w:Str->Rat):Prop:=∀x,w x=t x+mU ((U' L).map λl=>shr L l x*w l)
theorem Sol.uniq(g:Gd L N c)(ng:Ľ L)(h:Sol L t w)(h':Sol L t w')(x):w x=w' x:=by
 have hs:=g.uniq ng g.Z8 (λx hx=>Yf.mp hx) λy _=>by
  have e:mU ((U' L).map λl=>shr L l y*(w l-w' l))=mU ((U' L).map λl=>shr L l y*w l+(-1)*(shr L l y*w' l)):=mV λl _=>by grind
  rw[e,sQ,qG];have a1:=h y;have a2:=h' y
  grind
 have e:mU ((U' L).map λl=>shr L l x*w l)=mU ((U' L).map λl=>shr L l x*w' l):=mV λl hl=>by grind
 rw[h x,h' x,e]
def Ĩ.ń(g:Gd L N c)(S:Ĩ L d z){h k}(hh:h∈U' L)(hk:k∈U' L):((tp L d z h k:Int):Rat)=((ZQ (pl L h):Nat):Rat)*((z h k:Int):Rat):=by
 rw[S.eq h hh k hk];unfold tp;rw[ij,qp]
 congr 1
 .split<;>rfl
 .grind
def Ĩ.ÀG(g:Gd L N c)(S:Ĩ L d z)(x){k}(hk:k∈U' L):((tp L d z x k:Int):Rat)=(if x=k then(d:Rat) else 0)+mU ((U' L).map λl=>shr L l x*((tp L d z l k:Int):Rat)):=by
 have e:mU ((U' L).map λl=>shr L l x*((tp L d z l k:Int):Rat))=mU ((U' L).map λl=>((pc (pl L l) x*z l k:Int):Rat)):=mV λl hl=>by
  obtain⟨e,m,hz,f,ep,o,R,kc,sv,_⟩:=g.held (Yf.mp hl);rw[S.ń g hl hk,eU,R.İ,sv,cR]
  grind
 rw[e];unfold tp;rw[ij,qp];split<;>rfl
def GV(hh:h∉U' L):oZ L h=0:=by
 unfold oZ;cases e:n8 L h with
 |none=>rfl
 |some e'=>exact absurd (Yf.mpr (by unfold nv;rw[e];rfl)) hh
def Ĩ.sol(g:Gd L N c)(S:Ĩ L d z):Sol L (λx=>((oZ L x:Int):Rat)) (wv L d z):=by
 intro x;have d0:((d:Int):Rat)≠0:=λq=>by have:=Rat.intCast_eq_zero_iff.mp q;have:=S.d0;lia
 have wd:∀y,wv L d z y*(d:Rat)=mU ((U' L).map λh=>((tp L d z y h:Int):Rat)*((oZ L h:Int):Rat)):=λy=>by
  unfold wv ϒ;rw[cD,qp]
  grind
 have e1:mU ((U' L).map λh=>((tp L d z x h:Int):Rat)*((oZ L h:Int):Rat))=mU ((U' L).map λh=>(if x=h then(d:Rat)*((oZ L h:Int):Rat) else 0)+mU ((U' L).map λl=>shr L l x*(((tp L d z l h:Int):Rat)*((oZ L h:Int):Rat)))):=mV λh hh=>by
  rw[S.ÀG g x hh];have:mU ((U' L).map λl=>shr L l x*(((tp L d z l h:Int):Rat)*((oZ L h:Int):Rat)))=mU ((U' L).map λl=>((oZ L h:Int):Rat)*(shr L l x*((tp L d z l h:Int):Rat))):=mV λl _=>by grind
  rw[this,qG];split<;>grind
 have e2:mU ((U' L).map λh=>if x=h then(d:Rat)*((oZ L h:Int):Rat) else 0)=(d:Rat)*((oZ L x:Int):Rat):=by
  by_cases hx:x∈U' L
  .rw[uV (g:=λh=>if x=h then(d:Rat)*((oZ L h:Int):Rat) else 0) g.Z8 (W:=[x]) (by simp) (λy _ hy=>Zd λz=>hy (by rw[z];simp))];show(if x∈U' L then(if x=x then(d:Rat)*((oZ L x:Int):Rat) else 0) else 0)+0=_;rw[Zc hx,Zc rfl,g8]
  .rw[B6 λy hy=>Zd λq:x=y=>hx (by rw[q];exact hy),GV hx]
   grind
 have e3:mU ((U' L).map λh=>mU ((U' L).map λl=>shr L l x*(((tp L d z l h:Int):Rat)*((oZ L h:Int):Rat))))=(d:Rat)*mU ((U' L).map λl=>shr L l x*wv L d z l):=by
  rw[xH,<-qG];refine mV λl _=>?_;rw[qG,<-wd l]
  grind
 have e4:=wd x;rw[e1,sQ,e2,e3] at e4
 grind
def OT{C:ag}{n:Nat}{D:XF}{fa:XA}{Z:En}{s s1 s2:N'}{vs:List PV}(h1:fa Z s=.ok vs s1)(hn:vs.length+1=n)(h2:D (.ref s1.nx::vs) (s1.add (.obj C []))=.ok .Yh s2):xMk C n D fa Z s=.ok (.ref s1.nx) s2:=by unfold xMk;rw[h1];simp[Out.bind,hn,h2]
def Hg(a)(g:Gd L N c)(ng:Ľ L)(P:Pp pp N)(hb:T.get nb=Za (.book pp L))(SZ:nb<T.nx):∃d z j T',Ĩ L d z/\qC a [.ref T.nx,.ref nb] (T.add (.obj a.Yx []))=.ok .Yh T'/\Wob a T' T.nx j L (Yu pp++U' L) d z/\Gr T T':=by
 have VI:(T.add (.obj a.Yx [])).get nb=Za (.book pp L):=by rw[ny,Zd (by lia)];exact hb
 obtain⟨d,z,j,T',S,e,W,n1,n2,fr⟩:=MB a g ng P VI (cj SZ) (by rw[ny,Zc rfl]) (ci _) (by lia);have n1:T.nx+1<=T'.nx:=n1;refine⟨d,z,j,T',S,e,W,by lia,λi hi=>?_⟩;rw[fr i (cj hi) (by lia),ny,Zd (by lia)]
def HQ(a:Yg)(g:Gd L N c)(ng:Ľ L)(P:Pp pp N)(hb:T.get nb=Za (.book pp L))(SZ:nb<T.nx):∃w T',AI a [.ref nb] T=.ok (Fw (U' L) w) T'/\Sol L (λx=>((oZ L x:Int):Rat)) w/\Gr T T':=by obtain⟨d,z,j,T',S,e,W,G⟩:=Hg a g ng P hb SZ;have Uz:=(G.fr nb SZ).trans hb;refine⟨wv L d z,T',mZ ?_,S.sol g,G⟩;refine nW (Mh (OT (mj (mh rfl) rfl) rfl e) W.ob rfl (mj ((ul (mh rfl) Uz rfl rfl).trans (show om a [.ref nb] T'=.ok (LS (U' L)) T' by unfold om oy;simp[Uz])) (mj (mL (mj (mh rfl) rfl) rfl (vE a g Uz)) rfl)) rfl (CN a g S W (λy hy=>aM _ hy) (by rw[oC];have:=g.l8;lia)))
def J2(a:Yg)(g:Gd L N c)(ng:Ľ L)(P:Pp pp N)(hb:T.get nb=Za (.book pp L))(SZ:nb<T.nx):∃w T',xy a [.ref nb] T=.ok (Fw (Yu pp) w) T'/\Sol L (λx=>((oZ L x:Int):Rat)) w/\Gr T T':=by obtain⟨d,z,j,T',S,e,W,G⟩:=Hg a g ng P hb SZ;have Uz:=(G.fr nb SZ).trans hb;refine⟨wv L d z,T',mZ ?_,S.sol g,G⟩;refine nW (Mh (OT (mj (mh rfl) rfl) rfl e) W.ob rfl (mj ((ul (mh rfl) Uz rfl rfl).trans (show pP a [.ref nb] T'=.ok (LS (Yu pp)) T' by unfold pP oy;simp[Uz])) (mj (mL (mj (mh rfl) rfl) rfl (vE a g Uz)) rfl)) rfl (CN a g S W (λy hy=>b7 _ hy) (by rw[(mJ _).length_eq];have:=P.le;lia)))
def Mb{t b:Int}{k m:Nat}(hb:0<b)(ht:Bt k t)(hB:Bt m b):Bt k (aN t b).num/\Bt m ((aN t b).den:Int):=by have e:=zw (t:=t) hb;have e1:=congrArg Prod.fst e;have e2:=congrArg Prod.snd e;simp only at e1 e2;rw[<-e1,<-e2];exact⟨ht.div,hB.div⟩
def LN(q:Rat):(0:Int)<q.den:=by have:=q.den_pos;omega
def Bq{k m:Nat}{i j:Int}(h:Bt k i)(g:Bt m j)(hk:k<=20000)(hm:m<=20000):qE i j:=.inl ⟨h.mono hk,g.mono hm⟩
def Q4{s:N'}{u v:PV}:Yb (.tup [u,v]) (.int 0) s=.ok u s:=rfl
def Q3{s:N'}{u v:PV}:Yb (.tup [u,v]) (.int 1) s=.ok v s:=rfl
def MW(p q:Rat):aN (p.num*(q.den:Int)+q.num*(p.den:Int)) ((p.den:Int)*(q.den:Int))=p+q:=by have d1:=LN p;have d2:=LN q;rw[<-li _ _ (by omega) (by omega),gA,gA]
def JA(a:Yg)(s:N'){p q:Rat}(p1:Bt 13000 p.num)(p2:Bt 4500 (p.den:Int))(q1:Bt 13000 q.num)(q2:Bt 4500 (q.den:Int))(u0 u3:Option PV):nr (X9 3) (tI a) (Y4 q) [u0,Za (.int p.num),Za (.int (p.den:Int)),u3] s=.nx [u0,Za (.int (p+q).num),Za (.int ((p+q).den:Int)),Za (Y4 q)] s:=by have pq:=bv (LN p) (LN q);have m:=xm a s (p.num*q.den+q.num*p.den) (p.den*q.den) pq (p2.mul q2);rw[zw pq,MW] at m;have b1:=Bq p1 q2 (by decide) (by decide);have b2:=Bq q1 p2 (by decide) (by decide);have b3:=Bq p2 q2 (by decide) (by decide);exact O4 (mL (vs:=[.int (p.num*q.den+q.num*p.den),.int (p.den*q.den)]) (mj (wG (pI (mh rfl) ((mM (mh rfl) rfl).trans ϖ) b1) (pI ((mM (mh rfl) rfl).trans ix0) (mh rfl) b2)) (mj (pI (mh rfl) ((mM (mh rfl) rfl).trans ϖ) b3) rfl)) rfl m)
def Gd.À3(g:Gd L N c){h:Str}(hh:h∈U' L)(x:Str):Bt 4030 (pc (pl L h) x):=by
 obtain⟨e,k,hz,f,ep,o,R,kc,sv,_⟩:=g.held (Yf.mp hh);obtain⟨p0,pb,pd⟩:=R.pieces;obtain⟨m,hm⟩:=pd x;have F:=R.fr x;have c4:=g.c40;have m0:0<=m:=by
  by_cases z:0<=m
  .exact z
  .have:=Int.mul_neg_of_pos_of_neg F.low.1 (show m<0 by omega);omega
 have pc0:pc (pl L h) x=(mO (pl L h) x).1*m:=by unfold pc;rw[hm,cL _ (by grind)]
 have le:pc (pl L h) x<=((2^k:Nat):Int)*(ZQ (pl L h):Int):=by rw[pc0,hm,<-bh];exact aS F.le m0
 have nn:=R.À4 x;have b2:Bt (k+1) ((2^k:Nat):Int):=by
  unfold Bt;rw[i6,lc]
  grind
 have bb:Bt 4030 (((2^k:Nat):Int)*(ZQ (pl L h):Int)):=(b2.mul pb).mono (by omega);unfold Bt at *;omega
def K8(g:Gd L N c)(S:Ĩ L d z)(x:Str){h:Str}(hh:h∈U' L):Bt 12030 (tp L d z x h):=by
 have l8:(U' L).length<=8:=by rw[oC];exact g.l8
 have h1:=yH ((U' L).map λl=>pc (pl L l) x*z l h) λy hy=>by obtain⟨l,hl,rfl⟩:=aq.mp hy;exact(g.À3 hl x).mul (S.zb l hl h hh)
 rw[ac] at h1;refine Bt.mono (k:=12020+1) (Bt.add ?_ (h1.mono (by omega))) (Zf rfl);split
 .exact S.db.mono (Zf rfl)
 .exact cy _
def Á3(g:Gd L N c)(S:Ĩ L d z)(x:Str):Bt 12300 (wv L d z x).num/\Bt 4000 ((wv L d z x).den:Int):=by
 have l8:(U' L).length<=8:=by rw[oC];exact g.l8
 have h1:=yH ((U' L).map λh=>tp L d z x h*oZ L h) λy hy=>by obtain⟨h,hh,rfl⟩:=aq.mp hy;exact(K8 g S x hh).mul (g.thb h)
 rw[ac] at h1;exact Mb S.d0 (h1.mono (by omega)) (S.dd.mono (Zf rfl))
end
def DU(h1:f Z s=.ok false s1)(h2:g Z s1=.ok b s2):ϧ f g Z s=.ok b s2:=by unfold ϧ;rw[h1];exact h2
def yK(h:f Z s=.ok b s1):ė f Z s=.ok (!b) s1:=by unfold ė;rw[h];rfl
def HK(h1:f Z s=.ok (.bl true) s1)(h2:g Z s1=o):þ f g Z s=o:=by unfold þ;rw[h1];exact h2
def ÁS(h:f Z s=.ok (.tup [u,v,w]) s'):è f (Zr 3 (Yj (X9 i) (Yj (X9 j) (Yj (X9 k) Zs)))) Z s=.nx (((Z.set i (Za u)).set j (Za v)).set k (Za w)) s':=by unfold è;rw[h];rfl
def dtR(q:Rat):k7:=.tuple [.int q.num,.int (q.den:Int)]
def Hv(q):cH (dtR q) (dtR q)=true:=by unfold dtR;simp[cH,fG]
def zg(h:∀x∈X,w x=w' x):Fw X w=Fw X w':=by unfold Fw;rw[aW λx hx=>by rw[h x hx]]
def J8{s:N'}{v:PV}{x:Str}{S:List Str}(hd:Zv s v=Zb)(ht:∀l,v≠.tup l)(hl:YB s v=Za (S.map .str)):yO (.str x) v s=.ok (.bl (!decide (x∈S))) s:=by
 show rm true _ _ _=_;unfold rm;rw[hd];cases v with
 |tup l=>exact absurd rfl (ht l)
 |_=>simp[toV,hl,vQ,GQ,Cp]
structure Ls(T:N')(p nb:Nat)(pp:List Str)(L:List Ent)(Zj:List (Nat×Cell)):Prop where
 pu:Ys T p
 bk:T.get nb=Za (.book pp L)
 ne:p≠nb
 lp:p<T.nx
 lb:nb<T.nx
 zz:∀z∈Zj,T.get z.1=Za z.2/\z.1≠p/\z.1≠nb/\z.1<T.nx
section
variable{s t:N'}{p nb nd:Nat}{N:List Str}{c:Nat}{pp:List Str}{L:List Ent}{M:List Md}
def ä.at_(P:ä N c L M)(h:n∈L.map (·.nm)):∃e m k,n8 L n=Za e/\m∈M/\qM (M.map Z6) (ap n)=Za (.lst [.ref m.cell,.tup [.int m.th,.int m.mr,.int m.ls]])/\ϣ N k e m:=by obtain⟨A,e,B,A',m,B',k1,k2,k3,e1,e2,rfl,e4,e5,e6,e7,_⟩:=P.cut (P.names▸h);refine⟨e,m,k2,?_,by rw[e2];simp,by rw[e2];exact Lv e4,e6⟩;rw[e1,<-e6.nm];exact wT (by rw[e5.names,e6.nm];exact e4)
def ï.ho(B:ï s t p nb nd N c pp L M)(WN:Wds N)(hn:∀n∈L.map (·.nm),n∈N)(hl:N.length<64):Ho L N:=by refine⟨λn e fe=>?_,WN.sm,hl,λn h=>hn n ((qr _ _).mp h)⟩;have hn:=(qr _ _).mp (by unfold nv;rw[fe];rfl);obtain⟨e',m,k,f,hm,_,R⟩:=B.w.pr.at_ hn;rw[fe] at f;cases f;have:=R.hm.len.symm;have l2:=Mj R.hm.nd R.ow;rw[ac] at l2;exact⟨by lia,λx hx=>R.ow x ((R.hm.mem x).mpr hx)⟩
def ï.gd(B:ï s t p nb nd (pp++hs) c pp L M)(WN:Wds (pp++hs))(hL:L.map (·.nm)=hs)(hp:pp.length<=6)(hh:hs.length<=8)(hc:c<=40):Gd L (pp++hs) c/\Pp pp (pp++hs):=by
 have Nl:(pp++hs).length<64:=by rw[aZ];lia
 refine⟨⟨B.ho WN (λn hn=>aM _ (hL▸hn)) Nl,by rw[hL];exact(b5.mp WN.nd).2.1,B.w.pr.cts,λe he=>(B.w.pr.tb e he).mono (Zf rfl),?_,by lia⟩,λx hx=>b7 _ hx,by lia⟩
 grind
end
theorem xJ:∀{l:List (Nat×Cell)},qA l n=Za c->pM n c l=l
 |(k,d)::r,h=>by
  by_cases e:k=n
  .subst e;have h:(if k=k then Za d else qA r k)=Za c:=h;show(if k=k then(k,c)::r else _)=(k,d)::r
   grind
  .have h:(if k=n then Za d else qA r n)=Za c:=h;rw[Zd e] at h;show(if k=n then(n,c)::r else(k,d)::pM n c r)=_;rw[Zd e,xJ h]
theorem Ao:∀{l:List (Nat×Cell)},pM n c (pM n d l)=pM n c l
 |[]=>rfl
 |(k,e)::r=>by
  show pM n c (if k=n then(n,d)::r else(k,e)::pM n d r)=(if k=n then(n,c)::r else(k,e)::pM n c r);by_cases h:k=n
  .rw[Zc h,Zc h];show(if n=n then(n,c)::r else _)=_;rw[Zc rfl]
  .rw[Zd h,Zd h];show(if k=n then _ else(k,e)::pM n c (pM n d r))=_;rw[Zd h,Ao]
def EQ{T:N'}{n:Nat}{c d:Cell}(h:T.get n=Za c):(T.set n d).set n c=T:=by obtain⟨x,l⟩:=T;show N'.mk x (pM n c (pM n d l))=_;rw[Ao,xJ h]
def KP{g:XE}{ix:List Nat}{c:XT}{e:XE}{Z:En}{T:N'}{n:Nat}{l:List (Key×PV)}{vs:List PV}(h1:g Z T=.ok (.ref n) T)(hg:T.get n=Za (.Yl l))(hl:l.length<=100000)(h2:n9 c e (nM ix Z) (l.map λkv=>wn kv.1) (T.set n (.YR l))=.ok vs (T.set n (.YR l))):ww g ix c e Z T=.ok (.lst vs) T:=by
 unfold ww;simp[h1,hg];rw[Zc hl,h2];simp[Out.bind,ſ,nQ hg,EQ hg]
structure Mz(s:N')(nd:Nat)(M:List Md)(L:List Ent)(N:List Str)(c:Nat):Prop where
 d:Zv s (.ref nd)=Za (M.map Z6)
 l:YB s (.ref nd)=Zb
 sh:∀m∈M,s.get m.cell=Za (.Yl (hP m.hl))
 pr:ä N c L M
section
variable{T s:N'}{nd b j:Nat}{N:List Str}{L:List Ent}{M:List Md}{c:Nat}{d:Int}{z:Str->Str->Int}{k x:Str}{w:Str->Rat}{y:Str->Int}{vb:PV}
theorem Mz.at_(Zj:Mz T nd M L N c)(h:nv L n=true):∃e m k,n8 L n=Za e/\m∈M/\Yb (.ref nd) (.str n) T=.ok (.lst [.ref m.cell,.tup [.int m.th,.int m.mr,.int m.ls]]) T/\T.get m.cell=Za (.Yl (hP m.hl))/\ϣ N k e m:=by obtain⟨e,m,k,f,hm,v,R⟩:=Zj.pr.at_ ((qr _ _).mp h);exact⟨e,m,k,f,hm,by simp[Yb,Zj.d,Zj.l,ZY,v],Zj.sh m hm,R⟩
def Q5{s}:Yb (.lst [u,v]) (.int 0) s=.ok u s:=by simp[Yb,YB,Z9,Œ]
def Mz.ins(Zj:Mz T nd M L N c)(H:Ho L N){G}{x}(hx:nv L x=true) :
  YJ (x2 (ww (x2 (x2 (j' 2) (j' 0) Yb) (xC (.int 0)) Yb) [1] (YJ (x2 (j' 0) (j' 1) yO)) (j' 0)) (ç J') Ô) [Za (.str x),Za (LS G),Za (.ref nd)] T=.ok (ZR L G x) T:=by
 obtain⟨e,m,k,f,hm,i1,g1,R⟩:=Zj.at_ hx;have hl:=H.le;have ml:m.hl.length<=N.length:=by
  have:=Mj R.hm.nd R.ow
  simp_all
 have cp:=qx (s:=T.set m.cell (.YR (hP m.hl))) (cap:=[Za (LS G)]) (c:=YJ (x2 (j' 0) (j' 1) yO)) (e:=j' 0) (λq=>match q with|.str n=>!decide (n∈G)|_=>false) id ((m.hl.map (·.1)).map .str) (λq hq=>by obtain⟨n,hn,rfl⟩:=aq.mp hq;exact oF ((mM (mh rfl) (mh rfl)).trans (J8 rfl (by grind) rfl))) (λq hq _=>rfl)
 rw[iF,dP] at cp;have hk:((hP m.hl).map λkv=>wn kv.1)=(m.hl.map (·.1)).map .str:=by unfold hP;rw[aD,aD];rfl
 have so:=λy hy=>wO (H.sm y (R.ow y hy));have ce:=KP (g:=x2 (x2 (j' 2) (j' 0) Yb) (xC (.int 0)) Yb) (ix:=[1]) (Z:=[Za (.str x),Za (LS G),Za (.ref nd)]) ((mM ((mM (mh rfl) (mh rfl)).trans i1) rfl).trans Q5) g1 (by rw[<-ac,hk,ac,ac];lia) (by rw[hk];exact cp);refine oF ((mM ce (yL rfl)).trans ((Mo (V:=[]) (λy hy=>so y (bi.mp hy).1) (λy hy=>nomatch hy)).trans ?_))
 congr 2
 rw[cx,decide_eq_true_iff,Þ];have ow:∀y,y∈own L x↔y∈m.hl.map (·.1):=λy=>by unfold own;rw[f];rw[(mJ _).mem_iff];exact(R.hm.mem y).symm
 simp_all
def Mz.comp(Zj:Mz T nd M L N c)(H:Ho L N)(hG:∀h∈G,nv L h=true)(hl:G.length<=100)(u2) :
  Yd 2 (o9 (Yw (j' 1)) [1,0] (YJ (x2 (ww (x2 (x2 (j' 2) (j' 0) Yb) (xC (.int 0)) Yb) [1] (YJ (x2 (j' 0) (j' 1) yO)) (j' 0)) (ç J') Ô)) (j' 0)) [Za (.ref nd),Za (LS G),u2] T=.nx [Za (.ref nd),Za (LS G),Za (LS (G.filter (ZR L G)))] T:=by
 have c1:=qx (e:=j' 0) (λq=>match q with|.str x=>ZR L G x|_=>false) (λq=>q) (G.map .str) (λq hq=>by obtain⟨x,hx,rfl⟩:=aq.mp hq;exact Zj.ins H (hG x hx)) (λq hq _=>mh rfl)
 rw[List.map_id',dP] at c1;exact mS (o5 (nO (mh rfl)) (by rw[ac];lia) c1)
def Mz.walk(Zj:Mz T nd M L N c)(a)(H:Ho L N):∀(k:Nat)(G:List Str),G.length<=k->k<=100->(∀h∈G,nv L h=true)->∃G',m7 (YJ (x2 (j' 2) (j' 1) œ)) (nq a) (k+1) [Za (.ref nd),Za (LS G),Za (LS (G.filter (ZR L G)))] T=.nx [Za (.ref nd),Za (LS G'),Za (LS G')] T/\WG L G G':=by
 intro k;induction k with
 |zero =>
  intro G hk _ hG;have:G=[]:=eX.mp (by lia);subst this;refine⟨[],?_,⟨fX _,(λ_ z=>nomatch z),λV hV _ h hh=>hV h hh⟩⟩;unfold m7;rw[oF ((mM (mh rfl) (mh rfl)).trans (DX (U:=[]) (V:=[]) (λy hy=>nomatch hy) (λy hy=>nomatch hy)))];rfl
 |succ k ih =>
  intro G hk hk1 hG;have so:=λx hx=>wO (H.sm x (H.hn x (hG x hx)));have ne:=DX (s:=T) (U:=G.filter (ZR L G)) (λx hx=>so x (bi.mp hx).1) so;by_cases z:G.filter (ZR L G)=G
  .rw[Zg z] at ne;refine⟨G,?_,⟨fX _,λh hh=>?_,λV hV _ h hh=>hV h hh⟩⟩
   .unfold m7;rw[oF ((mM (mh rfl) (mh rfl)).trans ne)];show SO.nx _ _=_;rw[z]
   .rw[<-z] at hh;exact Þ.mp (bi.mp hh).2
  .rw[Zh z] at ne;have lt:(G.filter (ZR L G)).length<G.length:=by
    have:=dW (ZR L G) G;by_cases q:(G.filter (ZR L G)).length=G.length
    .simp_all
    .lia
   have hF:∀h∈G.filter (ZR L G),nv L h=true:=λh hh=>hG h (bi.mp hh).1;obtain⟨G',e,W⟩:=ih (G.filter (ZR L G)) (by lia) (by lia) hF;refine⟨G',?_,⟨W.sl.trans iR,W.cl,λV hV cV h hh=>W.mx V (λy hy=>bi.mpr ⟨hV y hy,Þ.mpr λx hx=>hV x (cV y hy x hx)⟩) cV h hh⟩⟩;have bd:nq a [Za (.ref nd),Za (LS G),Za (LS (G.filter (ZR L G)))] T=.nx [Za (.ref nd),Za (LS (G.filter (ZR L G))),Za (LS ((G.filter (ZR L G)).filter (ZR L (G.filter (ZR L G)))))] T:=by exact mI ((yC (oF ((mM (mh rfl) rfl).trans rfl))).trans (mS (mh rfl))) (Zj.comp H hF (by lia) _)
   rw[m7,oF ((mM (mh rfl) (mh rfl)).trans ne)];show(match nq a [Za (.ref nd),Za (LS G),Za (LS (G.filter (ZR L G)))] T with
    |.nx Yi s'=>m7 (YJ (x2 (j' 2) (j' 1) œ)) (nq a) (k+1) Yi s'
    |.ct Yi s'=>m7 (YJ (x2 (j' 2) (j' 1) œ)) (nq a) (k+1) Yi s'
    |.bk Yi s'=>.nx Yi s'
    |o=>o)=_
   rw[bd];exact e
def Qd{s}(hU:∀x∈U,bA x=true):œ .Yh (LS U) s=.ok (.bl true) s:=by have e1:=xt s 10 hU;show ZP true _ _ _=_;unfold ZP;rw[e1];rfl
def Ku(a)(Zj:Mz T nd M L N c)(hd:T.get nd=Za (.Yl (M.map Z6)))(H:Ho L N)(hl:L.length<=8):∃G,tS a [.ref nd] T=.ok (LS G) T/\WG L (U' L) G:=by
 have nm:=Zj.pr.names;have hs:∀h∈U' L,nv L h=true:=λh hh=>Yf.mp hh;obtain⟨G,e,W⟩:=Zj.walk a H (U' L).length (U' L) (ak _) (by rw[oC];lia) hs;refine⟨G,mZ ?_,W⟩;refine mI (mS (v:=LS (U' L)) (s':=T) ((BI (mj (mh rfl) rfl)).trans ?_)) ?_
 .rw[vT hd (Hm M) (by grind),<-nm]
 .apply mI (mS rfl);refine mI (Yi:=[Za (.ref nd),Za (LS G),Za (LS G)]) (Jv (n:=(U' L).length+1+1) ?_) (nW (mh rfl));rw[m7,oF ((mM (mh rfl) (mh rfl)).trans (Qd λx hx=>wO (H.sm x (H.hn x (hs x hx)))))];have bd:nq a [Za (.ref nd),Za (LS (U' L)),Za .Yh] T=.nx [Za (.ref nd),Za (LS (U' L)),Za (LS ((U' L).filter (ZR L (U' L))))] T:=by exact mI ((ug (oF ((mM (mh rfl) rfl).trans rfl))).trans rfl) (Zj.comp H hs (by rw[oC];lia) _)
  show(match nq a [Za (.ref nd),Za (LS (U' L)),Za .Yh] T with
   |.nx Yi s'=>m7 (YJ (x2 (j' 2) (j' 1) œ)) (nq a) ((U' L).length+1) Yi s'
   |.ct Yi s'=>m7 (YJ (x2 (j' 2) (j' 1) œ)) (nq a) ((U' L).length+1) Yi s'
   |.bk Yi s'=>.nx Yi s'
   |o=>o)=_
  simp_all
def Jb{s s2}{w}(h1:f Z s=.ok (.ref n) s)(hg:s.get n=Za (.lst l'))(h2:fa Z s=.ok [w] s2)(SK:s2.get n=Za (.lst l))(hl:l.length<100000):Zw f fa Z s=.ok .Yh (s2.set n (.lst (l++[w]))):=by
 unfold Zw;rw[h1];simp[Out.bind]
 simp_all
def Hy(a b d)(hd:0<d):aN a d+aN b d=aN (a+b) d:=by
 have h:(d:Rat)≠0:=λq=>by
  simp_all
 rw[cD,cD,cD,ij]
 grind
theorem EI(a)(s){d}(d0:0<d)(db:Bt 4000 d)(u0):∀(ns:List Int)(j:Nat)(n0:Int)(u3:Option PV),Bt (12500+j) n0->j+ns.length<=100->(∀n∈ns,Bt 12500 n) ->
  ∃u,nZ (nr (X9 3) (tI a)) (ns.map λn=>Y4 (aN n d)) [u0,Za (.int (aN n0 d).num),Za (.int ((aN n0 d).den:Int)),u3] s=.nx [u0,Za (.int (aN (n0+ns.sum) d).num),Za (.int ((aN (n0+ns.sum) d).den:Int)),u] s
 |[],j,n0,u3,_,_,_=>⟨u3,by rw[List.sum_nil,Int.add_zero];rfl⟩
 |n::ns,j,n0,u3,h0,hj,hn=>by
  rw[bw] at hj;have Xg:=hn n al;obtain⟨p1,p2⟩:=Mb d0 h0 db;obtain⟨q1,q2⟩:=Mb d0 Xg db;have st:=JA a s (p1.mono (by lia)) (p2.mono (by decide)) (q1.mono (Zf rfl)) (q2.mono (by decide)) u0 u3;rw[Hy n0 n d d0] at st;obtain⟨u,e⟩:=EI a s d0 db u0 ns (j+1) (n0+n) (Za (Y4 (aN n d))) (by have:=h0.add (Xg.mono (by lia));exact this.mono (by lia)) (by lia) λm hm=>hn m (ah _ hm)
  refine⟨u,?_⟩;rw[am,fT,<-Int.add_assoc];unfold nZ
  simp_all
def Gp(a:Yg)(s:N'){d:Int}(d0:0<d)(db:Bt 4000 d){ns:List Int}(hl:ns.length<=100)(hn:∀n∈ns,Bt 12500 n):rE a [.lst (ns.map λn=>Y4 (aN n d))] s=.ok (Y4 (aN ns.sum d)) s:=by apply mZ;have z:=ii d;obtain⟨u,e⟩:=EI a s d0 db (Za (.lst (ns.map λn=>Y4 (aN n d)))) ns 0 0 Zb (cy _) (by lia) hn;rw[z,Int.zero_add] at e;apply mI (O4 (qZ (mj rfl (mj rfl rfl))));apply mI (rY (nO (mh rfl)) e);exact nW (qZ (mj (mh rfl) (mj (mh rfl) rfl)))
def Jy(a)(s){w}(q0:0<q.2)(qt:Bt 9000 q.1)(qb:Bt 4400 q.2)(h1:Bt 13000 w.num)(h2:Bt 4500 (w.den:Int)):tQ a [Zx q,Y4 w] s=.ok (Y4 (rv q*w)) s:=by
 have pq:=bv q0 (LN w);have m:=xm a s (q.1*w.num) (q.2*w.den) pq ((qb.mul h2).mono (Zf rfl));have e:aN (q.1*w.num) (q.2*w.den)=rv q*w:=by unfold rv;rw[<-Rat.divInt_mul_divInt,gA]
 rw[zw pq,e] at m;have b1:=Bq qt h1 (Zf rfl) (Zf rfl);have b2:=Bq qb h2 (Zf rfl) (Zf rfl);apply mZ;exact nW (mL (vs:=[.int (q.1*w.num),.int (q.2*w.den)]) (mj (pI ((mM (mh rfl) rfl).trans Q4) ((mM (mh rfl) rfl).trans ix0) b1) (mj (pI ((mM (mh rfl) rfl).trans Q3) ((mM (mh rfl) rfl).trans ϖ) b2) rfl)) rfl m)
structure Wt(L:List Ent)(d:Int)(w:Str->Rat)(y:Str->Int):Prop where
 d0:0<d
 dd:Bt 4000 d
 te:∀h∈U' L,∀x,shr L h x*w h=aN (pc (pl L h) x*y h) d
 tb:∀h∈U' L,∀x,Bt 12500 (pc (pl L h) x*y h)
 wb:∀h∈U' L,Bt 12300 (w h).num/\Bt 4000 ((w h).den:Int)
def zt(L:List Ent)(z:Str->Str->Int)(h:Str):Int:=((U' L).map λk=>z h k*oZ L k).sum
def Ĩ.wt(g:Gd L N c)(S:Ĩ L d z):Wt L d (wv L d z) (zt L z):=by
 refine⟨S.d0,S.dd.mono (Zf rfl),λh hh x=>?_,λh hh x=>?_,λh _=>Á3 g S h⟩
 .have e:((ϒ L d z h:Int):Rat)=((ZQ (pl L h):Nat):Rat)*((zt L z h:Int):Rat):=by
   unfold ϒ zt;rw[qp,qp,<-qG];exact mV λk hk=>by rw[eU,eU,S.ń g hh hk];grind
  obtain⟨e',m,hz,f,ep,o,R,kc,sv,_⟩:=g.held (Yf.mp hh);have t:shr L h x*((ϒ L d z h:Int):Rat)=((pc (pl L h) x*zt L z h:Int):Rat):=by
   rw[e,eU,R.İ,sv,cR]
   grind
  unfold wv;rw[cD,cD,<-t]
  grind
 .have l8:(U' L).length<=8:=by rw[oC];exact g.l8
  have h1:=yH ((U' L).map λk=>z h k*oZ L k) λy hy=>by obtain⟨k,hk,rfl⟩:=aq.mp hy;exact(S.zb h hh k hk).mul (g.thb k)
  rw[ac] at h1;exact((g.À3 hh x).mul h1).mono (by lia)
def Ol{s s'}(h:s'.get n=s.get n):Zv s' (.ref n)=Zv s (.ref n):=by show(match s'.get n with|some (.Yl l)=>Za l|some (.YR l)=>Za l|_=>Zb)=_;rw[h];rfl
def NA{s s'}(h:s'.get n=s.get n):YB s' (.ref n)=YB s (.ref n):=by show(match s'.get n with|some (.lst l)=>Za l|_=>Zb)=_;rw[h];rfl
def Mz.of(Zj:Mz s nd M L N c)(h1:s'.get nd=s.get nd)(h2:∀m∈M,s'.get m.cell=s.get m.cell):Mz s' nd M L N c :=
 ⟨(Ol h1).trans Zj.d,(NA h1).trans Zj.l,λm hm=>(h2 m hm).trans (Zj.sh m hm),Zj.pr⟩
theorem Mz.set(Zj:Mz s nd M L N c)(h1:nd≠j)(h2:∀m∈M,m.cell≠j)(q):Mz (s.set j q) nd M L N c:=Zj.of (mF _ _ h1) λm hm=>mF _ _ (h2 m hm)
def By(vb:PV)(L:List Ent)(w:Str->Rat):Prop:=∀h∈U' L,∀s,Yb vb (.str h) s=.ok (Y4 (w h)) s
def Mz.share(Zj:Mz s nd M L N c)(g:Gd L N c)(hh:h∈U' L)(x):∃k' y,Yb (.ref nd) (.str h) s=.ok (.lst [.ref k',y]) s/\fIn (.str x) (.ref k') s=.ok (.bl (decide (x∈own L h))) s /\
  (x∈own L h->Yb (.ref k') (.str x) s=.ok (Zx (mO (pl L h) x)) s):=by
 obtain⟨e,m,kk,f,hm,i1,g1,R⟩:=Zj.at_ (Yf.mp hh);have ep:pl L h=e.held:=by unfold pl;rw[f]
 have ow:x∈own L h↔x∈m.hl.map (·.1):=by unfold own;rw[f];rw[(mJ _).mem_iff];exact(R.hm.mem x).symm
 refine⟨m.cell,_,i1,?_,λhx=>?_⟩
 .have e1:(qM (hP m.hl) (ap x)).isSome=decide (x∈own L h):=by
   by_cases q:x∈m.hl.map (·.1)
   .rw[Bu _ _ q,Zg (ow.mpr q)];rfl
   .rw[Zh λz=>q (ow.mp z),xE]
    .rfl
    .rw[Dw]
     grind
  have dc:Zv s (.ref m.cell)=Za (hP m.hl):=by show(match s.get m.cell with|some (.Yl l)=>Za l|some (.YR l)=>Za l|_=>Zb)=_;rw[g1]
  show rm false _ _ _=_;unfold rm;rw[dc];show Out.ok (PV.bl (GQ false (qM (hP m.hl) (ap x)).isSome)) _=_;rw[e1];rfl
 .rw[ep,<-R.hm.q];exact GD g1 (Bu _ _ (ow.mp hx))
def Gd.qb(g:Gd L N c)(hh:h∈U' L)(x):0<(mO (pl L h) x).2/\Bt 9000 (mO (pl L h) x).1/\Bt 4400 (mO (pl L h) x).2:=by obtain⟨e,kk,hz,f,ep,o,R,kc,sv,_⟩:=g.held (Yf.mp hh);obtain⟨p0,pb,pd⟩:=R.pieces;have c4:=g.c40;have F:=R.fr x;refine⟨F.low.1,F.top.mono (by lia),?_⟩;have:=Int.le_of_dvd (by lia) (pd x);have l0:=F.low.1;have pb:Bt 4400 (ZQ (pl L h):Int):=pb.mono (by lia);unfold Bt at *;lia
theorem xT(a)(g:Gd L N c)(W:Wt L d w y)(Zj:Mz s nd M L N c)(Y:By vb L w)(hj:s.get j=Za q0)(j1:nd≠j)(j2:∀m∈M,m.cell≠j)(x):∀(hs:List Str)(ns:List Int)(u4:Option PV),(∀h∈hs,h∈U' L)->ns.length+hs.length<=100 ->
  ∃u,nZ (nr (X9 4) (oJ a)) (hs.map .str) [Za (.ref nd),Za (.str x),Za vb,Za (.ref j),u4] (s.set j (.lst (ns.map λn=>Y4 (aN n d)))) =
   .nx [Za (.ref nd),Za (.str x),Za vb,Za (.ref j),u] (s.set j (.lst ((ns++(hs.filter λh=>decide (x∈own L h)).map λh=>pc (pl L h) x*y h).map λn=>Y4 (aN n d))))
 |[],ns,u4,_,_=>⟨u4,by simp only[List.filter_nil,cT,bW];rfl⟩
 |h::hs,ns,u4,hh,hl=>by
  rw[bw] at hl;have US:=hh h al;have Z1:=Zj.set j1 j2 (.lst (ns.map λn=>Y4 (aN n d)));obtain⟨k',y0,i1,i2,i3⟩:=Z1.share g US x;have in1:x2 (j' 1) (x2 (x2 (j' 0) (j' 4) Yb) (xC (.int 0)) Yb) fIn [Za (.ref nd),Za (.str x),Za vb,Za (.ref j),Za (.str h)] (s.set j (.lst (ns.map λn=>Y4 (aN n d))))=.ok (.bl (decide (x∈own L h))) (s.set j (.lst (ns.map λn=>Y4 (aN n d)))) :=
   (mM (mh rfl) ((mM ((mM (mh rfl) (mh rfl)).trans i1) rfl).trans Q5)).trans i2
  rw[am];unfold nZ;rw[pO];by_cases hx:x∈own L h
  .rw[Zg hx] at in1;obtain⟨w1,w2⟩:=W.wb h US;obtain⟨b0,b1,b2⟩:=g.qb US x;obtain⟨e,m,hz,f,ep,o,R,kc,sv,_⟩:=g.held (Yf.mp US);have tm:=Jy a (s.set j (.lst (ns.map λn=>Y4 (aN n d)))) b0 b1 b2 (w1.mono (Zf rfl)) (w2.mono (Zf rfl));rw[<-sv x,W.te h US x] at tm;have bd:oJ a [Za (.ref nd),Za (.str x),Za vb,Za (.ref j),Za (.str h)] (s.set j (.lst (ns.map λn=>Y4 (aN n d))))=.nx [Za (.ref nd),Za (.str x),Za vb,Za (.ref j),Za (.str h)] (s.set j (.lst ((ns++[pc (pl L h) x*y h]).map λn=>Y4 (aN n d)))):=by
    unfold oJ;rw[yC (oF in1)];have Re:(ns.map λn=>Y4 (aN n d)).length<100000:=by rw[ac];lia
    apply(BP (Jb (mh rfl) (nQ hj) (mj (mL (mj ((mM ((mM ((mM (mh rfl) (mh rfl)).trans i1) rfl).trans Q5) (mh rfl)).trans (i3 hx)) (mj ((mM (mh rfl) (mh rfl)).trans (Y h US _)) rfl)) rfl tm) rfl) (nQ hj) Re)).trans
    congr 1
    show N'.mk s.nx (pM j _ (pM j _ s.cs))=_;rw[Ao,aC];rfl
   have e0:([Za (.ref nd),Za (.str x),Za vb,Za (.ref j),u4]:En).set 4 (Za (.str h))=[Za (.ref nd),Za (.str x),Za vb,Za (.ref j),Za (.str h)]:=rfl;rw[e0,bd];obtain⟨u,e⟩:=xT a g W Zj Y hj j1 j2 x hs (ns++[pc (pl L h) x*y h]) (Za (.str h)) (λv hv=>hh v (ah _ hv)) (by rw[aZ,lg];lia)
   grind
  .rw[Zh hx] at in1;have bd:oJ a [Za (.ref nd),Za (.str x),Za vb,Za (.ref j),Za (.str h)] (s.set j (.lst (ns.map λn=>Y4 (aN n d))))=.nx [Za (.ref nd),Za (.str x),Za vb,Za (.ref j),Za (.str h)] (s.set j (.lst (ns.map λn=>Y4 (aN n d)))):=by unfold oJ;rw[ug (oF in1)];rfl
   have e0:([Za (.ref nd),Za (.str x),Za vb,Za (.ref j),u4]:En).set 4 (Za (.str h))=[Za (.ref nd),Za (.str x),Za vb,Za (.ref j),Za (.str h)]:=rfl;rw[e0,bd];obtain⟨u,e⟩:=xT a g W Zj Y hj j1 j2 x hs ns (Za (.str h)) (λv hv=>hh v (ah _ hv)) (by lia)
   grind
end
theorem zY(hd:0<d):∀ns:List Int,aN ns.sum d=mU (ns.map λn=>aN n d)
 |[]=>ii d
 |n::ns=>by rw[fT,am,nV,<-zY hd ns,Hy _ _ _ hd]
def NS{i:Nat}{y:XG}{body:XS}{Z Yi:En}{s s':N'}{n:Nat}{l l':List (Key×PV)}(h0:Z[i]?=Za (Za (.ref n)))(h1:s.get n=Za (.Yl l))(h2:nZ (nr y body) (l.map λkv=>wn kv.1) Z (s.set n (.YR l))=.nx Yi s')(h3:s'.get n=Za (.YR l')):Fq i y body Z s=.nx Yi (s'.set n (.Yl l')):=by unfold Fq;rw[h0];show(match s.get n with|some (.Yl l)=>(nZ (nr y body) (l.map λkv:Key×PV=>wn kv.1) Z (s.set n (.YR l))).ÿ n|_=>.bad)=_;rw[h1];show(nZ (nr y body) (l.map λkv=>wn kv.1) Z (s.set n (.YR l))).ÿ n=_;rw[h2];show(match ſ n s' with|some s'=>SO.nx _ s'|none=>.bad)=_;unfold ſ;rw[h3]
def Cm(M:List Md):((M.map Z6).map λkv:Key×PV=>wn kv.1)=(M.map (·.nm)).map .str:=by rw[aD,aD];rfl
section
variable{s:N'}{nd b:Nat}{N:List Str}{L:List Ent}{M:List Md}{c:Nat}{d:Int}{w:Str->Rat}{y:Str->Int}{vb:PV}{x:Str}
def hel(L:List Ent)(w:Str->Rat)(x:Str):Rat:=mU ((U' L).map λl=>shr L l x*w l)
def Qu(g:Gd L N c)(W:Wt L d w y)(P:ä N c L M)(x):aN ((((M.map (·.nm)).filter λh=>decide (x∈own L h)).map λh=>pc (pl L h) x*y h).sum) d=hel L w x:=by have hm:∀h∈M.map (·.nm),h∈U' L:=λh hh=>(mJ _).mem_iff.mpr (P.names▸hh);rw[zY W.d0,aD];have e1:mU (((M.map (·.nm)).filter λh=>decide (x∈own L h)).map ((λn=>aN n d)∘λh=>pc (pl L h) x*y h))=mU (((M.map (·.nm)).filter λh=>decide (x∈own L h)).map λh=>shr L h x*w h):=mV λh hh=>(W.te h (hm h (bi.mp hh).1) x).symm;rw[e1,rH λh _ hf=>by rw[g.zero (of_decide_eq_false hf),Rat.zero_mul]];refine xG ((jy _ ?_).symm);rw[<-P.names];exact mJ _
def Ks(a:Yg)(g:Gd L N c)(W:Wt L d w y)(Zj:Mz s nd M L N c)(hd:s.get nd=Za (.Yl (M.map Z6)))(Y:By vb L w)(j1:nd<s.nx)(j2:∀m∈M,m.cell<s.nx/\m.cell≠nd)(x:Str) :
  ∃s',uU a [.ref nd,.str x,vb] s=.ok (Y4 (hel L w x)) s'/\Gr s s':=by
 have hm:∀h∈M.map (·.nm),h∈U' L:=λh hh=>(mJ _).mem_iff.mpr (Zj.pr.names▸hh);have l8:=g.l8;have ml:(M.map (·.nm)).length=L.length:=by rw[<-Zj.pr.names,ac]
 have gn:∀i,i<s.nx->(s.add (.lst [])).get i=s.get i:=λi hi=>by rw[ny,Zd (by lia)]
 have gd:=(gn nd j1).trans hd;have g0:((s.add (.lst [])).set nd (.YR (M.map Z6))).get nd=Za (.YR (M.map Z6)):=nQ gd;have nj:nd≠s.nx:=by lia
 have gj:((s.add (.lst [])).set nd (.YR (M.map Z6))).get s.nx=Za (.lst []):=by rw[mF _ _ (bU nj),ny,Zc rfl]
 have Z1:Mz ((s.add (.lst [])).set nd (.YR (M.map Z6))) nd M L N c:=by
  refine⟨?_,?_,λm hm=>?_,Zj.pr⟩
  .show(match((s.add (.lst [])).set nd (.YR (M.map Z6))).get nd with|some (.Yl l)=>Za l|some (.YR l)=>Za l|_=>Zb)=_;rw[g0]
  .show(match((s.add (.lst [])).set nd (.YR (M.map Z6))).get nd with|some (.lst l)=>Za l|_=>Zb)=_;rw[g0]
  .rw[mF _ _ (j2 m hm).2,gn _ (j2 m hm).1];exact Zj.sh m hm
 obtain⟨u,lp⟩:=xT a g W Z1 Y gj nj (λm hm=>by have:=(j2 m hm).1;lia) x (M.map (·.nm)) [] Zb hm (by rw[ml];show 0+_<=_;lia);rw[cT,eS] at lp;have e0:((s.add (.lst [])).set nd (.YR (M.map Z6))).set s.nx (.lst [])=(s.add (.lst [])).set nd (.YR (M.map Z6)):=by show N'.mk _ (pM s.nx _ _)=_;rw[xJ gj]
 rw[e0] at lp;generalize SV:((M.map (·.nm)).filter λh=>decide (x∈own L h)).map (λh=>pc (pl L h) x*y h)=ns at lp;have he:=Qu g W Zj.pr x;rw[SV] at he;have hn:∀n∈ns,Bt 12500 n:=λn Sg=>by rw[<-SV] at Sg;obtain⟨h,hh,rfl⟩:=aq.mp Sg;exact W.tb h (hm h (bi.mp hh).1) x
 have hl:ns.length<=100:=by
  grind
 generalize ht:((s.add (.lst [])).set nd (.YR (M.map Z6))).set s.nx (.lst (ns.map λn=>Y4 (aN n d)))=t at lp;have t1:t.get nd=Za (.YR (M.map Z6)):=by rw[<-ht,mF _ _ nj];exact g0
 have t2:t.get s.nx=Za (.lst (ns.map λn=>Y4 (aN n d))):=by rw[<-ht];exact nQ gj
 have sm:=Gp a ((t.set nd (.Yl (M.map Z6))).del s.nx) W.d0 W.dd hl hn;rw[he] at sm;have tn:t.nx=s.nx+1:=by rw[<-ht];rfl
 refine⟨(t.set nd (.Yl (M.map Z6))).del s.nx,mZ ?_,⟨by show s.nx<=t.nx;lia,λi hi=>?_⟩⟩
 .unfold yk;apply mI (mS rfl);refine mI (NS rfl gd (by rw[Cm];exact lp) t1) ?_;refine nW (mL (mj ?_ rfl) rfl sm);unfold ł;rw[mh rfl];show à (.ref s.nx) _=_;unfold à;have:(t.set nd (.Yl (M.map Z6))).get s.nx=Za (.lst (ns.map λn=>Y4 (aN n d))):=(mF _ _ (bU nj)).trans t2;simp[this]
 .have:((t.set nd (.Yl (M.map Z6))).del s.nx).get i=(t.set nd (.Yl (M.map Z6))).get i:=uL (by lia);rw[this];by_cases q:i=nd
  .subst q;rw[nQ t1];exact hd.symm
  .rw[mF _ _ q,<-ht,mF _ _ (by lia),mF _ _ q,gn i hi]
def QA{s}:Ô (Y4 q) (Y4 q) s=.ok (.bl true) s:=by show Out.ok (PV.bl (cH (dtR q) (dtR q))) s=_;rw[Hv]
def Qg{s}:œ (Y4 q) (Y4 q) s=.ok (.bl false) s:=by show Out.ok (PV.bl !(cH (dtR q) (dtR q))) s=_;rw[Hv];rfl
def BU(a)(s)(i):qQ a [.int i] s=.ok (.bl true) s:=rfl
def NR(a)(s)(q):pC a [Y4 q] s=.ok (.bl true) s:=by
 have dv:=zX a s q.num q.den;have g1:(aH q.num q.den:Int)=1:=by
  have:=q.reduced;unfold aH
  simp_all
 rw[g1] at dv;have d0:=LN q;have c2:V' 2 (oz a) (F' (x2 (j' 0) (xC (.int 0)) Yb) (F' (x2 (j' 0) (xC (.int 1)) Yb) J')) [Za (Y4 q)] s=.ok (.int 1) s:=mL (vs:=[.int q.num,.int q.den]) (mj ((mM (mh rfl) rfl).trans ix0) (mj ((mM (mh rfl) rfl).trans ϖ) rfl)) rfl dv;have e2:=(mM (g:=xC (.int 1)) (F:=Ô) c2 rfl).trans rfl;apply mZ;apply mI ((ug (DU (yK (oF (b:=true) rfl)) (DU (oF rfl) (DU (yK (oF (mL (mj ((mM (mh rfl) rfl).trans ix0) rfl) rfl (BU a s _)))) (yK (oF (mL (mj ((mM (mh rfl) rfl).trans ϖ) rfl) rfl (BU a s _)))))))).trans rfl);refine nW (HK ((mM ((mM (mh rfl) rfl).trans ϖ) rfl).trans ?_) e2);show Out.ok (PV.bl (decide ((q.den:Int)>0))) s=_
 simp_all
end
def Az(h:g (vs.map Za++aQ (N-vs.length) Zb) s=.ex c s'):ZG N g vs s=.ex c s':=by unfold ZG;rw[h]
def Ám{C:ag}{n:Nat}{D:XF}{fa:XA}{Z:En}{s s1 s2:N'}{vs:List PV}{c:Xc}(h1:fa Z s=.ok vs s1)(hn:vs.length+1=n)(h2:D (.ref s1.nx::vs) (s1.add (.obj C []))=.ex c s2):xMk C n D fa Z s=.ex c s2:=by unfold xMk;rw[h1];show(if vs.length+1=n then _ else _)=_;rw[Zc hn,h2];rfl
def À7{C:ag}{nm:Str}{n:Nat}{D:XF}{f:XE}{fa:XA}{Z:En}{s s1:N'}{c:Xc}(h1:f Z s=.ex c s1):ϰ C nm n D f fa Z s=.ex c s1:=by unfold ϰ;rw[h1];rfl
def Pq{f:XE}{Z:En}{s s':N'}{c:Xc}(h:f Z s=.ex c s'):YA f Z s=.ex c s':=by unfold YA;rw[h];rfl
def ÀV{f g:XS}{Z:En}{s s':N'}{c:Xc}(h:f Z s=.ex c s'):X6 f g Z s=.ex c s':=by unfold X6;rw[h]
def ÁM{f:XE}{Z:En}{s s':N'}{c:Xc}(h:f Z s=.ex c s'):Ń f Z s=.ex c s':=by unfold Ń;rw[h];rfl
def KZ{D:XF}{fa:XA}{Z:En}{s s1:N'}{vs:List PV}{n:Nat}{o:Out PV}(h1:fa Z s=.ok vs s1)(hn:vs.length=n)(h2:D vs s1=o):AL n D fa Z s=o:=by
 unfold AL
 simp_all
def O9(h1:u Z s=.ex c s1)(hc:c.1∈cl)(h2:h (Z.set i (Za (.exc c))) s1=.nx Yi s'):Mv i cl u h Z s=.nx (Yi.set i Zb) s':=by
 unfold Mv
 simp_all
def NW{U:List Str}{s:N'}{n:Nat}(h:s.get n=Za (.lst (U.map .str)))(hU:∀x∈U,bA x=true):Ô (.ref n) (LS U) s=.ok (.bl true) s:=by
 have e:PV.data s 12 (.ref n)=PV.data s 12 (LS U):=by show(match s.get n with|some (.lst l)=>(yS (PV.data s 11) l).map PyData.list|_=>Zb)=_;rw[h];rfl
 have e1:=Mo (s:=s) hU hU;rw[Zg rfl] at e1;rw[<-e1];show ZP false _ _ _=ZP false _ _ _;unfold ZP;rw[e]
section
variable{T s t:N'}{nb nd b:Nat}{pp N hs:List Str}{L:List Ent}{M:List Md}{c:Nat}{d:Int}{z:Str->Str->Int}{w:Str->Rat}{x:Str}
def Ek(a:Yg)(H:Ho L N)(hl:L.length<=64)(hb:T.get nb=Za (.book pp L))(SZ:nb<T.nx)(ng:¬Ľ L):∃G,WG L (U' L) G/\xy a [.ref nb] T=.ex (a.Zp,Za (T.nx+1)) ((T.add (.obj a.Yx [])).add (.lst (G.map .str))):=by
 have VI:(T.add (.obj a.Yx [])).get nb=Za (.book pp L):=by rw[ny,Zd (by lia)];exact hb
 obtain⟨G,e,W⟩:=ED a H hl VI;have hG:G≠[]:=λz=>ng (by rw[z] at W;exact W.noG);have so:=λx hx=>wO (H.sm x (H.hn x (Yf.mp (W.sl.mem hx))));have nn:nT a [.ref nb] (T.add (.obj a.Yx []))=.ex (a.Zp,Za (T.nx+1)) ((T.add (.obj a.Yx [])).add (.lst (G.map .str))):=by apply Az;apply mI (mS (mL (mj (mh rfl) rfl) rfl e));refine(yC (oF ((mM (mh rfl) (yL rfl)).trans ((DX (V:=[]) so (λy hy=>nomatch hy)).trans (by rw[Zh hG];rfl))))).trans ?_;rfl
 refine⟨G,W,Az ?_⟩;refine Pq (À7 (Ám (mj (mh rfl) rfl) rfl (Az ?_)));exact ÀV (ÁM (mL (mj (mh rfl) rfl) rfl nn))
theorem Gq:∀{l G G':List Str},l.Nodup->G.Sublist l->G'.Sublist l->(∀x,x∈G↔x∈G')->G=G'
 |[],_,_,_,s1,s2,_=>by rw[List.sublist_nil.mp s1,List.sublist_nil.mp s2]
 |y::l,_,_,nd,s1,s2,h=>by
  obtain⟨n1,n2⟩:=aL.mp nd;cases s1 with
  |cons _ a=>cases s2 with
   |cons _ b=>exact Gq n2 a b h
   |cons_cons _ b=>grind
  |cons_cons _ a=>cases s2 with
   |cons _ b=>grind
   |cons_cons _ b =>
    refine congrArg _ (Gq n2 a b λx=>?_)
    grind
def WG.uniq{G G':List Str}(W:WG L (U' L) G)(W':WG L (U' L) G')(nd:(U' L).Nodup):G=G' :=
 Gq nd W.sl W'.sl λh=>⟨λq=>W'.mx G (λy hy=>W.sl.mem hy) W.cl h q,λq=>W.mx G' (λy hy=>W'.sl.mem hy) W'.cl h q⟩
def FI(a:Yg)(g:Gd L N c)(hl:L.length<=64)(hb:T.get nb=Za (.book pp L))(SZ:nb<T.nx){G:List Str}(W:WG L (U' L) G)(hG:G≠[]):∃T',qY a [.ref nb,LS G] T=.ok (.bl true) T':=by
 have H:=g.ho;have ng:¬Ľ L:=λq=>by obtain⟨h,hh,x,hx,nx⟩:=q G hG λh hh=>Yf.mp (W.sl.mem hh);exact nx (W.cl h hh x hx)
 obtain⟨G',W',e⟩:=Ek a H hl hb SZ ng;obtain rfl:=W.uniq W' g.Z8;have so:=λx hx=>wO (H.sm x (H.hn x (Yf.mp (W.sl.mem hx))));refine⟨(T.add (.obj a.Yx [])).add (.lst (G.map .str)),mZ ?_⟩;apply mI (O9 (ÁM (KZ (mj (mh rfl) rfl) rfl e)) (ax.mpr rfl) (mS (mh rfl)));refine nW (HK ((mM (mh rfl) rfl).trans rfl) ((mM ?_ (mh rfl)).trans (NW (Zc rfl) so)));exact Zc rfl
def KQ{j:Nat}{ix:List Nat}{c:XT}{e:XE}{Z:En}{T:N'}{n:Nat}{l:List (Key×PV)}{vs:List PV}(h1:Z[j]?=Za (Za (.ref n)))(hg:T.get n=Za (.Yl l))(hl:l.length<=100000)(h2:n9 c e (nM ix Z) (l.map λkv=>wn kv.1) (T.set n (.YR l))=.ok vs (T.set n (.YR l))):yF j ix c e Z T=.ok (.lst vs) T:=by
 unfold yF;simp[h1,hg];rw[Zc hl,h2];simp[Out.bind,ſ,nQ hg,EQ hg]
def Qy(n:Int):Y4 (aN n 1)=.tup [.int n,.int 1]:=by
 have:aN n 1=n:=by rw[cD];grind
 rw[this];rfl
theorem Cy{e:XE}{cap:En}{s:N'}{w:Str->Rat}(g:Str->PV):∀(X:List Str),(∀x∈X,e (Za (.tup [.str x,Y4 (w x)])::cap) s=.ok (g x) s)->n9 nI e cap (X.map λx=>.tup [.str x,Y4 (w x)]) s=.ok (X.map g) s
 |[],_=>rfl
 |x::X,h=>by rw[am,oU];simp only[nI,h x al,Cy g X λy hy=>h y (ah _ hy)];rfl
theorem z9{s:N'}{w:Str->Rat}:∀(X:List Str),nz nI (j' 1) [] (X.map λx=>.tup [.str x,Y4 (w x)]) s=.ok (X.map λx=>Y4 (w x)) s
 |[]=>rfl
 |x::X=>by
  have ih:=z9 (s:=s) (w:=w) X;show(match nz nI (j' 1) [] (X.map λx=>.tup [.str x,Y4 (w x)]) s with
   |.ok vs s3=>Out.ok (Y4 (w x)::vs) s3
   |_=>.bad)=_
  simp_all
def ÂE{s:N'}{u v:PV}:Yb (.lst [u,v]) (.int 1) s=.ok v s:=by simp[Yb,YB,Z9,Œ]
structure Lz(T:N')(nb nd:Nat)(pp:List Str)(L:List Ent)(M:List Md)(N:List Str)(c:Nat):Prop where
 bk:T.get nb=Za (.book pp L)
 md:T.get nd=Za (.Yl (M.map Z6))
 sh:∀m∈M,T.get m.cell=Za (.Yl (hP m.hl))
 pr:ä N c L M
 lt:nb<T.nx/\nd<T.nx/\∀m∈M,m.cell<T.nx/\m.cell≠nd
def Lz.gr(h:Lz T nb nd pp L M N c)(G:Gr T t):Lz t nb nd pp L M N c:=by obtain⟨l2,l3,l4⟩:=h.lt;have n:=G.nx;exact⟨(G.fr _ l2).trans h.bk,(G.fr _ l3).trans h.md,λm hm=>(G.fr _ (l4 m hm).1).trans (h.sh m hm),h.pr,by lia,by lia,λm hm=>⟨by have:=(l4 m hm).1;lia,(l4 m hm).2⟩⟩
def Lz.mz(h:Lz T nb nd pp L M N c):Mz T nd M L N c:=⟨by show(match T.get nd with|some (.Yl l)=>Za l|some (.YR l)=>Za l|_=>Zb)=_;rw[h.md],by show(match T.get nd with|some (.lst l)=>Za l|_=>Zb)=_;rw[h.md],h.sh,h.pr⟩
def Ov(g:Gd L (pp++hs) c)(hL:L.map (·.nm)=hs)(nd:(pp++hs).Nodup)(hl:l∈U' L):mU ((Yu pp).map λx=>shr L l x)+mU ((U' L).map λx=>shr L l x)=1:=by have o:=g.one (Yf.mp hl);have pm:(Yu pp++U' L).Perm (pp++hs):=(mJ _).append (by rw[<-hL];exact mJ _);have nU:=pm.nodup_iff.mpr nd;have sw:=uV nU (g.ond l) (λx _ z=>g.zero z);rw[aC,wM] at sw;rw[sw,<-o];exact mV λx hx=>Zc (pm.mem_iff.mpr (g.ho.sub l x hx))
def MM(g:Gd L (pp++hs) c){q:Str->Rat}(S:Sol L q w)(hq:∀x∈Yu pp,q x=0)(hL:L.map (·.nm)=hs)(nd:(pp++hs).Nodup):mU ((Yu pp).map w)=mU ((U' L).map q):=by
 have mv:∀X:List Str,mU (X.map λx=>mU ((U' L).map λl=>shr L l x*w l))=mU ((U' L).map λl=>mU (X.map λx=>shr L l x)*w l):=λX=>by rw[xH];refine mV λl _=>?_;have:mU (X.map λx=>shr L l x*w l)=mU (X.map λx=>w l*shr L l x):=mV λx _=>jd ..;rw[this,qG,jd]
 have e1:mU ((Yu pp).map w)=mU ((U' L).map λl=>mU ((Yu pp).map λx=>shr L l x)*w l):=by rw[<-mv];exact mV λx hx=>by rw[S x,hq x hx,jc]
 have e2:mU ((U' L).map w)=mU ((U' L).map q)+mU ((U' L).map λl=>mU ((U' L).map λx=>shr L l x)*w l):=by rw[<-mv,<-sQ];exact mV λx _=>S x
 have e3:mU ((U' L).map λl=>mU ((Yu pp).map λx=>shr L l x)*w l)+mU ((U' L).map λl=>mU ((U' L).map λx=>shr L l x)*w l)=mU ((U' L).map w):=by
  rw[<-sQ];refine mV λl hl=>?_;have:=Ov g hL nd hl
  grind
 grind
def Pa(g:Gd L N c)(S:Ĩ L d z)(x:Str):Bt 12500 (ϒ L d z x):=by
 have l8:(U' L).length<=8:=by rw[oC];exact g.l8
 have h1:=yH ((U' L).map λh=>tp L d z x h*oZ L h) λy hy=>by obtain⟨h,hh,rfl⟩:=aq.mp hy;exact(K8 g S x hh).mul (g.thb h)
 rw[ac] at h1;exact h1.mono (by lia)
theorem OU(a)(g:Gd L N c)(W:Wt L d w y)(Y:By vb L w)(u0 u1 u2 u3 u5 u7 u9):∀(X:List Str)(T:N')(u8:Option PV),Lz T nb nd pp L M N c->(∀x∈X,w x=hel L w x) ->
  ∃T' v8,nZ (nr (X9 8) (DF a)) (X.map λx=>.tup [.str x,Y4 (w x)]) [u0,u1,u2,u3,Za (.ref nd),u5,Za vb,u7,u8,u9] T=.nx [u0,u1,u2,u3,Za (.ref nd),u5,Za vb,u7,v8,u9] T'/\Lz T' nb nd pp L M N c/\Gr T T'
 |[],T,u8,h,_=>⟨T,u8,rfl,h,.refl _⟩
 |x::X,T,u8,h,hx=>by
  obtain⟨T1,e1,G1⟩:=Ks a g W h.mz h.md Y h.lt.2.1 h.lt.2.2 x;obtain⟨T',v8,e,L4,G4⟩:=OU a g W Y u0 u1 u2 u3 u5 u7 u9 X T1 (Za (.tup [.str x,Y4 (w x)])) (h.gr G1) λy hy=>hx y (ah _ hy);refine⟨T',v8,?_,L4,G1.trans G4⟩;rw[am];unfold nZ;rw[pO];have bd:DF a [u0,u1,u2,u3,Za (.ref nd),u5,Za vb,u7,Za (.tup [.str x,Y4 (w x)]),u9] T=.nx [u0,u1,u2,u3,Za (.ref nd),u5,Za vb,u7,Za (.tup [.str x,Y4 (w x)]),u9] T1:=by apply mI ((ug (DU (yK (oF (b:=true) rfl)) (DU (oF rfl) (yK (oF (mL (mj ((mM (mh rfl) rfl).trans Q3) rfl) rfl (NR a T (w x)))))))).trans rfl);refine(ug (oF ((mM ((mM (mh rfl) rfl).trans Q3) (mL (mj (mh rfl) (mj ((mM (mh rfl) rfl).trans Q4) (mj (mh rfl) rfl))) rfl e1)).trans ?_))).trans rfl;rw[<-hx x al];exact Qg
  simp_all
def Lz.mzf(h:Lz T nb nd pp L M N c):Mz (T.set nd (.YR (M.map Z6))) nd M L N c:=by
 have g0:=nQ (d:=.YR (M.map Z6)) h.md;refine⟨?_,?_,λm hm=>?_,h.pr⟩
 .show(match(T.set nd (.YR (M.map Z6))).get nd with|some (.Yl l)=>Za l|some (.YR l)=>Za l|_=>Zb)=_;rw[g0]
 .show(match(T.set nd (.YR (M.map Z6))).get nd with|some (.lst l)=>Za l|_=>Zb)=_;rw[g0]
 .rw[mF _ _ (h.lt.2.2 m hm).2];exact h.sh m hm
def HV(h:Lz T nb nd pp L M N c)(l8:L.length<=8){Z:En}(ē:Z[4]?=Za (Za (.ref nd))):yF 4 [4] nI (Y7 (F' (x2 (x2 (x2 (j' 1) (j' 0) Yb) (xC (.int 1)) Yb) (xC (.int 0)) Yb) (F' (xC (.int 1)) J'))) Z T=.ok (.lst (((M.map (·.nm)).map (oZ L)).map λn=>Y4 (aN n 1))) T:=by
 have nm:=h.pr.names;have ml:(M.map (·.nm)).length=L.length:=by grind
 have cp:nM [4] Z=[Za (.ref nd)]:=by
  show [(Z[4]?).getD Zb]=_
  simp_all
 have c1:=rc (cap:=[Za (.ref nd)]) (e:=Y7 (F' (x2 (x2 (x2 (j' 1) (j' 0) Yb) (xC (.int 1)) Yb) (xC (.int 0)) Yb) (F' (xC (.int 1)) J'))) (λh=>Y4 (aN (oZ L h) 1)) (M.map (·.nm)) (λy hy=>by
  obtain⟨e,m,kk,f,hm,i1,g1,R⟩:=h.mzf.at_ (Yf.mp ((mJ _).mem_iff.mpr (nm▸hy)));have et:oZ L y=m.th:=by unfold oZ;rw[f];exact R.th
  rw[Qy,et];exact qZ (mj ((mM ((mM ((mM (mh rfl) (mh rfl)).trans i1) rfl).trans ÂE) rfl).trans rfl) (mj rfl rfl)))
 rw[aD];apply KQ ē h.md (by grind);rw[Cm,cp];exact c1
def Qk(a)(l)(hl:l.length<=63)(hw:Att.Ō l):∃s',BS a [.seq (l.map .int)] ⟨0,[]⟩=.ok (.bl true) s':=by
 obtain⟨x0,y0,e0⟩:=JP a ⟨0,[]⟩ l hl hw;have hP:Ys ((⟨0,[]⟩:N').add (.lst [.int x0,.int y0])) 0:=⟨x0,y0,rfl⟩;have nx1:((⟨0,[]⟩:N').add (.lst [.int x0,.int y0])).nx=1:=rfl;generalize (⟨0,[]⟩:N').add (.lst [.int x0,.int y0])=s1 at *;obtain⟨t,nb,nd,pp,hs,c,L,M,e1,B,hL,WN,p1,p3,h6,c28⟩:=K0 a s1 0 (by lia) hP 6 (Zf rfl);obtain⟨g,P⟩:=B.gd WN hL (by lia) (by lia) (by lia);generalize PV.seq (l.map .int)=u at *;have W:=B.w;have L0:Lz t nb nd pp L M (pp++hs) c:=⟨W.bk,W.md,W.sh,W.pr,W.lt.2.1,W.lt.2.2.1,λm hm=>⟨W.lt.2.2.2 m hm,(W.i4 m hm).2.2⟩⟩;have l8:=g.l8;obtain⟨G,eG,Ws⟩:=Ku a L0.mz L0.md g.ho l8;have so:∀y∈G,bA y=true:=λy hy=>wO (g.ho.sm y (g.ho.hn y (Yf.mp (Ws.sl.mem hy))));have ne:=DX (s:=t) (U:=G) (V:=[]) so (λy hy=>nomatch hy);have Ry:∀(s':N')(v:PV),Jk a [Za u,Zb,Zb,Zb,Zb,Zb,Zb,Zb,Zb,Zb] ⟨0,[]⟩=.rt v s'->BS a [u] ⟨0,[]⟩=.ok v s':=λs' v h=>mZ h;by_cases z:G=[]
 .have ng:Ľ L:=by rw[z] at Ws;exact Ws.noG
  obtain⟨d,zz,S,_⟩:=g.solve ng a;obtain⟨w1,T1,e2,S1,G1⟩:=HQ a g ng P L0.bk L0.lt.1;have L1:=L0.gr G1;obtain⟨w2,T2,e3,S2,G2⟩:=J2 a g ng P L1.bk L1.lt.1;have L2:=L1.gr G2;have q1:=S1.uniq g ng (S.sol g);have q2:=S2.uniq g ng (S.sol g);rw[zg λx _=>q1 x] at e2;rw[zg λx _=>q2 x] at e3;have Wz:=S.wt g;have Y:By (.Yl (ĥ (U' L) λh=>Y4 (wv L d zz h))) L (wv L d zz):=λh hh s=>FV hh;have sp:∀x∈Yu pp,oZ L x=0:=λx hx=>GV λq=>by
   have h1:=(mJ _).mem_iff.mp hx;have h2:x∈hs:=by rw[<-hL];exact(mJ _).mem_iff.mp q
   have:=WN.nd
   grind
  have hx:∀x∈Yu pp,wv L d zz x=hel L (wv L d zz) x:=λx hx=>by have:wv L d zz x=((oZ L x:Int):Rat)+hel L (wv L d zz) x:=S.sol g x;rw[sp x hx] at this;exact this.trans (jc _)
  obtain⟨T3,v8,e4,L3,G3⟩:=OU a g Wz Y (Za u) (Za (.ref 0)) (Za (.ref nb)) (Za (LS (Yu pp))) (Za (LS G)) (Za (Fw (Yu pp) (wv L d zz))) Zb (Yu pp) T2 Zb L2 hx;have sop:∀y∈Yu pp,bA y=true:=λy hy=>wO (WN.sm y (b7 _ ((mJ _).mem_iff.mp hy)));have lp:(Yu pp).length<=8:=by rw[(mJ _).length_eq];lia
  have tl:((Yu pp).map λx=>PV.tup [.str x,Y4 (wv L d zz x)]).length<=100000:=by rw[ac];lia
  have cn:=Cy (s:=T2) (cap:=[]) (e:=x2 (j' 0) (xC (.int 0)) Yb) (w:=wv L d zz) (λx=>.str x) (Yu pp) λx _=>(mM (mh rfl) rfl).trans Q4;have th:=HV L3 l8 (Z:=[Za u,Za (.ref 0),Za (.ref nb),Za (LS (Yu pp)),Za (.ref nd),Za (LS G),Za (.Yl (ĥ (U' L) λh=>Y4 (wv L d zz h))),Za (Fw (Yu pp) (wv L d zz)),v8,Zb]) rfl;have nm:=L3.pr.names;have ml:(M.map (·.nm)).length=L.length:=by rw[<-nm,ac]
  have sA:=Gp a T3 S.d0 (S.dd.mono (Zf rfl)) (ns:=(Yu pp).map (ϒ L d zz)) (by rw[ac];lia) (λn hn=>by obtain⟨x,_,rfl⟩:=aq.mp hn;exact Pa g S x)
  have sB:=Gp a T3 (d:=1) (by decide) (bt1 (Zf rfl)) (ns:=(M.map (·.nm)).map (oZ L)) (by rw[ac];lia) (λn hn=>by obtain⟨x,_,rfl⟩:=aq.mp hn;exact(g.thb x).mono (Zf rfl))
  have eqs:aN ((M.map (·.nm)).map (oZ L)).sum 1=aN ((Yu pp).map (ϒ L d zz)).sum d:=by
   have r1:mU (((Yu pp).map (ϒ L d zz)).map λn=>aN n d)=mU ((Yu pp).map (wv L d zz)):=by rw[aD];rfl
   have r2:mU (((M.map (·.nm)).map (oZ L)).map λn=>aN n 1)=mU ((M.map (·.nm)).map λx=>aN (oZ L x) 1):=by rw[aD];rfl
   rw[zY S.d0,zY (by decide),r1,r2];have:=MM g (S.sol g) (λx hx=>by show((oZ L x:Int):Rat)=0;rw[sp x hx];rfl) hL WN.nd;refine Eq.trans ?_ this.symm;rw[<-nm];refine(xG (jy _ (mJ _).symm)).trans (mV λx _=>?_);rw[cD]
   grind
  rw[eqs] at sB;refine⟨T3,Ry _ _ ?_⟩;unfold Jk;refine mI (mS (mL (mj (mh rfl) rfl) rfl e0)) (mI (ÁS (mL (mj (mh rfl) (mj rfl rfl)) rfl e1)) ?_);apply mI (mS (mL (mj (mh rfl) rfl) rfl eG));rw[Zg z] at ne;apply mI ((ug (s1:=t) (oF ((mM (mh rfl) (yL (vs:=[]) rfl)).trans ne))).trans rfl);apply mI (mS ((BI (mj (mL (mj (mh rfl) rfl) rfl e2) rfl)).trans (D8 g.Z8)));apply mI (mS (mL (mj (mh rfl) rfl) rfl e3));refine mI ((ug (s1:=T2) (DU (yK (oF (b:=true) rfl)) (oF (b:=false) ((mM (o5 (nO (mh rfl)) tl cn) (mh rfl)).trans ((DX sop sop).trans (by rw[Zg rfl];rfl)))))).trans rfl) ?_;apply mI (rY (nO (mh rfl)) e4);apply mI (mS th);have cc:oX (Yw (j' 7)) [] nI (j' 1) [Za u,Za (.ref 0),Za (.ref nb),Za (LS (Yu pp)),Za (.ref nd),Za (LS G),Za (.Yl (ĥ (U' L) λh=>Y4 (wv L d zz h))),Za (Fw (Yu pp) (wv L d zz)),v8,Za (.lst (((M.map (·.nm)).map (oZ L)).map λn=>Y4 (aN n 1)))] T3=.ok (.lst (((Yu pp).map (ϒ L d zz)).map λn=>Y4 (aN n d))) T3:=by unfold oX;rw[nO (mh rfl)];show(if((Yu pp).map λx=>PV.tup [.str x,Y4 (wv L d zz x)]).length<=100000 then _ else _)=_;rw[Zc tl];show(nz nI _ [] _ T3).bind _=_;rw[z9,aD];rfl
  exact nW ((mM (mL (mj cc rfl) rfl sA) (mL (mj (mh rfl) rfl) rfl sB)).trans QA)
 .obtain⟨T',e5⟩:=FI a g (by lia) L0.bk L0.lt.1 Ws z;refine⟨T',Ry _ _ ?_⟩;unfold Jk;refine mI (mS (mL (mj (mh rfl) rfl) rfl e0)) (mI (ÁS (mL (mj (mh rfl) (mj rfl rfl)) rfl e1)) ?_);apply mI (mS (mL (mj (mh rfl) rfl) rfl eG));rw[Zh z] at ne;exact Gu ((yC (s1:=t) (oF ((mM (mh rfl) (yL (vs:=[]) rfl)).trans ne))).trans (nW (mL (mj (mh rfl) (mj (mh rfl) rfl)) rfl e5)))
end
def NF{K}{a}{H}{c}{ns}{Q}{E}(hl:ns.length<=63)(hw:Att.Ō ns)(ht:bJ K aV "rules"=Za Zb)(hO:OA H)(hS:YO K H c (ns.map V.int))(k:∀v H',v=.bl true->Q v H'):YX K a.X8 1 (BS a) [.ref c] H Q E:=by
 obtain⟨s',e⟩:=Qk a ns hl hw;have S0:SR K a.X8 H ⟨λ_=>c,λ_=>[],[]⟩ ⟨0,[]⟩:=by
  refine⟨iE,(by intro n hn;cases hn),(by grind),(by grind),(by grind),(by intro z hz;cases hz),λP q t=>?_⟩;obtain⟨x,hx,c',h1,h2⟩:=t;simp[Fl] at hx;unfold PySem.W.tabIn at h1
  simp_all
 have R0:∀(l:List Int),X7 K H ⟨λ_=>c,λ_=>[],[]⟩ ⟨0,[]⟩ (l.map V.int) (l.map PV.int):=λl=>by
  induction l with
  |nil=>exact .nil
  |cons x r ih=>exact .cons .int ih
 have pu:ù (⟨λ_=>c,λ_=>[],[]⟩:Mp) ⟨0,[]⟩ c:=⟨(by grind),by intro n hn;cases hn⟩;have hr:Rep K H ⟨λ_=>c,λ_=>[],[]⟩ ⟨0,[]⟩ (.ref c) (.seq (ns.map .int)):=by
  refine .seq ?_ (R0 ns);rcases hS with(h|h)|h
  .obtain z|⟨o,xs,z⟩:=hO c
   .grind
   .grind
  .exact .inl ⟨h,pu⟩
  .exact .inr h
 refine⟨rfl,[.seq (ns.map .int)],⟨0,[]⟩,_,.cons hr .nil,S0,?_⟩;rw[e]
 rintro u H' m' _ _ ⟨⟩
 exact k _ _ rfl
open PyProof.Rows
structure Gxa(K:aa)(x:Str)(X:ag):Prop where
 n:bJ K aV x=Za (Za (.ref X))
 e:Exc K X
def gxa{K:aa}{x:Str}{X:ag}(n:bJ K aV x=Za (Za (.ref X)))(a:fF K X ų "ValueError.__new__"=true)(b:aI K (.ref X) "__getattribute__"=Za (Za (.builtin "BaseException.__getattribute__")))(c:aI K (.ref X) "__getattr__"=Za Zb)(d:aI K (.ref X) "__class__"=Za (Za (.builtin "object.__class__")))(e:cM K (.builtin "object.__class__") "__get__"=Za (Za (.builtin "getset_descriptor.__get__")))(f:fN K (.builtin "object.__class__")=Za true)(g:bS K X (.type "object")=Za true)(h:bS K X (.type "BaseException")=Za true):Gxa K x X:=⟨n,⟨ÁH a,b,c,d,e,f,g,h⟩,a⟩
structure Gxw(K:aa)(X:ag):Prop where
 b:aI K (.ref X) "__getattribute__"=Za (Za (.builtin "BaseException.__getattribute__"))
 c:aI K (.ref X) "__getattr__"=Za Zb
 d:aI K (.ref X) "__class__"=Za (Za (.builtin "object.__class__"))
 e:cM K (.builtin "object.__class__") "__get__"=Za (Za (.builtin "getset_descriptor.__get__"))
 f:fN K (.builtin "object.__class__")=Za true
 g:bS K X (.type "object")=Za true
 h:bS K X (.type "BaseException")=Za true
structure Gwh(K:aa)(C Zi:ag):Prop where
 ex:Jl K C=true
 mo:(PySem.W.clsIn K C).map (·.mro)=Za (.ref C::.ref Zi::ų)
 rd:lU K Zi (.type "type")=true
 fi:lV K (.ref Zi) (.type "type") "__init__"=Za (.val (.builtin "ValueError.__init__"))
 me:bS K C (.ref C)=Za true
 hd:cG K C=true
 sa:aI K (.ref C) "__setattr__"=Za (Za (.builtin "object.__setattr__"))
 gr:aI K (.ref C) "group"=Za Zb
 ga:cM K (.ref Zi) "__getattribute__"=Za (Za (.builtin "type.__getattribute__"))
 kw:bV K (.ref C)=true
structure Gw(K:aa)(C:ag):Prop where
 n:bJ K aV "Ways"=Za (Za (.ref C))
 p:ee K C cq=true
 h:cG K C=true
 o:gu K C=true
 s:aI K (.ref C) "__setattr__"=Za (Za (.builtin "object.__setattr__"))
 m:fO K C=true
 k:bV K (.ref C)=true
 a:aI K (.ref C) "bottom"=Za Zb
 b:aI K (.ref C) "top_of"=Za Zb
def all_mk{l:gJ}{w}{K}{h}{mg}{fa}(X:K.In h)(G:h.Ns aV mg)(hfa:mg "law"=Za (.ref fa)){Rw So SQ R9 RY Sb Sq Sa RA BK WY}(x0z:Gxa K "OwnError" Rw)(x1z:Gxa K "NoName" So)(x2z:Gxa K "Twice" SQ)(x3z:Gxa K "TooMany" R9)(x4z:Gxa K "NoHolder" RY)(x5z:Gxa K "NoHouse" Sb)(x6z:Gxa K "NoLoss" Sq)(x7z:Gxa K "NoShare" Sa)(Se:bJ K aV "Whole"=Za (Za (.ref RA)))(gv:Gxw K RA)(gh:Gwh K RA Rw)(jw:Gm K RA "__init__" "Whole.__init__" tE)(cb:Gb K BK)(cw:Gw K WY)(c0z:Gt K "ZERO" 0 1)(c1z:Gt K "ONE" 1 1)(u0z:Gi K "LONGEST_NAME" 8)(u1z:Gi K "MOST_PERSONS" 6)(u2z:Gi K "MOST_HOUSES" 8)(z0z:Gz K "len")(z1z:Gz K "range")(z2z:Gz K "all")(z3z:Gz K "int")(z4z:Gz K "abs")(z5z:Gz K "sorted")(z6z:Gz K "tuple")(z7z:Gz K "list")(z8z:Gz K "str")(z9z:Gz K "bool")(WA:Gz K "isinstance")(Wx:Gz K "ValueError")(Ww:Gz K "any")(Wv:Gz K "set")(Wu:Gz K "max")(Ts:Gz K "dict")(T7:Gz K "enumerate")(U0:Gz K "sum")(UZ:Gz K "zip")(j0:Gf K "is_name" vp)(j1:Gf K "need_loss" uz)(j2:Gf K "common_divisor" pY)(j3:Gf K "plus" Gv)(j4:Gf K "minus" Dp)(j5:Gf K "is_above" vU)(j6:Gm K BK "__init__" "Book.__init__" uI)(j7:Gm K BK "is_house" "Book.is_house" qD)(j8:Gm K BK "is_holder" "Book.is_holder" pZ)(j9:Gm K BK "need_house" "Book.need_house" pQ)(j10:Gm K BK "need_holder" "Book.need_holder" pA)(j11:Gm K BK "need_new_name" "Book.need_new_name" oM)(j12:Gm K BK "person" "Book.person" rT)(j13:Gm K BK "house" "Book.house" tF)(j14:Gm K BK "sale" "Book.sale" uH)(j15:Gm K BK "persons" "Book.persons" qV)(j16:Gm K BK "houses" "Book.houses" rV)(j17:Gm K BK "of" "Book.of" xM)(j18:Gm K BK "shares" "Book.shares" qg)(j19:Gf K "_law_mixed" tu)(j20:Gf K "_law_purse" tf)(j21:Gf K "_law_draw" uF)(j22:Gf K "_law_divisor" qU)(j23:Gf K "_law_made" uD)(j24:Gf K "_law_names" tj)(j25:Gf K "_law_number" rQ)(j26:Gf K "_law_part" uC)(j27:Gf K "_law_sold" uB)(j28:Gf K "_law_built" tD)(j29:Gf K "lowest" As)(j30:Gf K "cleared" xK)(j31:Gf K "solved" Aq)(j32:Gf K "is_held_within" pX)(j33:Gf K "whole_group" rP)(j34:Gf K "need_no_whole_group" oH)(j35:Gf K "cut" Ma)(j36:Gf K "all_cut" xL)(j37:Gf K "owning" Ar)(j38:Gf K "agreement" uA)(j39:Gm K WY "__init__" "Ways.__init__" uG)(j40:Gm K WY "top_by" "Ways.top_by" rR)(j41:Gm K WY "all_by" "Ways.all_by" rS)(j42:Gf K "own_things" sX)(j43:Gf K "worths" Ap)(j44:Gf K "parts" Do)(j45:Gf K "_law_whole" sY)(j46:Gf K "_law_group" tw)(j47:Gf K "_law_sum" vV)(j48:Gf K "_law_times" sZ)(j49:Gf K "_law_held" uE)(j50:Gf K "_law_is_fraction" pj)(j51:Gf K "_law_refused" qT)(j52:Gf K "law" L9)(zr:Gz K "rules")
  :∃(a:Yg)(fd:cg),bJ K aV "rules"=Za Zb/\(∀(s:au)(v:ae),jR s fd ⟨[v],[]⟩ [("_law_script",v)])/\∀base:bc,K.In base->base.Ns aV mg->Yt l.prog w K mg base (YW l.prog w) 11 fa fd ["_law_script"] (YX K a.X8 1 (BS a)):=by
 have g:=λ{x v}=>@jM _ _ _ x v X G;obtain⟨n0,e0⟩:=x0z;obtain⟨n1,e1⟩:=x1z;obtain⟨n2,e2⟩:=x2z;obtain⟨n3,e3⟩:=x3z;obtain⟨n4,e4⟩:=x4z;obtain⟨n5,e5⟩:=x5z;obtain⟨n6,e6⟩:=x6z;obtain⟨n7,e7⟩:=x7z;obtain⟨o0,_,_,_,_,_,p0,l0⟩:=c0z;obtain⟨o1,_,_,_,_,_,p1,l1⟩:=c1z;obtain⟨t0,y0⟩:=u0z;obtain⟨t1,y1⟩:=u1z;obtain⟨t2,y2⟩:=u2z;obtain⟨f,fd,n,U⟩:=j52;cases hfa.symm.trans (g n);let a:Yg:=⟨Rw,So,SQ,R9,RY,Sb,Sq,Sa,BK,RA,BK,o0,o1,WY,t0,t1,t2,λ_ _=>false⟩;have T:Txt K mg a:=⟨z0z.at_ X G,z1z.at_ X G,z2z.at_ X G,z3z.at_ X G,z4z.at_ X G,z5z.at_ X G,z6z.at_ X G,z7z.at_ X G,z8z.at_ X G,z9z.at_ X G,WA.at_ X G,Wx.at_ X G,Ww.at_ X G,Wv.at_ X G,Wu.at_ X G,g n0,g n1,g n2,g n3,g n4,g n5,g n6,g n7,g Se,e0,e1,e2,e3,e4,e5,e6,e7,g y0,g y1,g y2,g p0,g p1,
  ⟨_,_,_,l0,rfl,rfl,(show 2<=aG by decide),.cons ⟨_,rfl⟩ (.cons ⟨_,rfl⟩ .nil)⟩,⟨_,_,_,l1,rfl,rfl,(show 2<=aG by decide),.cons ⟨_,rfl⟩ (.cons ⟨_,rfl⟩ .nil)⟩,⟨cb.p,cb.h,cb.o,cb.s⟩,cb.a,cb.b,cb.c,cb.d,cb.e⟩
 obtain⟨fw,dw,nw,iw,Uw⟩:=jw;have ZW:Ew K RA Rw fw:=⟨gh.ex,nw,beq_iff_eq.mp iw,gh.me,gh.mo,gh.hd,gh.sa,gh.gr,gh.ga,gh.rd,gh.kw,gh.fi⟩;have XW:Ϥ K RA:=⟨ZW.ob,gv.b,gv.c,gv.d,gv.e,gv.f,gv.g,gv.h⟩;have WG:Wg K mg a:=⟨ZW.cb,λc hc=>by rw[ax.mp hc];exact⟨XW,ZW.me⟩,⟨XW,ZW.gr,ZW.hd⟩,g Se⟩;refine⟨a,fd,zr.z,λs v=>?_,λbase _ _=>?_⟩
 .obtain⟨_,_,_,_,_,_,_,_,_,rfl,_,_⟩:=U.ex;exact .of_eq rfl
 have Y:Yz K mg a:=⟨T,_,X,G⟩;have WW:Wy K mg a:=⟨⟨cw.p,cw.h,cw.o,cw.s⟩,cw.a,cw.b,g cw.n,cw.m,cw.k⟩;have WH:Wh l.prog w K mg base "Whole" a.Zp 2:=⟨⟨Rw,fw,dw,ZW,Bf ZW Uw T,Uw.binds (by first|exact bd1|exact bd2|exact bd3|exact bd4|exact bd5|exact bd6|exact bd0)⟩,g Se⟩;have N:=λ{x st k ps sp}=>@Gf.fn l.prog w K mg base _ x st ps sp k X G;have M:=λ{x q st k ps sp}=>@Gm.mt l.prog w K mg base x q st BK ps sp k T.cl;have r0:=N j0 λU=>FO U T  ;have r1:=N j1 λU=>C1 U T  ;have r2:=N j2 λU=>P8 U T  ;have d2:=Fn.imp r2 (MJ (K:=K) (a:=a));have r3:=N j3 λU=>Nu U T  r2;have r4:=N j4 λU=>J5 U T  r3;have r5:=N j5 λU=>J7 U T  ;have k0:=j6.bk (P:=l.prog) (w:=w) (base:=base) X G cb λU=>Nv U T;have r7:=M j7 λU=>Eo U T  ;have r8:=M j8 λU=>C2 U T  r7;have r9:=M j9 λU=>Bh U T  r7;have Ud:=M j10 λU=>y8 U T  r8;have U7:=M j11 λU=>Em U T  r0 r8;have UK:=M j12 λU=>Iv U T  U7;have d12:=Mt.imp UK (Fz (a:=a));have V1:=M j13 λU=>J6 U T  U7 Ud r1;have d13:=Mt.imp V1 (HW (a:=a));have r14:=M j14 λU=>Nt U T  r9 Ud r5 r4 r3;have d14:=Mt.imp r14 (JC (a:=a));have r15:=M j15 λU=>FN U T  ;have d15:=Mt.imp r15 (Eg (a:=a));have r16:=M j16 λU=>Iy U T  ;have VT:=Mt.imp r16 (FA (a:=a));have r17:=M j17 λU=>À9 U T  r9;have d17:=Mt.imp r17 (Pj (a:=a));have r18:=M j18 λU=>Iu U T  r9;have d18:=Mt.imp r18 (Fy (a:=a));have d19:tN l.prog w K mg base a:=Bm Y j19  ;have d20:tL l.prog w K mg base a:=Bk Y j20  d19;have VS:oR l.prog w K mg base a:=Db Y j21  ;have d22:pT l.prog w K mg base a:=yx Y j22  ;have Wq:pK l.prog w K mg base a:=C9 Y j23  d22;have d24:tM l.prog w K mg base a:=Bl Y j24 (T7.at_ X G) VS;have d25:sd l.prog w K mg base a:=y9 Y j25  VS;have d26:uS l.prog w K mg base a:=C8 Y j26  VS Wq;have d27:uR l.prog w K mg base a:=C7 Y j27  d26 d14 Wq VS;have d28:tP l.prog w K mg base a:=Bo Y j28  VS d24 k0 d12 d13 d25 d27;have d29:AH l.prog w K mg base a:=Ix Y j29  d2;have d30:xY l.prog w K mg base a:=FP Y j30 (UZ.at_ X G) ;have d31:AF l.prog w K mg base a:=Is Y j31 (T7.at_ X G) d30;have d32:p7 l.prog w K mg base a:=wj Y j32  d18;have d33:rZ l.prog w K mg base a:=y7 Y j33  VT d32;have d34:oI l.prog w K mg base a:=sL Y j34 WH  d33;have d35:Mu l.prog w K mg base a:=P9 Y j35 (Ts.at_ X G) d2;have d36:xZ l.prog w K mg base a:=FQ Y j36 (Ts.at_ X G) d35 VT d18;have d37:AG l.prog w K mg base a:=Iw Y j37 (U0.at_ X G) ;have d38:uQ l.prog w K mg base a:=C6 Y j38  d37;have d39:rL l.prog w K mg base a:=Dc Y WW j39 (T7.at_ X G) (UZ.at_ X G) d34 VT d36 d31 d38 d15;have d40:se l.prog w K mg base a:=za Y WW j40 (U0.at_ X G) ;have d41:qk l.prog w K mg base a:=zc Y WW j41  d29 d40;have d42:qO l.prog w K mg base a:=Bg Y j42 (Ts.at_ X G) VT d17;have d43:AE l.prog w K mg base a:=Ir Y j43  d41 VT d42 d39;have d44:Ah l.prog w K mg base a:=J4 Y j44  d41 d15 d42 d39;have d45:tJ l.prog w K mg base a:=Bi Y j45  ;have d46:tO l.prog w K mg base a:=Bn Y j46  ;have d47:tZ l.prog w K mg base a:=Ep Y j47  Wq;have d48:tK l.prog w K mg base a:=Bj Y j48  Wq;have d49:uT l.prog w K mg base a:=Da Y j49  d47 d48;have d50:pB l.prog w K mg base a:=vd Y j50  d45 d22;have d51:qX l.prog w K mg base a:=yw Y j51 WG  d44;exact P7 T U (Ts.at_ X G) d20 d28 d46 d44 d51 d43 d47 d49 d50
def Lc(K:aa):Sp:=λvs H Q E=>∃(c:ag)(ns:List Int),vs=[.ref c]/\ns.length<=63/\Att.Ō ns/\OA H/\YO K H c (ns.map V.int)/\(∀v H',v=.bl true->Q v H')
def Qz{K}{a}(ht:bJ K aV "rules"=Za Zb)(vs)(H)(Q)(E)(h:Lc K vs H Q E):YX K a.X8 1 (BS a) vs H Q E:=by obtain⟨c,ns,rfl,hl,hw,hO,hS,k⟩:=h;exact NF hl hw ht hO hS k
def walk{l:gJ}{q}{R8}{XP}{YP}{d:DefRec}{K:Params->aa}(hn:l.most=Za 63)(VC:d.params.defaults=[])(hY:∀(w:aT)(h:bc),YP w h->(K w.params).In h)(F:∀(w:aT)(mg:Str->Option ae)(fa:ag)(h:bc),(K w.params).In h->h.Ns aV mg->mg d.name=Za (.ref fa) ->
   ∃(a:Yg)(fd:cg),bJ (K w.params) aV "rules"=Za Zb/\(∀(s:au)(u:ae),jR s fd ⟨[u],[]⟩ [("_law_script",u)])/\∀base:bc,(K w.params).In base->base.Ns aV mg->Yt l.prog w (K w.params) mg base (YW l.prog w) 11 fa fd ["_law_script"] (YX (K w.params) a.X8 1 (BS a))) :
  lH q R8 XP YP l.row.toRowW d [] (λf vs=>lE f vs) :=
 L2.ϑ (n:=63) (k:=11) (x:="_law_script") (CX:=λw=>YW l.prog w) (sp:=λw=>Lc (K w.params)) hn (by decide) VC ⟨rfl,by decide,by decide⟩ hY
  (λw mg fa h X G hm=>let⟨a,fd,h0,h1,h2⟩:=F w mg fa h X G hm;⟨fd,h1,λbase b1 b2=>(h2 base b1 b2).imp (Qz h0)⟩)
  (λ_ _ c ns hl hw hO hS=>⟨c,ns,rfl,hl,hw,hO,hS,λ_ _ e=>e⟩) λ_ _ _ _ _ z=>by
  obtain⟨_,_,_,_,_,_,_,_,_,_,_,_,_,_,_,z⟩:=z;exact z
end My
structure PySem.W.Fast:Prop where
 (tw447283637290278753 tw12006140026284504058 tw11436849960230788562 tw14229467431616275116 tw8810839508162772959 tw8945638919082726726 tw3218263596667586425 tw8823031883387791979 tw3393639080134729074 tw12971060162064598725 tw9285277874268534187 tw6073936690685015373 tw16948463036950623785 tw601999185905752488 tw5864522691146376340 tw6201829755345949478 tw17853880393149767009 tw2195548956659922863 tw14963699161914545250 tw5361868260298869863 tw14200477468214019240 tw13526370839184647882 tw4151306005352928783 tw10047968925537873873 tw10699587094583575805 tw10781261035981122326 tw2086567979429845796 tw12260855079733660990 tw16353989765886033404 tw12500145976052672825 tw14730852163342545881 tw5943864806447305917 tw11616518226342913966 tw14584509687035232062 tw4102434580710392712 tw10915785511250582243 tw9059330231896978149 tw6585831036575087516 tw18199629160240769540 tw7543101918205672590 tw15129180682332179478 tw10778120278591008366 tw11699943667828818791 tw12069436955614320983 tw18439061880949716940 tw7967911181735204277 tw437956674417589948 tw12523379352262706176 tw5197272981011827845 tw2940177447429228176 tw4883150838754804398 tw3059560503570255355 tw8492960136212537670 tw8074868439412697594 tw870663256485088236 tw12736411677531656761 tw16390949092649225968 tw11020957488316788968 tw800325611578030983 tw14965166076954815813 tw7613618712180844571 tw504340763597956864 tw10611862927386929685 tw7006244798836809676 tw17495204139922530068 tw15852426347519952216 tw91151969148628461 tw1589283424887748777 tw5076038236426114210 tw3467471509807155914 tw16821343576211370290 tw18285320213797682188 tw12953949547900275611 tw10163667891131231627 tw15749363849429028153 tw8631102681130794745 tw2354319356339838965 tw4066038212559780553 tw5737709450827669828 tw12077692857375303622 tw2527112680653798038 tw3764199871217447366 tw14992419484363018749 tw14162334481182705106 tw4813408393809950474 tw14897290478653660409 tw4017643879178014333 tw18206392305776792075 tw12894259937774049299 tw4718370559294197058 tw17287712255995854143 tw15597289592966466452 tw5264099801730378369 tw913530847888343777 tw3927963503345227424 tw14293536598410008536 tw15934135104232321403 tw7922846163616949472 tw6664742085508759539 tw8678211397744490363 tw2961328759743681504 tw11632603990505675881 tw17585796138699689053 tw5342513082396037475 tw7032034536070452310 tw8956831421503374906 tw4583855829395539326 tw6873920972556206794 tw10955814846849375328 tw5518667129383692102 tw6330683671923950634 tw10232562452679182985 tw5631294573253088282 tw14204230453645875052 tw14310451367549986007 tw11410083741313202839 tw8370843037039834306 tw14937051448165633722 tw5195486828146414396 tw14558630472138277227 tw1326615199703593586 tw16459814027461391496 tw6319709783935361797 tw8213545046742653746 tw7930732509413365561 tw1763829565984101038 tw6726620380952509512 tw228192716681423636 tw2237894106026860676 tw11991089342541283139 tw1712742293066123740 tw13670860489316843046 tw2908055555395361843 tw3664933087445033400 tw3093695914858629835 tw9670358679366415744 tw8724625031795510717 tw906065820640625709 tw13003556669972902820 tw8977155716720037908 tw11519967132678200657 tw9642981671200543150 tw688419309873451182 tw16247634505680651285 tw5533591397673401504 tw13183619861941277072 tw14014874565540601187 tw11388416654888698416 tw6126288191669955038 tw18082165939010379293 tw15035379739996456878 tw4003263044354472979 tw1724519209719859674 tw15600751632655109104 tw6981173996289853071 tw9040443322625467135 tw6145117745743784176 tw2347645595908986386 tw6841810200052194657 tw6562396819860325443 tw15701595001668533615 tw7642206868166367392 tw6702916407830930287 tw778854624504781654 tw10653212421795815971 tw16065492453986598478 tw8715344609339299561 tw756351479686894680 tw9450276919759700864 tw12259567793574868583 tw17845814682600956835 tw5838757334159726233 tw5832225660009863821 tw6962655664905747887 tw13586505793009935830 tw6480090262388088881 tw7837773273025676030 tw14859121007685544068 tw11741437048819701907 tw14684728059401106276 tw11665795707110390382 tw12265908732238060534 tw5202383567787984434 tw3103086196449769348 tw6208460329759812503 tw10717681242141082515 tw3481189072787958813 tw13009902676357303846 tw6122134107887651821 tw13191439021228515085 tw10661688074172112083 tw7722833366593191746 tw2451985757056235702 tw17388207296977962088 tw1675837002082896654 tw1965236939077792524 tw10722853413430901812 tw17772917321664755560 tw8679742888156685639 tw11314193356702845316 tw17505576205300009060 tw6107454655686326177 tw10185169257674665926 tw7606538347034897170 tw12065863626621898646 tw13477840355023294481 tw6070820315790550474 tw5455140368261888084 tw982655090112542325 tw4362312546511299057 tw3672104840250660499 tw9148717430831490136 tw10177823576952467534 tw17291063203972557614 tw4447739099258427720 tw5202046530754204467 tw3290338573279695783 tw18112773144795229640 tw10618962241059999337 tw8379568856702445097 tw14498755178767971056 tw3868093946433043042 tw6993121818587065505 tw15950637978933708675 tw17159555494750740702 tw15996623603236872244 tw16616771202432457113 tw2954106721562727927 tw5273409930959385646 tw2259851175636062127 tw5713547808649656324 tw4968714853136601915 tw17345318082806837063 tw4915117291984057652 tw17708243802876402138 tw410828055556630567 tw18231558759210468632 tw8657745663310138599 tw9792668905412139102 tw15238094804165080679 tw11121546129712418119 tw1966510036333986208 tw19490353684468049 tw12185510020888706858 tw18386768517410349916 tw1239697297213704356 tw6839373921916238307 tw10513308728869627088 tw9834913935258403858 tw14875959374879646682 tw14185562063188433460 tw13765490343732453887 tw18147570042597413971 tw8271884573071905608 tw3206476438823058887 tw17793204080794486297 tw4036028906867078824 tw8718414782349810447 tw8715883212525516248 tw7823472643238090545 tw17748924479283553620 tw2740600062301036938 tw10769855653028187169 tw9397108143558366602 tw3140168462274860277 tw5638066300426744382 tw17529194479868164021 tw8649318851803987336 tw16758727060521276097 tw17275267154244996306 tw11207013507262663903 tw10442343627917930470 tw3247151986095093850 tw5389958328237972061 tw12426000761736557771 tw17794456741260881972 tw808079729568209455 tw11080012602918811433 tw8535112840910831300 tw3907219902575563653 tw1109894060860674076 tw14250330750053622791 tw12975518588781027992 tw9502015865460492819 tw16306810523918371991 tw12086701877899446819 tw8779789690533387418 tw8290686015771925253 tw9351076202081581725 tw18129736565177462543 tw14297993236285184525 tw14801968776569001023 tw11253779738253442426 tw11776963216166057450 tw10642109583132777914 tw4646444725497974895 tw1444372936811646976 tw1362332152954021341 tw11473712653541285795 tw15841672367178775855 tw9108942050828859664 tw7418889086481257848 tw15000893111195490999 tw4471176554292966840 tw14894352034391031171 tw16452514625565109618 tw11452600891725648349 tw13614024161332934045 tw5671287975015693586 tw5221062610535551959 tw7717385523006346138 tw15882400497144979787 tw11517875954450362601 tw8941565001896144840 tw13321083882767202580 tw6816183788361567543 tw3255960266813339131 tw503342370917026018 tw18311040981057588077 tw18226182483933702300 tw8614065786387813263 tw9148501196665318607 tw11662516044149498213 tw9907374549848066303 tw9852913731284493100 tw15668064876457934447 tw18150714189298660071 tw9759402861286300559 tw23291048891833933 tw14580127521181176826 tw14043053142565435392 tw11284873009319604546 tw15231272778327237266 tw973531211620609058 tw6272417300192544519 tw8946007084539320507 tw16580774292808021760 tw13664018994578469689 tw3532778140906224860 tw9622055108668923359 tw1082767213250799206 tw16646028932084074897 tw7936142331405738956 tw15234815066789602624 tw10806349461023132615 tw10251212698773255606 tw13695517923897948790 tw10272760420832666479 tw3065635122817493066 tw603271898312107061 tw10881243887879855593 tw3839095596324325256 tw15717595241099206688 tw4611306184462630013:True)
open PySem.W
set_option maxRecDepth 100000 in
set_option maxHeartbeats 0 in
theorem PySem.Challenge.cw_wholeowners_k12_parts_holds : PySem.Challenge.rw_wholeowners_k12_parts.Holds := by
 w_on;o_law;k_head;(case hw=>w_witness2)
 k_fill
 refine My.walk (l:=PySem.Challenge.rw_wholeowners_k12_parts) rfl rfl (λw h Y=>PySem.W.kIn_of Y) ?F
 case F =>
  intro w mg fa h KX G Vn;apply My.all_mk KX G Vn
  all_goals first
   |(apply L2.gf<;>k_is)
   |(apply L2.gm<;>k_is)
   |(apply My.gxa;(focus k_is);(focus k_exc);all_goals k_is)
   |(apply My.Gxw.mk<;>k_is)
   |(apply My.Gwh.mk<;>first|k_is|kernel_rfl)
   |(apply L2.gx;(focus k_is);(focus k_exc);all_goals k_is)
   |(apply L2.gt<;>k_is)
   |(apply L2.gi;k_is)
   |(apply L2.Gz.mk;k_is)
   |(apply L2.Gb.mk<;>k_is)
   |(apply My.Gw.mk<;>k_is)
   |k_is

