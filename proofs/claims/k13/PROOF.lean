import PyProof.Rows.All
import Wide.All
import OpenK.AllK
import Wide.FinOn
import Lean
import PyProof.EqAt
import PyProof.EqKinds
import PyProof.TupleCall
import KE.KLam
import KE.KNest
import PySem.Challenge.RW_wholeowners_k13_ways_through
import KE.KNestM
import KE.KIsAll
import PyProof.EnumFor
import PyProof.EnumStmt
import PyProof.EnumMake
import PyProof.StrOps2
import PyProof.ZipIter
import PyProof.Rows.SumAny
import PyProof.AttrMissHeap
import KE.KDictOf
import PyProof.SumWalk
import PyProof.DictWalks
import KE.KEqDict
theorem Zf{p}[i:Decidable p](h:decide p=true):p:=of_decide_eq_true h
theorem Zg{p}[i:Decidable p](h:p):decide p=true:=decide_eq_true h
theorem Zh{p}[i:Decidable p](h:¬p):decide p=false:=decide_eq_false h
open Option renaming some→Za,none→Zb
theorem Zc{c:Prop}{h:Decidable c}(k:c){α}{t e:α}:ite c t e=t:=if_pos k
theorem Zd{c:Prop}{h:Decidable c}(k:¬c){α}{t e:α}:ite c t e=e:=if_neg k
open PySem.W renaming Frag->aa,findIn->aK,kitOne->aY,mroIn->bF,nsIn->bI,kia_one->bQ,emptyDict->bU,keepIn->bW,fnOf->bZ,specialIn->cI,kitAny->cQ,instObj->cY,hasDictIn->cZ,hideAll->dM,plainGet->ed,Looks->en,looks_findIn->eI,callWith_K->eP,excIn->fC,takesIn->fI,makesIn->fJ,codeIn->fW,plainOver->gc,OpenLaw->gH,isFn->gI,methodCall_KW->gQ,lookIn->g7,looks_mroIn->ig,plainGet_of->io,looks_clsIn->ip,hideAll_get->iq,of_hideAll->iI,kitx_list->iR,takerIn->je,tailIn->jm,mg_of->jD,funFrames_hide->jR,cellsFrom_some->jS,hideAll_none->kr,callWith_K0->kD,tail_of_in->kS,kitx_tuple->kT,set_plain->k8,kitx_none->k9,kitx_dict->la,handedIn->ly,any_some->lz,WalkO->lA,readsIn->lP,kia_tup->lQ,findCls->lR,bind_fn->lS
open List renaming length_map->ac,mem_cons_of_mem->ae,mem_cons_self->ai,map_cons->am,mem_cons->ao,mem_map->ar,mem_singleton->ay,map_append->aA,getElem?_eq_getElem->aC,mem_append_right->aD,map_map->aE,getElem?_map->aF,nodup_cons->aM,replicate->aQ,getElem?_eq_some_iff->aS,length_append->aT,mem_append->aW,map_congr_left->a7,mem_filter->ba,size_toArray->bj,range->br,length_cons->bx,mem_append_left->bV,find?_cons->bX,append_nil->bY,mem_iff_getElem?->b5,nodup_append->b6,lookup_cons->cz,length->cD,map_nil->cP,getElem_mem->cR,pairwise_cons->cS,mem_range->cT,getElem?_append_right->cU,length_filter_le->cW,getElem?_append_left->da,nil_append->dg,mem_of_getElem?->dk,all_eq_true->dH,filter_map->dR,any_cons->dU,length_replicate->dX,getElem?_eq_none->dY,take_add_one->d6,not_mem_nil->eB,length_take->eC,drop_eq_getElem_cons->eJ,replicate_succ->eM,drop_eq_nil_of_le->fk,any_eq_true->fF,sum_cons->fO,getElem?_set_ne->fR,mem_filterMap->gu,find?_map->gw,find?_eq_none->gy,lookup->gD,getElem?_set->gE,flatten_cons->gF,length_eq_zero_iff->gK,length_drop->gL,getElem?_replicate->gM,getElem?_cons_zero->gN,getElem?_cons_succ->gO,filter_cons->gP,any_map->gX,length_singleton->ii,nodup_nil->iC,map_id->iD,length_pos_iff->iN,filter_sublist->iO,filter_eq_self->iP,filterMap_cons->iQ,all_cons->iS,findIdx?_eq_some_iff_getElem->iY,find?_append->i8,ext_getElem?->i9,append_assoc->ja,take_length->jg,map_fst_zip->jh,of_mem_zip->jt,length_set->ju,length_nil->jv,perm_ext_iff_of_nodup->jP,zipWith->kK,take_of_length_le->kL,range_succ_eq_map->kM,getElem?_set_self->kN,take_append_drop->kZ,cons_lt_cons_iff->k6,mem_of_mem_take->lf,mem_of_mem_drop->lg,drop_eq_nil_iff->lh,getElem?_range->lK,ne_nil_of_mem->lY,contains_cons->lZ
open PySem renaming Value->af,Addr->ag,wpAny_bind->ah,starEach->aq,Shared->aw,wpAny_pure->aG,sizeLine->aH,Program->aL,wpAny->aP,mainGlobals->aV,World->aX,Expr->bc,Heap->bi,bootBuiltins->bu,wpAny_mono->bw,foldedSetIterable->bL,Stmt->bN,backTo->bP,compareOp->bR,Around->b8,FuncData->cj,assignEach->cJ,behindInMarks->cK,attributeBase->cL,keywordEach->cM,swapsWith->cO,wpAny_holding->cX,wpAny_Call_Name_kw->de,mem_of_lookup->dy,wpAny_truthy_bool->dA,wpAny_newObj_type->dB,wpAny_loadPart_at->dC,lookup_relabel_local->dD,binaryOp->dE,Scope->dF,sysModules->dZ,wpAny_passesOwn->d8,Spec->ee,wpAny_standAt->eg,backToKw->eO,Paired->eU,wpAny_comprehension_free->eZ,cLine->fb,wpAny_execs_nil->fg,codeAny->fj,tupleKind_room_in1->ft,codeAny_mono->fH,Keyword->fK,getMethod->fV,standAt->fY,sliceBounds->f7,codeAny_call_builtin->f8,bindArgs->f9,wpAny_pyIter_list->gT,swapsWithSole->gZ,swappedStores->g5,reprText->im,NameKind->iu,wpAny_call->iG,getItem->iH,strIterType->iW,callWith->iX,tupleKind->i6,wpAny_isSubtype_exc->jc,wpAny_execs_cons->jd,typeLookup->ji,call_meets->jj,builtinsNs->jk,wpAny_assign_Name->jA,callerA->jB,call_meetsIn->jC,IntMulOk->jE,GenState->jF,BindsTo->jI,plainObj_wpAny_Assign_Attribute->jK,Result->jU,IsPart->jW,Arguments->jY,wpAny_field->ke,sizeLine_eq->kf,letOwnedTupleGo->kn,codeAny_builtin->ko,Within->kq,valueAt->kA,setItem->kB,notedBy->kC,wpAny_loadPart->kQ,isInstance->kR,PyData->kU,call->lv,bindL->lM,bindC->lN,atKey->lO,Builtin->lT
open And renaming intro->aj
open PySem.Heap renaming get?_push_of_some->ak,lt_size->au,get?_push_size->aN,get?_update_ne->dG,get?_update_self->dW,size_push->iz,SameBut->i7,get?_update_other->kF,FlyingW->kG
open Nat renaming le_refl->al,lt_of_lt_of_le->ax,ne_of_lt->az,le_trans->aI,lt_of_le_of_lt->aZ,zero_le->a6,pow_le_pow_right->cg,lt_succ_of_lt->cm,lt_succ_self->cA,two_pow_pos->cE,lt_irrefl->eS,le_succ->eX,zero_add->fu,ne_of_gt->fz,le_of_lt->fA,le_of_ble_eq_true->fE,le_of_not_lt->fN,lcm->fQ,eq_of_mul_eq_mul_left->gC,lt_trans->g8,le_of_eq->jf,le_antisymm->jJ,add_assoc->ky,add_sub_cancel_left->kJ,pow_succ->kY,pow_lt_pow_right->lH,pow_add->lI,mul_pos->lJ,mul_le_mul_left->lV,add_le_add_left->lW
open Sum renaming inr->ap,inl->kO
open Int renaming gcd->aJ,mul_le_mul_of_nonneg_right->aU,mul_assoc->bh,mul_pos->bv,gcd_pos_of_ne_zero_right->bA,le_of_lt->bG,mul_comm->bT,gcd_dvd_right->cq,mul_ediv_cancel_left->cH,emod_lt_of_pos->dP,eq_of_mul_eq_mul_right->ej,toNat_of_nonneg->eQ,emod_nonneg->eT,mul_right_comm->eV,mul_nonpos_of_nonneg_of_nonpos->eW,natCast_dvd_natCast->eY,mul_left_comm->fB,natAbs_dvd_natAbs->fG,gcd_dvd_left->fP,ofNat_le->g9,le_trans->hJ,natAbs_neg->iK,natAbs_mul->iL,mul_nonneg->iM,natAbs_natCast->iZ,mul_nonpos_of_nonpos_of_nonneg->i0,gcd_mul_left->jo,neg_mul->jx,ediv_eq_of_eq_mul_right->jQ,le_of_mul_le_mul_right->jZ,mul_one->lL
open Rat renaming divInt->aO,mul_nonneg->bK,le_trans->cG,intCast_natCast->cN,divInt_eq_div->dq,mul_le_mul_of_nonneg_left->dN,natCast_le_natCast->dO,intCast_lt_intCast->fm,mul_comm->f6,num_divInt_den->gz,zero_add->gY,zero_divInt->hZ,intCast_mul->ia,intCast_add->ib,mul_pos->iF,add_zero->jb,natCast_mul->jy,intCast_sub->jz,divInt_eq_divInt_iff->km,le_of_lt->kP,divInt_add_divInt->k7,le_refl->lr
open PySem.Value renaming ref->aR,builtin->jT
open False renaming elim->bo
open Ne renaming symm->bH
open Bool renaming false_ne_true->bJ,eq_iff_iff->ci,or_eq_true->di,and_eq_true->dI,eq_false_iff->gG,false_and->iE,true_and->iT
open PySem.PyData renaming strOk->bM,eqv->cC,eqvAll->eK,depth->iU,str->jp,canLayAll0->lE
open Option.some renaming inj->bO
open PySem.NameKind renaming free->bS,cell->ir
open PySem.Str renaming ofString->b7,empty->cx
open PySem.Builtin.Int renaming intBits->cy
open PySem.F renaming excBase_ValueError->cB,plainAttrs_dict->gB,slot_list_getattribute->gR,slot_dict_get->gS,slot_dict_getitem->jq,slot_dict_values->jG,slot_list_index->jL,plainAttrs_list->jM,args_dict_get_3->jN,entry_dict_get->jX,slot_dict_pop->ki,slot_list_append->kX
open True renaming intro->cF
open Classical renaming propDecidable->du,byContradiction->fX
open PyProof.Rows renaming callWith_type1->dJ,slot_tuple_getitem->dL,envOfC->ei,AllBare->gW,callWith_builtin1->iB,assignInOrder_cons->jn
open PySem.Builtin.Slice renaming slicePlaces->dQ,sliceAdjust->fM
open Option renaming isSome_map->dS,isSome_iff_exists->eL,isSome_eq_false_iff->fZ,isNone_iff_eq_none->gg,map_eq_some_iff->kj,map_eq_none_iff->kl,getD_none->lU
open Or renaming inl->eA,inr->gJ
open ForInStep renaming yield->eE
open PySem.Calls renaming spliced_cons->eR,callWith_builtin->fc,evalArgs_plain->fL,spliced_nil->gA,Name_function_global->jH,Constant_str->lF
open PySem.PassesOwn renaming never->fD
open List.Sublist renaming refl->fS
open PySem.Spec renaming ltCps->fT
open PySem.Builtin.List renaming listTooLong->fU
open PySem.W.WData renaming weightAll->gU,int->iy
open List.cons renaming inj->ij
open PySem.Expr renaming Subscript->iA
open PySem.Paired renaming length->iJ,snoc->kE
open PySem.Code renaming quiet_builtin->iV
open Nat.succ renaming inj->jO
open PySem.Obj renaming mapSeq->jV
open PySem.SeqAt.EqAt renaming str_int->kg,int_str->kh
open PySem.W.Looks renaming ld->ku
open PySem.Heap.DictOf renaming new->kH
open PySem.Around renaming under_plainId->kI
open PySem.Heap.Ns1 renaming of_empty->kW
open Array renaming length_toList->li
open PySem.Within renaming cons->lw
open PySem.SeqAt renaming EqAt->lC
open PySem.Builtin.BaseException renaming bexcPut->lG
open List.Perm renaming map->l7
set_option compiler.extract_closed false
set_option bootstrap.genMatcherCode false
set_option genSizeOf false
noncomputable section
set_option Elab.async false
set_option linter.all false
set_option autoImplicit true
set_option maxRecDepth 100000
namespace L2
open PySem PySem.Spec PyProof.Rows
abbrev Key:=Sum Int Str
def DM:Key->af->Bool
 |.inl k,v=>Value.isInt k v
 |.inr x,v=>Value.isStrOf x v
def ÂA(w:aX):Key->Int
 |.inl k=>hashInt k
 |.inr x=>hashStr w x
def nF:∀{k:Key}{v:af},DM k v=true->(∃i t,k=kO i/\v=Value.int i t)\/(∃x t,k=ap x/\v=Value.str x t)
 |.inl i,v,h=>by
  obtain⟨t,e⟩:=Value.isInt_shape h;exact .inl ⟨i,t,rfl,e⟩
 |.inr x,v,h=>by obtain⟨t,e⟩:=Value.isStrOf_shape h;exact .inr ⟨x,t,rfl,e⟩
def IG(i)(t):DM (.inl i) (.int i t)=true:=by simp[DM,Value.isInt]
def IF(x)(t):DM (.inr x) (.str x t)=true:=by simp[DM,Value.isStrOf]
def Qn(a b):decide ((kO a:Key)=kO b)=(a==b):=by grind
def Lv(a b):decide ((ap a:Key)=ap b)=decide (a=b):=by grind
def Qm(a)(b):decide ((kO a:Key)=ap b)=false:=Zh (λq=>nomatch q)
def Ql(a)(b):decide ((ap a:Key)=kO b)=false:=Zh (λq=>nomatch q)
def nI(prog:aL)(w:aX):PySem.KeyKind prog w Key where
 is:=DM
 hash:=ÂA w
 inj:=λv a b ha hb=>by
  rcases nF ha with⟨i,t,rfl,rfl⟩|⟨x,t,rfl,rfl⟩
  .rcases nF hb with⟨j,u,rfl,e⟩|⟨y,u,rfl,e⟩
   .injection e with e1 _;rw[e1]
   .exact nomatch e
  .rcases nF hb with⟨j,u,rfl,e⟩|⟨y,u,rfl,e⟩
   .exact nomatch e
   .injection e with e1 _;rw[e1]
 byValue:=λk v h=>by rcases nF h with⟨i,t,rfl,rfl⟩|⟨x,t,rfl,rfl⟩<;>rfl
 pyHash:=λhv h=>by
  rcases nF hv with⟨i,t,rfl,rfl⟩|⟨x,t,rfl,rfl⟩
  .exact wpAny_pyHash_int h
  .exact wpAny_pyHash_str h
 eqBool:=λhu hv h=>by
  rcases nF hu with⟨i,t,rfl,rfl⟩|⟨x,t,rfl,rfl⟩
  .rcases nF hv with⟨j,u,rfl,rfl⟩|⟨y,u,rfl,rfl⟩
   .rw[Qn] at h;exact wpAny_eqBool_int h
   .rw[Qm] at h;exact kh i t y u _ _ _ _ h
  .rcases nF hv with⟨j,u,rfl,rfl⟩|⟨y,u,rfl,rfl⟩
   .rw[Ql] at h;exact kg x t j u _ _ _ _ h
   .rw[Lv] at h;exact wpAny_eqBool_str h
 «strs»:=λk x t v h=>by
  rcases nF h with⟨i,u,rfl,e⟩|⟨y,u,rfl,e⟩
  .exact nomatch e
  .injection e with e1 _
   subst e1;cases v<;>rfl
def Eh(prog)(w)(i)(t):(nI prog w).is (.inl i) (.int i t)=true:=IG i t
def Eg(prog)(w)(x)(t):(nI prog w).is (.inr x) (.str x t)=true:=IF x t
inductive V where
 |Ym|bl (b:Bool)|int (i:Int)|str (x:Str)|byt (b:Array UInt8)|flt (b:UInt64)|ref (a:ag)|ty (n:String)
 deriving DecidableEq
def RelV:V->af->Prop
 |.Ym,u=>u=Value.none
 |.bl b,u=>u=Value.bool b
 |.int i,u=>∃t,u=Value.int i t
 |.str x,u=>∃t,u=Value.str x t
 |.byt b,u=>∃t,u=Value.bytes b t
 |.flt b,u=>∃t,u=Value.float b t
 |.ref a,u=>u=aR a
 |.ty n,u=>u=Value.type n
abbrev Vals:List V->List af->Prop:=eU RelV
theorem Vals.length(r:Vals xs us):xs.length=us.length:=iJ r
theorem Vals.get:∀{xs:List V}{us:List af}{i:Nat}{x:V},Vals xs us->xs[i]?=Za x->∃u,us[i]?=Za u/\RelV x u
 |_,_,_,_,.nil,e=>by simp at e
 |_,_,0,_,.cons r _,e=>by simp at e;subst e;exact⟨_,rfl,r⟩
 |_,_,i+1,x,.cons _ t,e=>by
  obtain⟨u,h1,h2⟩:=Vals.get t (by simpa using e)
  simp_all
theorem Vals.set(r:RelV x u):∀{xs:List V}{us:List af}(i:Nat),Vals xs us->Vals (xs.set i x) (us.set i u)
 |_,_,_,.nil=>.nil
 |_,_,0,.cons _ t=>.cons r t
 |_,_,i+1,.cons q t=>.cons q (Vals.set r i t)
theorem Vals.append:∀{xs ys:List V}{us ws:List af},Vals xs us->Vals ys ws->Vals (xs++ys) (us++ws)
 |_,_,_,_,.nil,s=>s
 |_,_,_,_,.cons r t,s=>.cons r (Vals.append t s)
theorem Vals.take:∀{xs:List V}{us:List af}(n:Nat),Vals xs us->Vals (xs.take n) (us.take n)
 |_,_,0,_=>.nil
 |_,_,_+1,.nil=>.nil
 |_,_,n+1,.cons r t=>.cons r (Vals.take n t)
theorem Vals.drop:∀{xs:List V}{us:List af}(n:Nat),Vals xs us->Vals (xs.drop n) (us.drop n)
 |_,_,0,r=>r
 |_,_,_+1,.nil=>.nil
 |_,_,n+1,.cons _ t=>Vals.drop n t
def Ç:Option V->Option af->Prop
 |some v,Za u=>RelV v u
 |none,Zb=>True
 |_,_=>False
def KV{κ:Type}:List (κ×V)->List (κ×af)->Prop:=eU λ(p:κ×V)(q:κ×af)=>p.1=q.1/\RelV p.2 q.2
def kV:Key->V
 |.inl i=>.int i
 |.inr x=>.str x
inductive HO where
 /-- a list -/
 |lst (xs:List V)
 /-- a tuple (never changes) -/
 |tup (xs:List V)
 /-- a dict whose keys are ints and texts;one whose keys are tuples of ints and texts (the empty one is both) -/
 |dK (Ra:List (Key×V))|dT (Ra:List (List Key×V))
 /-- a set of ints: its members,its size -/
 |set (S:Int->Bool) (n:Nat)
 /-- an instance of the class at C,its dict at dx,its attributes -/
 |ins (C dx:ag) (fs:List (Str×V))
 /-- the dict of the instance at x -/
 |own (x:ag)
 /-- the dict of an exception -/
 |xd (fs:List (Str×V))
 /-- a bound method,f of x -/
 |met (f x:ag)
 /-- a range object lo,lo+1,.. below hi -/
 |rng (lo hi:Int)
 /-- a thing that is known to the object (the script;a dict while a loop walks it): read,never written while it is so -/
 |YZ (o:Obj) (u:HO)
 /-- a code object's table -/
 |Ő (ps:Array af)
 /-- any S7 thing,by what is true of its one object (a def of one's own: SetO a S n:=HO.ext λh=>..) -/
 |ext (φ:bi->Prop)
abbrev Hp:=ag->Option HO
def upd(H:Hp)(a:ag)(o:HO):Hp:=λb=>if b=a then Za o else H b
def mv:upd H a o a=Za o:=by unfold upd;rw[Zc rfl]
def mj(h:b≠a):upd H a o b=H b:=by unfold upd;rw[Zd h]
def wZ:upd (upd H a o) a u=upd H a u:=by
 funext b;unfold upd;split<;>rfl
def FQ{H:Hp}{a b:ag}{o u:HO}(h:H a=Za o)(h':H b=Za u)(d:o≠u):a≠b:=by grind
def mG{H:Hp}{a b:ag}{o:HO}(h:H a=Za o)(h':H b=Zb):a≠b:=by grind
section
variable(P:aL)(w:aX)
def YJ(H:Hp)(h:bi)(a:ag):HO->Prop
 |.lst xs=>xs.length<=aH/\∃(its:List af)(n:Nat),Vals xs its/\h.get? a=Za { cls:=.type "list",data:=.seq its.toArray n }
 |.tup xs=>xs.length<=aH/\∃its:List af,Vals xs its/\IsTup h a its.toArray
 |.dK Ra=>Ra.length<=aH/\(a==dZ)=false/\∃vs,KV Ra vs/\h.DictOf (nI P w) a vs
 |.dT Ra=>Ra.length<=aH/\(a==dZ)=false/\∃xs:List (List Key×ag×af),
   eU (λ(p:List Key×V)(q:List Key×ag×af)=>p.1=q.1/\H q.2.1=Za (.tup (p.1.map kV))/\RelV p.2 q.2.2) Ra xs /\
   ∃o es ep,h.get? a=Za o/\o.ExactDict/\o.data=.dict es ep/\es.toList=xs.map (entryOfKey (i6 (nI P w)))/\(xs.map (·.1)).Nodup
 |.set S n=>h.SetOf (intKind P w) a S n
 |.ins C dx fs=>H dx=Za (.own a)/\fs.length<=1000/\dx≠a/\h.get? a=Za (cY C dx) /\
   ∃mA,h.Ns1 dx mA/\(∀f,Ç (fs.lookup f) (mA f))/\kq mA (fs.map (·.1))
 |.own _=>∃o,h.get? a=Za o
 |.xd fs=>∃mA,h.Ns1 a mA/\∀f,Ç (fs.lookup f) (mA f)
 |.rng lo hi=>∃t u v,h.get? a=Za { cls:=.type "range",data:=.fields #[.int lo t,.int hi u,.int 1 v] }
 |.YZ o u=>h.get? a=Za o/\YJ H h a u
 |.Ő ps=>h.get? a=Za { cls:=.none,data:=.fields ps }
 |.met f x=>h.get? a=Za (PySem.W.methodObj (.ref f) (.ref x))
 |.ext φ=>φ h/\(∃o,h.get? a=Za o)/\∀h1 h2:bi,φ h1->(∀o,h1.get? a=Za o->h2.get? a=Za o)->φ h2
def Õ(H:Hp)(h:bi):Prop:=∀a o,H a=Za o->YJ P w H h a o
end
section
variable{P:aL}{w:aX}{H H':Hp}{h h':bi}{a:ag}{o:HO}
theorem YJ.lt(x:YJ P w H h a o):a<h.objs.size:=by
 cases o with
 |lst xs=>obtain⟨_,_,_,_,e⟩:=x;exact au e
 |tup xs=>obtain⟨_,_,_,p⟩:=x;exact p.lt
 |dK Ra=>obtain⟨_,_,_,_,o,_,_,e,_⟩:=x;exact au e
 |dT Ra=>obtain⟨_,_,_,_,o,_,_,e,_⟩:=x;exact au e
 |set S n=>obtain⟨o,_,_,_,e,_⟩:=x;exact au e
 |ins C dx fs=>obtain⟨_,_,_,e,_⟩:=x;exact au e
 |own y=>obtain⟨_,e⟩:=x;exact au e
 |xd fs=>obtain⟨_,⟨_,_,_,e,_⟩,_⟩:=x;exact au e
 |rng lo hi=>obtain⟨_,_,_,e⟩:=x;exact au e
 |YZ ob u=>obtain⟨e,_⟩:=x;exact au e
 |Ő ps=>exact au (x)
 |met f y=>exact au (x)
 |ext φ=>obtain⟨_,⟨_,e⟩,_⟩:=x;exact au e
theorem eU.Àd:∀{la1:List α}{la2:List β},eU F la1 la2->(∀a b,F a b->G a b)->eU G la1 la2
 |_,_,.nil,_=>.nil
 |_,_,.cons r t,f=>.cons (f _ _ r) (eU.Àd t f)
def YJ.Û(x:YJ P w H h a o)(k:∀b u,(b=a\/H b=Za (.own a))->h.get? b=Za u->h'.get? b=Za u)(ho:∀b,H b=Za (.own a)->H' b=Za (.own a))(ht:∀b xs,H b=Za (.tup xs)->H' b=Za (.tup xs)):YJ P w H' h' a o:=by
 induction o with
 |lst xs=>obtain⟨z,its,n,r,e⟩:=x;exact⟨z,its,n,r,k _ _ (.inl rfl) e⟩
 |tup xs=>obtain⟨z,its,r,ob,e,c⟩:=x;exact⟨z,its,r,ob,k _ _ (.inl rfl) e,c⟩
 |dK Ra=>obtain⟨z,y,vs,r,ob,es,ep,e,c⟩:=x;exact⟨z,y,vs,r,ob,es,ep,k _ _ (.inl rfl) e,c⟩
 |dT Ra =>
  obtain⟨z,y,xs,r,ob,es,ep,e,c⟩:=x;exact⟨z,y,xs,eU.Àd r λp q z=>⟨z.1,ht _ _ z.2.1,z.2.2⟩,ob,es,ep,k _ _ (.inl rfl) e,c⟩
 |set S n=>obtain⟨ob,es,ep,t,e,c⟩:=x;exact⟨ob,es,ep,t,k _ _ (.inl rfl) e,c⟩
 |ins C dx fs =>
  obtain⟨d,z,ne,e,mA,⟨od,es,ep,e2,c⟩,r⟩:=x;exact⟨ho _ d,z,ne,k _ _ (.inl rfl) e,mA,⟨od,es,ep,k _ _ (.inr d) e2,c⟩,r⟩
 |own y=>obtain⟨ob,e⟩:=x;exact⟨ob,k _ _ (.inl rfl) e⟩
 |xd fs=>obtain⟨mA,⟨od,es,ep,e,c⟩,r⟩:=x;exact⟨mA,⟨od,es,ep,k _ _ (.inl rfl) e,c⟩,r⟩
 |rng lo hi=>obtain⟨t,u,v,e⟩:=x;exact⟨t,u,v,k _ _ (.inl rfl) e⟩
 |YZ ob u ih=>obtain⟨e,q⟩:=x;exact⟨k _ _ (.inl rfl) e,ih q⟩
 |Ő ps =>
  have e:=x;exact k a _ (.inl rfl) e
 |met f y =>
  have e:=x;exact k a _ (.inl rfl) e
 |ext φ=>obtain⟨p,⟨o,e⟩,st⟩:=x;exact⟨st _ _ p λo q=>k _ _ (.inl rfl) q,⟨o,k _ _ (.inl rfl) e⟩,st⟩
theorem Õ.lt(x:Õ P w H h)(e:H a=Za o):a<h.objs.size:=(x a o e).lt
def Õ.fresh(x:Õ P w H h)(e:h.objs.size<=a):H a=none:=by
 cases q:H a with
 |none=>rfl
 |some u=>exact absurd (ax (x.lt q) e) (eS _)
def Õ.kept(x:Õ P w H h)(k:∀b u,h.get? b=Za u->h'.get? b=Za u):Õ P w H h':=λa o e =>
 (x a o e).Û (λb u _ q=>k b u q) (λ_ q=>q) λ_ _ q=>q
def Õ.laid(x:Õ P w H h)(k:∀b u,h.get? b=Za u->h'.get? b=Za u)(hp:h.objs.size<=a)(new:YJ P w (upd H a o) h' a o):Õ P w (upd H a o) h':=λb u e=>by
 have hn:=x.fresh hp;by_cases hb:b=a
 .subst hb;rw[mv] at e;grind
 .rw[mj hb] at e;exact(x b u e).Û (λc v _ q=>k c v q) (λc q=>by rw[mj (mG q hn)];exact q) λc xs q=>by rw[mj (mG q hn)];exact q
end
def Rd(H:Hp)(a:ag)(u:HO):Prop:=H a=Za u\/∃o,H a=Za (.YZ o u)
def Rd.ok(r:Rd H a u)(x:Õ P w H h):YJ P w H h a u:=by
 obtain r|⟨o,r⟩:=r
 .exact x a u r
 .obtain⟨_,q⟩:=x a _ r;exact q
def Mut:Option HO->Prop
 |some (.lst _)=>True
 |some (.dK _)=>True
 |some (.dT _)=>True
 |some (.set _ _)=>True
 |some (.ins _ _ _)=>True
 |some (.ext _)=>True
 |_=>False
section
variable{P:aL}{w:aX}{H:Hp}{h h':bi}{x e:ag}{o':HO}
def Õ.write(ok:Õ P w H h)(mu:Mut (H x))(he:e=x\/H e=Za (.own x))(k:∀b u,b≠e->h.get? b=Za u->h'.get? b=Za u)(VB:∃u,h'.get? e=Za u)(new:YJ P w (upd H x o') h' x o'):Õ P w (upd H x o') h':=λb u q=>by
 have WT:∀c y,H c=Za (.own y)->c≠x:=λc y r z=>by subst z;rw[r] at mu;exact mu
 have WS:∀c xs,H c=Za (.tup xs)->c≠x:=λc xs r z=>by subst z;rw[r] at mu;exact mu
 by_cases hb:b=x
 .subst hb;rw[mv] at q;grind
 .rw[mj hb] at q;by_cases hbe:b=e
  .have q':H b=Za (.own x):=by
    grind
   rw[q] at q';cases q';obtain⟨v,hv⟩:=VB;exact⟨v,by rw[hbe];exact hv⟩
  .refine(ok b u q).Û (λc v hc r=>k c v ?_ r) (λc r=>by rw[mj (WT c b r)];exact r) λc xs r=>by rw[mj (WS c xs r)];exact r
   grind
end
structure Un(fs ex:List ag)(H H':Hp)(h h':bi):Prop where
 keep:∀b o,h.get? b=Za o->H b=Zb->b∉fs->b∉ex->h'.get? b=Za o
 slot:∀b o,h.get? b=Za o->H b=Zb->b∈fs->b∉ex->∃sl,h'.get? b=Za { o with slots:=sl }
 free:∀b o,h.get? b=Za o->H b=Zb->b∉ex->H' b=Zb
 there:∀b o,h.get? b=Za o->b∉ex->∃o',h'.get? b=Za o'
 É:∀b xs,H b=Za (.tup xs)->H' b=Za (.tup xs)
 ZO:∀b o u,H b=Za (.YZ o u)->H' b=Za (.YZ o u)
 Ú:∀b ps,H b=Za (.Ő ps)->∃RF,H' b=Za (.Ő (ps++RF))
section
variable{fs ex:List ag}{H H1:Hp}{h h1 h':bi}{a x e:ag}{o:HO}
def Un.any(u:Un fs ex H H1 h h1)(q:h.get? b=Za ob)(n:H b=Zb)(hx:b∉ex):∃sl,h1.get? b=Za { ob with slots:=sl }:=by
 by_cases hb:b∈fs
 .exact u.slot b ob q n hb hx
 .exact⟨ob.slots,u.keep b ob q n hb hx⟩
def Un.kept(k:∀b u,h.get? b=Za u->h'.get? b=Za u):Un fs ex H H h h' :=
 ⟨λb ob q _ _ _=>k b ob q,λb ob q _ _ _=>⟨ob.slots,k b ob q⟩,λ_ _ _ n _=>n,λb ob q _=>⟨ob,k b ob q⟩,λ_ _ q=>q,λ_ _ _ q=>q,λ_ ps q=>⟨#[],by rw[q];simp⟩⟩
def Un.refl:Un fs ex H H h h:=Un.kept λ_ _ q=>q
def Un.laid(k:∀b u,h.get? b=Za u->h'.get? b=Za u)(hp:h.objs.size<=a)(hn:H a=Zb):Un fs ex H (upd H a o) h h' where
 keep:=λb u q _ _ _=>k b u q
 slot:=λb u q _ _ _=>⟨u.slots,k b u q⟩
 free:=λb u q n _=>by rw[mj (az (ax (au q) hp))];exact n
 there:=λb u q _=>⟨u,k b u q⟩
 É:=λb xs q=>by rw[mj (mG q hn)];exact q
 ZO:=λb u xs q=>by rw[mj (mG q hn)];exact q
 Ú:=λb ps q=>⟨#[],by rw[mj (mG q hn),q];simp⟩
def Un.write(mu:Mut (H x))(he:e=x\/H e=Za (.own x))(k:∀b u,b≠e->h.get? b=Za u->h'.get? b=Za u)(VB:∃u,h'.get? e=Za u):Un fs ex H (upd H x o) h h':=by
 have hx:∀b,H b=Zb->b≠x:=λb n z=>by subst z;rw[n] at mu;exact mu
 have hb:∀b,H b=Zb->b≠e:=λb n z=>by
  grind
 have hm:∀b u,H b=Za u->¬Mut (Za u)->b≠x:=λb u q nm z=>by grind
 refine⟨λb u q n _ _=>k b u (hb b n) q,λb u q n _ _=>⟨u.slots,k b u (hb b n) q⟩,λb u q n _=>by rw[mj (hx b n)];exact n,λb u q _=>?_,
  λb xs q=>by rw[mj (hm b _ q λz=>z)];exact q,λb u xs q=>by rw[mj (hm b _ q λz=>z)];exact q,λb ps q=>⟨#[],by rw[mj (hm b _ q λz=>z),q];simp⟩⟩
 grind
end
noncomputable def trk(h:bi)(H:Hp):List ag:=(br h.objs.size).filter λa=>(H a).isSome
def Hj(h:bi)(H:Hp):bi:=dM h (trk h H)
def IL(h)(H):(Hj h H).objs.size=h.objs.size:=PySem.W.hideAll_size _ _
def Kv(e:h.get? b=Za o)(n:H b=Zb):(Hj h H).get? b=Za o :=
 iq _ e λhm=>by
  have q:=(ba.mp hm).2
  grind
def Nr(e:(Hj h H).get? b=Za o):h.get? b=Za o/\H b=none:=by
 have e':=iI (trk h H) e;refine⟨e',?_⟩;cases q:H b with
 |none=>rfl
 |some x =>
  have hm:b∈trk h H:=ba.mpr ⟨cT.mpr (au e'),by simp[q]⟩;have z:(Hj h H).get? b=none:=kr (trk h H) hm
  grind
noncomputable def Os(g h:bi)(L:ag):List (ag×Obj):=(br h.objs.size).filterMap λa=>if a=L\/(g.get? a).isSome=true then Zb else(h.get? a).map λo=>(a,o)
def rest(g h:bi)(L d:ag):List (ag×Obj):=(Os g h L).filter λp=>decide (p.1≠d)
structure Mod(K:aa)(mg:Str->Option af)(base:bi):Prop where
 kin:K.In base
 glob:base.Ns aV mg
 blt:∃mb,base.Ns jk mb/\∀x:Str,x≠"__name__"->mb x=bu x
 nolimit:base.NoLimit
structure Cx where
 prog:aL
 w:aX
 K:aa
 mg:Str->Option af
 base:bi
 A:b8
 N:List Str
 Y':aw
 Ha0:Hp
 env:Env
 outer:List Env
 stack:List Env
 ex:List ag
 fn:Str->Bool
 calm:Bool
 pn:List (ag×Obj)
 xe:af->aw->Prop
def ZE(l:List Env):List ag:=l.filterMap (·.frame)
abbrev Cx.fs(X:Cx):List ag:=ZE X.outer
def Vis(sc:dF)(x:Str):Prop:=sc.names.lookup x=Za .local\/sc.names.lookup x=Za .cell\/sc.names.lookup x=Za .free
def Loc(sc:dF)(x:Str):Prop:=sc.names.lookup x=Za .local\/sc.names.lookup x=Za .cell
def Look(env:Env)(h:bi)(m:Str->Option af)(x:Str)(u:af):Prop :=
 (env.kindOf x=Za .local/\m x=Za u)\/((env.kindOf x=Za .cell\/env.kindOf x=Za .free)/\∃c,env.cells.lookup x=Za c/\h.IsCell c (Za u))
structure Cx.Ok(X:Cx):Prop where
 mod:Mod X.K X.mg X.base
 kind:X.env.scope.kind=.function
 glob:X.env.globals=aV
 blt:X.env.builtins=jk
 above:X.Y'.heap.objs.size<=X.env.locals
 inj:∀x y c,X.env.cells.lookup x=Za c->X.env.cells.lookup y=Za c->x=y
 has:∀x,(X.env.kindOf x=Za .cell\/X.env.kindOf x=Za .free)->∃c,X.env.cells.lookup x=Za c
 cab:∀x c,X.fn x=true->X.env.cells.lookup x=Za c->X.Y'.heap.objs.size<=c
 hd:X.calm=true->X.A.handled=Zb
 frames:X.A.frames=Za X.stack
 ő:X.stack=X.outer\/(X.stack=X.env::X.outer/\X.env.frame=Za X.env.locals)
 exf:∀b∈X.ex,b≠X.env.locals/\∀x c,X.env.cells.lookup x=Za c->c≠b
 bs:∀b o,X.base.get? b=Za o->X.Y'.heap.get? b=Za o/\X.Ha0 b=Zb
 bsz:X.base.objs.size<=X.Y'.heap.objs.size
 ZV:∀b o,X.base.get? b=Za o->b∉X.ex
 ϥ:∀b∈X.ex,b∉X.fs
 ó:X.Y'.heap.FunFrames X.base X.outer
 frf:∀b∈X.fs,X.Ha0 b=Zb
structure Inv(X:Cx)(Q9:List (ag×Obj))(O:List (Option V))(H:Hp)(s:aw):Prop where
 ok:X.Ok
 os:s.os=X.Y'.os
 bare:gW s.gens
 base:Un X.fs X.ex X.Ha0 H X.Y'.heap s.heap
 loc:∃m,s.heap.Ns X.env.locals m/\∀(i:Nat)(x:Str)(v:V),X.N[i]?=Za x->O[i]?=Za (Za v)->Vis X.env.scope x->∃u,RelV v u/\Look X.env s.heap m x u
 cell:∀x c,X.env.cells.lookup x=Za c->∃v,s.heap.IsCell c v
 free:H X.env.locals=Zb
 Zt:∀x c,X.env.cells.lookup x=Za c->H c=Zb
 pin:∀p∈X.pn++Q9,s.heap.get? p.1=Za p.2/\H p.1=Zb/\p.1≠X.env.locals/\p.1∉X.fs/\∀v,p.2.data≠.cell v
 Yn:Õ X.prog X.w H s.heap
 len:O.length=X.N.length
section
variable{X:Cx}{Q9:List (ag×Obj)}{O:List (Option V)}{H H':Hp}{s:aw}{h':bi}
def Cx.Ok.Âw(ok:X.Ok)(e:X.base.get? b=Za o):b∉X.fs:=λhb=>by
 have:=(ok.ó.mem hb).1
 grind
theorem Inv.bs(I:Inv X Q9 O H s):∀b o,X.base.get? b=Za o->s.heap.get? b=Za o/\H b=none:=λb o e =>
 ⟨I.base.keep b o (I.ok.bs b o e).1 (I.ok.bs b o e).2 (I.ok.Âw e) (I.ok.ZV b o e),I.base.free b o (I.ok.bs b o e).1 (I.ok.bs b o e).2 (I.ok.ZV b o e)⟩
def Inv.bk(I:Inv X Q9 O H s):∀b o,X.base.get? b=Za o->s.heap.get? b=Za o:=λb o e=>(I.bs b o e).1
theorem Inv.mod(I:Inv X Q9 O H s):Mod X.K X.mg X.base:=I.ok.mod
def Inv.ZI(I:Inv X Q9 O H s):X.K.In s.heap:=I.ok.mod.kin.keeps I.bk
theorem Inv.lt(I:Inv X Q9 O H s):X.env.locals<s.heap.objs.size:=let⟨_,hn,_⟩:=I.loc;hn.lt
def Inv.sz(I:Inv X Q9 O H s):X.Y'.heap.objs.size<=s.heap.objs.size:=aI I.ok.above (fA I.lt)
def Inv.Âv(I:Inv X Q9 O H s)(h:s.heap.objs.size<=a):a∉X.fs:=λhb=>by obtain⟨_,o,ho,_⟩:=I.ok.ó.mem hb;exact absurd (ax (au ho) (aI I.sz h)) (eS _)
def Inv.cne(I:Inv X Q9 O H s):∀x c,X.env.cells.lookup x=Za c->c≠X.env.locals:=λx c e z=>by
 obtain⟨v,o,ho,hd⟩:=I.cell x c e;obtain⟨m,⟨o',es,ep,TV,Wl,_⟩,_⟩:=I.loc
 grind
theorem Inv.ó(I:Inv X Q9 O H s):s.heap.FunFrames X.base X.outer:=by
 have all:∀l,(∀b∈ZE l,b∈X.fs)->X.Y'.heap.FunFrames X.base l->s.heap.FunFrames X.base l:=by
  intro l;induction l with
  |nil=>intro _ _;trivial
  |cons env r ih =>
   rintro hs ⟨hk,⟨L,o,hf,hn,ho,hd⟩,hr⟩
   have hL:=hs L (by unfold ZE;rw[iQ,hf];exact ai);obtain⟨sl,e⟩:=I.base.slot L o ho (I.ok.frf L hL) hL λz=>I.ok.ϥ L z hL;exact⟨hk,⟨L,_,hf,hn,e,hd⟩,ih (λb hb=>hs b (by unfold ZE;rw[iQ,hf];exact ae _ hb)) hr⟩
 exact all X.outer (λ_ hb=>hb) I.ok.ó
theorem Inv.stack(I:Inv X Q9 O H s):s.heap.FunFrames X.base X.stack:=by
 obtain e|⟨e,hf⟩:=I.ok.ő
 .rw[e];exact I.ó
 .rw[e];obtain⟨m,hn,_⟩:=I.loc;refine .cons (by rw[I.ok.kind];decide) hf hn ?_ I.ó;exact Heap.get?_none_of_le (aI I.ok.bsz I.ok.above)
def Inv.ĸ(I:Inv X Q9 O H s):∀b∈ZE X.stack,b∈X.env.locals::X.fs:=λb hb=>by
 obtain e|⟨e,hf⟩:=I.ok.ő
 .grind
 .rw[e] at hb;unfold ZE at hb;rw[iQ,hf] at hb;exact hb
def Inv.Ă(I:Inv X Q9 O H s):∀b∈ZE X.stack,H b=none:=λb hb=>by
 obtain e|hb:=ao.mp (I.ĸ b hb)
 .rw[e];exact I.free
 .obtain⟨_,o,ho,_⟩:=I.ok.ó.mem hb;exact I.base.free b o ho (I.ok.frf b hb) λz=>I.ok.ϥ b z hb
def Inv.step{g':Array jF}{t':Nat}{d':Drawn}{ch:List ag}(I:Inv X Q9 O H s)(SY:∀b∈ch,(b∈X.ex\/X.Y'.heap.objs.size<=b)/\b≠X.env.locals/\(∀x c,X.env.cells.lookup x=Za c->c≠b)/\∀p∈X.pn++Q9,p.1≠b)(keep:∀b o,b≠X.env.locals->b∉X.fs->b∉ch->s.heap.get? b=Za o->H b=Zb->h'.get? b=Za o)(slot:∀b o,b≠X.env.locals->b∈X.fs->b∉ch->s.heap.get? b=Za o->H b=Zb->∃sl,h'.get? b=Za { o with slots:=sl })(free:∀b o,b∉ch->s.heap.get? b=Za o->H b=Zb->H' b=Zb)(there:∀b o,b∉ch->s.heap.get? b=Za o->∃o',h'.get? b=Za o')(É:∀b xs,H b=Za (.tup xs)->H' b=Za (.tup xs))(ZO:∀b o u,H b=Za (.YZ o u)->H' b=Za (.YZ o u))(Ú:∀b ps,H b=Za (.Ő ps)->∃RF,H' b=Za (.Ő (ps++RF)))(ns:∀m,s.heap.Ns X.env.locals m->h'.Ns X.env.locals m)(Yn:Õ X.prog X.w H' h')(hg:gW g') :
  Inv X Q9 O H' { s with heap:=h',gens:=g',drawn:=d',toks:=t' }:=by
 have neL:∀b o,X.Y'.heap.get? b=Za o->b≠X.env.locals:=λb o e=>az (ax (au e) I.ok.above);have V9:∀b o,X.Y'.heap.get? b=Za o->b∉X.ex->b∉ch:=λb o e hx hb=>by
  rcases(SY b hb).1 with z|z
  .exact hx z
  .exact absurd (ax (au e) z) (eS _)
 have T3:∀x c,X.env.cells.lookup x=Za c->∀v,s.heap.IsCell c v->h'.IsCell c v:=λx c e v ⟨o,ho,hd⟩=>by
  have Vb:=λz=>(SY c z).2.2.1 x c e rfl;by_cases hc:c∈X.fs
  .obtain⟨sl,q⟩:=slot c o (I.cne x c e) hc Vb ho (I.Zt x c e);exact⟨_,q,hd⟩
  .exact⟨o,keep c o (I.cne x c e) hc Vb ho (I.Zt x c e),hd⟩
 refine⟨I.ok,I.os,hg,⟨λb o e n hb hx=>?_,λb o e n hb hx=>?_,λb o e n hx=>?_,λb o e hx=>?_,λb xs e=>É b xs (I.base.É b xs e),λb o xs e=>ZO b o xs (I.base.ZO b o xs e),λb ps e=>?_⟩,?_,λx c e=>?_,?_,λx c e=>?_,λp hp=>?_,Yn,I.len⟩
 .exact keep b o (neL b o e) hb (V9 b o e hx) (I.base.keep b o e n hb hx) (I.base.free b o e n hx)
 .obtain⟨sl,e1⟩:=I.base.slot b o e n hb hx;obtain⟨sl',e2⟩:=slot b _ (neL b o e) hb (V9 b o e hx) e1 (I.base.free b o e n hx);exact⟨sl',e2⟩
 .obtain⟨o',e1⟩:=I.base.there b o e hx;exact free b o' (V9 b o e hx) e1 (I.base.free b o e n hx)
 .obtain⟨o',e1⟩:=I.base.there b o e hx;exact there b o' (V9 b o e hx) e1
 .obtain⟨m1,e1⟩:=I.base.Ú b ps e
  grind
 .obtain⟨m,hn,hl⟩:=I.loc;refine⟨m,ns m hn,λi x v e1 e2 e3=>?_⟩;obtain⟨u,r,l⟩:=hl i x v e1 e2 e3;refine⟨u,r,?_⟩;obtain l|⟨k,c,e,z⟩:=l
  .exact .inl l
  .exact .inr ⟨k,c,e,T3 x c e _ z⟩
 .obtain⟨v,z⟩:=I.cell x c e;exact⟨v,T3 x c e v z⟩
 .obtain⟨m,⟨o,_,_,ho,_⟩,_⟩:=I.loc;exact free _ o (λz=>(SY _ z).2.1 rfl) ho I.free
 .obtain⟨v,o,ho,hd⟩:=I.cell x c e;exact free c o (λz=>(SY c z).2.2.1 x c e rfl) ho (I.Zt x c e)
 .obtain⟨e,n,ne,nf,d⟩:=I.pin p hp;have Vb:=λz=>(SY p.1 z).2.2.2 p hp rfl;exact⟨keep p.1 p.2 ne nf Vb e n,free p.1 p.2 Vb e n,ne,nf,d⟩
def Inv.un{t':Nat}(I:Inv X Q9 O H s)(u:Un X.fs [] H H' s.heap h')(Yn:Õ X.prog X.w H' h'):Inv X Q9 O H' { s with heap:=h',toks:=t' }:=by
 obtain⟨m,⟨o,es,ep,ho,r⟩,_⟩:=id I.loc;obtain⟨sl,hL⟩:=u.any ho I.free (by simp);exact I.step (ch:=[]) (λ_ z=>nomatch z) (λb o _ hb _ e n=>u.keep b o e n hb (by simp)) (λb o _ hb _ e n=>u.slot b o e n hb (by simp)) (λb o _ e n=>u.free b o e n (by simp)) (λb o _ e=>u.there b o e (by simp)) u.É u.ZO u.Ú (λm' hm=>by obtain⟨o',XZ,Wp,TV,r'⟩:=hm;rw[ho] at TV;cases TV;exact⟨_,XZ,Wp,hL,r'⟩) Yn I.bare
def Inv.call{g':Array jF}{t':Nat}{d':Drawn}{ch:List ag}(I:Inv X Q9 O H s)(u:Un (ZE X.stack) ch H H' s.heap h')(Yn:Õ X.prog X.w H' h')(hg:gW g')(SY:∀b∈ch,(b∈X.ex\/X.Y'.heap.objs.size<=b)/\b≠X.env.locals/\(∀x c,X.env.cells.lookup x=Za c->c≠b)/\∀p∈X.pn++Q9,p.1≠b) :
  Inv X Q9 O H' { s with heap:=h',gens:=g',drawn:=d',toks:=t' }:=by
 obtain⟨m,⟨o,es,ep,ho,r⟩,_⟩:=id I.loc;obtain⟨sl,hL⟩:=u.any ho I.free λz=>(SY _ z).2.1 rfl;exact I.step SY (λb o hL hb hc e n=>u.keep b o e n (λz=>(ao.mp (I.ĸ b z)).elim hL hb) hc) (λb o _ _ hc e n=>u.any e n hc) (λb o hc e n=>u.free b o e n hc) (λb o hc e=>u.there b o e hc) u.É u.ZO u.Ú (λm' hm=>by obtain⟨o',XZ,Wp,TV,r'⟩:=hm;rw[ho] at TV;cases TV;exact⟨_,XZ,Wp,hL,r'⟩) Yn hg
def Inv.turned{t':Nat}{it:ag}(I:Inv X Q9 O H s)(k:∀b o,b≠it->s.heap.get? b=Za o->h'.get? b=Za o)(hn:H it=Zb)(hL:it≠X.env.locals)(h1:it∈X.ex\/X.Y'.heap.objs.size<=it)(h2:∀x c,X.env.cells.lookup x=Za c->c≠it)(h3:∀p∈X.pn++Q9,p.1≠it):Inv X Q9 O H { s with heap:=h',toks:=t' }:=by
 have WU:∀b u,H b=Za u->b≠it:=λb u e z=>by grind
 refine I.step (ch:=[it]) (λb hb=>?_) (λb o _ _ hc e _=>k b o (λz=>hc (by simp[z])) e) (λb o _ _ hc e _=>⟨o.slots,k b o (λz=>hc (by simp[z])) e⟩) (λ_ _ _ _ n=>n)
  (λb o hc e=>⟨o,k b o (λz=>hc (by simp[z])) e⟩) (λ_ _ e=>e) (λ_ _ _ e=>e) (λb ps e=>⟨#[],by rw[e];simp⟩) (λm hm=>?_) (λb u e=>?_) I.bare
 .have e:b=it:=by simpa using hb
  subst e;exact⟨h1,hL,h2,h3⟩
 .obtain⟨o,es,ep,ho,r⟩:=hm;exact⟨o,es,ep,k _ o (bH hL) ho,r⟩
 .refine(I.Yn b u e).Û (λc v hc q=>k c v ?_ q) (λ_ q=>q) λ_ _ q=>q
  grind
def Inv.tok(I:Inv X Q9 O H s)(t):Inv X Q9 O H { s with toks:=t }:=I.un Un.refl I.Yn
theorem Inv.kept(I:Inv X Q9 O H s)(k:∀b u,s.heap.get? b=Za u->h'.get? b=Za u):Inv X Q9 O H { s with heap:=h',toks:=t' }:=I.un (Un.kept k) (I.Yn.kept k)
theorem Inv.laid(I:Inv X Q9 O H s)(k:∀b u,s.heap.get? b=Za u->h'.get? b=Za u)(hp:s.heap.objs.size<=a)(new:YJ X.prog X.w (upd H a o) h' a o) :
  Inv X Q9 O (upd H a o) { s with heap:=h',toks:=t' }:=I.un (Un.laid k hp (I.Yn.fresh hp)) (I.Yn.laid k hp new)
theorem Inv.write(I:Inv X Q9 O H s)(mu:Mut (H x))(he:e=x\/H e=Za (.own x))(k:∀b u,b≠e->s.heap.get? b=Za u->h'.get? b=Za u)(VB:∃u,h'.get? e=Za u)(new:YJ X.prog X.w (upd H x o) h' x o):Inv X Q9 O (upd H x o) { s with heap:=h',toks:=t' }:=I.un (Un.write mu he k VB) (I.Yn.write mu he k VB new)
def Inv.ż(I:Inv X Q9 O H s)(h:∀p∈pins',s.heap.get? p.1=Za p.2/\H p.1=Zb/\p.1≠X.env.locals/\p.1∉X.fs/\∀v,p.2.data≠.cell v):Inv X pins' O H s :=
 ⟨I.ok,I.os,I.bare,I.base,I.loc,I.cell,I.free,I.Zt,λp hp=>(aW.mp hp).elim (λz=>I.pin p (bV _ z)) (h p),I.Yn,I.len⟩
def Au{N:List Str}(hN:N.Nodup){i j:Nat}{x:Str}(a:N[i]?=Za x)(b:N[j]?=Za x):i=j:=by obtain⟨h1,e1⟩:=aS.mp a;obtain⟨h2,e2⟩:=aS.mp b;exact(List.getElem_inj hN).mp (e1.trans e2.symm)
def xG{M:Model}{A:b8}{E:af->aw->Prop}{i:Nat}{x:Str}{v:V}{u:af}{Q:Unit->aw->Prop}(I:Inv X Q9 O H s)(hN:X.N.Nodup)(hi:X.N[i]?=Za x)(hx:Loc X.env.scope x)(r:RelV v u)(h:∀s',Inv X Q9 (O.set i (Za v)) H s'->(∃a,i7 a s.heap s'.heap/\(a=X.env.locals\/X.env.cells.lookup x=Za a))->Q () s')(hf:X.fn x=true\/X.env.scope.names.lookup x=Za .local:=by first|exact .inl rfl|exact .inr rfl|assumption):aP M A (storeName X.env x u) Q E s:=by
 obtain⟨m,hn,hl⟩:=id I.loc;have Uy:(X.env.scope.kind==.class||(X.env.scope.kind==.module&&X.env.locals != X.env.globals))=false:=by rw[I.ok.kind];rfl
 have hiσ:i<O.length:=by rw[I.len];exact(aS.mp hi).1
 have cne:=I.cne;have SH:∀{a:ag}{h':bi},(∃o,s.heap.get? a=Za o/\H a=Zb)->i7 a s.heap h'->Õ X.prog X.w H h':=λ{a h'} ha hs b ob e=>by
  obtain⟨_,_,TX⟩:=ha;refine(I.Yn b ob e).Û (λc w' hc q=>(hs.2 c ?_).trans q) (λ_ q=>q) λ_ _ q=>q
  rintro rfl
  obtain rfl|hc:=hc
  .rw[TX] at e;cases e
  .rw[TX] at hc;cases hc
 obtain hk|hk:=hx
 .refine wpAny_storeName_local hk hn (λh' Sh hs=>?_) Uy;obtain⟨oL,_,_,UN,_⟩:=id hn;refine h _ ⟨I.ok,I.os,I.bare,⟨λb o e n hb hx=>?_,λb o e n hb hx=>?_,I.base.free,λb o e hx=>?_,I.base.É,I.base.ZO,I.base.Ú⟩,⟨_,Sh,λj y v' e1 e2 e3=>?_⟩,λy c e=>?_,I.free,I.Zt,λp hp=>?_,SH ⟨oL,UN,I.free⟩ hs,by simpa using I.len⟩ ⟨_,hs,.inl rfl⟩
  .exact(hs.2 b (az (ax (au e) I.ok.above))).trans (I.base.keep b o e n hb hx)
  .obtain⟨sl,e1⟩:=I.base.slot b o e n hb hx;exact⟨sl,(hs.2 b (az (ax (au e) I.ok.above))).trans e1⟩
  .obtain⟨o',e1⟩:=I.base.there b o e hx;exact⟨o',(hs.2 b (az (ax (au e) I.ok.above))).trans e1⟩
  .by_cases hj:j=i
   .subst hj;rw[hi] at e1;cases e1;rw[kN hiσ] at e2;cases e2;exact⟨u,r,.inl ⟨hk,by simp⟩⟩
   .rw[fR (bH hj)] at e2;obtain⟨u',r',q⟩:=hl j y v' e1 e2 e3;refine⟨u',r',?_⟩;rcases q with⟨k,e⟩|⟨k,c,e,z⟩
    .refine .inl ⟨k,?_⟩;have:y≠x:=λe=>hj (Au hN e1 (e▸hi));simp[this,e]
    .exact .inr ⟨k,c,e,z.sameBut hs (cne y c e)⟩
  .obtain⟨w',z⟩:=I.cell y c e;exact⟨w',z.sameBut hs (cne y c e)⟩
  .obtain⟨e,n,ne,nf,d⟩:=I.pin p hp;exact⟨(hs.2 p.1 ne).trans e,n,ne,nf,d⟩
 .have Tg:X.fn x=true:=by
   obtain z|z:=hf
   .exact z
   .rw[z] at hk;cases hk
  obtain⟨c,hc⟩:=I.ok.has x (.inl hk);obtain⟨w',z⟩:=I.cell x c hc;refine wpAny_storeName_cell I.ok.kind hk hc z (λh' hc' hs=>?_);obtain⟨oc,hoc,Xd⟩:=id z;refine h { s with heap:=h' } ⟨I.ok,I.os,I.bare,⟨λb o e n hb hx=>?_,λb o e n hb hx=>?_,I.base.free,λb o e hx=>?_,I.base.É,I.base.ZO,I.base.Ú⟩,⟨m,hn.sameBut hs (bH (cne x c hc)),λj y v' e1 e2 e3=>?_⟩,λy c' e=>?_,I.free,I.Zt,λp hp=>?_,SH ⟨oc,hoc,I.Zt x c hc⟩ hs,by simpa using I.len⟩ ⟨c,hs,.inr hc⟩
  .exact(hs.2 b (az (ax (au e) (I.ok.cab x c Tg hc)))).trans (I.base.keep b o e n hb hx)
  .obtain⟨sl,e1⟩:=I.base.slot b o e n hb hx;exact⟨sl,(hs.2 b (az (ax (au e) (I.ok.cab x c Tg hc)))).trans e1⟩
  .obtain⟨o',e1⟩:=I.base.there b o e hx;exact⟨o',(hs.2 b (az (ax (au e) (I.ok.cab x c Tg hc)))).trans e1⟩
  .by_cases hj:j=i
   .subst hj;rw[hi] at e1;cases e1;rw[kN hiσ] at e2;cases e2;exact⟨u,r,.inr ⟨.inl hk,c,hc,hc'⟩⟩
   .rw[fR (bH hj)] at e2;obtain⟨u',r',q⟩:=hl j y v' e1 e2 e3;refine⟨u',r',?_⟩;obtain q|⟨k,c',e,z'⟩:=q
    .exact .inl q
    .refine .inr ⟨k,c',e,z'.sameBut hs ?_⟩
     rintro rfl
     exact hj (Au hN e1 (I.ok.inj _ _ _ e hc▸hi))
  .by_cases hcc:c'=c
   .subst hcc;exact⟨_,hc'⟩
   .obtain⟨w2,z2⟩:=I.cell y c' e;exact⟨w2,z2.sameBut hs hcc⟩
  .obtain⟨e,n,ne,nf,d⟩:=I.pin p hp;refine⟨(hs.2 p.1 ?_).trans e,n,ne,nf,d⟩;intro q;rw[q,hoc] at e;have q':oc=p.2:=bO e;exact d w' (by rw[<-q'];exact Xd)
def sK(I:Inv X Q9 O H s)(hN:X.N.Nodup)(hi:X.N[i]?=Za x)(hx:Loc X.env.scope x)(r:RelV v u)(h:∀s',Inv X Q9 (O.set i (Za v)) H s'->Q () s')(hf:X.fn x=true\/X.env.scope.names.lookup x=Za .local:=by first|exact .inl rfl|exact .inr rfl|assumption):aP M A (storeName X.env x u) Q E s :=
 xG I hN hi hx r (λs' I' _=>h s' I') hf
def Inv.Àl(I:Inv X Q9 O H s)(ho:s'.os=s.os)(u:Un (ZE X.stack) ch H H' s.heap s'.heap)(Yn:Õ X.prog X.w H' s'.heap)(hg:gW s'.gens)(SY:∀b∈ch,(b∈X.ex\/X.Y'.heap.objs.size<=b)/\b≠X.env.locals/\(∀x c,X.env.cells.lookup x=Za c->c≠b)/\∀p∈X.pn++Q9,p.1≠b):Inv X Q9 O H' s':=by
 obtain⟨h',g',d',t',o'⟩:=s';have e:=ho;subst e;exact I.call u Yn hg SY
end
abbrev XK:=af->Option ag->Hp->Prop
abbrev St:=List (Option V)
abbrev VK:=V->Hp->Prop
abbrev TE:=St->Hp->VK->Prop
abbrev TT:=St->Hp->(Bool->Hp->Prop)->Prop
abbrev TA:=St->Hp->(List V->Hp->Prop)->Prop
structure Ends where
 nx:St->Hp->Prop
 rt:VK
 bk:St->Hp->Prop:=λ_ _=>False
 ct:St->Hp->Prop:=λ_ _=>False
abbrev TS:=Ends->St->Hp->Prop
def EP(X:Cx)(Q9:List (ag×Obj))(O:St)(Q:VK)(u:af)(s':aw):Prop:=∃v H',Inv X Q9 O H' s'/\RelV v u/\Q v H'
def TP(X:Cx)(Q9:List (ag×Obj))(O:St)(Q:Bool->Hp->Prop)(b:Bool)(s':aw):Prop:=∃H',Inv X Q9 O H' s'/\Q b H'
def AP(X:Cx)(Q9:List (ag×Obj))(O:St)(Q:List V->Hp->Prop)(us:List af)(s':aw):Prop:=∃vs H',Inv X Q9 O H' s'/\Vals vs us/\Q vs H'
def SP(X:Cx)(Q9:List (ag×Obj))(D:Ends)(f:Flow)(s':aw):Prop :=
 match f with
 |.next=>∃YE H',Inv X Q9 YE H' s'/\D.nx YE H'
 |.brk=>∃YE H',Inv X Q9 YE H' s'/\D.bk YE H'
 |.cont=>∃YE H',Inv X Q9 YE H' s'/\D.ct YE H'
 |.ret u=>∃v YE H',Inv X Q9 YE H' s'/\RelV v u/\D.rt v H'
def PE(X:Cx)(e:bc)(t:TE):Prop :=
 ∀(Q9:List (ag×Obj))(s:aw)(O:St)(H:Hp)(Q:VK),Inv X Q9 O H s->t O H Q->aP (model X.prog X.w) X.A (eval e X.env) (EP X Q9 O Q) X.xe s
def PT(X:Cx)(e:bc)(t:TT):Prop :=
 ∀(Q9:List (ag×Obj))(s:aw)(O:St)(H:Hp)(Q:Bool->Hp->Prop),Inv X Q9 O H s->t O H Q->aP (model X.prog X.w) X.A (isTrue e X.env (eval e X.env)) (TP X Q9 O Q) X.xe s
def PW(X:Cx)(e:bc)(t:TT):Prop :=
 ∀(whole:Sem af)(Q9:List (ag×Obj))(s:aw)(O:St)(H:Hp)(Q:Bool->Hp->Prop),Inv X Q9 O H s->t O H Q->aP (model X.prog X.w) X.A (isTrue e X.env whole) (TP X Q9 O Q) X.xe s
def PW.pt(h:PW X e t):PT X e t:=h _
def PA(X:Cx)(es:List bc)(t:TA):Prop :=
 ∀(pos:Pos)(Q9:List (ag×Obj))(s:aw)(O:St)(H:Hp)(Q:List V->Hp->Prop),Inv X Q9 O H s->t O H Q->aP (model X.prog X.w) X.A (spliced (bP pos (aq es X.env))) (AP X Q9 O Q) X.xe s
def PS(X:Cx)(st:bN)(t:TS):Prop :=
 ∀(Q9:List (ag×Obj))(s:aw)(O:St)(H:Hp)(D:Ends),Inv X Q9 O H s->t D O H->aP (model X.prog X.w) X.A (exec st X.env) (SP X Q9 D) X.xe s
def ŉ(X:Cx)(st:List bN)(t:TS):Prop :=
 ∀(Q9:List (ag×Obj))(s:aw)(O:St)(H:Hp)(D:Ends),Inv X Q9 O H s->t D O H->aP (model X.prog X.w) X.A (execs st X.env) (SP X Q9 D) X.xe s
def e4b{α β:Sort _}{p q:α->β->Prop}{R:Prop}(k:∀x y,p x y->q x y->R)(h:∃x y,p x y/\q x y):R:=h.elim λx h=>h.elim λy h=>k x y h.1 h.2
def e4{α β:Sort _}{p q r:α->β->Prop}{R:Prop}(k:∀x y,p x y->q x y->r x y->R)(h:∃x y,p x y/\q x y/\r x y):R:=h.elim λx h=>h.elim λy h=>k x y h.1 h.2.1 h.2.2
def e3{α:Sort _}{p q:α->Prop}{R:Prop}(k:∀x,p x->q x->R)(h:∃x,p x/\q x):R:=h.elim λx h=>k x h.1 h.2
def Yy(h:aP M A t Q E s)(hQ:∀a s,Q a s->Q' a s):aP M A t Q' E s:=bw h hQ λ_ _ x=>x
section
variable{X:Cx}
def Jz(i:Nat):TE:=λO H Q=>∃v,O[i]?=Za (Za v)/\Q v H
def tC(v:V):TE:=λ_ H Q=>Q v H
abbrev Ò(x:Str):Prop:=(x==("__debug__":Str))=false
def DH(hN:X.N[i]?=Za x)(hv:Vis X.env.scope x)(hd:Ò x:=by decide)(R9:(x==("__classdict__":Str))=false:=by decide):PE X (.Name x pos) (Jz i):=by
 rintro Q9 s O H Q I ⟨v,e,h⟩
 obtain⟨m,hn,hl⟩:=I.loc;obtain⟨u,r,l⟩:=hl i x v hN e hv;have Rx:EP X Q9 O Q u s:=⟨v,H,I,r,h⟩;rcases l with⟨hk,hm⟩|⟨hk,c,hc,RW⟩
 .exact wpAny_Name (wpAny_loadName_local I.ok.kind hk hn hm Rx) hd
 .obtain hk|hk:=hk
  .exact wpAny_Name (wpAny_loadName_cell I.ok.kind hk hc RW Rx) hd
  .exact wpAny_Name (wpAny_loadName_free I.ok.kind hk hc RW Rx R9) hd
def YR{i j pos}:PE X (.Constant (.int i) j pos) (tC (.int i)):=λ_ _ _ H _ I h=>wpAny_Constant_int ⟨.int i,H,I.tok _,⟨_,rfl⟩,h⟩
def Àk{b j pos}:PE X (.Constant (.bool b) j pos) (tC (.bl b)):=λ_ _ _ H _ I h=>Constant_bool ⟨.bl b,H,I,rfl,h⟩
def Àv{j pos}:PE X (.Constant .none j pos) (tC .Ym):=λ_ _ _ H _ I h=>Constant_none ⟨.Ym,H,I,rfl,h⟩
def ñ{x j pos}:PE X (.Constant (.str x) j pos) (tC (.str x)):=λ_ _ _ H _ I h=>lF ⟨.str x,H,I.tok _,⟨_,rfl⟩,h⟩
def Gl(X:Cx)(x:Str):Prop:=X.env.kindOf x=Za .globalImplicit
def qZ(I:Inv X Q9 O H s)(hg:Gl X x)(hm:X.mg x=Za u)(h:Q u s)(hd:Ò x:=by decide):aP (model X.prog X.w) X.A (eval (.Name x pos) X.env) Q E s :=
 jH I.ok.kind hg (Calls.loadGlobal_global (by rw[I.ok.glob];exact I.mod.glob.keeps I.bk) hm h) hd
def yK(I:Inv X Q9 O H s)(hg:Gl X x)(hm:X.mg x=Zb)(hv:bu x=Za u)(h:Q u s)(hn:x≠"__name__":=by decide)(hd:Ò x:=by decide):aP (model X.prog X.w) X.A (eval (.Name x pos) X.env) Q E s:=by
 obtain⟨mb,h1,h2⟩:=I.mod.blt;exact jH I.ok.kind hg (Calls.loadGlobal_builtin (by rw[I.ok.glob];exact I.mod.glob.keeps I.bk) hm (by rw[I.ok.blt];exact h1.keeps I.bk) ((h2 x hn).trans hv) h) hd
def qB(hg:Gl X x)(hm:X.mg x=Za u)(r:RelV v u)(hd:Ò x:=by decide):PE X (.Name x pos) (tC v) :=
 λ_ _ _ H _ I h=>qZ I hg hm ⟨v,H,I,r,h⟩ hd
def M8(hg:Gl X x)(hm:X.mg x=Zb)(hv:bu x=Za u)(r:RelV v u)(hn:x≠"__name__":=by decide)(hd:Ò x:=by decide):PE X (.Name x pos) (tC v) :=
 λ_ _ _ H _ I h=>yK I hg hm hv ⟨v,H,I,r,h⟩ hn hd
variable{a b:bc}{ta tb:TE}{pos:Pos}
def PC(X:Cx)(op:CmpOp)(a b:bc)(t:TE):Prop :=
 ∀(Q9:List (ag×Obj))(s:aw)(O:St)(H:Hp)(Q:VK),Inv X Q9 O H s->t O H Q ->
  aP (model X.prog X.w) X.A (eval a X.env) (λv Rr=>aP (model X.prog X.w) X.A (eval b X.env) (λu SC=>aP (model X.prog X.w) X.A (bR op v u) (EP X Q9 O Q) X.xe SC) X.xe Rr) X.xe s
def Kh(b)(h:op≠.In)(h2:op≠.NotIn):cK op b=false:=by
 have e1:(op==CmpOp.In)=false:=by cases op<;>first|rfl|exact absurd rfl h
 have e2:(op==CmpOp.NotIn)=false:=by cases op<;>first|rfl|exact absurd rfl h2
 cases b<;>simp[cK,e1,e2]
def tB(t:TE):TT:=λO H Q=>t O H λx H1=>∃c,x=.bl c/\Q c H1
def Lk(h:PC X op a b t)(h1:cK op b=false:=by first|exact Kh _ (by decide) (by decide)|rfl):PE X (.Compare a [op] [b] pos) t:=λQ9 s O H Q I hw=>wpAny_Compare1 (h Q9 s O H Q I hw) h1
def wz(h:PE X e t)(he:∀whole,isTrue e X.env whole=(do let v <-whole;fY e.pos;holding [v] (truthy v)):=by intro _;rfl):PT X e (tB t):=by refine λQ9 s O H Q I hw=>isTrue_plain (Yy (h Q9 s O H _ I hw) λv s1=>e4 λx H1 I1 r1 q1=>?_) (he _);obtain⟨d,rfl,q⟩:=q1;cases r1;exact dA ⟨H1,I1,q⟩
variable{tA VY:TT}{rest:List bc}
def Âj(t u:TT):TT:=λO H Q=>t O H λc H1=>if c=true then u O H1 Q else Q false H1
def tOr(t u:TT):TT:=λO H Q=>t O H λc H1=>if c=true then Q true H1 else u O H1 Q
def Âc(t:TT):TT:=λO H Q=>t O H λc H1=>Q (!c) H1
def MS(ha:PT X a tA):PW X (.BoolOp .And [a] pos) tA:=by
 refine λwh Q9 s O H Q I h=>isTrue_and (Yy (ha Q9 s O H Q I h) λc s1 e=>?_);cases c with
 |true=>exact isTrue_and_nil e
 |false=>exact e
def Lh(ha:PT X a tA):PW X (.BoolOp .Or [a] pos) tA:=by
 refine λwh Q9 s O H Q I h=>isTrue_or (Yy (ha Q9 s O H Q I h) λc s1 e=>?_);cases c with
 |false=>exact isTrue_or_nil e
 |true=>exact e
def Pt(ha:PT X a tA)(hb:PW X (.BoolOp .And (b::rest) pos) VY):PW X (.BoolOp .And (a::b::rest) pos) (Âj tA VY):=by
 refine λwh Q9 s O H Q I h=>isTrue_and (Yy (ha Q9 s O H _ I h) λc s1=>e3 λH1 I1 q1=>?_);cases c with
 |true=>exact hb wh Q9 s1 O H1 Q I1 q1
 |false=>exact⟨H1,I1,q1⟩
def OH(ha:PT X a tA)(hb:PW X (.BoolOp .Or (b::rest) pos) VY):PW X (.BoolOp .Or (a::b::rest) pos) (tOr tA VY):=by
 refine λwh Q9 s O H Q I h=>isTrue_or (Yy (ha Q9 s O H _ I h) λc s1=>e3 λH1 I1 q1=>?_);cases c with
 |true=>exact⟨H1,I1,q1⟩
 |false=>exact hb wh Q9 s1 O H1 Q I1 q1
def AX(ha:PT X a tA):PT X (.UnaryOp .Not a pos) (Âc tA):=by exact λQ9 s O H Q I h=>isTrue_not (ha Q9 s O H (λc H1=>Q (!c) H1) I h)
def ÀW(ta tb:TE):TE:=λO H Q=>ta O H λx H1=>∃c,x=.bl c/\if c=true then tb O H1 Q else Q (.bl false) H1
def Âb(ta tb:TE):TE:=λO H Q=>ta O H λx H1=>∃c,x=.bl c/\if c=true then Q (.bl true) H1 else tb O H1 Q
def ÀR(ta:TE):TE:=λO H Q=>ta O H λx H1=>∃c,x=.bl c/\Q (.bl (!c)) H1
def GA{op}{t}(h:PE X a t):PE X (.BoolOp op [a] pos) t:=λQ9 s O H Q I hw=>BoolOp_one (h Q9 s O H Q I hw)
def Ll(ha:PE X a ta)(hb:PE X (.BoolOp .And (b::rest) pos) tb):PE X (.BoolOp .And (a::b::rest) pos) (ÀW ta tb):=by
 refine λQ9 s O H Q I h=>BoolOp_and (Yy (ha Q9 s O H _ I h) λv s1=>e4 λx H1 I1 r1 q1=>?_);obtain⟨c,rfl,q1⟩:=q1;cases r1;apply dA;cases c with
 |true=>exact hb Q9 s1 O H1 Q I1 q1
 |false=>exact⟨.bl false,H1,I1,rfl,q1⟩
def À4(ha:PE X a ta)(hb:PE X (.BoolOp .Or (b::rest) pos) tb):PE X (.BoolOp .Or (a::b::rest) pos) (Âb ta tb):=by
 refine λQ9 s O H Q I h=>BoolOp_or (Yy (ha Q9 s O H _ I h) λv s1=>e4 λx H1 I1 r1 q1=>?_);obtain⟨c,rfl,q1⟩:=q1;cases r1;apply dA;cases c with
 |false=>exact hb Q9 s1 O H1 Q I1 q1
 |true=>exact⟨.bl true,H1,I1,rfl,q1⟩
def PM(ha:PE X a ta):PE X (.UnaryOp .Not a pos) (ÀR ta):=by refine λQ9 s O H Q I h=>UnaryOp_ (Yy (ha Q9 s O H _ I h) λv s1=>e4 λx H1 I1 r1 q1=>?_);obtain⟨c,rfl,q1⟩:=q1;cases r1;exact not_of (dA ⟨.bl (!c),H1,I1,rfl,q1⟩)
def tIf(t:TT)(ta tb:TE):TE:=λO H Q=>t O H λc H1=>if c=true then ta O H1 Q else tb O H1 Q
def J8(hc:PT X c tA)(ha:PE X a ta)(hb:PE X b tb):PE X (.IfExp c a b pos) (tIf tA ta tb):=by
 refine λQ9 s O H Q I h=>wpAny_IfExp (Yy (hc Q9 s O H _ I h) λd s1=>e3 λH1 I1 q1=>?_);cases d with
 |true=>exact ha Q9 s1 O H1 Q I1 q1
 |false=>exact hb Q9 s1 O H1 Q I1 q1
end
def YY(K:aa)(H:Hp)(a:ag)(xs:List V):Prop :=
 Rd H a (.lst xs) \/
  ∃(o:Obj)(its:Array af)(n:Nat),K.lookup a=Za o/\o.cls=.type "list"/\o.dict=Zb/\o.data=.seq its n/\its.size<=aH/\Vals xs its.toList
def ZK(K:aa)(H:Hp)(a:ag)(xs:List V):Prop :=
 Rd H a (.tup xs) \/
  ∃(o:Obj)(its:Array af)(n:Nat),K.lookup a=Za o/\o.cls=.type "tuple"/\o.data=.seq its n/\its.size<=aH/\Vals xs its.toList
noncomputable def ÂS:af->Option V
 |.none=>Za .Ym
 |.bool b=>Za (.bl b)
 |.int i _=>Za (.int i)
 |.str x _=>Za (.str x)
 |.bytes b _=>Za (.byt b)
 |.float b _=>Za (.flt b)
 |.ref a=>Za (.ref a)
 |.type n=>Za (.ty n)
 |_=>Zb
def RelV.abs(r:RelV x u):ÂS u=Za x:=by
 cases x with
 |Ym=>cases r;rfl
 |bl _=>cases r;rfl
 |int _=>obtain⟨t,rfl⟩:=r;rfl
 |str _=>obtain⟨t,rfl⟩:=r;rfl
 |byt _=>obtain⟨t,rfl⟩:=r;rfl
 |flt _=>obtain⟨t,rfl⟩:=r;rfl
 |ref _=>cases r;rfl
 |ty _=>cases r;rfl
def RelV.inj(r:RelV x u)(q:RelV y u):x=y:=bO (r.abs.symm.trans q.abs)
theorem Vals.inj:∀{xs ys:List V}{us:List af},Vals xs us->Vals ys us->xs=ys
 |_,_,_,.nil,.nil=>rfl
 |_,_,_,.cons r t,.cons r' t'=>by rw[r.inj r',Vals.inj t t']
section
variable{X:Cx}{Q9:List (ag×Obj)}{O:St}{H:Hp}{s:aw}{a:ag}{xs ys:List V}
def YY.of{K}(h:H a=Za (.lst xs)):YY K H a xs:=.inl (.inl h)
def ZK.of{K}(h:H a=Za (.tup xs)):ZK K H a xs:=.inl (.inl h)
def Inv.list(I:Inv X Q9 O H s)(h:YY X.K H a xs):∃its:List af,Vals xs its/\PlainL s.heap a its.toArray/\xs.length<=aH:=by
 obtain h|⟨o,its,n,hk,hc,hd,hs,hz,r⟩:=h
 .obtain⟨z,its,n,r,e⟩:=h.ok I.Yn;exact⟨its,r,⟨_,n,e,rfl,rfl,rfl⟩,z⟩
 .refine⟨its.toList,r,⟨o,n,I.ZI a o hk,hc,hd,by simpa using hs⟩,?_⟩;have e:=r.length
  grind
def Inv.tuple(I:Inv X Q9 O H s)(h:ZK X.K H a xs):∃its:List af,Vals xs its/\IsTup s.heap a its.toArray/\xs.length<=aH:=by
 obtain h|⟨o,its,n,hk,hc,hs,hz,r⟩:=h
 .obtain⟨z,its,r,p⟩:=h.ok I.Yn;exact⟨its,r,p,z⟩
 .refine⟨its.toList,r,⟨o,I.ZI a o hk,hc,n,by simpa using hs⟩,?_⟩;have e:=r.length
  grind
def Inv.è(I:Inv X Q9 O H s)(h:YY X.K H a xs)(h':YY X.K H a ys):xs=ys:=by
 obtain⟨its,r,⟨o,n,e,_,_,d⟩,_⟩:=I.list h;obtain⟨RX,r',⟨o',n',e',_,_,d'⟩,_⟩:=I.list h';rw[e] at e';cases e';have:its=RX:=by grind
 subst this;exact r.inj r'
def Inv.ώ(I:Inv X Q9 O H s)(h:ZK X.K H a xs)(h':ZK X.K H a ys):xs=ys:=by
 obtain⟨its,r,⟨o,e,_,n,d⟩,_⟩:=I.tuple h;obtain⟨RX,r',⟨o',e',_,n',d'⟩,_⟩:=I.tuple h';rw[e] at e';cases e';have:its=RX:=by grind
 subst this;exact r.inj r'
end
noncomputable abbrev Cx.ý(X:Cx)(E:af->aw->Prop):Cx:={ X with xe:=E }
abbrev Cx.þ(X:Cx):Cx:=X.ý λ_ _=>False
theorem Cx.Ok.ý{X:Cx}(ok:X.Ok)(E:af->aw->Prop):(X.ý E).Ok :=
 ⟨ok.mod,ok.kind,ok.glob,ok.blt,ok.above,ok.inj,ok.has,ok.cab,ok.hd,ok.frames,ok.ő,ok.exf,ok.bs,ok.bsz,ok.ZV,ok.ϥ,ok.ó,ok.frf⟩
def Cx.Ok.Zx{X:Cx}{E:af->aw->Prop}(ok:(X.ý E).Ok):X.Ok :=
 ⟨ok.mod,ok.kind,ok.glob,ok.blt,ok.above,ok.inj,ok.has,ok.cab,ok.hd,ok.frames,ok.ő,ok.exf,ok.bs,ok.bsz,ok.ZV,ok.ϥ,ok.ó,ok.frf⟩
section
variable{X:Cx}{Q9:List (ag×Obj)}{O:St}{H:Hp}{s:aw}{E:af->aw->Prop}
theorem Inv.ý(I:Inv X Q9 O H s)(E:af->aw->Prop):Inv (X.ý E) Q9 O H s:=⟨I.ok.ý E,I.os,I.bare,I.base,I.loc,I.cell,I.free,I.Zt,I.pin,I.Yn,I.len⟩
theorem Inv.Zx(I:Inv (X.ý E) Q9 O H s):Inv X Q9 O H s:=⟨I.ok.Zx,I.os,I.bare,I.base,I.loc,I.cell,I.free,I.Zt,I.pin,I.Yn,I.len⟩
theorem SP.Zx(h:SP (X.ý E) Q9 D f s'):SP X Q9 D f s':=by
 cases f with
 |next=>obtain⟨YE,H',I,q⟩:=h;exact⟨YE,H',I.Zx,q⟩
 |brk=>obtain⟨YE,H',I,q⟩:=h;exact⟨YE,H',I.Zx,q⟩
 |cont=>obtain⟨YE,H',I,q⟩:=h;exact⟨YE,H',I.Zx,q⟩
 |ret u=>obtain⟨v,YE,H',I,r,q⟩:=h;exact⟨v,YE,H',I.Zx,r,q⟩
theorem ŉ.þ{st}{t}(h:ŉ X.þ st t):ŉ X st t:=λQ9 s O H D I hw =>
 bw (h Q9 s O H D (I.ý _) hw) (λ_ _ q=>q.Zx) λ_ _ z=>bo z
end
section
variable{X:Cx}{st:bN}{rest:List bN}{t u:TS}{e:bc}{te:TE}{pos:Pos}
def ÀS:TS:=λD O H=>D.nx O H
def Á8(t u:TS):TS:=λD O H=>t { D with nx:=u D } O H
def Zv:ŉ X [] ÀS:=λ_ _ O H _ I h=>fg ⟨O,H,I,h⟩
def mQ(h1:PS X st t)(h2:ŉ X rest u):ŉ X (st::rest) (Á8 t u):=by
 refine λQ9 s O H D I h=>jd (Yy (h1 Q9 s O H { D with nx:=u D } I h) λf s1 q=>?_);cases f with
 |next =>
  obtain⟨YE,H',I',q⟩:=q;exact h2 Q9 s1 YE H' D I' q
 |ret v=>exact q
 |brk=>exact q
 |cont=>exact q
def mW(h1:PS X st t):ŉ X [st] t:=by
 refine λQ9 s O H D I h=>jd (Yy (h1 Q9 s O H D I h) λf s1 q=>?_);cases f with
 |next=>exact fg q
 |ret v=>exact q
 |brk=>exact q
 |cont=>exact q
def Inv.quiet(I:Inv X Q9 O H s):interactive X.env=false:=by simp[interactive,I.ok.kind]
def OA(te:TE):TS:=λD O H=>te O H λ_ H1=>D.nx O H1
def pY(he:PE X e te)(hs:cO e Zb pos.line X.env=pure false:=by rfl):PS X (.Expr e pos) (OA te):=by exact λQ9 s O H D I h=>wpAny_Expr_any (Yy (he Q9 s O H _ I h) λv s1=>e4 λx H1 I1 r1 q1=>⟨O,H1,I1,q1⟩) I.quiet hs
def Á9(te:TE):TS:=λD O H=>te O H D.rt
def rL(he:PE X e te):PS X (.Return (Za e) pos) (Á9 te):=by exact λQ9 s O H D I h=>wpAny_Return_some (Yy (he Q9 s O H _ I h) λv s1=>e4 λx H1 I1 r1 q1=>⟨x,O,H1,I1,r1,q1⟩)
def ÀP:TS:=λD _ H=>D.rt .Ym H
def ϻ:PS X (.Return Zb pos) ÀP:=λ_ _ O H _ I h=>wpAny_Return_none ⟨.Ym,O,H,I,rfl,h⟩
def Âe(c:TT)(t u:TS):TS:=λD O H=>c O H λb H1=>if b=true then t D O H1 else u D O H1
def wQ{c}{a b}{tc}(hc:PT X c tc)(ha:ŉ X a t)(hb:ŉ X b u):PS X (.If c a b pos) (Âe tc t u):=by
 refine λQ9 s O H D I h=>wpAny_If (Yy (hc Q9 s O H _ I h) λd s1=>e3 λH1 I1 q1=>?_);cases d with
 |true=>exact ha Q9 s1 O H1 D I1 q1
 |false=>exact hb Q9 s1 O H1 D I1 q1
abbrev TG:=V->St->Hp->(St->Hp->Prop)->Prop
abbrev ϲ:=List V->St->Hp->(St->Hp->Prop)->Prop
def PG(X:Cx)(Sf:bc)(t:TG):Prop :=
 ∀(Q9:List (ag×Obj))(s:aw)(O:St)(H:Hp)(v:V)(u:af)(Q:St->Hp->Prop),Inv X Q9 O H s->RelV v u->t v O H Q ->
  aP (model X.prog X.w) X.A (assign Sf X.env u) (λ_ s'=>∃YE H',Inv X Q9 YE H' s'/\Q YE H') X.xe s
def PGs(X:Cx)(ts:List bc)(t:ϲ):Prop :=
 ∀(Q9:List (ag×Obj))(s:aw)(O:St)(H:Hp)(vs:List V)(us:List af)(Q:St->Hp->Prop),Inv X Q9 O H s->Vals vs us->t vs O H Q ->
  aP (model X.prog X.w) X.A (assignInOrder ((cJ ts X.env).map (·.2)) us) (λ_ s'=>∃YE H',Inv X Q9 YE H' s'/\Q YE H') X.xe s
abbrev Ov:=V->V->V->Hp->(Hp->Prop)->Prop
def Ŝ(X:Cx)(t:Ov):Prop :=
 ∀(Q9:List (ag×Obj))(s:aw)(O:St)(H:Hp)(o i v:V)(ov iv u:af)(Q:Hp->Prop),Inv X Q9 O H s->RelV o ov->RelV i iv->RelV v u->t o i v H Q ->
  aP (model X.prog X.w) X.A (kB ov iv u) (λ_ s'=>∃H',Inv X Q9 O H' s'/\Q H') X.xe s
abbrev TIp:=V->V->Hp->VK->Prop
def PIp(X:Cx)(op:Operator)(t:TIp):Prop :=
 ∀(Q9:List (ag×Obj))(s:aw)(O:St)(H:Hp)(x y:V)(v u:af)(Q:VK),Inv X Q9 O H s->RelV x v->RelV y u->t x y H Q ->
  aP (model X.prog X.w) X.A (inplaceOp op v u) (EP X Q9 O Q) X.xe s
def F6(i:Nat):TG:=λv O H Q=>Q (O.set i (Za v)) H
def G9(hN:X.N.Nodup)(hi:X.N[i]?=Za x)(hx:Loc X.env.scope x)(hf:X.fn x=true\/X.env.scope.names.lookup x=Za .local:=by first|exact .inl rfl|exact .inr rfl|assumption):PG X (.Name x pos) (F6 i):=by exact λQ9 s O H v u Q I r h=>jA (sK I hN hi hx r (λs' I'=>⟨_,H,I',h⟩) hf)
def ÂL:ϲ:=λvs O H Q=>vs=[]/\Q O H
def ÁI(t:TG)(u:ϲ):ϲ:=λvs O H Q=>∃v r,vs=v::r/\t v O H λYE H'=>u r YE H' Q
def Àb:PGs X [] ÂL:=by
 rintro Q9 s O H vs us Q I r ⟨e,h⟩
 subst e;exact assignInOrder_nil ⟨O,H,I,h⟩
def J3{e}{t:TG}{u:ϲ}(h1:PG X e t)(h2:PGs X es u)(hs:(cJ (e::es) X.env).map (·.2)=assign e X.env::(cJ es X.env).map (·.2):=by rfl):PGs X (e::es) (ÁI t u):=by
 rintro Q9 s O H vs us Q I r ⟨v,vr,e1,h⟩
 subst e1;cases r with
 |cons r rr =>
  rw[hs];refine jn (Yy (h1 Q9 s O H _ _ _ I r h) λ_ s1=>e4b λŠ H1 I1 q1=>?_);exact h2 Q9 s1 Š H1 _ _ Q I1 rr q1
def ÂJ(K:aa)(n:Nat)(t:ϲ):TG:=λv O H Q=>∃a xs,v=.ref a/\ZK K H a xs/\xs.length=n/\t xs O H Q
def PF{t:ϲ}(hc:X.calm=true)(h:PGs X es t)(hn:(cJ es X.env).length=n:=by rfl)(R8:(cJ es X.env).findIdx? (·.1)=none:=by rfl):PG X (.Tuple es k pos) (ÂJ X.K n t):=by
 rintro Q9 s O H v u Q I r ⟨a,xs,e1,hq,hl,hw⟩
 subst e1;cases r;obtain⟨its,rv,ht,hz⟩:=I.tuple hq;refine assign_Tuple_tuple (I.ok.hd hc) ht (by simp[hn,<-hl,rv.length]) R8 λh' hx=>?_;have I1:=I.kept (t':=s.toks) λb o e=>hx b o (az (au e)) e;exact h Q9 _ O H xs _ Q I1 (by simpa using rv) hw
def ÂK(to ti:TE)(t:Ov):TG:=λv O H Q=>to O H λo H1=>ti O H1 λi H2=>t o i v H2 λH3=>Q O H3
def PH{t:Ov}(ho:PE X o to)(hi:PE X i ti)(hs:Ŝ X t)(ha:∀v,assign (.Subscript o i pos) X.env v=(do
   let ov <-holding [v] (eval o X.env);let iv <-holding [v,ov] (eval i X.env)
   fY pos
   holding [v,ov,iv] (kB ov iv v)
   release [v,ov,iv] []):=by intro _;rfl):PG X (.Subscript o i pos) (ÂK to ti t):=by
 refine λQ9 s O H v u Q I r h=>ah (cX (Yy (ho Q9 s O H _ I h) λov s1=>e4 λx H1 I1 r1 q1=>?_));refine ah (cX (Yy (hi Q9 s1 O H1 _ I1 q1) λiv s2=>e4 λy H2 I2 r2 q2=>?_));refine ah (eg (ah (cX (Yy (hs Q9 s2 O H2 x y v ov iv u _ I2 r1 r2 r q2) λ_ s3=>e3 λH3 I3 q3=>?_))));exact wpAny_release ⟨O,H3,I3,q3⟩
def OB(te:TE)(g:TG):TS:=λD O H=>te O H λx H1=>g x O H1 D.nx
def Li{tg e}{te}(he:PE X e te)(hg:PG X tg g)(hs:gZ [tg] e pos.line X.env=pure false:=by rfl)(hw:g5 [tg] e X.env=pure none:=by rfl)(h1:(cJ [tg] X.env).map (·.2)=[assign tg X.env]:=by rfl):PS X (.Assign [tg] e pos) (OB te g):=by
 refine λQ9 s O H D I h=>wpAny_Assign_stores (Yy (he Q9 s O H _ I h) λv s1=>e4 λx H1 I1 r1 q1=>?_) hs hw;rw[h1];exact Yy (hg Q9 s1 O H1 x v _ I1 r1 q1) λ_ s2 q=>q
def sM{i}{x}{e}{te}{Rl}(hN:X.N.Nodup)(hi:X.N[i]?=Za x)(hx:Loc X.env.scope x)(he:PE X e te)(hs:cO e (Za (.Name x Rl)) pos.line X.env=pure false:=by rfl)(hf:X.fn x=true\/X.env.scope.names.lookup x=Za .local:=by first|exact .inl rfl|exact .inr rfl|assumption) :
  PS X (.Assign [.Name x Rl] e pos) (OB te (F6 i)):=by
 refine λQ9 s O H D I h=>wpAny_Assign_Name (Yy (he Q9 s O H _ I h) λv s1=>e4 λy H1 I1 r1 q1=>?_) hs;exact sK I1 hN hi hx r1 (λs2 I2=>⟨_,H1,I2,q1⟩) hf
def Âa(i j:Nat)(ta:TA):TS:=λD O H=>ta O H λvs H1=>∃v w,vs=[v,w]/\D.nx ((O.set i (Za v)).set j (Za w)) H1
def Py{kt k2 pt2}(hc:X.calm=true)(hN:X.N.Nodup)(hi:X.N[i]?=Za x)(hj:X.N[j]?=Za y)(Vx:i≠j)(hx:X.env.scope.names.lookup x=Za .local)(hy:X.env.scope.names.lookup y=Za .local)(ha:PA X [a,b] ta)(hw:g5 [.Tuple [.Name x px,.Name y py] kt pt] (.Tuple [a,b] k2 pt2) X.env=pure (Za [x,y]))(hs:gZ [.Tuple [.Name x px,.Name y py] kt pt] (.Tuple [a,b] k2 pt2) pos.line X.env=pure false:=by rfl) :
  PS X (.Assign [.Tuple [.Name x px,.Name y py] kt pt] (.Tuple [a,b] k2 pt2) pos) (Âa i j ta):=by
 refine λQ9 s O H D I h=>ah (eg ?_);rw[hs];refine ah (aG ?_);refine ah (Tuple_ (Yy (ha _ Q9 s O H _ I h) λus s1=>e4 λvs H1 I1 r1 q1=>?_));obtain⟨v,w,rfl,q1⟩:=q1;obtain⟨u1,u2,rfl,rv,RR⟩:∃u1 u2,us=[u1,u2]/\RelV v u1/\RelV w u2:=by
  cases r1 with
  |cons p q =>
   cases q with
   |cons p' q' =>
    cases q';exact⟨_,_,rfl,p,p'⟩
 refine dB ?_ (by show 2<=aH;decide);have I2:Inv X Q9 O H1 { s1 with heap:=s1.heap.push { cls:=.type "tuple",data:=.seq [u1,u2].toArray } }:=I1.kept λb o e=>ak _ e;rw[hw];refine ah (aG ?_);refine ah (wpAny_rule (ah (unpackItems_tuple (items:=#[u1,u2]) (I.ok.hd hc) (IsTup.new s1.heap _) λh' Tb=>?_)));have I3:=I2.kept (t':=s1.toks) λb o e=>Tb b o (az (au e)) e;refine ah (jn (wpAny_bindName (sK I3 hN hj (.inl hy) RR (λs2 I4=>?_) (.inr hy))));refine jn (wpAny_bindName (sK I4 hN hi (.inl hx) rv (λs3 I5=>assignInOrder_nil (aG ?_)) (.inr hx)));rw[List.set_comm _ _ (bH Vx)] at I5;exact⟨_,H1,I5,q1⟩
def Âi(i:Nat)(te:TE)(ti:TIp):TS:=λD O H=>∃x,O[i]?=Za (Za x)/\te O H λy H1=>ti x y H1 λz H2=>D.nx (O.set i (Za z)) H2
def Pz{e}{te}(hN:X.N.Nodup)(hi:X.N[i]?=Za x)(hx:Loc X.env.scope x)(he:PE X e te)(ho:PIp X op ti)(hf:X.fn x=true\/X.env.scope.names.lookup x=Za .local:=by first|exact .inl rfl|exact .inr rfl|assumption) :
  PS X (.AugAssign (.Name x Rl) op e pos) (Âi i te ti):=by
 rintro Q9 s O H D I ⟨v,e1,h⟩
 obtain⟨m,hn,hl⟩:=I.loc;have vis:Vis X.env.scope x:=by obtain k|k:=hx;exact .inl k;exact .inr (.inl k)
 obtain⟨u,r,l⟩:=hl i x v hi e1 vis;apply wpAny_AugAssign_Name;have go:aP (model X.prog X.w) X.A (eval e X.env) (λw SC=>aP (model X.prog X.w) X.A (inplaceOp op u w) (λr Rg=>aP (model X.prog X.w) X.A (storeName X.env x r) (λ_=>SP X Q9 D .next) X.xe Rg) X.xe SC) X.xe s:=by refine Yy (he Q9 s O H _ I h) λw s1=>e4 λy H1 I1 r1 q1=>?_;refine Yy (ho Q9 s1 O H1 v y u w _ I1 r r1 q1) λz s2=>e4 λzv H2 I2 r2 q2=>?_;exact sK I2 hN hi hx r2 (λs3 I3=>⟨_,H2,I3,q2⟩) hf
 rcases l with⟨hk,hm⟩|⟨hk,c,hc,RW⟩
 .exact wpAny_loadName_local I.ok.kind hk hn hm go
 .obtain hk|hk:=hk
  .exact wpAny_loadName_cell I.ok.kind hk hc RW go
  .obtain k|k:=hx
   .have:X.env.scope.names.lookup x=Za .free:=hk
    simp_all
   .have:X.env.scope.names.lookup x=Za .free:=hk
    simp_all
def ÀV(to ti te:TE)(Ud:V->V->Hp->VK->Prop)(WD:TIp)(Ua:Ov):TS:=λD O H=>to O H λo H1=>ti O H1 λi H2=>Ud o i H2 λx H3=>te O H3 λy H4=>WD x y H4 λz H5=>Ua o i z H5 λH6=>D.nx O H6
def Á1(X:Cx)(t:V->V->Hp->VK->Prop):Prop :=
 ∀(Q9:List (ag×Obj))(s:aw)(O:St)(H:Hp)(o i:V)(ov iv:af)(Q:VK),Inv X Q9 O H s->RelV o ov->RelV i iv->t o i H Q ->
  aP (model X.prog X.w) X.A (iH ov iv) (EP X Q9 O Q) X.xe s
def MW{o i e}{to ti te}(ho:PE X o to)(hi:PE X i ti)(hg:Á1 X Ud)(he:PE X e te)(hp:PIp X op WD)(hs:Ŝ X Ua)(ha:∀ov iv new,augStore i ov iv new=(do holding [new,ov,iv] (kB ov iv new);release [new,ov,iv] [];pure .next):=by intros;rfl):PS X (.AugAssign (.Subscript o i RL) op e pos) (ÀV to ti te Ud WD Ua):=by
 refine λQ9 s O H D I h=>wpAny_AugAssign_SubscriptAny (Yy (ho Q9 s O H _ I h) λov s1=>e4 λx1 H1 I1 r1 q1=>?_) ha;refine Yy (hi Q9 s1 O H1 _ I1 q1) λiv s2=>e4 λx2 H2 I2 r2 q2=>?_;refine Yy (hg Q9 s2 O H2 x1 x2 ov iv _ I2 r1 r2 q2) λold s3=>e4 λx3 H3 I3 r3 q3=>?_;refine Yy (he Q9 s3 O H3 _ I3 q3) λv s4=>e4 λx4 H4 I4 r4 q4=>?_;refine Yy (hp Q9 s4 O H4 x3 x4 old v _ I4 r3 r4 q4) λnew s5=>e4 λx5 H5 I5 r5 q5=>?_;exact Yy (hs Q9 s5 O H5 x1 x2 x5 ov iv new _ I5 r1 r2 r5 q5) λ_ s6=>e3 λH6 I6 q6=>⟨O,H6,I6,q6⟩
def ipI(f:Int->Int->Int):TIp:=λx y H Q=>∃i j,x=.int i/\y=.int j/\Q (.int (f i j)) H
def Lx:PIp X .Add (ipI λi j=>i+j):=by
 rintro Q9 s O H x y v u Q I r1 r2 ⟨i,j,e1,e2,q⟩
 subst e1;subst e2;obtain⟨t,rfl⟩:=r1;obtain⟨t',rfl⟩:=r2;exact iadd_int ⟨.int _,H,I.tok _,⟨_,rfl⟩,q⟩
def Pb(c:TT)(tb:TS):TS:=λD O H=>∃W:Nat->St->Hp->Prop,(∃m,W m O H)/\∀m O H,W m O H ->
 c O H λb H1=>if b=true then ∃N:St->Hp->Prop,(∀YE H',N YE H'->∃m',m'<m/\W m' YE H')/\tb { D with nx:=N,ct:=N,bk:=D.nx } O H1 else D.nx O H1
def EL(hp:PassesOwn (model X.prog X.w) X.A X.env X.xe)(hc:PT X c tc)(hb:ŉ X body tb):PS X (.While c body [] pos) (Pb tc tb):=by
 rintro Q9 s O H D I ⟨W,⟨m0,w0⟩,Sx⟩
 refine wpAny_While (codeAny_whileLoop (λn s'=>∃YE H',Inv X Q9 YE H' s'/\W n YE H') ?_ m0 ⟨O,H,I,w0⟩)
 rintro n s1 ⟨Š,H1,I1,w1⟩
 refine d8 hp (Yy (hc Q9 s1 Š H1 _ I1 (Sx n Š H1 w1)) λb s2=>e3 λH2 I2 q2=>?_);cases b with
 |true =>
  obtain⟨N,hN,q2⟩:=q2;refine d8 hp (Yy (hb Q9 s2 Š H2 _ I2 q2) λf s3 q3=>?_);cases f with
  |next =>
   obtain⟨ĝ,H3,I3,n3⟩:=q3;obtain⟨m',hm,w3⟩:=hN ĝ H3 n3;exact⟨m',hm,ĝ,H3,I3,w3⟩
  |cont =>
   obtain⟨ĝ,H3,I3,n3⟩:=q3;obtain⟨m',hm,w3⟩:=hN ĝ H3 n3;exact⟨m',hm,ĝ,H3,I3,w3⟩
  |brk=>exact q3
  |ret v=>exact q3
 |false =>
  exact fg ⟨Š,H2,I2,q2⟩
end
structure It where
 go:Nat->Hp->Prop
 yld:Nat->Hp->V->Hp->Prop
 stop:Nat->Hp->Prop
def Ai(X:Cx)(Q9:List (ag×Obj))(H:Hp)(b:ag):Prop :=
 H b=Zb/\b≠X.env.locals/\b∉X.fs/\(b∈X.ex\/X.Y'.heap.objs.size<=b)/\(∀x c,X.env.cells.lookup x=Za c->c≠b)/\∀p∈X.pn++Q9,p.1≠b
def Inv.ŀ(I:Inv X Q9 O H s)(hb:s.heap.objs.size<=b)(hn:H' b=Zb):Ai X Q9 H' b:=by
 refine⟨hn,fz (ax I.lt hb),I.Âv hb,.inr (aI I.sz hb),λx c e z=>?_,λp hp z=>?_⟩
 .obtain⟨v,q⟩:=I.cell x c e;exact absurd (ax q.lt (by rw[z];exact hb)) (eS _)
 .exact absurd (ax (au (I.pin p hp).1) (by rw[z];exact hb)) (eS _)
structure Turn(P:aL)(w:aX)(K:aa)(tg:bc)(J:It)(fp:List ag)(it:ag)(tn:Nat->bi->Prop):Prop where
 mem:it∈fp
 obj:∀i h,tn i h->∀b∈fp,∃o,h.get? b=Za o/\∀v,o.data≠.cell v
 keep:∀i h h',tn i h->(∀b∈fp,∀o,h.get? b=Za o->h'.get? b=Za o)->tn i h'
 item:∀(X:Cx),X.prog=P->X.w=w->X.K=K->X.calm=true->∀(i:Nat)(Q9:List (ag×Obj))(s:aw)(O:St)(H:Hp)(E:af->aw->Prop),Inv X Q9 O H s->(∀b∈fp,Ai X Q9 H b)->tn i s.heap->J.go i H ->
  aP (model P w) X.A (pyNext (.ref it)) (λr s1=>∃u,r=Za u /\
   aP (model P w) X.A (kn tg (.ref it) u) (λ_ s2=>∃x H',Inv X Q9 O H' s2/\RelV x u/\J.yld i H x H'/\tn (i+1) s2.heap/\∀b∈fp,H' b=Zb) E s1) E s
 done:∀(X:Cx),X.prog=P->X.w=w->X.K=K->X.calm=true->∀(i:Nat)(Q9:List (ag×Obj))(s:aw)(O:St)(H:Hp)(E:af->aw->Prop),Inv X Q9 O H s->(∀b∈fp,Ai X Q9 H b)->tn i s.heap->J.stop i H ->
  aP (model P w) X.A (pyNext (.ref it)) (λr s1=>r=Zb/\Inv X Q9 O H s1) E s
 self:∀(A:b8)(i:Nat)(s:aw)(Q:af->aw->Prop)(E:af->aw->Prop),tn i s.heap->Q (.ref it) s->aP (model P w) A (pyIter (.ref it)) Q E s
abbrev TI:=St->Hp->(It->Hp->Prop)->Prop
def PIE(X:Cx)(Q9:List (ag×Obj))(O:St)(tg:bc)(R:It->Hp->Prop)(UL:af)(s2:aw):Prop :=
 ∃(it:ag)(fp:List ag)(tn:Nat->bi->Prop)(J:It)(H':Hp),UL=.ref it/\Inv X Q9 O H' s2/\Turn X.prog X.w X.K tg J fp it tn/\tn 0 s2.heap/\(∀b∈fp,Ai X Q9 H' b)/\R J H'
def PI(X:Cx)(tg iter:bc)(wi:TI):Prop :=
 ∀(Q9:List (ag×Obj))(s:aw)(O:St)(H:Hp)(R:It->Hp->Prop),Inv X Q9 O H s->wi O H R ->
  aP (model X.prog X.w) X.A (eval iter X.env) (λv s1=>aP (model X.prog X.w) X.A (pyIter v) (PIE X Q9 O tg R) X.xe s1) X.xe s
def FY(ho:s.heap.get? it=Za o)(hc:o.cls=.type n)(hd:o.data=.fields vs)(hn:["enumerate","zip","dict_itemiterator","dict_reverseitemiterator","odict_iterator","itertools.zip_longest","itertools.pairwise"].contains n=false)(hQ:Q () s):aP M A (kn tg (.ref it) u) Q E s:=by
 cases tg<;>first
  |exact aG hQ
  | (cases u<;>first
    |exact aG hQ
    | (refine ah (wpAny_load ho ?_)
       rw[hc,hd];show aP M A (if(["enumerate","zip","dict_itemiterator","dict_reverseitemiterator","odict_iterator","itertools.zip_longest","itertools.pairwise"].contains n&&vs[0]?==Za (rawInt _))=true then _ else _) Q E s;rw[Zd (by grind)];exact aG hQ))
def Itl(K:aa)(a:ag):It :=
 ⟨λi H=>∃xs x,YY K H a xs/\xs[i]?=Za x,λi H x H'=>H'=H/\∀xs,YY K H a xs->xs[i]?=Za x,λi H=>∃xs,YY K H a xs/\xs.length<=i⟩
def Itt(K:aa)(a:ag):It :=
 ⟨λi H=>∃xs x,ZK K H a xs/\xs[i]?=Za x,λi H x H'=>H'=H/\∀xs,ZK K H a xs->xs[i]?=Za x,λi H=>∃xs,ZK K H a xs/\xs.length<=i⟩
def Itr(lo:Int)(n:Nat):It:=⟨λi _=>i<n,λi H x H'=>H'=H/\x=.int (lo+i),λi _=>n<=i⟩
def BO{P}{w}{K}{tg}(a it):Turn P w K tg (Itl K a) [it] it (λi h=>h.IsListIter it a i) where
 mem:=by simp
 obj:=λi h st b hb=>by
  have e:b=it:=by simpa using hb
  subst e;obtain⟨o,e,c,d⟩:=st
  grind
 keep:=λi h h' st k=>st.at λo e=>k it (by simp) o e
 item:=by intro X hP hw hK hc i Q9 s O H E I hf st hg;subst hP hw hK;obtain⟨xs,x,hq,hx⟩:=hg;obtain⟨its,rv,p,hz⟩:=I.list hq;obtain⟨u,hu,ru⟩:=rv.get hx;obtain⟨f0,f1,f2,f3,f4,f5⟩:=hf it (by simp);refine wpAny_pyNext_list_item st p.isList (by simpa using hu) λh' SB sb=>?_;have I1:=I.turned (t':=s.toks) (λb o hb e=>(sb.2 b hb).trans e) f0 f1 f3 f4 f5;obtain⟨o,e,c,d⟩:=id SB;exact⟨u,rfl,FY e c d (Zf rfl) ⟨x,H,I1,ru,⟨rfl,λys hy=>by rw[I.è hy hq];exact hx⟩,SB,λb hb=>(hf b hb).1⟩⟩
 done:=by intro X hP hw hK hc i Q9 s O H E I hf st hg;subst hP hw hK;obtain⟨xs,hq,hx⟩:=hg;obtain⟨its,rv,p,hz⟩:=I.list hq;obtain⟨f0,f1,f2,f3,f4,f5⟩:=hf it (by simp);have hl:=rv.length;exact wpAny_pyNext_list_end (I.ok.hd hc) st p.isList (by simp;lia) λh' eb=>⟨rfl,I.turned (λb o hb e=>eb b o hb e) f0 f1 f3 f4 f5⟩
 self:=λ_ _ _ _ _ st h=>wpAny_pyIter_listiter st h
def Fp{P}{w}{K}{tg}(a it):Turn P w K tg (Itt K a) [it] it (λi h=>h.IsTupleIter it a i) where
 mem:=by simp
 obj:=λi h st b hb=>by
  have e:b=it:=by simpa using hb
  subst e;obtain⟨o,e,c,d⟩:=st
  grind
 keep:=λi h h' st k=>st.at λo e=>k it (by simp) o e
 item:=by intro X hP hw hK hc i Q9 s O H E I hf st hg;subst hP hw hK;obtain⟨xs,x,hq,hx⟩:=hg;obtain⟨its,rv,p,hz⟩:=I.tuple hq;obtain⟨u,hu,ru⟩:=rv.get hx;obtain⟨f0,f1,f2,f3,f4,f5⟩:=hf it (by simp);refine wpAny_pyNext_tuple_item st (p) (by simpa using hu) λh' SB sb=>?_;have I1:=I.turned (t':=s.toks) (λb o hb e=>(sb.2 b hb).trans e) f0 f1 f3 f4 f5;obtain⟨o,e,c,d⟩:=id SB;exact⟨u,rfl,FY e c d (Zf rfl) ⟨x,H,I1,ru,⟨rfl,λys hy=>by rw[I.ώ hy hq];exact hx⟩,SB,λb hb=>(hf b hb).1⟩⟩
 done:=by intro X hP hw hK hc i Q9 s O H E I hf st hg;subst hP hw hK;obtain⟨xs,hq,hx⟩:=hg;obtain⟨its,rv,p,hz⟩:=I.tuple hq;obtain⟨f0,f1,f2,f3,f4,f5⟩:=hf it (by simp);have hl:=rv.length;exact wpAny_pyNext_tuple_end (I.ok.hd hc) st (p) (by simp;lia) λh' eb=>⟨rfl,I.turned (λb o hb e=>eb b o hb e) f0 f1 f3 f4 f5⟩
 self:=λ_ _ _ _ _ st h=>wpAny_pyIter_tupleiter st h
def Fq{P}{w}{K}{tg}(it)(lo)(n):Turn P w K tg (Itr lo n) [it] it (λi h=>IsRangeIter h it (lo+(i:Nat)*1) ((n:Int)-(i:Nat)) 1) where
 mem:=by simp
 obj:=λi h st b hb=>by
  grind
 keep:=λi h h' st k=>k it (by simp) _ st
 item:=by intro X hP hw hK hc i Q9 s O H E I hf st hg;subst hP hw hK;obtain⟨f0,f1,f2,f3,f4,f5⟩:=hf it (by simp);have W:=Walks.range (prog:=X.prog) (w:=X.w) (I.ok.hd hc) it lo 1 n;refine W.item i s _ _ hg st λv h' tk hv SB kk=>?_;obtain⟨t,rfl⟩:=hv;have I1:Inv X Q9 O H { s with heap:=h',toks:=tk }:=I.turned (λb o hb e=>kk b o (by simpa using hb) e) f0 f1 f3 f4 f5;refine⟨_,rfl,FY SB rfl rfl (Zf rfl) ⟨.int (lo+i),H,I1,⟨t,?_⟩,⟨rfl,rfl⟩,SB,λb hb=>(hf b hb).1⟩⟩;rw[lL]
 done:=by intro X hP hw hK hc i Q9 s O H E I hf st hg;subst hP hw hK;obtain⟨f0,f1,f2,f3,f4,f5⟩:=hf it (by simp);exact wpAny_pyNext_range_end (I.ok.hd hc) st (by have:n<=i:=hg;lia) λh' eb=>⟨rfl,I.turned (λb o hb e=>eb b o hb e) f0 f1 f3 f4 f5⟩
 self:=λ_ _ _ _ _ st h=>wpAny_pyIter_rangeiter st h
section
variable{X:Cx}{tg:bc}
def Áz(K:aa)(tl:TE):TI:=λO H R=>tl O H λx H1=>∃a,x=.ref a/\(∃xs,YY K H1 a xs)/\R (Itl K a) H1
def MY{l}{tl}(hl:PE X l tl):PI X tg l (Áz X.K tl):=by
 refine λQ9 s O H R I h=>Yy (hl Q9 s O H _ I h) λv s1=>e4 λx H1 I1 r1 q1=>?_;obtain⟨a,rfl,⟨xs,hq⟩,q⟩:=q1;cases r1;obtain⟨its,rv,p,hz⟩:=I1.list hq;apply gT p.isList;refine⟨s1.heap.objs.size,[s1.heap.objs.size],_,_,H1,rfl,I1.kept λb o e=>ak _ e,BO a _,⟨_,aN _ rfl,rfl,rfl⟩,λb hb=>?_,q⟩;have e:b=s1.heap.objs.size:=by simpa using hb
 subst e;exact I1.ŀ (al _) (I1.Yn.fresh (al _))
def JU{Q9}{O}{H}{s}{R:It->Hp->Prop}{E}{lo hi}{t u v}{tk}(I:Inv X Q9 O H s)(h1:-(2^62)<=lo)(h2:lo<2^62)(h3:-(2^62)<=hi)(h4:hi<2^62)(q:R (Itr lo (hi-lo).toNat) H):aP (model X.prog X.w) X.A (pyIter (.ref s.heap.objs.size)) (PIE X Q9 O tg R) E { s with heap:=s.heap.push { cls:=.type "range",data:=.fields #[.int lo t,.int hi u,.int 1 v] },toks:=tk }:=by
 apply wpAny_pyIter_range (IsRange.new ..) (small_one h1 h2 h3 h4);have I1:Inv X Q9 O H { s with heap:=s.heap.push { cls:=.type "range",data:=.fields #[.int lo t,.int hi u,.int 1 v] },toks:=tk }:=I.kept λb o e=>ak _ e;refine⟨(s.heap.push { cls:=.type "range",data:=.fields #[.int lo t,.int hi u,.int 1 v] }).objs.size,[(s.heap.push { cls:=.type "range",data:=.fields #[.int lo t,.int hi u,.int 1 v] }).objs.size],_,_,H,rfl,
  I1.kept λb o e=>ak _ e,Fq _ lo (hi-lo).toNat,?_,λb hb=>?_,q⟩
 .have e1:lo+((0:Nat):Int)*1=lo:=by simp
  have e2:(((hi-lo).toNat:Nat):Int)-((0:Nat):Int)=Builtin.Range.rangeSize lo hi 1:=by rw[rangeSize_one];grind
  rw[e1,e2];exact aN _ rfl
 .have e:b=(s.heap.push { cls:=.type "range",data:=.fields #[.int lo t,.int hi u,.int 1 v] }).objs.size:=by simpa using hb
  subst e;exact I1.ŀ (al _) (I1.Yn.fresh (al _))
def Áy(ta:TA):TI:=λO H R=>ta O H λvs H1=>∃j:Int,vs=[.int j]/\-(2^62)<=j/\j<2^62/\R (Itr 0 j.toNat) H1
def Ii{a}{ta}{p pos}(hg:Gl X "range")(hm:X.mg "range"=Zb)(ha:PA X [a] ta)(hs:aq [a] X.env=[(false,eval a X.env)]:=by rfl):PI X tg (.Call (.Name "range" p) [a] [] pos) (Áy ta):=by
 refine λQ9 s O H R I h=>Call_ (yK I hg hm boot_range (dJ (Yy (ha pos Q9 s O H _ I h) λus s1=>e4 λvs H1 I1 r1 q1=>?_) hs rfl));obtain⟨j,rfl,q1,q2,q⟩:=q1;cases r1 with
 |cons r rr =>
  cases rr;obtain⟨t,rfl⟩:=r;exact call_range_1 (JU I1 (by lia) (by lia) q1 q2 (by simpa using q))
def Âf(wi:TI)(g:TG)(tb:TS):TS:=λD O H=>wi O H λJ H1=>∃W:Nat->Nat->St->Hp->Prop,(∃m,W 0 m O H1)/\∀i m O H,W i m O H ->
 (J.stop i H/\D.nx O H)\/(J.go i H/\∃N:St->Hp->Prop,(∀YE H',N YE H'->∃m',m'<m/\W (i+1) m' YE H')/\∀x H',J.yld i H x H'->g x O H' λĞ H2=>tb { D with nx:=N,ct:=N,bk:=D.nx } Ğ H2)
def A7(fp:List ag)(h:bi):List (ag×Obj):=fp.filterMap λb=>(h.get? b).map λo=>(b,o)
def tQ(hb:b∈fp)(e:h.get? b=Za o):(b,o)∈A7 fp h:=gu.mpr ⟨b,hb,by rw[e];rfl⟩
def Iw(hp:p∈A7 fp h):p.1∈fp/\h.get? p.1=Za p.2:=by
 obtain⟨b,hb,e⟩:=gu.mp hp;cases q:h.get? b with
 |none=>grind
 |some o =>
  grind
def Inv.pinned(I:Inv X Q9 O H s)(hf:∀b∈fp,Ai X Q9 H b)(ho:∀b∈fp,∃o,s.heap.get? b=Za o/\∀v,o.data≠.cell v):Inv X (Q9++A7 fp s.heap) O H s :=
 I.ż λp hp=>(aW.mp hp).elim (λz=>I.pin p (aD _ z)) λz=>by
  obtain⟨hb,e⟩:=Iw z;obtain⟨f0,f1,f2,_⟩:=hf p.1 hb
  grind
def Inv.ä(I:Inv X (Q9++pl) O H s):Inv X Q9 O H s:=I.ż λp hp=>I.pin p (aD _ (bV _ hp))
def Gy(hp:PassesOwn (model X.prog X.w) X.A X.env X.xe)(hc:X.calm=true)(hi:PI X tg iter wi)(hg:PG X tg g)(hb:ŉ X body tb)(hs:∀x,bL iter X.env x=pure x:=by intro _;rfl):PS X (.For tg iter body [] pos) (Âf wi g tb):=by
 refine λQ9 s O H D I h=>wpAny_For (Yy (hi Q9 s O H _ I h) λv s1 h1=>Yy h1 λUL s2 h2=>?_) hs;obtain⟨it,fp,tn,J,H2,rfl,I2,T,R7,f2,W,⟨m0,w0⟩,Sx⟩:=h2;have SA:∀{H':Hp},(∀b∈fp,H' b=Zb)->∀b∈fp,Ai X Q9 H' b:=λhn b hb=>⟨hn b hb,(f2 b hb).2⟩;refine codeAny_forLoop_any (λn s'=>∃i YE H',Inv X Q9 YE H' s'/\tn i s'.heap/\(∀b∈fp,H' b=Zb)/\W i n YE H') ?_ m0 ⟨0,O,H2,I2,R7,λb hb=>(f2 b hb).1,w0⟩
 rintro n s3 ⟨i,ĝ,H3,I3,U3,VQ,w3⟩
 rcases Sx i n ĝ H3 w3 with⟨stop,qn⟩|⟨go,N,hN,step⟩
 .refine d8 hp (Yy (T.done X rfl rfl rfl hc i Q9 s3 ĝ H3 X.xe I3 (SA VQ) U3 stop) λr s4 ⟨hr,I4⟩=>?_);subst hr;exact fg ⟨ĝ,H3,I4,qn⟩
 .refine d8 hp (Yy (T.item X rfl rfl rfl hc i Q9 s3 ĝ H3 X.xe I3 (SA VQ) U3 go) λr s4 ⟨u,hr,h4⟩=>?_);subst hr;refine d8 hp (Yy h4 λ_ s5=>e4 λx H5 I5 r5 ⟨y5,st5,fr5⟩=>?_);have I5':=I5.pinned (SA fr5) (T.obj _ _ st5);refine d8 hp (Yy (hg _ s5 ĝ H5 x u _ I5' r5 (step x H5 y5)) λ_ s6=>e4b λσ6 H6 I6 q6=>?_);refine d8 hp (Yy (hb _ s6 σ6 H6 _ I6 q6) λf s7 q7=>?_);have again:∀{ŷ:St}{H7:Hp},Inv X (Q9++A7 fp s5.heap) ŷ H7 s7->N ŷ H7->∃m,m<n/\∃i YE H',Inv X Q9 YE H' s7/\tn i s7.heap/\(∀b∈fp,H' b=Zb)/\W i m YE H':=λ{ŷ H7} I7 n7=>by obtain⟨m',hm,w7⟩:=hN ŷ H7 n7;refine⟨m',hm,i+1,ŷ,H7,I7.ä,T.keep _ _ _ st5 λb hb o e=>(I7.pin (b,o) (aD _ (aD _ (tQ hb e)))).1,λb hb=>?_,w7⟩;obtain⟨o,e,d⟩:=T.obj _ _ st5 b hb;exact(I7.pin (b,o) (aD _ (aD _ (tQ hb e)))).2.1
  cases f with
  |next=>obtain⟨ŷ,H7,I7,n7⟩:=q7;exact again I7 n7
  |cont=>obtain⟨ŷ,H7,I7,n7⟩:=q7;exact again I7 n7
  |brk=>obtain⟨ŷ,H7,I7,q7⟩:=q7;exact⟨ŷ,H7,I7.ä,q7⟩
  |ret v=>obtain⟨x7,ŷ,H7,I7,r7,q7⟩:=q7;exact⟨x7,ŷ,H7,I7.ä,r7,q7⟩
end
abbrev R2:=V->V->Hp->VK->Prop
def ZA(X:Cx)(f:af->af->Sem af)(r:R2):Prop :=
 ∀(Q9:List (ag×Obj))(s:aw)(O:St)(H:Hp)(x y:V)(v u:af)(Q:VK),Inv X Q9 O H s->RelV x v->RelV y u->r x y H Q ->
  aP (model X.prog X.w) X.A (f v u) (EP X Q9 O Q) X.xe s
def UnR(X:Cx)(f:af->Sem af)(r:V->Hp->VK->Prop):Prop :=
 ∀(Q9:List (ag×Obj))(s:aw)(O:St)(H:Hp)(x:V)(v:af)(Q:VK),Inv X Q9 O H s->RelV x v->r x H Q ->
  aP (model X.prog X.w) X.A (f v) (EP X Q9 O Q) X.xe s
def YV(X:Cx)(f:af)(r:List V->Hp->VK->Prop):Prop :=
 ∀(Q9:List (ag×Obj))(s:aw)(O:St)(H:Hp)(xs:List V)(us:List af)(Q:VK),Inv X Q9 O H s->Vals xs us->r xs H Q ->
  aP (model X.prog X.w) X.A (call f us) (EP X Q9 O Q) X.xe s
def tOp(r:R2)(ta tb:TE):TE:=λO H Q=>ta O H λx H1=>tb O H1 λy H2=>r x y H2 Q
def tUn(r:V->Hp->VK->Prop)(ta:TE):TE:=λO H Q=>ta O H λx H1=>r x H1 Q
def rI(C:Int->Int->Prop)(g:Int->Int->V):R2:=λx y H Q=>∃i j,x=.int i/\y=.int j/\C i j/\Q (g i j) H
def ϔ(g:Int->Int->V):R2:=λx y H Q=>∃i j,x=.int i/\y=.int j/\Q (g i j) H
def rU(g:Int->V):V->Hp->VK->Prop:=λx H Q=>∃i,x=.int i/\Q (g i) H
section
variable{X:Cx}{a b c:bc}{ta tb tc:TE}{pos:Pos}
def Q7(ha:PE X a ta)(hb:PE X b tb){Q9:List (ag×Obj)}{s:aw}{O:St}{H:Hp}{R:V->V->Hp->Prop}(I:Inv X Q9 O H s)(h:ta O H λx H1=>tb O H1 λy H2=>R x y H2){Q:af->aw->Prop}{f:af->af->Sem af}(hf:∀v u s2 x y H2,Inv X Q9 O H2 s2->RelV x v->RelV y u->R x y H2->aP (model X.prog X.w) X.A (f v u) Q X.xe s2) :
  aP (model X.prog X.w) X.A (eval a X.env) (λv Rr=>aP (model X.prog X.w) X.A (eval b X.env) (λu SC=>aP (model X.prog X.w) X.A (f v u) Q X.xe SC) X.xe Rr) X.xe s:=by
 refine Yy (ha Q9 s O H _ I h) λv s1=>e4 λx H1 I1 r1 q1=>?_;refine Yy (hb Q9 s1 O H1 _ I1 q1) λu s2=>e4 λy H2 I2 r2 q2=>?_;exact hf v u s2 x y H2 I2 r1 r2 q2
def t7{op:Operator}{r:R2}(ho:ZA X (dE op) r)(ha:PE X a ta)(hb:PE X b tb):PE X (.BinOp a op b pos) (tOp r ta tb):=by exact λQ9 s O H Q I h=>wpAny_BinOp (Q7 ha hb I h λv u s2 x y H2 I2 rx ry q=>ho Q9 s2 O H2 x y v u Q I2 rx ry q)
def OJ{op:UnaryOp}{r}(ho:UnR X (unaryOp op) r)(ha:PE X a ta):PE X (.UnaryOp op a pos) (tUn r ta):=by exact λQ9 s O H Q I h=>UnaryOp_ (Yy (ha Q9 s O H _ I h) λv s1=>e4 λx H1 I1 r1 q1=>ho Q9 s1 O H1 x v Q I1 r1 q1)
def opI{f:af->af->Sem af}{C:Int->Int->Prop}{g:Int->Int->Int}(rule:∀(i j:Int)(t u:Tok)(s:aw)(Q:af->aw->Prop)(E:af->aw->Prop),C i j->Q (.int (g i j) s.toks) { s with toks:=s.toks+1 }->aP (model X.prog X.w) X.A (f (.int i t) (.int j u)) Q E s) :
  ZA X f (rI C λi j=>.int (g i j)):=by
 rintro Q9 s O H x y v u Q I rx ry ⟨i,j,rfl,rfl,hc,q⟩
 obtain⟨t,rfl⟩:=rx;obtain⟨t',rfl⟩:=ry;exact rule i j t t' s _ _ hc ⟨.int (g i j),H,I.tok _,⟨_,rfl⟩,q⟩
def À9{f:af->af->Sem af}{g:Int->Int->Int}(rule:∀(i j:Int)(t u:Tok)(s:aw)(Q:af->aw->Prop)(E:af->aw->Prop),Q (.int (g i j) s.toks) { s with toks:=s.toks+1 }->aP (model X.prog X.w) X.A (f (.int i t) (.int j u)) Q E s) :
  ZA X f (ϔ λi j=>.int (g i j)):=by
 rintro Q9 s O H x y v u Q I rx ry ⟨i,j,rfl,rfl,q⟩
 obtain⟨t,rfl⟩:=rx;obtain⟨t',rfl⟩:=ry;exact rule i j t t' s _ _ ⟨.int (g i j),H,I.tok _,⟨_,rfl⟩,q⟩
def ON{f:af->af->Sem af}{g:Int->Int->Bool}(rule:∀(i j:Int)(t u:Tok)(s:aw)(Q:af->aw->Prop)(E:af->aw->Prop),Q (.bool (g i j)) s->aP (model X.prog X.w) X.A (f (.int i t) (.int j u)) Q E s) :
  ZA X f (ϔ λi j=>.bl (g i j)):=by
 rintro Q9 s O H x y v u Q I rx ry ⟨i,j,rfl,rfl,q⟩
 obtain⟨t,rfl⟩:=rx;obtain⟨t',rfl⟩:=ry;exact rule i j t t' s _ _ ⟨.bl (g i j),H,I,rfl,q⟩
def Á2(i j:Int):Prop:=0<=j/\j<=1000000/\i.natAbs<2^64
def ϓ(i j:Int):Prop:=(-(2^64)<i/\i<2^64)\/(-(2^64)<j/\j<2^64)
def ϓ.ok(h:ϓ i j):jE i j:=by
 rcases h with⟨h1,h2⟩|⟨h1,h2⟩
 .exact .of_left (intBits_le_64 h1 h2)
 .exact .of_right (intBits_le_64 h1 h2)
def Ϡ:ZA X (dE .Add) (ϔ λi j=>.int (i+j)):=À9 λ_ _ _ _ _ _ _ q=>add_int q
def PQ:ZA X (dE .Sub) (ϔ λi j=>.int (i-j)):=À9 λ_ _ _ _ _ _ _ q=>sub_int q
def PZ:ZA X (dE .Mult) (rI ϓ λi j=>.int (i*j)):=opI λ_ _ _ _ _ _ _ hc q=>mul_int q hc.ok
def Lo:ZA X (dE .Mod) (rI (λ_ j=>0<j) λi j=>.int (i%j)):=opI λi j _ _ _ _ _ hc q=>by exact mod_int' (by lia) (by rw[Int.fmod_eq_emod_of_nonneg i (by lia)];exact q)
def PX:ZA X (dE .Pow) (rI Á2 λi j=>.int (i^j.toNat)):=opI λ_ _ _ _ _ _ _ hc q=>pow_int_small hc.1 hc.2.1 hc.2.2 q
def unI{f:af->Sem af}{g:Int->Int}(rule:∀(i:Int)(t:Tok)(s:aw)(Q:af->aw->Prop)(E:af->aw->Prop),Q (.int (g i) s.toks) { s with toks:=s.toks+1 }->aP (model X.prog X.w) X.A (f (.int i t)) Q E s) :
  UnR X f (rU λi=>.int (g i)):=by
 rintro Q9 s O H x v Q I rx ⟨i,rfl,q⟩
 obtain⟨t,rfl⟩:=rx;exact rule i t s _ _ ⟨.int (g i),H,I.tok _,⟨_,rfl⟩,q⟩
def K4:UnR X (unaryOp .USub) (rU λi=>.int (-i)):=unI λ_ _ _ _ _ q=>neg_int q
def Âm:V->V->Bool
 |.Ym,.Ym=>true|.Ym,.int _=>true|.int _,.Ym=>true|.Ym,.bl _=>true|.bl _,.Ym=>true|.Ym,.str _=>true|.str _,.Ym=>true
 |.int _,.int _=>true|.bl _,.bl _=>true|.str _,.str _=>true|.byt _,.byt _=>true
 |.int _,.str _=>true|.str _,.int _=>true|.bl _,.str _=>true|.str _,.bl _=>true
 |_,_=>false
def rNe:R2:=λx y H Q=>Âm x y=true/\Q (.bl (!decide (x=y))) H
def N2:decide (V.int i=V.int j)=(i==j):=by rw[ci];simp
def QI:decide (V.bl i=V.bl j)=(i==j):=by rw[ci];simp
def N1:decide (V.str i=V.str j)=(i==j):=by rw[ci];simp
def N3:decide (V.byt i=V.byt j)=(i.toList==j.toList):=by
 rw[ci]
 simp_all
def pz(I:Inv X Q9 O H s)(q:Q (.bl k) H)(e:k=k'):EP X Q9 O Q (.bool k') s:=by subst e;exact⟨.bl k,H,I,rfl,q⟩
def À8:ZA X (bR .NotEq) rNe:=by
 rintro Q9 s O H x y v u Q I rx ry ⟨hs,q⟩
 cases x with
 |Ym =>
  cases rx;cases y with
  |Ym=>cases ry;exact PySem.EqNone.ne_none_none (pz I q (by simp))
  |bl j=>cases ry;exact PySem.EqNone.ne_none_bool (pz I q (by simp))
  |int j=>obtain⟨t',rfl⟩:=ry;exact PySem.EqNone.ne_none_int (pz I q (by simp))
  |str j=>obtain⟨t',rfl⟩:=ry;exact PySem.EqNone.ne_none_str (pz I q (by simp))
  |_=>exact absurd (show false=true from hs) bJ
 |bl i =>
  cases rx;cases y with
  |Ym=>cases ry;exact PySem.EqNone.ne_bool_none (pz I q (by simp))
  |bl j=>cases ry;exact ne_bool (pz I q (congrArg not QI))
  |str j=>obtain⟨t',rfl⟩:=ry;exact PySem.EqMixed.ne_bool_str (pz I q (by simp))
  |_=>exact absurd (show false=true from hs) bJ
 |int i =>
  obtain⟨t,rfl⟩:=rx;cases y with
  |Ym=>cases ry;exact PySem.EqNone.ne_int_none (pz I q (by simp))
  |int j=>obtain⟨t',rfl⟩:=ry;exact ne_int (pz I q (congrArg not N2))
  |str j=>obtain⟨t',rfl⟩:=ry;exact PySem.EqMixed.ne_int_str (pz I q (by simp))
  |_=>exact absurd (show false=true from hs) bJ
 |str i =>
  obtain⟨t,rfl⟩:=rx;cases y with
  |Ym=>cases ry;exact PySem.EqNone.ne_str_none (pz I q (by simp))
  |bl j=>cases ry;exact PySem.EqMixed.ne_str_bool (pz I q (by simp))
  |int j=>obtain⟨t',rfl⟩:=ry;exact PySem.EqMixed.ne_str_int (pz I q (by simp))
  |str j=>obtain⟨t',rfl⟩:=ry;exact ne_str (pz I q (congrArg not N1))
  |_=>exact absurd (show false=true from hs) bJ
 |byt i =>
  obtain⟨t,rfl⟩:=rx;cases y with
  |byt j=>obtain⟨t',rfl⟩:=ry;exact PySem.W.ne_bytes (pz I q (congrArg not N3))
  |_=>exact absurd (show false=true from hs) bJ
 |_=>cases y<;>exact absurd (show false=true from hs) bJ
def OK:ZA X (bR .Lt) (ϔ λi j=>.bl (decide (i<j))):=ON λ_ _ _ _ _ _ _ q=>lt_int q
def OL:ZA X (bR .LtE) (ϔ λi j=>.bl (decide (i<=j))):=ON λ_ _ _ _ _ _ _ q=>le_int q
def OM:ZA X (bR .Gt) (ϔ λi j=>.bl (decide (j<i))):=ON λ_ _ _ _ _ _ _ q=>gt_int q
def Mc:ZA X (bR .GtE) (ϔ λi j=>.bl (decide (j<=i))):=ON λ_ _ _ _ _ _ _ q=>ge_int q
def Nd:ZA X (bR .IsNot) (λx y H Q=>y=.Ym/\Q (.bl (!decide (x=.Ym))) H):=by
 rintro Q9 s O H x y v u Q I rx ry ⟨rfl,q⟩
 cases ry;refine isnot_none_gen (pz I q ?_);cases x<;>first
  |(cases rx;rfl)
  |(obtain⟨t,rfl⟩:=rx;rfl)
def ZA.or(h:ZA X f r)(h':ZA X f r'):ZA X f (λx y H Q=>r x y H Q\/r' x y H Q):=by
 intro Q9 s O H x y v u Q I rx ry q;obtain q|q:=q
 .exact h Q9 s O H x y v u Q I rx ry q
 .exact h' Q9 s O H x y v u Q I rx ry q
def vC(b)(h:op≠.In:=by decide)(h2:op≠.NotIn:=by decide):cK op b=false:=by
 have e1:(op==CmpOp.In)=false:=by cases op<;>first|rfl|exact absurd rfl h
 have e2:(op==CmpOp.NotIn)=false:=by cases op<;>first|rfl|exact absurd rfl h2
 cases b<;>simp[cK,e1,e2]
def Hb{op:CmpOp}{r}(ho:ZA X (bR op) r)(ha:PE X a ta)(hb:PE X b tb)(hm:cK op b=false):PE X (.Compare a [op] [b] pos) (tOp r ta tb):=by exact λQ9 s O H Q I h=>wpAny_Compare1 (Q7 ha hb I h λv u s2 x y H2 I2 rx ry q=>ho Q9 s2 O H2 x y v u Q I2 rx ry q) hm
def ÀO(t:TE):TT:=λO H Q=>t O H λx H'=>∃k,x=.bl k/\Q k H'
def vz{op:CmpOp}{r}(ho:ZA X (bR op) r)(ha:PE X a ta)(hb:PE X b tb)(hm:cK op b=false):PT X (.Compare a [op] [b] pos) (ÀO (tOp r ta tb)):=by
 refine λQ9 s O H Q I h=>wpAny_isTrue_Compare1 (Yy (ha Q9 s O H _ I h) λv s1=>e4 λx H1 I1 r1 q1=>Yy (hb Q9 s1 O H1 _ I1 q1) λu s2=>e4 λy H2 I2 r2 q2 =>
  Yy (ho Q9 s2 O H2 x y v u _ I2 r1 r2 q2) λc s3=>e4 λz H3 I3 r3 ⟨k,e,q3⟩=>?_) hm
 subst e;cases r3;exact dA ⟨H3,I3,q3⟩
def Pg(r r':R2)(ta tb tc:TE):TE:=λO H Q=>ta O H λx H1=>tb O H1 λy H2=>r x y H2 λz H3=>∃k,z=.bl k /\
 (if k=true then tc O H3 λw' H4=>r' y w' H4 Q else Q (.bl false) H3)
def ES(ho:ZA X (bR op) r)(TV:ZA X (bR op') r')(ha:PE X a ta)(hb:PE X b tb)(hc:PE X c tc)(hm:lastMarks [op,op'] [b,c]=false:=by with_unfolding_all rfl):PE X (.Compare a [op,op'] [b,c] pos) (Pg r r' ta tb tc):=by
 refine λQ9 s O H Q I h=>Compare_chain (Yy (ha Q9 s O H _ I h) λv s1=>e4 λx H1 I1 r1 q1=>chain_link (Yy (hb Q9 s1 O H1 _ I1 q1) λu s2=>e4 λy H2 I2 r2 q2 =>
  Yy (ho Q9 s2 O H2 x y v u _ I2 r1 r2 q2) λd s3=>e4 λz H3 I3 r3 ⟨k,e,q3⟩=>?_)) hm
 subst e;cases r3;apply dA;cases k with
 |false=>exact ite_ff ⟨.bl false,H3,I3,rfl,q3⟩
 |true=>exact ite_tt (chain_last (Yy (hc Q9 s3 O H3 _ I3 q3) λw' s4=>e4 λz' H4 I4 r4 q4=>TV Q9 s4 O H4 y z' u w' Q I4 r2 r4 q4))
def wC:(aH:Nat)<2^63:=Zf rfl
def Ŧ:ZA X (dE .Add) (λx y H Q=>∃i j,x=.str i/\y=.str j/\i.length+j.length<=aH/\Q (.str (i++j)) H):=by
 rintro Q9 s O H x y v u Q I rx ry ⟨i,j,rfl,rfl,hz,q⟩
 obtain⟨t,rfl⟩:=rx;obtain⟨t',rfl⟩:=ry;exact add_str (λt' tk=>⟨.str (i++j),H,I.tok _,⟨_,rfl⟩,q⟩) hz
def rh(r:Vals [x] us):∃u,us=[u]/\RelV x u:=by
 cases r with
 |cons r1 r2=>cases r2;exact⟨_,rfl,r1⟩
def Jh(r:Vals [x,y] us):∃u w',us=[u,w']/\RelV x u/\RelV y w':=by
 cases r with
 |cons r1 r2 =>
  cases r2 with
  |cons r3 r4=>cases r4;exact⟨_,_,rfl,r1,r3⟩
def KW:YV X (.builtin "abs") (λxs H Q=>∃i,xs=[.int i]/\Q (.int (if i<0 then -i else i)) H):=by
 rintro Q9 s O H xs us Q I r ⟨i,rfl,q⟩
 obtain⟨u,rfl,t,rfl⟩:=rh r;exact call_abs_int λu tk=>⟨.int (if i<0 then -i else i),H,I.tok _,⟨_,rfl⟩,q⟩
def Jc:YV X (.type "int") (λxs H Q=>(∃i,xs=[.int i]/\Q (.int i) H)\/∃k,xs=[.bl k]/\Q (.int (if k then 1 else 0)) H):=by
 intro Q9 s O H xs us Q I r h;rcases h with⟨i,rfl,q⟩|⟨k,rfl,q⟩
 .obtain⟨u,rfl,t,rfl⟩:=rh r;exact call_int_int ⟨.int i,H,I,⟨_,rfl⟩,q⟩
 .obtain⟨u,rfl,rfl⟩:=rh r;exact call_int_bool ⟨.int (if k then 1 else 0),H,I.tok _,⟨_,rfl⟩,q⟩
end
structure Ŵ(h:bi)(x dx C:ag)(mA:Str->Option af):Prop where
 obj:h.get? x=Za (cY C dx)
 ns:h.Ns1 dx mA
 ne:dx≠x
def ID{h:bi}{dx:ag}{mA:Str->Option af}(n:h.Ns1 dx mA):∃od,h.get? dx=Za od/\∀name,g7 name od=Za (mA name):=by
 obtain⟨o,es,ep,ho,hd,hk,_,hm⟩:=n;refine⟨o,ho,λname=>?_⟩;have e:=hm name;unfold nsFind findBy at e;rw[<-Array.find?_toList] at e;unfold g7;rw[hd];dsimp only;split
 .grind
 .rename_i q;have a:es.toList.any (·.refKey)=false:=by rw[List.any_eq_false];intro y hy;obtain⟨z,t,Uq⟩:=hk y (Array.mem_toList_iff.mp hy);simp[DictEntry.refKey,Uq]
  grind
def Ŵ.look(I:Ŵ h x dx C mA):∃od,PySem.W.InstAt h x (cY C dx) C (Za od)/\∀name,g7 name od=Za (mA name) :=
 let⟨od,ho,hl⟩:=ID I.ns
 ⟨od,⟨I.obj,rfl,rfl,ho⟩,hl⟩
section
variable{prog:aL}{w:aX}{A:b8}{E:af->aw->Prop}{s:aw}{K:aa}{x dx C f:ag}{mA:Str->Option af}{name:Str}{v:af}
def NM(X:K.In s.heap)(I:Ŵ s.heap x dx C mA)(hg:ed K C name=true)(hh:cZ K C=true)(ha:aK K (.ref C) name=Za Zb)(hv:mA name=Za v)(hv':ly v=true)(h:Q v { s with toks:=s.toks+1 }) :
  aP (model prog w) A (getAttr (.ref x) name expr) Q E s:=by
 obtain⟨od,J,hl⟩:=I.look;exact PySem.W.get_value X J (io hg).1 (PySem.W.findObj_own hh ha rfl (by rw[hl,hv])) hv' h
def Kx(X:K.In s.heap)(I:Ŵ s.heap x dx C mA)(hg:ed K C name=true)(hf:aK K (.ref C) name=Za (Za (.ref f)))(ht:gI K (.ref f)=true)(hv:mA name=Zb)(h:Q (.ref f,[.ref x]) s) :
  aP (model prog w) A (fV (.ref x) name pl) Q E s:=by
 obtain⟨od,J,hl⟩:=I.look;exact PySem.W.method_fn X J (io hg).1 (io hg).2 hf (beq_iff_eq.mp ht) (by show(g7 name od).map (·.isSome)=Za false;rw[hl,hv];rfl) h
def MI(X:K.In s.heap)(I:Ŵ s.heap x dx C mA)(hs:aK K (.ref C) "__setattr__"=Za (Za (.builtin "object.__setattr__")))(hp:gc K C=true)(ht:je K C name=Za Zb)(hh:cZ K C=true)(hw:kq mA ns)(hsz:ns.length<=aH)(h:∀h',Ŵ h' x dx C (λy=>if y=name then Za v else mA y)->i7 dx s.heap h'->Q () { s with heap:=h',toks:=s.toks+2 }) :
  aP (model prog w) A (setAttr (.ref x) name v) Q E s:=by
 obtain⟨od,J,hl⟩:=I.look;refine k8 X J hs (PySem.W.osa_open X J hp ht λb=>?_);obtain⟨cd,hc,Wl⟩:=lz hh;have hx:=I.obj;refine ah (aG (ah (ah (kQ hx (ah (PySem.W.Looks.here (ip X hc) ?_))))));rw[Wl];refine aG (ah (aG (ah ?_)));refine wpAny_nsSet1 I.ns λh' Wf Tz=>?_;obtain⟨oD,esD,epD,Xe,Xw,Xy⟩:=Wf.count (lw name v hw);refine ah (wpAny_lookBehind Xe (by rw[Xw];exact pastItsLine_dict (aI Xy (by rw[bx];lia))) ?_);exact aG (h _ ⟨(Tz.2 _ (bH I.ne)).trans I.obj,Wf,I.ne⟩ Tz)
def Km(X:K.In s.heap)(hm:fJ K C=true)(hi:aK K (.ref C) "__init__"=Za (Za (.ref f)))(hf:PySem.W.typeIn K (.ref f)=Za (.type "function"))(h:fj (model prog w) (A.under (.builtin "type.__call__" ⟨.ref C::vs,kw⟩)) (.call (.ref f) ⟨.ref (s.heap.objs.size+1)::vs,kw⟩) (PySem.W.InitBack (s.heap.objs.size+1) R)
   {s with heap:=(s.heap.push bU).push (cY C s.heap.objs.size) }) :
  fj (model prog w) A (.call (.ref C) ⟨vs,kw⟩) R s:=by
 exact PySem.W.make_core (PySem.W.makes_of X hm) (eI X hi) (λself=>lS X self hf) (.inl rfl) h
end
noncomputable def Ze(f:Str)(v:V):List (Str×V)->List (Str×V)
 |[]=>[(f,v)]
 |(g,x)::r=>if g=f then(g,v)::r else(g,x)::Ze f v r
theorem yg(f g)(v):∀fs:List (Str×V),(Ze f v fs).lookup g=if g=f then Za v else fs.lookup g
 |[]=>by
  show gD g [(f,v)]=_;by_cases h:g=f
  .have hb:(g==f)=true:=beq_iff_eq.mpr h
   grind
  .grind
 |(k,x)::r=>by
  have ih:=yg f g v r;rw[show Ze f v ((k,x)::r)=(if k=f then(k,v)::r else(k,x)::Ze f v r) from rfl]
  grind
theorem xO(f)(v):∀fs:List (Str×V),f∈(Ze f v fs).map (·.1)/\∀g,g∈fs.map (·.1)->g∈(Ze f v fs).map (·.1)
 |[]=>⟨by simp[Ze],λg h=>by simp at h⟩
 |(k,x)::r=>by
  obtain⟨i1,i2⟩:=xO f v r;rw[show Ze f v ((k,x)::r)=(if k=f then(k,v)::r else(k,x)::Ze f v r) from rfl]
  grind
theorem uB(f)(v):∀fs:List (Str×V),(Ze f v fs).length<=fs.length+1
 |[]=>by simp[Ze]
 |(k,x)::r=>by
  have ih:=uB f v r;rw[show Ze f v ((k,x)::r)=(if k=f then(k,v)::r else(k,x)::Ze f v r) from rfl]
  grind
def Ç.some_of(r:Ç (Za v) o):∃u,o=Za u/\RelV v u:=by
 cases o with
 |none=>exact(r).elim
 |some u=>exact⟨u,rfl,r⟩
def Ç.none_of(r:Ç Zb o):o=none:=by
 cases o with
 |none=>rfl
 |some u=>exact(r).elim
def IN(r:RelV v u):ly u=true:=by
 cases v with
 |Ym=>cases(r);rfl
 |bl b=>cases(r);rfl
 |int i=>obtain⟨t,rfl⟩:=(r);rfl
 |str x=>obtain⟨t,rfl⟩:=(r);rfl
 |byt b=>obtain⟨t,rfl⟩:=(r);rfl
 |flt b=>obtain⟨t,rfl⟩:=(r);rfl
 |ref a=>cases(r);rfl
 |ty n=>cases(r);rfl
section
variable{P:aL}{w:aX}{H:Hp}{h:bi}{a C dx:ag}{fs:List (Str×V)}
def zO(Yn:Õ P w H h)(e:H a=Za (.ins C dx fs)):∃mA,Ŵ h a dx C mA/\(∀f,Ç (fs.lookup f) (mA f))/\kq mA (fs.map (·.1))/\fs.length<=1000/\H dx=Za (.own a):=by obtain⟨d,z,ne,ob,mA,n,r,q⟩:=(Yn a _ e);exact⟨mA,⟨ob,n,ne⟩,r,q,z,d⟩
end
structure ş(K:aa)(C:ag):Prop where
 pg:ed K C cx=true
 hd:cZ K C=true
 po:gc K C=true
 sa:aK K (.ref C) "__setattr__"=Za (Za (.builtin "object.__setattr__"))
def ş.get{K}{C}(c:ş K C)(f):ed K C f=true:=c.pg
def Y3(K:aa)(C:ag)(f:Str):Prop:=aK K (.ref C) f=Za Zb
def Y3.ÀL{K}{C}{f}(n:Y3 K C f):je K C f=Za none:=by unfold je;rw[n];rfl
structure Con(K:aa)(C:ag)(f:Str)(v:V)(u:af):Prop where
 at_:aK K (.ref C) f=Za (Za u)
 rel:RelV v u
 get:cI K u "__get__"=Za Zb
 cp:PySem.W.copiedNames.contains f=false
structure Meth(K:aa)(C:ag)(m:Str)(f:ag):Prop where
 at_:aK K (.ref C) m=Za (Za (.ref f))
 fn:gI K (.ref f)=true
 kp:bW K (.ref f)=true
section
variable{X:Cx}{Q9:List (ag×Obj)}{O:St}{H:Hp}{s:aw}{a C dx:ag}{fs:List (Str×V)}{f:Str}{v:V}{A:b8}{E:af->aw->Prop}
def F3(I:Inv X Q9 O H s)(e:H a=Za (.ins C dx fs))(c:ş X.K C)(n:Y3 X.K C f)(l:fs.lookup f=Za v)(h:∀u s',Inv X Q9 O H s'->RelV v u->Q u s'):aP (model X.prog X.w) A (getAttr (.ref a) f b) Q E s:=by
 obtain⟨mA,Zi,r,_,_,_⟩:=zO I.Yn e;obtain⟨u,hu,ru⟩:=Ç.some_of (by rw[<-l];exact r f);exact NM I.ZI Zi (c.get f) c.hd n hu (IN ru) (h u _ (I.tok _) ru)
def zR(I:Inv X Q9 O H s)(e:H a=Za (.ins C dx fs))(c:ş X.K C)(k:Meth X.K C m g)(l:fs.lookup m=Zb)(h:Q (.ref g,[.ref a]) s):aP (model X.prog X.w) A (fV (.ref a) m pl) Q E s:=by
 obtain⟨mA,Zi,r,_,_,_⟩:=zO I.Yn e;have hn:=Ç.none_of (by rw[<-l];exact r m);exact Kx I.ZI Zi (c.get m) k.at_ k.fn hn h
def FA(I:Inv X Q9 O H s)(e:H a=Za (.ins C dx fs))(c:ş X.K C)(n:Y3 X.K C f)(hl:fs.length<1000)(ry:RelV y u)(h:∀s',Inv X Q9 O (upd H a (.ins C dx (Ze f y fs))) s'->Q () s'):aP (model X.prog X.w) A (setAttr (.ref a) f u) Q E s:=by
 obtain⟨mA,Zi,r,wi,_,ho⟩:=zO I.Yn e;have hz:(fs.map (·.1)).length<=aH:=by rw[ac,kf];lia
 refine MI I.ZI Zi c.sa c.po n.ÀL c.hd wi hz λh' O' sb=>h _ ?_;have hd:∃o,h'.get? dx=Za o:=let⟨o,_,_,e',_⟩:=O'.ns;⟨o,e'⟩;refine I.write (by rw[e];exact cF) (.inr ho) (λb q hb z=>(sb.2 b hb).trans z) hd ?_;refine⟨by rw[mj Zi.ne];exact ho,?_,Zi.ne,O'.obj,_,O'.ns,λg=>?_,λg hg=>?_⟩
 .have:=uB f y fs;lia
 .rw[yg];by_cases q:g=f
  .rw[Zc q,Zc q];exact ry
  .simp_all
 .by_cases q:g=f
  .rw[q];exact(xO f y fs).1
  .refine(xO f y fs).2 g (wi g λz=>hg ?_);show(if g=f then Za u else mA g)=Zb;rw[Zd q];exact z
def Inv.made(I:Inv X Q9 O H s):Inv X Q9 O (upd (upd H s.heap.objs.size (.own (s.heap.objs.size+1))) (s.heap.objs.size+1) (.ins C s.heap.objs.size []))
  {s with heap:=(s.heap.push bU).push (cY C s.heap.objs.size) }:=by
 have e1:(s.heap.push bU).get? s.heap.objs.size=Za bU:=aN s.heap rfl;have e2:((s.heap.push bU).push (cY C s.heap.objs.size)).get? (s.heap.objs.size+1)=Za (cY C s.heap.objs.size):=by
  have:=aN (s.heap.push bU) (o:=cY C s.heap.objs.size) rfl
  simp_all
 have e3:(s.heap.push bU).Ns s.heap.objs.size (λ_=>Zb):=⟨bU,#[],_,e1,rfl,(λe he=>absurd he (by simp)),λ_=>rfl⟩;have I1:=I.laid (o:=.own (s.heap.objs.size+1)) (t':=s.toks) (λb u q=>ak _ q) (al _) ⟨_,e1⟩;refine I1.laid (λb u q=>ak _ q) (jf (iz _ _)) ?_;have ne:s.heap.objs.size≠s.heap.objs.size+1:=az (cA _);refine⟨by rw[mj ne,mv],a6 _,ne,e2,λ_=>Zb,(kW e3).at λo q=>ak _ q,λ_=>cF,λy hy=>absurd rfl hy⟩
def Ol{f}{s}(hb:cL e f env (eval e env)=eval e env)(h:aP (model prog w) A (eval e env) (λo Rr=>aP (model prog w) A (getAttr o f true) Q E Rr) E s):aP (model prog w) A (eval (.Attribute e f pos) env) Q E s :=
 Attribute_any_ h (by rw[arm_eval_Attribute,hb])
end
def Âg(K:aa)(ta:TE)(f:Str):TE:=λO H Q=>ta O H λx H1=>∃a C dx fs v,x=.ref a/\H1 a=Za (.ins C dx fs)/\ş K C/\Y3 K C f/\fs.lookup f=Za v/\Q v H1
def Ân(K:aa)(ta tv:TE)(f:Str):TS:=λD O H=>tv O H λy H1=>ta O H1 λx H2=>∃a C dx fs,x=.ref a/\H2 a=Za (.ins C dx fs)/\ş K C/\Y3 K C f/\fs.length<1000 /\
 D.nx O (upd H2 a (.ins C dx (Ze f y fs)))
section
variable{X:Cx}{o e Ri:bc}{f:Str}{pos Rl:Pos}{ta tv:TE}
def qg(he:PE X e ta)(hb:cL e f X.env (eval e X.env)=eval e X.env):PE X (.Attribute e f pos) (Âg X.K ta f):=by refine λQ9 s O H Q I h=>Ol hb (Yy (he Q9 s O H _ I h) λu s1=>e4 λx H1 I1 rx ⟨a,C,dx,fs,v,ex,ea,c,n,l,q⟩=>?_);subst ex;obtain rfl:u=aR a:=rx;exact F3 I1 ea c n l λu' s2 I2 ru=>⟨v,H1,I2,ru,q⟩
def yH(ha:PE X o ta)(hv:PE X Ri tv)(hs:cO Ri (Za (.Attribute o f Rl)) pos.line X.env=pure false):PS X (.Assign [.Attribute o f Rl] Ri pos) (Ân X.K ta tv f):=by refine λQ9 s O H D I h=>jK (Yy (hv Q9 s O H _ I h) λu s1=>e4 λy H1 I1 ry q=>Yy (ha Q9 s1 O H1 _ I1 q) λov s2=>e4 λx H2 I2 rx ⟨a,C,dx,fs,ex,ea,c,n,l,q2⟩=>?_) hs;subst ex;obtain rfl:ov=aR a:=rx;exact FA I2 ea c n l ry λs3 I3=>⟨O,_,I3,q2⟩
end
section
variable{X:Cx}{Q9:List (ag×Obj)}{O:St}{H:Hp}{s:aw}{A:b8}{E:af->aw->Prop}{Q:af->aw->Prop}{c:af}{b:Bool}
inductive ö (K:aa) (H:Hp):V->af->Prop where
 |Ym:ö K H .Ym (.type "NoneType")
 |bl (x:Bool):ö K H (.bl x) (.type "bool")
 |int (i:Int):ö K H (.int i) (.type "int")
 |str (x:Str):ö K H (.str x) (.type "str")
 |flt (x:UInt64):ö K H (.flt x) (.type "float")
 |lst {a:ag}{xs:List V} (e:H a=Za (.lst xs)):ö K H (.ref a) (.type "list")
 |YZ {a:ag}{o:Obj}{xs:List V} (e:H a=Za (.YZ o (.lst xs))):ö K H (.ref a) (.type "list")
 |tup {a:ag}{xs:List V} (e:H a=Za (.tup xs)):ö K H (.ref a) (.type "tuple")
 |dK {a:ag}{Ra:List (Key×V)} (e:H a=Za (.dK Ra)):ö K H (.ref a) (.type "dict")
 |dT {a:ag}{Ra:List (List Key×V)} (e:H a=Za (.dT Ra)):ö K H (.ref a) (.type "dict")
 |ins {a C dx:ag}{fs:List (Str×V)} (e:H a=Za (.ins C dx fs)) (cl:ş K C) (ha:aK K (.ref C) "__class__"=Za (Za (.builtin "object.__class__")))
   (hn:cI K (.builtin "object.__class__") "__get__"=Za (Za (.builtin "getset_descriptor.__get__"))) (htk:fI K (.builtin "object.__class__")=Za true)
   (hm:bF K C (.type "object")=Za true):ö K H (.ref a) (.ref C)
def II(I:Inv X Q9 O H s)(rx:RelV x u)(ty:ö X.K H x t)(e:aY X.K t c=Za b)(h:∀tk,Q (.bool b) { s with toks:=tk }) :
  aP (model X.prog X.w) A (call (.builtin "isinstance") [u,c]) Q E s:=by
 cases ty with
 |Ym=>cases(rx);exact bQ k9 I.ZI cF e (λz=>nomatch z) h
 |bl y=>cases(rx);exact bQ PySem.W.kitx_bool I.ZI cF e (λz=>nomatch z) h
 |int i=>obtain⟨t,rfl⟩:=(rx);exact bQ PySem.W.kitx_int I.ZI cF e (λz=>nomatch z) h
 |str y=>obtain⟨t,rfl⟩:=(rx);exact bQ PySem.W.kitx_str I.ZI cF e (λz=>nomatch z) h
 |flt y=>obtain⟨t,rfl⟩:=(rx);exact bQ PySem.W.kitx_float I.ZI cF e (λz=>nomatch z) h
 |@lst a xs ea =>
  cases(rx);obtain⟨_,_,n,_,h1⟩:=(I.Yn a _ ea);exact bQ iR I.ZI ⟨_,h1,rfl⟩ e (λz=>nomatch z) h
 |@YZ a ob xs ea =>
  cases(rx);obtain⟨_,_,_,n,_,h1⟩:=(I.Yn a _ ea);exact bQ iR I.ZI ⟨_,h1,rfl⟩ e (λz=>nomatch z) h
 |@tup a xs ea =>
  cases(rx);obtain⟨_,_,_,p⟩:=(I.Yn a _ ea);obtain⟨o,h1,h2,_⟩:=p;exact bQ kT I.ZI ⟨o,h1,h2⟩ e (λz=>nomatch z) h
 |@dK a Ra ea =>
  cases(rx);obtain⟨_,_,vs,_,p⟩:=(I.Yn a _ ea);obtain⟨o,es,ep,h1,h2,_⟩:=p;exact bQ la I.ZI ⟨o,h1,h2.1⟩ e (λz=>nomatch z) h
 |@dT a Ra ea =>
  cases(rx);obtain⟨_,_,xs,_,o,es,ep,h1,h2,_⟩:=(I.Yn a _ ea);exact bQ la I.ZI ⟨o,h1,h2.1⟩ e (λz=>nomatch z) h
 |@ins a C dx fs ea cl ha hn htk hm =>
  cases(rx);obtain⟨mA,Zi,_⟩:=zO I.Yn ea;obtain⟨od,J,_⟩:=Zi.look;exact bQ (PySem.W.kitx_own (cl.get _) cl.hd ha hn htk hm) I.ZI J e (λz=>nomatch z) h
end
structure YA(k:Nat)(A:b8):Prop where
 hd:A.handled=Zb
 dp:A.depth+3*k+5<recursionLimit
 un:A.units+16*k+200<fb
def YA.mono(r:YA k A)(h:j<=k):YA j A:=⟨r.hd,by have:=r.dp;lia,by have:=r.un;lia⟩
theorem YA.deeper(r:YA (k+1) A)(env:Env):YA k (A.deeper env) :=
 ⟨r.hd,by have:=r.dp;show A.depth+1+3*k+5<_;lia,by have:=r.un;show A.units+3+16*k+200<_;lia⟩
def FT{A:b8}{C:ag}{us:List af}{kw:List (Str×af)}:(A.under (.builtin "type.__call__" ⟨.ref C::us,kw⟩)).depth=A.depth+1:=by
 first|rfl|simp[Code.weight]
def FS{A:b8}{C:ag}{us:List af}{kw:List (Str×af)}:(A.under (.builtin "type.__call__" ⟨.ref C::us,kw⟩)).units=A.units+1:=by
 first|rfl|simp[Code.cUnits]
def YA.make(r:YA (k+1) A)(C:ag)(us:List af)(kw:List (Str×af)):YA k (A.under (.builtin "type.__call__" ⟨.ref C::us,kw⟩)) :=
 ⟨r.hd,by have:=r.dp;rw[FT];lia,by have:=r.un;rw[FS];lia⟩
theorem YA.depth(r:YA k A):A.depth<recursionLimit:=by have:=r.dp;lia
theorem YA.units(r:YA k A):A.units+64<fb:=by have:=r.un;lia
def K7:TA:=λ_ H Q=>Q [] H
def L5(ta:TE)(tr:TA):TA:=λO H Q=>ta O H λx H1=>tr O H1 λxs H2=>Q (x::xs) H2
section
variable{X:Cx}{e:bc}{es:List bc}{te:TE}{t:TA}{pos:Pos}
def Yi:PA X [] K7:=λ_ _ _ _ H Q I h=>gA ⟨[],H,I,.nil,h⟩
abbrev ě(X:Cx)(e:bc)(es:List bc):Prop:=aq (e::es) X.env=(false,eval e X.env)::aq es X.env
def mI(ha:PE X e te)(hr:PA X es t)(hs:ě X e es:=by rfl):PA X (e::es) (L5 te t):=by intro pos Q9 s O H Q I h;rw[hs];refine eR (Yy (ha Q9 s O H _ I h) λu s1=>e4 λx H1 I1 r1 q1=>?_);exact Yy (hr pos Q9 s1 O H1 _ I1 q1) λus s2=>e4 λxs H2 I2 r2 q2=>⟨x::xs,H2,I2,.cons r1 r2,q2⟩
def Á6(t:TA):TE:=λO H Q=>t O H λxs H1=>xs.length<=aH/\∀p,H1 p=Zb->Q (.ref p) (upd H1 p (.tup xs))
def Âd(t:TA):TE:=λO H Q=>t O H λxs H1=>xs.length<=aH/\∀p,H1 p=Zb->Q (.ref p) (upd H1 p (.lst xs))
def wA{x1}(h:PA X es t):PE X (.Tuple es x1 pos) (Á6 t):=by refine λQ9 s O H Q I hq=>wpAny_Tuple_spliced (Yy (h pos Q9 s O H _ I hq) λus s1=>e4 λxs H1 I1 r ⟨z,q⟩=>⟨by rw[<-r.length];exact z,?_⟩);have hf:=I1.Yn.fresh (al _);refine⟨.ref s1.heap.objs.size,upd H1 s1.heap.objs.size (.tup xs),I1.laid (λb u e=>ak _ e) (al _) ?_,rfl,q _ hf⟩;exact⟨z,us,r,⟨_,aN _ rfl,rfl,_,rfl⟩⟩
def Lj(h:PA X es t):PE X (.List es pos) (Âd t):=by refine λQ9 s O H Q I hq=>wpAny_List_spliced (Yy (h pos Q9 s O H _ I hq) λus s1=>e4 λxs H1 I1 r ⟨z,q⟩=>⟨by rw[<-r.length];exact z,?_⟩);have hf:=I1.Yn.fresh (al _);refine⟨.ref s1.heap.objs.size,upd H1 s1.heap.objs.size (.lst xs),I1.laid (λb u e=>ak _ e) (al _) ?_,rfl,q _ hf⟩;exact⟨z,us,0,r,aN _ rfl⟩
end
abbrev Sp:=List V->Hp->VK->XK->Prop
abbrev Ŷ:=List Env->Hp->aw->XK->af->aw->Prop
structure ŵ(P:aL)(w:aX)(K:aa)(mg:Str->Option af)(base:bi)(A:b8)(outer:List Env)(s:aw)(H:Hp):Prop where
 frames:A.frames=Za outer
 mod:Mod K mg base
 bs:∀b o,base.get? b=Za o->s.heap.get? b=Za o/\H b=Zb
 bsz:base.objs.size<=s.heap.objs.size
 ó:s.heap.FunFrames base outer
 frf:∀b∈ZE outer,H b=Zb
 Yn:Õ P w H s.heap
 bare:gW s.gens
def CE(outer:List Env)(P:aL)(w:aX)(H:Hp)(s:aw)(Q:VK)(u:af)(s':aw):Prop :=
 ∃v H',s'.os=s.os/\gW s'.gens/\Un (ZE outer) [] H H' s.heap s'.heap/\Õ P w H' s'.heap/\RelV v u/\Q v H'
def CR(CX:Ŷ)(outer:List Env)(P:aL)(w:aX)(H:Hp)(s:aw)(Q:VK)(E:XK)(r:jU)(s':aw):Prop :=
 match r with
 |.ok (.ret u)=>CE outer P w H s Q u s'
 |.ok _=>False
 |.error e=>CX outer H s E e s'
structure YD(P:aL)(w:aX)(K:aa)(mg:Str->Option af)(base:bi)(CX:Ŷ)(k:Nat)(f:ag)(fd:cj)(ps:List Str)(sp:Sp):Prop where
 len:∀vs H Q E,sp vs H Q E->vs.length=ps.length
 run:∀(A:b8)(outer:List Env)(s:aw)(H:Hp)(args:Args)(us:List af)(vs:List V)(Q:VK)(E:XK),YA k A->ŵ P w K mg base A outer s H->jI s fd args (ps.zip us)->Vals vs us->sp vs H Q E ->
  fj (model P w) A (.call (.ref f) args) (CR CX outer P w H s Q E) s
def YD.imp{P}{w}{K}{mg}{base}{CX:Ŷ}{k}{f}{fd}{ps}{sp UF:Sp}(F:YD P w K mg base CX k f fd ps sp)(h:∀vs H Q E,UF vs H Q E->sp vs H Q E):YD P w K mg base CX k f fd ps UF :=
 ⟨λvs H Q E q=>F.len vs H Q E (h _ _ _ _ q),λA outer s H args us vs Q E hr he hb hv hs=>F.run A outer s H args us vs Q E hr he hb hv (h _ _ _ _ hs)⟩
def ŵ.make{P}{w}{K}{mg}{base}{A}{outer}{s}{H}(e:ŵ P w K mg base A outer s H)(C)(us)(kw) :
  ŵ P w K mg base (A.under (.builtin "type.__call__" ⟨.ref C::us,kw⟩)) outer s H:=⟨by first|exact e.frames|(simpa[Around.under,Code.envs,Code.isFrame,pushEnvs] using e.frames),e.mod,e.bs,e.bsz,e.ó,e.frf,e.Yn,e.bare⟩
section
variable{X:Cx}{Q9:List (ag×Obj)}{O:St}{H:Hp}{s s':aw}
def Inv.Àf(I:Inv X Q9 O H s):ŵ X.prog X.w X.K X.mg X.base X.A X.stack s H :=
 ⟨I.ok.frames,I.ok.mod,I.bs,aI I.ok.bsz I.sz,I.stack,I.Ă,I.Yn,I.bare⟩
def Inv.after(I:Inv X Q9 O H s)(h:CE X.stack X.prog X.w H s Q u s'):EP X Q9 O Q u s':=by obtain⟨v,H',os,bare,un,Yn,r,q⟩:=h;obtain⟨hh,g,d,t,os'⟩:=s';obtain rfl:os'=s.os:=os;exact⟨v,H',I.call un Yn bare (λb z=>absurd z (by simp)),r,q⟩
end
def Fv(sp:Sp)(RS:List V)(E:XK)(t:TA):TE:=λO H Q=>t O H λvs H1=>sp (vs++RS) H1 Q E
def Jj(C:ag)(m:Str)(sp:Sp)(RS:List V)(E:XK)(ta:TE)(t:TA):TE:=λO H Q=>ta O H λx H1=>∃a dx fs,x=.ref a/\H1 a=Za (.ins C dx fs)/\fs.lookup m=Zb /\
 t O H1 λvs H2=>sp (x::(vs++RS)) H2 Q E
def Jk(C:ag)(sp:Sp)(RS:List V)(E:XK)(t:TA):TE:=λO H Q=>t O H λvs H1=>∀x dx,H1 x=Zb->H1 dx=Zb->dx≠x ->
 sp (.ref x::(vs++RS)) (upd (upd H1 dx (.own x)) x (.ins C dx [])) (λv H2=>v=.Ym/\Q (.ref x) H2) E
def Binds(K:aa)(fd:cj)(ps:List Str)(ds:List af):Prop :=
 ∀(s:aw)(us:List af),K.In s.heap->(us++ds).length=ps.length->jI s fd ⟨us,[]⟩ (ps.zip (us++ds))
def Binds.all{K}{fd}{ps}(h:∀us:List af,us.length=ps.length->f9 fd ⟨us,[]⟩=pure (ps.zip us)):Binds K fd ps []:=λs us _ hl=>by rw[bY] at hl ⊢;exact .of_eq (h us hl)
def oQ(CX:Ŷ)(X:Cx)(E:XK):Prop:=∀(Q9:List (ag×Obj))(O:St)(H:Hp)(s:aw)(e:af)(s':aw),Inv X Q9 O H s->CX X.stack H s E e s'->X.xe e s'
section
variable{X:Cx}{CX:Ŷ}{k:Nat}{f C:ag}{fd:cj}{ps:List Str}{sp:Sp}{RS:List V}{ds:List af}{E:XK}{x m:Str}{p pos Rc:Pos}{e o:bc}{es:List bc}{ta:TE}{t:TA}
def Gv(F:YD X.prog X.w X.K X.mg X.base CX k f fd ps sp)(hr:YA k X.A)(hb:Binds X.K fd ps ds)(hd:Vals RS ds)(hx:oQ CX X E)(I:Inv X Q9 O H s)(r:Vals vs us)(h:sp (vs++RS) H Q E):aP (model X.prog X.w) X.A (call (.ref f) us) (EP X Q9 O Q) X.xe s:=by
 have r2:=r.append hd;have hl:(us++ds).length=ps.length:=by rw[<-r2.length];exact F.len _ _ _ _ h
 refine iG (fH (F.run X.A X.stack s H ⟨us,[]⟩ (us++ds) (vs++RS) Q E hr I.Àf (hb s us I.ZI hl) r2 h) λr s' hq=>?_);cases r with
 |error e=>exact hx Q9 O H s e s' I hq
 |ok fl =>
  cases fl with
  |ret u=>exact I.after hq
  |next=>exact bo hq
  |brk=>exact bo hq
  |cont=>exact bo hq
def M7(F:YD X.prog X.w X.K X.mg X.base CX k f fd ps sp)(hr:YA k X.A)(hg:Gl X x)(hm:X.mg x=Za (.ref f))(hk:bW X.K (.ref f)=true)(hb:Binds X.K fd ps ds)(hd:Vals RS ds)(hx:oQ CX X E)(ha:PA X (e::es) t)(RP:Ò x:=by decide)(he:ě X e es:=by rfl)(Rp:(bP pos (aq es X.env)).any (·.1)=false:=by rfl) :
  PE X (.Call (.Name x p) (e::es) [] pos) (Fv sp RS E t):=by
 refine λQ9 s O H Q I h=>de (qZ I hg hm ?_ RP);refine eP I.ok.mod.kin hk (Yy (ha pos Q9 s O H _ I h) λus s1=>e4 λvs H1 I1 r q=>⟨I1.ZI,?_⟩) he Rp;exact Gv F hr hb hd hx I1 r q
def M5(he:PE X o ta)(c:ş X.K C)(hm:Meth X.K C m f)(F:YD X.prog X.w X.K X.mg X.base CX k f fd ps sp)(hr:YA k X.A)(hb:Binds X.K fd ps ds)(hd:Vals RS ds)(hx:oQ CX X E)(ha:PA X (e::es) t)(R8:ě X e es:=by rfl)(Rp:(bP pos (aq es X.env)).any (·.1)=false:=by rfl)(ht:eval (.Call (.Attribute o m Rc) (e::es) [] pos) X.env=(do
   let ov <-eval o X.env
   fY Rc.atName
   let(f,first) <-holding [ov] (fV ov m pl)
   iX pos f first (bP pos (aq (e::es) X.env)) (eO pos (cM [] X.env))):=by rfl) :
  PE X (.Call (.Attribute o m Rc) (e::es) [] pos) (Jj C m sp RS E ta t):=by
 refine λQ9 s O H Q I h=>gQ (Yy (he Q9 s O H _ I h) λu s1=>e4 λx H1 I1 rx ⟨a,dx,fs,ex,ea,l,q⟩=>?_) ht;subst ex;obtain rfl:u=aR a:=rx;apply zR I1 ea c hm l;refine eP I.ok.mod.kin hm.kp (Yy (ha pos Q9 s1 O H1 _ I1 q) λus s2=>e4 λvs H2 I2 r q2=>⟨I2.ZI,?_⟩) R8 Rp;exact Gv (vs:=.ref a::vs) F hr hb hd hx I2 (.cons rfl r) q2
def J6(he:PE X o ta)(c:ş X.K C)(hm:Meth X.K C m f)(F:YD X.prog X.w X.K X.mg X.base CX k f fd ps sp)(hr:YA k X.A)(hb:Binds X.K fd ps ds)(hd:Vals RS ds)(hx:oQ CX X E)(ht:eval (.Call (.Attribute o m Rc) [] [] pos) X.env=(do
   let ov <-eval o X.env
   fY Rc.atName
   let(f,first) <-holding [ov] (fV ov m pl)
   iX pos f first (bP pos (aq [] X.env)) (eO pos (cM [] X.env))):=by rfl) :
  PE X (.Call (.Attribute o m Rc) [] [] pos) (Jj C m sp RS E ta K7):=by
 refine λQ9 s O H Q I h=>gQ (Yy (he Q9 s O H _ I h) λu s1=>e4 λx H1 I1 rx ⟨a,dx,fs,ex,ea,l,q⟩=>?_) ht;subst ex;obtain rfl:u=aR a:=rx;apply zR I1 ea c hm l;exact kD I1.ZI hm.kp (Gv (vs:=[.ref a]) F hr hb hd hx I1 (.cons rfl .nil) q)
structure Mk(K:aa)(C f:ag):Prop where
 makes:fJ K C=true
 init:aK K (.ref C) "__init__"=Za (Za (.ref f))
 fn:gI K (.ref f)=true
 kp:bW K (.ref C)=true
def EI(M:Mk X.K C f)(F:YD X.prog X.w X.K X.mg X.base CX k f fd ps sp)(hr:YA (k+1) X.A)(hb:Binds X.K fd ps ds)(hd:Vals RS ds)(hx:oQ CX X E)(I:Inv X Q9 O H s)(r:Vals vs us)(h:∀x dx,H x=Zb->H dx=Zb->dx≠x->sp (.ref x::(vs++RS)) (upd (upd H dx (.own x)) x (.ins C dx [])) (λv H2=>v=.Ym/\Q (.ref x) H2) E) :
  aP (model X.prog X.w) X.A (call (.ref C) us) (EP X Q9 O Q) X.xe s:=by
 have hq:=h (s.heap.objs.size+1) s.heap.objs.size (I.Yn.fresh (eX _)) (I.Yn.fresh (al _)) (az (cA _));have I2:=Inv.made (C:=C) I;have r2:Vals (V.ref (s.heap.objs.size+1)::(vs++RS)) (aR (s.heap.objs.size+1)::(us++ds)):=.cons rfl (r.append hd);have hl:(aR (s.heap.objs.size+1)::us++ds).length=ps.length:=by have e:=r2.length;rw[F.len _ _ _ _ hq] at e;exact e.symm
 refine iG (Km I.ZI M.makes M.init (beq_iff_eq.mp M.fn) (fH (F.run _ X.stack _ _ ⟨aR (s.heap.objs.size+1)::us,[]⟩ (aR (s.heap.objs.size+1)::(us++ds)) _ _ E (hr.make C us [])
  (I2.Àf.make C us []) (hb _ (aR (s.heap.objs.size+1)::us) I2.ZI hl) r2 hq) λr s' Sa=>?_))
 cases r with
 |error e=>exact hx Q9 O _ _ e s' I2 Sa
 |ok fl =>
  cases fl with
  |ret u =>
   obtain⟨v,H',I3,rv,rfl,q3⟩:=I2.after Sa;exact⟨rv,⟨V.ref (s.heap.objs.size+1),H',I3,rfl,q3⟩⟩
  |next=>exact bo Sa
  |brk=>exact bo Sa
  |cont=>exact bo Sa
def M6(M:Mk X.K C f)(F:YD X.prog X.w X.K X.mg X.base CX k f fd ps sp)(hr:YA (k+1) X.A)(hg:Gl X x)(hm:X.mg x=Za (.ref C))(hb:Binds X.K fd ps ds)(hd:Vals RS ds)(hx:oQ CX X E)(ha:PA X (e::es) t)(RP:Ò x:=by decide)(he:ě X e es:=by rfl)(Rp:(bP pos (aq es X.env)).any (·.1)=false:=by rfl) :
  PE X (.Call (.Name x p) (e::es) [] pos) (Jk C sp RS E t):=by
 refine λQ9 s O H Q I h=>de (qZ I hg hm ?_ RP);refine eP I.ok.mod.kin M.kp (Yy (ha pos Q9 s O H _ I h) λus s1=>e4 λvs H1 I1 r q=>⟨I1.ZI,?_⟩) he Rp;exact EI M F hr hb hd hx I1 r q
def J7(M:Mk X.K C f)(F:YD X.prog X.w X.K X.mg X.base CX k f fd ps sp)(hr:YA (k+1) X.A)(hg:Gl X x)(hm:X.mg x=Za (.ref C))(hb:Binds X.K fd ps ds)(hd:Vals RS ds)(hx:oQ CX X E)(RP:Ò x:=by decide):PE X (.Call (.Name x p) [] [] pos) (Jk C sp RS E K7):=by
 refine λQ9 s O H Q I h=>de (qZ I hg hm ?_ RP);exact kD I.ZI M.kp (EI M F hr hb hd hx I .nil h)
end
section
variable{fd:cj}{ps ks:List Str}
structure ÂV(K:aa)(fd:cj)(ps ks:List Str)(g:List af->List af->List af)(gV:List V->List V->List V):Prop where
 to:∀(s:aw)(us ws:List af),K.In s.heap->(g us ws).length=ps.length->jI s fd ⟨us,ks.zip ws⟩ (ps.zip (g us ws))
 rel:∀{vs:List V}{us:List af}{zs:List V}{ws:List af},Vals vs us->Vals zs ws->Vals (gV vs zs) (g us ws)
end
structure N'(N P:List Str)(sc:dF):Prop where
 kind:sc.kind=.function
 co:sc.isCoroutine=false
 gen:sc.isGenerator=false
 nd:N.Nodup
 pre:N.take P.length=P
 par:∀x∈P,sc.names.lookup x=Za .local\/sc.names.lookup x=Za .cell
 Àx:∀y∈sc.names,y.2≠.free
def Zr{N P:List Str}{sc:dF}(h1:sc.kind=.function:=by rfl)(h2:sc.isCoroutine=false:=by rfl)(h3:sc.isGenerator=false:=by rfl)(h4:N.Nodup:=by decide +kernel)(h5:N.take P.length=P:=by rfl)(h6:∀x∈P,sc.names.lookup x=Za .local\/sc.names.lookup x=Za .cell:=by decide +kernel)(h7:∀y∈sc.names,y.2≠.free:=by decide +kernel):N' N P sc:=⟨h1,h2,h3,h4,h5,h6,h7⟩
theorem Cu{kindOf}{x}:∀{binds:List (Str×af)}{m:Str->Option af},(∀v,(x,v)∉binds)->lM kindOf binds m x=m x
 |[],_,_=>rfl
 |(n,v)::r,m,h=>by
  unfold lM;rw[Cu λw hw=>h w (ae _ hw)];split
  .have:x≠n:=by rintro rfl;exact h v ai
   simp[this]
  .rfl
theorem Cw{kindOf}{x}:∀{binds:List (Str×af)}{m:Str->Option af},(∀v,(x,v)∉binds)->lN kindOf binds m x=m x
 |[],_,_=>rfl
 |(n,v)::r,m,h=>by
  unfold lN;rw[Cw λw hw=>h w (ae _ hw)];split
  .rfl
  .have:x≠n:=by rintro rfl;exact h v ai
   simp[this]
theorem Cv{kindOf}{x}{v}:∀{P:List Str}{vs:List af}{i:Nat}{m:Str->Option af},P.Nodup->P[i]?=Za x->vs[i]?=Za v->kindOf x=Za .local ->
  lM kindOf (P.zip vs) m x=Za v
 |[],_,_,_,_,h,_,_=>by simp at h
 |_::_,[],_,_,_,_,h,_=>by simp at h
 |p::P,w::vs,0,m,nd,h1,h2,hk=>by
  simp at h1 h2;subst h1;subst h2;show lM kindOf ((p,w)::P.zip vs) m p=_;unfold lM;rw[Cu λv hv=>(aM.mp nd).1 (jt hv).1,Zc hk];simp
 |p::P,w::vs,i+1,m,nd,h1,h2,hk=>by show lM kindOf ((p,w)::P.zip vs) m x=_;unfold lM;exact Cv (i:=i) (aM.mp nd).2 (by simpa using h1) (by simpa using h2) hk
theorem Cy{kindOf}{x}{v}:∀{P:List Str}{vs:List af}{i:Nat}{m:Str->Option af},P.Nodup->P[i]?=Za x->vs[i]?=Za v->kindOf x≠Za .local ->
  lN kindOf (P.zip vs) m x=Za v
 |[],_,_,_,_,h,_,_=>by simp at h
 |_::_,[],_,_,_,_,h,_=>by simp at h
 |p::P,w::vs,0,m,nd,h1,h2,hk=>by
  simp at h1 h2;subst h1;subst h2;show lN kindOf ((p,w)::P.zip vs) m p=_;unfold lN;rw[Cw λv hv=>(aM.mp nd).1 (jt hv).1,Zd hk];simp
 |p::P,w::vs,i+1,m,nd,h1,h2,hk=>by show lN kindOf ((p,w)::P.zip vs) m x=_;unfold lN;exact Cy (i:=i) (aM.mp nd).2 (by simpa using h1) (by simpa using h2) hk
def start(N:List Str)(vs:List V):St:=vs.map Za++aQ (N.length-vs.length) Zb
noncomputable def Du(CX:Ŷ)(P:aL)(w:aX)(K:aa)(mg:Str->Option af)(base:bi)(N:List Str)(qual:Str)(scope:dF)(f:ag)(cd:af)(A:b8)(outer:List Env)(s:aw)(H:Hp)(E:XK):Cx where
 prog:=P
 w:=w
 K:=K
 mg:=mg
 base:=base
 A:=A.deeper (ei qual scope s.heap.objs.size f cd)
 N:=N
 Y':=s
 Ha0:=H
 env:=ei qual scope s.heap.objs.size f cd
 outer:=outer
 stack:=ei qual scope s.heap.objs.size f cd::outer
 ex:=[]
 calm:=true
 fn:=λ_=>true
 pn:=[]
 xe:=λe s'=>aP (model P w) (A.deeper (ei qual scope s.heap.objs.size f cd)) (leaving (ei qual scope s.heap.objs.size f cd) e) (λ_ WM=>CX outer H s E e WM) (λe' WM=>CX outer H s E e' WM) s'
def Fa{sc:dF}{n:Nat}{x:Str}(h:sc.names.lookup x=Za .cell):∃c,(cellsFrom n sc.names []).lookup x=Za c:=by have q:=jS sc.names n [] (.inl h);exact eL.mp q
def IK{CX:Ŷ}{P:aL}{w:aX}{K:aa}{mg:Str->Option af}{base:bi}{N ps:List Str}{qual:Str}{scope:dF}{f:ag}{cd:af}{A:b8}{outer:List Env}{s s1:aw}{H:Hp}{E:XK}{us:List af}{vs:List V}(S:N' N ps scope)(hd:A.handled=Zb)(e0:ŵ P w K mg base A outer s H)(hl:vs.length=ps.length)(r:Vals vs us)(x:InCallC s s.heap.objs.size (lM (ei qual scope s.heap.objs.size f cd).kindOf (ps.zip us) λ_=>Zb) (cellsFrom (s.heap.objs.size+1) scope.names []) (lN (ei qual scope s.heap.objs.size f cd).kindOf (ps.zip us) λ_=>Zb) s1) :
  Inv (Du CX P w K mg base N qual scope f cd A outer s H E) [] (start N vs) H s1:=by
 have Rp:ps.length<=N.length:=by have:=congrArg cD S.pre;rw[eC] at this;lia
 obtain⟨h1,tk,rfl,hk⟩:=x.done;have U8:∀b:ag,b∉(Du CX P w K mg base N qual scope f cd A outer s H E).ex:=λb z=>absurd (show b∈([]:List ag) from z) (by simp);refine⟨⟨e0.mod,S.kind,rfl,rfl,al _,λy z c h1 h2=>?_,λy hy=>?_,λy c _ h=>?_,λ_=>hd,Around.frames_deeper e0.frames,.inr ⟨rfl,rfl⟩,λb z=>absurd z (U8 b),e0.bs,e0.bsz,λb _ _=>U8 b,λb z=>absurd z (U8 b),e0.ó,e0.frf⟩,
  rfl,e0.bare,Un.kept hk,⟨_,x.toInCall.ns,λi y v h1 h2 h3=>?_⟩,λy c h=>⟨_,x.cell y c h⟩,e0.Yn.fresh (al _),λy c h=>?_,λp hp=>absurd (show p∈([]:List (ag×Obj)) from hp) (by simp),e0.Yn.kept hk,?_⟩
 .exact name_of_addr x.apart (dy h1) (dy h2)
 .have hy:=hy;obtain hy|hy:=hy
  .exact Fa hy
  .exact absurd rfl (S.Àx _ (dy hy))
 .exact fA (x.above y c (dy h))
 .have hi:i<vs.length:=by
   unfold start at h2;by_cases hi:i<vs.length
   .exact hi
   .rw[cU (by simpa using hi)] at h2;rw[gM] at h2;split at h2<;>cases h2
  have ha:vs[i]?=Za v:=by
   unfold start at h2;rw[da (by simpa using hi),aF] at h2;cases e:vs[i]? with
   |none=>rw[e] at h2;cases h2
   |some a=>rw[e] at h2;cases h2;rfl
  obtain⟨u,hu,rv⟩:=r.get ha;have hp:ps[i]?=Za y:=by rw[<-S.pre,List.getElem?_take_of_lt (by lia)];exact h1
  have ndP:ps.Nodup:=by rw[<-S.pre];exact S.nd.sublist (List.take_sublist _ _)
  refine⟨u,rv,?_⟩;obtain k|k:=S.par y (dk hp)
  .exact .inl ⟨k,Cv ndP hp hu k⟩
  .obtain⟨c,e⟩:=Fa k;refine .inr ⟨.inl k,c,e,?_⟩;have q:=x.cell y c e;rw[Cy ndP hp hu (by show scope.names.lookup y≠_;rw[k];decide)] at q;exact q
 .exact e0.Yn.fresh (fA (x.above y c (dy h)))
 .unfold start;show _=N.length;rw[aT,ac,dX];lia
def OW{CX:Ŷ}{P}{w}{K}{mg}{base}{k}{f}{name qual}{params:jY}{body}{scope}{dV kV Sj pm Rk ct oc}{an od}{Ts:Array (Option af)}{N ps}{sp:Sp}(lk:K.lookup f=Za ⟨oc,od,.func (bZ name qual params body scope dV kV Sj pm an Rk ct),Ts⟩)(R9:fW K Rk qual=true)(S:N' N ps scope)(len:∀vs H Q E,sp vs H Q E->vs.length=ps.length)(Sr:∀(A:b8)(outer:List Env)(s:aw)(H:Hp)(vs:List V)(Q:VK)(E:XK),YA k (A.deeper (ei qual scope s.heap.objs.size f Rk))->sp vs H Q E ->
   ∃t,ŉ (Du CX P w K mg base N qual scope f Rk A outer s H E) body t/\t { nx:=λ_ H'=>Q .Ym H',rt:=Q } (start N vs) H) :
  YD P w K mg base CX (k+1) f (bZ name qual params body scope dV kV Sj pm an Rk ct) ps sp:=by
 refine⟨len,λA outer s H args us vs Q E hr e0 hb r Tn=>?_⟩;have hl:=len _ _ _ _ Tn;have KX:=e0.mod.kin.keeps λb o e=>(e0.bs b o e).1;have lim:=e0.mod.nolimit.keeps λb o e=>(e0.bs b o e).1;have Vt:∀y∈ps.zip us,scope.names.lookup y.1=Za .local\/(scope.names.lookup y.1=Za .cell/\((cellsFrom (s.heap.objs.size+1) scope.names []).lookup y.1).isSome=true):=λ⟨n,v⟩ hy=>by
  obtain q|q:=S.par n (jt hy).1
  .exact .inl q
  .exact .inr ⟨q,jS _ _ _ (.inl q)⟩
 refine codeAny_call_function hr.depth (KX _ _ lk) rfl S.co S.gen rfl (PySem.W.codeRec_of KX R9) (hb _ _ _ _ ?_);refine wpAny_newFunctionEnv_cells S.kind Vt λenv he s1 x=>?_;subst he;refine⟨lim.keeps x.toInCall.keep,codeAny_func ?_⟩;obtain⟨t,ht,hq⟩:=Sr A outer s H vs Q E (hr.deeper _) Tn;have I:Inv (Du CX P w K mg base N qual scope f Rk A outer s H E) [] (start N vs) H s1:=IK S hr.hd e0 hl r x;refine bw (ht [] s1 (start N vs) H _ I hq) (λfl s' hs=>?_) λe s' hs=>hs;have Rx:∀{YE:St}{H':Hp}{v:V}{u:af},Inv (Du CX P w K mg base N qual scope f Rk A outer s H E) [] YE H' s'->RelV v u->Q v H'->CE outer P w H s Q u s' :=
  λ{YE H' v u} J rv q=>⟨v,H',J.os,J.bare,J.base,J.Yn,rv,q⟩
 cases fl with
 |ret u =>
  obtain⟨v,YE,H',J,rv,q⟩:=hs;exact Rx J rv q
 |next =>
  obtain⟨YE,H',J,q⟩:=hs;exact Rx (v:=V.Ym) J rfl q
 |brk =>
  obtain⟨_,_,_,q⟩:=hs
  simp_all
 |cont =>
  obtain⟨_,_,_,q⟩:=hs
  simp_all
section
variable{X:Cx}{x:Str}{p pos:Pos}{e:bc}{es:List bc}{t:TA}{id T:String}{r:List V->Hp->VK->Prop}
def tCB(r:List V->Hp->VK->Prop)(t:TA):TE:=λO H Q=>t O H λvs H1=>r vs H1 Q
def oK(hc:YV X (.builtin id) r)(hg:Gl X x)(hm:X.mg x=Zb)(hv:bu x=Za (.builtin id))(ha:PA X (e::es) t)(hn:x≠"__name__":=by decide)(RP:Ò x:=by decide)(he:ě X e es:=by rfl)(Rp:(bP pos (aq es X.env)).any (·.1)=false:=by rfl):PE X (.Call (.Name x p) (e::es) [] pos) (tCB r t):=by
 refine λQ9 s O H Q I h=>de (yK I hg hm hv ?_ hn RP);exact iB (Yy (ha pos Q9 s O H _ I h) λus s1=>e4 λvs H1 I1 r1 q1=>hc Q9 s1 O H1 vs us Q I1 r1 q1) he Rp
def xM(hc:YV X (.type T) r)(hg:Gl X x)(hm:X.mg x=Zb)(hv:bu x=Za (.type T))(ha:PA X (e::es) t)(hn:x≠"__name__":=by decide)(RP:Ò x:=by decide)(he:ě X e es:=by rfl)(Rp:(bP pos (aq es X.env)).any (·.1)=false:=by rfl):PE X (.Call (.Name x p) (e::es) [] pos) (tCB r t):=by
 refine λQ9 s O H Q I h=>de (yK I hg hm hv ?_ hn RP);exact dJ (Yy (ha pos Q9 s O H _ I h) λus s1=>e4 λvs H1 I1 r1 q1=>hc Q9 s1 O H1 vs us Q I1 r1 q1) he Rp
end
end L2
namespace HT
open PySem PyProof.Rows
section
variable{prog:aL}{w:aX}{A:b8}{E:af->aw->Prop}{s:aw}
noncomputable def Y5(n d:Nat):Option Int->Nat
 |none=>d
 |some v=>if v<0 then(v+(n:Int)).toNat else min v.toNat n
def HE(v:Int)(n d:Nat):(if v<0 then max (v+(n:Int)) 0 else min v (n:Int))=((Y5 n d (Za v):Nat):Int):=by
 show(if v<0 then max (v+n) 0 else min v n)=(((if v<0 then(v+n).toNat else min v.toNat n):Nat):Int)
 grind
def Gg(lo hi:Option Int)(n:Nat):fM lo hi 1 (n:Int)=(((Y5 n 0 lo:Nat):Int),((Y5 n n hi:Nat):Int)):=by
 have h1:¬((1:Int)<0):=by lia
 unfold fM;refine Prod.ext ?_ ?_
 .cases lo with
  |none=>rfl
  |some v=>exact HE v n 0
 .cases hi with
  |none=>rfl
  |some v=>exact HE v n n
def FI(i j:Nat):dQ (i:Int) (j:Int) 1=j-i:=by
 unfold dQ;have h1:(1:Int)>0:=by lia
 simp[h1,if_true,Int.ediv_one];split<;>lia
def zk(p:jW v o)(h:Q o s):aP (model prog w) A (Builtin.Slice.slicePartIndex v) Q E s:=by
 cases p with
 |none=>exact slicePart_none h
 |int i t=>exact slicePart_int h
def w6{sl:ag}{vl vu:af}{lo hi:Option Int}{n:Nat}{Q:Int×Int×Nat->aw->Prop}(hs:s.heap.IsSliceOf sl vl vu .none)(pl:jW vl lo)(pu:jW vu hi)(h:Q (((Y5 n 0 lo:Nat):Int),1,Y5 n n hi-Y5 n 0 lo) s):aP (model prog w) A (Builtin.Slice.sliceApplied (.ref sl) (pure (n:Int))) Q E s:=by
 obtain⟨os,TC,VJ,Wj⟩:=id hs;refine ah (ah (ke TC Wj rfl (ah (ke TC Wj rfl (ah (ke TC Wj rfl (aG ?_)))))));refine ah (slicePart_none ?_);refine ah (zk pl (ah (zk pu (ah (aG ?_)))));show aP _ _ (match fM lo hi 1 n with|(lo,hi)=>pure (lo,(1:Int),dQ lo hi 1)) _ _ s;rw[Gg lo hi n];show aP _ _ (pure (((Y5 n 0 lo:Nat):Int),(1:Int),dQ ((Y5 n 0 lo:Nat):Int) ((Y5 n n hi:Nat):Int) 1)) _ _ s;rw[FI];exact aG h
def J2(xs:Array af)(i k:Nat):((br k).filterMap λ(m:Nat)=>xs[((i:Int)+(m:Int)*1).toNat]?).toArray=((xs.toList.drop i).take k).toArray:=by
 have e:(λ(m:Nat)=>xs[(i+(m:Int)*1).toNat]?)=λm=>xs[i+m]?:=by
  funext m
  have:(i+(m:Int)*1).toNat=i+m:=by lia
  rw[this]
 have:=pick_run xs i k;have e2:((λx=>xs[x]?)∘λx=>i+x)=λm=>xs[i+m]?:=rfl
 simp_all
def ê{t sl}{items:Array af}{vl vu}{lo hi}{Q}(ht:IsTup s.heap t items)(hs:s.heap.IsSliceOf sl vl vu .none)(pl:jW vl lo)(pu:jW vu hi)(hw:¬(Y5 items.size 0 lo=0/\Y5 items.size items.size hi=items.size))(h:Q (.ref s.heap.objs.size) { s with heap:=s.heap.push { cls:=.type "tuple",data:=.seq ((items.toList.drop (Y5 items.size 0 lo)).take (Y5 items.size items.size hi-Y5 items.size 0 lo)).toArray } })(hsz:items.size<=aH):aP (model prog w) A (iH (.ref t) (.ref sl)) Q E s:=by
 have SJ:sizeOk (.seq ((items.toList.drop (Y5 items.size 0 lo)).take (Y5 items.size items.size hi-Y5 items.size 0 lo)).toArray):=by show((items.toList.drop (Y5 items.size 0 lo)).take (Y5 items.size items.size hi-Y5 items.size 0 lo)).toArray.size<=aH;rw[bj,eC,gL,li];lia
 obtain⟨os,TC,VJ,Wj⟩:=id hs;have hTs:s.TypeIs (.ref sl) "slice":=⟨os,TC,VJ⟩;unfold iH
 try with_reducible apply cX
 refine ah (wpAny_sequenceKey ht.typeIs (Zf rfl) ?_);refine ah (wpAny_callSpecial?_slot ht.typeIs dL
  (wpAny_call_entry dL ht.typeIs entry_tuple_getitem ?_ (args_tuple_getitem _ _)))
 show aP _ _ (Builtin.Tuple.tupleItemsOf (.ref t) >>= _) _ _ s;refine ah (tupleItemsOf_ ht ?_);refine ah (wpAny_typeOf hTs ?_);rw[Zc (Zf rfl)];refine ah (w6 hs pl pu ?_);have SU:¬((((Y5 items.size 0 lo:Nat):Int)==0&&(1:Int)==1&&(Y5 items.size items.size hi-Y5 items.size 0 lo)==items.size)=true):=by
  grind
 show aP _ _ (if(((Y5 items.size 0 lo:Nat):Int)==0&&(1:Int)==1&&(Y5 items.size items.size hi-Y5 items.size 0 lo)==items.size)=true then _ else _) _ _ s;rw[Zd SU,J2]
 first
  |exact ah (dB (aG ⟨_,rfl,aG h⟩) SJ)
  |exact ah (dB (ah (aG (aG ⟨_,rfl,aG h⟩))) SJ)
  |exact ah (ah (dB (aG (aG ⟨_,rfl,aG h⟩)) SJ))
  |exact ah (ah (dB (aG ⟨_,rfl,aG h⟩) SJ))
end
end HT
namespace L2
open PySem PySem.Spec PyProof.Rows
abbrev TO:=St->Hp->(Option Int->Hp->Prop)->Prop
def PO(X:Cx)(e:Option bc)(t:TO):Prop :=
 ∀(Q9:List (ag×Obj))(s:aw)(O:St)(H:Hp)(Q:Option Int->Hp->Prop),Inv X Q9 O H s->t O H Q ->
  aP (model X.prog X.w) X.A (evalPart e X.env) (λu s'=>∃o H',Inv X Q9 O H' s'/\jW u o/\Q o H') X.xe s
def MA:TO:=λ_ H Q=>Q Zb H
def ÀQ(t:TE):TO:=λO H Q=>t O H λx H1=>∃i,x=.int i/\Q (Za i) H1
section
variable{X:Cx}{e:bc}{te:TE}{lo hi:Option bc}{tl th:TO}{pos p2:Pos}
def Àa:PO X Zb MA:=by exact λQ9 s O H Q I h=>aG ⟨Zb,H,I,.none,h⟩
def MX(h:PE X e te):PO X (Za e) (ÀQ te):=by refine λQ9 s O H Q I hw=>Yy (h Q9 s O H _ I hw) λu s1=>e4 λx H1 I1 r1 q1=>?_;obtain⟨i,rfl,q⟩:=q1;obtain⟨t,rfl⟩:=r1;exact⟨Za i,H1,I1,.int i t,q⟩
def SlR(X:Cx)(r:V->Option Int->Option Int->Hp->VK->Prop):Prop :=
 ∀(Q9:List (ag×Obj))(s:aw)(O:St)(H:Hp)(x:V)(v vl vu:af)(lo hi:Option Int)(sl:ag)(Q:VK),Inv X Q9 O H s->RelV x v->s.heap.IsSliceOf sl vl vu .none->jW vl lo->jW vu hi->r x lo hi H Q ->
  ∃T id,ji (.type T) "__getitem__"=pure (Za (.builtin id))/\s.TypeIs v T/\aP (model X.prog X.w) X.A (iH v (.ref sl)) (EP X Q9 O Q) X.xe s
def SlR.or(h:SlR X r)(h':SlR X r'):SlR X (λx lo hi H Q=>r x lo hi H Q\/r' x lo hi H Q):=by
 intro Q9 s O H x v vl vu lo hi sl Q I rx hs pl pu q;obtain q|q:=q
 .exact h Q9 s O H x v vl vu lo hi sl Q I rx hs pl pu q
 .exact h' Q9 s O H x v vl vu lo hi sl Q I rx hs pl pu q
def tSl(r:V->Option Int->Option Int->Hp->VK->Prop)(te:TE)(tl th:TO):TE:=λO H Q=>te O H λx H1=>tl O H1 λl H2=>th O H2 λu H3=>r x l u H3 Q
def J5(hr:SlR X r)(he:PE X e te)(hl:PO X lo tl)(hu:PO X hi th):PE X (.Subscript e (.Slice lo hi Zb p2) pos) (tSl r te tl th):=by refine λQ9 s O H Q I h=>Subscript_ (Yy (he Q9 s O H _ I h) λv s1=>e4 λx H1 I1 r1 q1=>?_);refine wpAny_Slice (Yy (hl Q9 s1 O H1 _ I1 q1) λvl s2=>e4 λl H2 I2 pl q2=>Yy (hu Q9 s2 O H2 _ I2 q2) λvu s3=>e4 λu H3 I3 pu q3=>?_);apply aG;have I4:Inv X Q9 O H3 { s3 with heap:=s3.heap.push { cls:=.type "slice",data:=.fields #[vl,vu,.none] } }:=I3.kept λb ob q=>ak _ q;obtain⟨T,id,hT,ht,hg⟩:=hr Q9 { s3 with heap:=s3.heap.push { cls:=.type "slice",data:=.fields #[vl,vu,.none] } } O H3 x v vl vu l u s3.heap.objs.size Q I4 r1 (Heap.IsSliceOf.new ..) pl pu q3;exact tail_any ht hT hg (by with_unfolding_all rfl)
def LU(xs:List V)(lo hi:Option Int):List V:=(xs.drop (HT.Y5 xs.length 0 lo)).take (HT.Y5 xs.length xs.length hi-HT.Y5 xs.length 0 lo)
def yr(xs)(lo hi):(LU xs lo hi).length<=xs.length:=by unfold LU;rw[eC,gL];lia
def Âo(K:aa):V->Option Int->Option Int->Hp->VK->Prop:=λx lo hi H Q=>∃a xs,x=.ref a/\ZK K H a xs /\
 ¬(HT.Y5 xs.length 0 lo=0/\HT.Y5 xs.length xs.length hi=xs.length)/\∀p,H p=Zb->Q (.ref p) (upd H p (.tup (LU xs lo hi)))
def Pk:SlR X (Âo X.K):=by
 rintro Q9 s O H x v vl vu lo hi sl Q I rx hs pl pu ⟨a,xs,rfl,hx,hw,q⟩
 cases rx;obtain⟨its,r,ht,hz⟩:=I.tuple hx;have Re:its.toArray.size=xs.length:=r.length.symm;refine⟨"tuple",_,dL.lookup,ht.typeIs,?_⟩;refine HT.ê ht hs pl pu (by rw[Re];exact hw) ?_ (by rw[Re];exact hz);rw[Re];refine⟨.ref s.heap.objs.size,_,I.laid (λb ob q=>ak _ q) (al _) ?_,rfl,q _ (I.Yn.fresh (al _))⟩;exact⟨aI (yr xs lo hi) hz,_,(r.drop (HT.Y5 xs.length 0 lo)).take (HT.Y5 xs.length xs.length hi-HT.Y5 xs.length 0 lo),IsTup.new _ _⟩
end
noncomputable def ũ(n:Nat)(i:Int):Option Nat:=if 0<=i then(if i<n then Za i.toNat else Zb) else if -(n:Int)<=i then Za (i+n).toNat else Zb
def È{α:Type}(xs:List α)(i:Int):Option α:=(ũ xs.length i).bind λj=>xs[j]?
def Hi(h:ũ n i=Za j):seqIndex? i n=Za j/\j<n/\-(n:Int)<=i/\i<n:=by
 unfold ũ at h;by_cases h0:0<=i
 .rw[Zc h0] at h;by_cases h1:i<n
  .rw[Zc h1] at h;have e:=bO h;exact⟨by rw[seqIndex_of h0 h1,e],by lia,by lia,h1⟩
  .simp_all
 .rw[Zd h0] at h;by_cases h1:-n<=i
  .rw[Zc h1] at h;have e:=bO h;exact⟨by rw[seqIndex_neg (by lia) h1,e],by lia,h1,by lia⟩
  .simp_all
def Dx(h:È xs i=Za v):∃j,seqIndex? i xs.length=Za j/\xs[j]?=Za v/\j<xs.length/\-(xs.length:Int)<=i/\i<xs.length:=by
 unfold È at h;cases e:ũ xs.length i with
 |none=>rw[e] at h;cases h
 |some j =>
  rw[e] at h;obtain⟨h1,h2,h3,h4⟩:=Hi e;exact⟨j,h1,h,h2,h3,h4⟩
def nC{α:Type}{xs:List α}{j:Nat}{v:α}(h:xs[j]?=Za v):È xs (j:Int)=Za v:=by
 have hj:=(aS.mp h).1;have e:ũ xs.length j=Za j:=by unfold ũ;rw[Zc (by lia),Zc (by lia)];simp
 unfold È;rw[e];exact h
def HL(b:bc):Prop:=∀o i,subscripted b false o i=operate [o,i] (iH o i)
def ϳ(X:Cx)(r:R2):Prop :=
 ∀(Ri Rv:bc)(Q9:List (ag×Obj))(s:aw)(O:St)(H:Hp)(x y:V)(v u:af)(Q:VK),Inv X Q9 O H s->RelV x v->RelV y u->r x y H Q ->
  subscripted Rv false v u=operate [v,u] (iH v u)->aP (model X.prog X.w) X.A (subscriptTail Ri Rv v u) (EP X Q9 O Q) X.xe s
def MtR(X:Cx)(id:String)(r:V->List V->Hp->VK->Prop):Prop :=
 ∀(Q9:List (ag×Obj))(s:aw)(O:St)(H:Hp)(x:V)(xs:List V)(v:af)(us:List af)(Q:VK),Inv X Q9 O H s->RelV x v->Vals xs us->r x xs H Q ->
  aP (model X.prog X.w) X.A (call (.builtin id) (v::us)) (EP X Q9 O Q) X.xe s
section
variable{X:Cx}{a b:bc}{ta tb:TE}{pos:Pos}
def ϳ.or(h:ϳ X r)(h':ϳ X r'):ϳ X (λx y H Q=>r x y H Q\/r' x y H Q):=by
 intro Ri Rv Q9 s O H x y v u Q I rx ry q hs;obtain q|q:=q
 .exact h Ri Rv Q9 s O H x y v u Q I rx ry q hs
 .exact h' Ri Rv Q9 s O H x y v u Q I rx ry q hs
def sx{r}(hr:ϳ X r)(ha:PE X a ta)(hb:PE X b tb)(hs:HL b):PE X (.Subscript a b pos) (tOp r ta tb):=by exact λQ9 s O H Q I h=>Subscript_ (Q7 ha hb I h λv u s2 x y H2 I2 rx ry q=>hr a b Q9 s2 O H2 x y v u Q I2 rx ry q (hs _ _))
def QX(K:aa):R2:=λx y H Q=>∃p xs i v,x=.ref p/\y=.int i/\YY K H p xs/\È xs i=Za v/\Q v H
def QV(K:aa):R2:=λx y H Q=>∃p xs i v,x=.ref p/\y=.int i/\ZK K H p xs/\È xs i=Za v/\Q v H
def QW:R2:=λx y H Q=>∃z i c,x=.str z/\y=.int i/\z.length<=aH/\È z.cps.toList i=Za c/\Q (.str ⟨#[c]⟩) H
def Àe:ϳ X (QX X.K):=by
 intro Ri Rv Q9 s O H x y v u Q I rx ry h hs;obtain⟨p,xs,i,z,rfl,rfl,hq,he,q⟩:=h;cases rx;obtain⟨t,rfl⟩:=ry;obtain⟨its,r,pl,hz⟩:=I.list hq;obtain⟨j,h1,h2,h3,h4,h5⟩:=Dx he;obtain⟨w,ew,RR⟩:=r.get h2;have hl:=r.length;have hn:=wC;have Rx:EP X Q9 O Q w s:=⟨z,H,I,RR,q⟩;by_cases h0:0<=i
 .have hj:i.toNat=j:=by
   rw[seqIndex_of h0 h5] at h1
   grind
  exact item_listR pl.isList h0 (by lia) (by rw[hj];simpa using ew) Rx hs
 .have hj:(i+its.toArray.size).toNat=j:=by rw[seqIndex_neg (by lia) h4] at h1;rw[bj,<-hl];exact bO h1
  exact subscriptTail_builtinR pl.isList.typeIs slot_list_getitem.lookup
   (wpAny_getItem_list_neg pl.isList (by lia) (by rw[bj]<;>lia) (by lia) (by rw[hj];simpa using ew) ⟨rfl,Rx⟩) hs
def Y2:ϳ X (QV X.K):=by
 intro Ri Rv Q9 s O H x y v u Q I rx ry h hs;obtain⟨p,xs,i,z,rfl,rfl,hq,he,q⟩:=h;cases rx;obtain⟨t,rfl⟩:=ry;obtain⟨its,r,pl,hz⟩:=I.tuple hq;obtain⟨j,h1,h2,h3,h4,h5⟩:=Dx he;obtain⟨w,ew,RR⟩:=r.get h2;have hl:=r.length;have hn:=wC;have Rx:EP X Q9 O Q w s:=⟨z,H,I,RR,q⟩;exact subscriptTail_builtinR pl.typeIs dL.lookup
  (getItem_tuple pl (by lia) (by lia) (by rw[bj,<-hl];exact h1) (by simpa using ew) ⟨rfl,Rx⟩) hs
def yM:ϳ X QW:=by
 intro Ri Rv Q9 s O H x y v u Q I rx ry h hs;obtain⟨z,i,c,rfl,rfl,hz,he,q⟩:=h;obtain⟨t,rfl⟩:=rx;obtain⟨t',rfl⟩:=ry;obtain⟨j,h1,h2,h3,h4,h5⟩:=Dx he;have hl:z.cps.toList.length=z.length:=by simp[Str.length]
 rw[hl] at h1 h4 h5;have hn:=wC;exact tail_any (typeIs_str s z t) slot_str_getitem.lookup (getItem_str (by have e1:decide (i < -(2^63:Int))=false:=Zh (by lia);have e2:decide (i>=2^63)=false:=Zh (by lia);rw[e1,e2,Bool.or_false]) (by rw[h1];simpa using h2) ⟨.str ⟨#[c]⟩,H,I.tok _,⟨_,rfl⟩,q⟩) hs
def FR(its:List af)(n j:Nat)(u:af):jV (·.setIfInBounds j u) { cls:=.type "list",data:=.seq its.toArray n }={ cls:=.type "list",data:=.seq (its.set j u).toArray n }:=by simp[jV]
theorem Inv.lst{Q9}{O}{H}{s}{p}{xs}(I:Inv X Q9 O H s)(h:H p=Za (.lst xs)) :
  ∃(its:List af)(n:Nat),Vals xs its/\s.heap.get? p=Za { cls:=.type "list",data:=.seq its.toArray n }/\xs.length<=aH:=by
 obtain⟨z,its,n,r,e⟩:=I.Yn p _ h;exact⟨its,n,r,e,z⟩
def Inv.Ày{Q9:List (ag×Obj)}{O:St}{H:Hp}{s:aw}{p:ag}{xs ys:List V}{its RX:List af}{n n':Nat}{f:Obj->Obj}(I:Inv X Q9 O H s)(h:H p=Za (.lst xs))(ho:s.heap.get? p=Za { cls:=.type "list",data:=.seq its.toArray n })(hf:f { cls:=.type "list",data:=.seq its.toArray n }={ cls:=.type "list",data:=.seq RX.toArray n' })(r:Vals ys RX)(hz:ys.length<=aH)(t:Nat) :
  Inv X Q9 O (upd H p (.lst ys)) { s with heap:=s.heap.update p f,toks:=t }:=by
 have e:(s.heap.update p f).get? p=Za { cls:=.type "list",data:=.seq RX.toArray n' }:=by rw[dW f ho (by rw[hf]<;>rfl),hf]
 refine I.write (by rw[h];trivial) (.inl rfl) (λb u hb q=>(kF _ _ (bH hb)).trans q) ⟨_,e⟩ ?_;exact⟨hz,RX,n',r,e⟩
def OF:V->V->V->Hp->(Hp->Prop)->Prop:=λo i v H Q=>∃p xs k j,o=.ref p/\i=.int k/\H p=Za (.lst xs)/\ũ xs.length k=Za j/\Q (upd H p (.lst (xs.set j v)))
def set_list:Ŝ X OF:=by
 rintro Q9 s O H o i v ov iv u Q I ro ri rv ⟨p,xs,k,j,rfl,rfl,hp,hj,q⟩
 cases ro;obtain⟨t,rfl⟩:=ri;obtain⟨its,n,r,ho,hz⟩:=I.lst hp;obtain⟨h1,h2,h3,h4⟩:=Hi hj;have hl:=r.length;have hn:=wC;have I' :=
  I.Ày hp ho (FR its n j u) (r.set rv j) (by rw[ju];exact hz) s.toks
 by_cases h0:0<=k
 .have hk:k.toNat=j:=by
   rw[seqIndex_of h0 h4] at h1
   grind
  exact PySem.W.ki_setAt ho h0 (by lia) (by rw[bj,<-hl];exact h4) (by rw[hk];exact⟨_,I',q⟩)
 .have hk:(k+its.toArray.size).toNat=j:=by
   rw[seqIndex_neg (by lia) h3] at h1
   grind
  exact PySem.W.ki_setBack ho (by lia) (by rw[bj,<-hl];exact h3) (by lia) (by rw[hk];exact⟨_,I',q⟩)
def Cz(lo hi)(n):(f7 lo hi Zb n).1=((HT.Y5 n 0 lo:Nat):Int)/\(f7 lo hi Zb n).2.1=((HT.Y5 n n hi:Nat):Int)/\(f7 lo hi Zb n).2.2=1:=by
 refine⟨?_,?_,rfl⟩
 .cases lo with
  |none=>simp[f7,HT.Y5]
  |some i =>
   simp[f7,HT.Y5,lU,show(1:Int)>0 by decide,if_true];by_cases h:i<0
   .simp only[h,if_true]<;>lia
   .simp[h,if_false]<;>lia
 .cases hi with
  |none=>simp[f7,HT.Y5]
  |some i =>
   simp[f7,HT.Y5,lU,show(1:Int)>0 by decide,if_true];by_cases h:i<0
   .simp only[h,if_true]<;>lia
   .simp[h,if_false]<;>lia
def AL(its:List af)(lo hi:Option Int):slicePick its.toArray lo hi Zb=((its.drop (HT.Y5 its.length 0 lo)).take (HT.Y5 its.length its.length hi-HT.Y5 its.length 0 lo)).toArray:=by obtain⟨h1,h2,h3⟩:=Cz lo hi its.toArray.size;unfold slicePick;rw[h1,h2,h3];simp only[sliceRange_one,pick_run,bj]<;>rfl
def Âp(K:aa):V->Option Int->Option Int->Hp->VK->Prop:=λx lo hi H Q=>∃a xs,x=.ref a/\YY K H a xs/\∀p,H p=Zb->Q (.ref p) (upd H p (.lst (LU xs lo hi)))
def Ϻ:SlR X (Âp X.K):=by
 rintro Q9 s O H x v vl vu lo hi sl Q I rx hs pl pu ⟨a,xs,rfl,hx,q⟩
 cases rx;obtain⟨its,r,ht,hz⟩:=I.list hx;have Re:=r.length;refine⟨"list",_,slot_list_getitem.lookup,ht.isList.typeIs,?_⟩;refine wpAny_getItem_list_slice ht.isList hs pl pu .none (by simp) ?_ (by grind);rw[AL,<-Re];refine⟨.ref s.heap.objs.size,_,I.laid (λb ob q=>ak _ q) (al _) ?_,rfl,q _ (I.Yn.fresh (al _))⟩;exact⟨aI (yr xs lo hi) hz,_,0,(r.drop (HT.Y5 xs.length 0 lo)).take (HT.Y5 xs.length xs.length hi-HT.Y5 xs.length 0 lo),aN _ rfl⟩
def tR:V->Bool
 |.Ym=>true
 |.bl _=>true
 |.int _=>true
 |.str _=>true
 |_=>false
noncomputable def ū:V->V->Bool
 |.Ym,.Ym=>true
 |.bl a,.bl b=>a==b
 |.bl a,.int b=>(if a then 1 else 0)==b
 |.int a,.bl b=>a==(if b then 1 else 0)
 |.int a,.int b=>a==b
 |.str a,.str b=>a==b
 |_,_=>false
def GG(ry:RelV y u)(rx:RelV x v)(fy:tR y=true)(fx:tR x=true):lC A s u v (ū y x):=by
 cases y with
 |Ym =>
  cases ry;cases x with
  |Ym=>cases rx;exact SeqAt.EqAt.same _
  |bl b=>cases rx;exact SeqAt.EqAt.none_bool b
  |int b=>obtain⟨t,rfl⟩:=rx;exact SeqAt.EqAt.none_int b t
  |str b=>obtain⟨t,rfl⟩:=rx;exact SeqAt.EqAt.none_str b t
  |_=>exact absurd (fx) bJ
 |bl a =>
  cases ry;cases x with
  |Ym=>cases rx;exact SeqAt.EqAt.bool_none a
  |bl b=>cases rx;exact SeqAt.EqAt.bool_bool a b
  |int b=>obtain⟨t,rfl⟩:=rx;exact SeqAt.EqAt.bool_int a b t
  |str b=>obtain⟨t,rfl⟩:=rx;exact SeqAt.EqAt.bool_str a b t
  |_=>exact absurd (fx) bJ
 |int a =>
  obtain⟨t',rfl⟩:=ry;cases x with
  |Ym=>cases rx;exact SeqAt.EqAt.int_none a t'
  |bl b=>cases rx;exact SeqAt.EqAt.int_bool a t' b
  |int b=>obtain⟨t,rfl⟩:=rx;exact SeqAt.EqAt.int_int a t' b t
  |str b=>obtain⟨t,rfl⟩:=rx;exact kh a t' b t
  |_=>exact absurd (fx) bJ
 |str a =>
  obtain⟨t',rfl⟩:=ry;cases x with
  |Ym=>cases rx;exact SeqAt.EqAt.str_none a t'
  |bl b=>cases rx;exact SeqAt.EqAt.str_bool a t' b
  |int b=>obtain⟨t,rfl⟩:=rx;exact kg a t' b t
  |str b=>obtain⟨t,rfl⟩:=rx;exact SeqAt.EqAt.str_str a t' b t
  |_=>exact absurd (fx) bJ
 |_=>exact absurd (fy) bJ
def Ŭ(x:V)(u:af):Bool:=match u with
 |.none=>ū .Ym x
 |.bool b=>ū (.bl b) x
 |.int i _=>ū (.int i) x
 |.str z _=>ū (.str z) x
 |_=>false
def LG(r:RelV y u)(f:tR y=true):Ŭ x u=ū y x:=by
 cases y with
 |Ym=>cases r;rfl
 |bl b=>cases r;rfl
 |int i=>obtain⟨t,rfl⟩:=r;rfl
 |str z=>obtain⟨t,rfl⟩:=r;rfl
 |_=>exact absurd (f) bJ
theorem xy:∀{xs:List V}{us:List af},Vals xs us->xs.all tR=true->us.any (Ŭ x)=xs.any λy=>ū y x
 |_,_,.nil,_=>rfl
 |y::xs,u::us,.cons r t,f=>by rw[iS,dI] at f;rw[dU,dU,LG r f.1,xy t f.2]
theorem uX(rx:RelV x v)(fx:tR x=true):∀{xs:List V}{us:List af},Vals xs us->xs.all tR=true->∀u∈us,lC A s u v (Ŭ x u)
 |_,_,.nil,_=>λu hu=>by cases hu
 |y::xs,u::us,.cons r t,f=>λu' hu=>by
  rw[iS,dI] at f;obtain rfl|hu:=ao.mp hu
  .rw[LG r f.1];exact GG r rx f.1 fx
  .exact uX rx fx t f.2 u' hu
def inV(x:V)(xs:List V):Bool:=xs.any λy=>ū y x
def rIn(K:aa)(neg:Bool):R2:=λx y H Q=>∃p xs,y=.ref p/\(YY K H p xs\/ZK K H p xs)/\tR x=true/\xs.all tR=true/\Q (.bl (if neg then !inV x xs else inV x xs)) H
def Io:ZA X (bR .In) (rIn X.K false):=by
 rintro Q9 s O H x y v u Q I rx ry ⟨p,xs,rfl,hq,fx,fs,q⟩
 cases ry;obtain hq|hq:=hq
 .obtain⟨its,r,pl,hz⟩:=I.list hq;refine SeqAt.in_listAt (Ŭ x) pl.isList (λw hw=>uX rx fx r fs w (by simpa using hw)) ⟨.bl _,H,I,rfl,?_⟩;rw[show its.toArray.any (Ŭ x)=its.any (Ŭ x) by simp,xy r fs];exact q
 .obtain⟨its,r,pl,hz⟩:=I.tuple hq;refine SeqAt.in_tupleAt (Ŭ x) pl (λw hw=>uX rx fx r fs w (by simpa using hw)) ⟨.bl _,H,I,rfl,?_⟩;rw[show its.toArray.any (Ŭ x)=its.any (Ŭ x) by simp,xy r fs];exact q
def CM:ZA X (bR .NotIn) (rIn X.K true):=by
 rintro Q9 s O H x y v u Q I rx ry ⟨p,xs,rfl,hq,fx,fs,q⟩
 cases ry;obtain hq|hq:=hq
 .obtain⟨its,r,pl,hz⟩:=I.list hq;refine SeqAt.notIn_listAt (Ŭ x) pl.isList (λw hw=>uX rx fx r fs w (by simpa using hw)) ⟨.bl _,H,I,rfl,?_⟩;rw[show its.toArray.any (Ŭ x)=its.any (Ŭ x) by simp,xy r fs];exact q
 .obtain⟨its,r,pl,hz⟩:=I.tuple hq;refine SeqAt.notIn_tupleAt (Ŭ x) pl (λw hw=>uX rx fx r fs w (by simpa using hw)) ⟨.bl _,H,I,rfl,?_⟩;rw[show its.toArray.any (Ŭ x)=its.any (Ŭ x) by simp,xy r fs];exact q
def ń:YV X (.builtin "len") (λxs H Q=>∃p ys,xs=[.ref p]/\(YY X.K H p ys\/ZK X.K H p ys)/\Q (.int ys.length) H):=by
 rintro Q9 s O H xs us Q I r ⟨p,ys,rfl,hq,q⟩
 obtain⟨u,rfl,rfl⟩:=rh r;have hn:=wC;obtain hq|hq:=hq
 .obtain⟨its,r',pl,hz⟩:=I.list hq;have Re:=r'.length;exact Calls.call_len_list pl.isList (by simp only[bj]<;>lia) ⟨.int ys.length,H,I.tok _,⟨s.toks+1,by rw[bj,Re]⟩,q⟩
 .obtain⟨its,r',pl,hz⟩:=I.tuple hq;have Re:=r'.length;exact len_tuple pl (by simp only[bj]<;>lia) ⟨.int ys.length,H,I.tok _,⟨s.toks+1,by rw[bj,Re]⟩,q⟩
def ì:YV X (.builtin "len") (λxs H Q=>∃z,xs=[.str z]/\z.length<=aH/\Q (.int z.length) H):=by
 rintro Q9 s O H xs us Q I r ⟨z,rfl,hz,q⟩
 obtain⟨u,rfl,t,rfl⟩:=rh r;have hn:=wC;exact len_str (by lia) ⟨.int z.length,H,I.tok _,⟨_,rfl⟩,q⟩
def YV.or(h:YV X f r)(h':YV X f r'):YV X f (λxs H Q=>r xs H Q\/r' xs H Q):=by
 intro Q9 s O H xs us Q I rs q;obtain q|q:=q
 .exact h Q9 s O H xs us Q I rs q
 .exact h' Q9 s O H xs us Q I rs q
def ww:YV X (.type "list") (λxs H Q=>∃p ys,xs=[.ref p]/\(YY X.K H p ys\/ZK X.K H p ys)/\∀l,H l=Zb->Q (.ref l) (upd H l (.lst ys))):=by
 rintro Q9 s O H xs us Q I r ⟨p,ys,rfl,hq,q⟩
 obtain⟨u,rfl,rfl⟩:=rh r;have Rx:∀its,Vals ys its->ys.length<=aH->∀h' c',(∀b o',s.heap.get? b=Za o'->h'.get? b=Za o') ->
   h'.get? s.heap.objs.size=Za { cls:=.type "list",dict:=Zb,data:=.seq its.toArray c',slots:=#[] }->EP X Q9 O Q (.ref s.heap.objs.size) { s with heap:=h' }:=λits r' hz h' c' kp e =>
  ⟨.ref s.heap.objs.size,_,I.laid kp (al _) (show YJ X.prog X.w _ h' _ (.lst ys) from⟨hz,its,c',r',e⟩),rfl,q _ (I.Yn.fresh (al _))⟩
 obtain hq|hq:=hq
 .obtain⟨its,r',pl,hz⟩:=I.list hq;have Re:=r'.length;obtain⟨o,ho,hc,n,hd⟩:=pl.isList;exact call_list_seq p (.inl rfl) ho hc hd (λh' c' kp e=>Rx its r' hz h' c' kp e) (by grind)
 .obtain⟨its,r',pl,hz⟩:=I.tuple hq;have Re:=r'.length;obtain⟨o,ho,hc,n,hd⟩:=pl;exact call_list_seq p (.inr rfl) ho hc hd (λh' c' kp e=>Rx its r' hz h' c' kp e) (by grind)
def Bu:YV X (.type "tuple") (λxs H Q=>∃p ys,xs=[.ref p]/\((YY X.K H p ys/\∀l,H l=Zb->Q (.ref l) (upd H l (.tup ys)))\/(ZK X.K H p ys/\Q (.ref p) H))):=by
 intro Q9 s O H xs us Q I r h;obtain⟨p,ys,rfl,h⟩:=h;obtain⟨u,rfl,rx⟩:=rh r;cases rx;rcases h with⟨hq,q⟩|⟨hq,q⟩
 .obtain⟨its,r',pl,hz⟩:=I.list hq;have Re:=r'.length;refine call_tuple_list pl.isList (λh' kp=>?_) (by simp only[bj]<;>lia);have I1:Inv X Q9 O H { s with heap:=h' }:=I.kept (t':=s.toks) kp;have I2:Inv X Q9 O (upd H h'.objs.size (.tup ys)) { s with heap:=h'.push { cls:=.type "tuple",data:=.seq its.toArray } } :=
   I1.laid (t':=s.toks) (λb o e=>ak _ e) (al _) (show YJ X.prog X.w _ _ _ (.tup ys) from⟨hz,its,r',IsTup.new _ _⟩)
  exact⟨.ref h'.objs.size,_,I2,rfl,q _ (I1.Yn.fresh (al _))⟩
 .obtain⟨its,r',pl,hz⟩:=I.tuple hq;exact call_tuple_same pl ⟨.ref p,H,I,rfl,q⟩
def tyV(K:aa)(T:String)(x:V)(H:Hp):Prop:=match x with
 |.str _=>T="str"
 |.int _=>T="int"
 |.ref p=>(T="list"/\∃xs,YY K H p xs)\/(T="tuple"/\∃o,K.lookup p=Za o/\o.cls=.type "tuple"/\o.dict=Zb) \/
   (T="dict"/\((∃Ra,H p=Za (.dK Ra))\/∃Ra,H p=Za (.dT Ra)))\/(T="set"/\∃S n,H p=Za (.set S n))
 |_=>False
def O8(I:Inv X Q9 O H s)(r:RelV x v)(ty:tyV X.K T x H) :
  s.TypeIs v T/\∀a,v=.ref a->∃ob,s.heap.get? a=Za ob/\ob.dict=none:=by
 cases x with
 |str z =>
  obtain⟨t,rfl⟩:=r;cases(ty);exact⟨typeIs_str s z t,λ_ e=>nomatch e⟩
 |int i =>
  obtain⟨t,rfl⟩:=r;cases(ty);exact⟨typeIs_int s i t,λ_ e=>nomatch e⟩
 |ref p =>
  cases r;rcases ty with⟨rfl,xs,hq⟩|⟨rfl,o,hk,hc,hd⟩|⟨rfl,hk⟩|⟨rfl,S,n,hk⟩
  .obtain⟨its,_,pl,_⟩:=I.list hq;refine⟨pl.isList.typeIs,λa e=>?_⟩;cases e;obtain⟨o,n,e,c,hd,_⟩:=pl;exact⟨o,e,hd⟩
  .refine⟨⟨o,I.ZI p o hk,hc⟩,λa e=>?_⟩;cases e;exact⟨o,I.ZI _ o hk,hd⟩
  .have z:∃o,s.heap.get? p=Za o/\o.ExactDict:=by
    rcases hk with⟨Ra,hk⟩|⟨Ra,hk⟩
    .obtain⟨_,_,_,_,o,_,_,e,ex,_⟩:=I.Yn p _ hk;exact⟨o,e,ex⟩
    .obtain⟨_,_,_,_,o,_,_,e,ex,_⟩:=I.Yn p _ hk;exact⟨o,e,ex⟩
   obtain⟨o,e,ex⟩:=z;refine⟨⟨o,e,ex.1⟩,λa e2=>?_⟩;cases e2;exact⟨o,e,ex.2.1⟩
  .obtain⟨o,_,_,_,e,ex,_⟩:=I.Yn p _ hk;refine⟨⟨o,e,ex.1⟩,λa e2=>?_⟩;cases e2;exact⟨o,e,ex.2.1⟩
 |_=>exact bo ty
def tBM(K:aa)(T:String)(r:V->List V->Hp->VK->Prop)(to:TE)(t:TA):TE:=λO H Q=>to O H λx H1=>tyV K T x H1/\t O H1 λxs H2=>r x xs H2 Q
variable{o e:bc}{es:List bc}{to:TE}{t:TA}{name:Str}{Rc Rb:Pos}{T id:String}{r:V->List V->Hp->VK->Prop}
def Mb(pa:PlainAttrs T)(slot:Slot T name id)(W8:typeOf (.builtin id)=pure (.type "method_descriptor"))(hm:MtR X id r)(ho:PE X o to)(ha:PA X (e::es) t)(RI:cL o name X.env (eval o X.env)=eval o X.env:=by rfl)(SD:((bP Rb (aq (e::es) X.env)).all (λx=>!x.1)&&(eO Rb (cM [] X.env)).all (λx=>x.1.isSome)
   && decide ((e::es).length+([]:List fK).length+(if([]:List fK).isEmpty then 0 else 1)<30))=true:=by rfl)(RG:(Rc.endLine==Rb.line)=true:=by rfl)(hs:ě X e es:=by rfl)(RO:(bP Rb (aq es X.env)).any (·.1)=false:=by rfl) :
  PE X (.Call (.Attribute o name Rc) (e::es) [] Rb) (tBM X.K T r to t):=by
 refine λQ9 s O H Q I h=>wpAny_Call_method_late RI SD RG rfl (Yy (ho Q9 s O H _ I h) λv s1=>e4 λx H1 I1 r1 ⟨ty,q1⟩=>?_);obtain⟨h1,h2⟩:=O8 I1 r1 ty;refine⟨T,id,pa,slot,W8,h1,h2,?_⟩;have hA:=ha Rb Q9 s1 O H1 _ I1 q1;rw[hs] at hA ⊢;refine fc (by show(false||(bP Rb (aq es X.env)).any (·.1))=false;rw[RO]<;>rfl) (fL ?_);exact Yy hA λus s2=>e4 λvs H2 I2 r2 q2=>hm Q9 s2 O H2 x vs v us Q I2 r1 r2 q2
end
def MtM(X:Cx)(id:String)(r:V->List V->Hp->VK->Prop):Prop :=
 ∀(Q9:List (ag×Obj))(s:aw)(O:St)(H:Hp)(x:V)(xs:List V)(v:af)(us:List af)(Q:VK),Inv X Q9 O H s->RelV x v->Vals xs us->r x xs H Q ->
  aP (model X.prog X.w) X.A (call (.builtin id) (v::us)) (EP X Q9 O Q) X.xe s
def Vals.one:∀{x:V}{us:List af},Vals [x] us->∃u,us=[u]/\RelV x u
 |_,_,.cons r .nil=>⟨_,rfl,r⟩
theorem Vals.rep(h:Vals xs us):∀k:Nat,Vals (aQ k xs).flatten (aQ k us).flatten
 |0=>.nil
 |k+1=>by rw[eM,eM,gF,gF];exact Vals.append h (Vals.rep h k)
theorem Cf(its):∀(k:Nat)(Ru:List af),
  List.foldl (λx1 x2=>x1++x2) Ru.toArray (aQ k its.toArray)=(Ru++(aQ k its).flatten).toArray
 |0,Ru=>by simp
 |k+1,Ru=>by
  have e:Ru.toArray++its.toArray=(Ru++its).toArray:=by simp
  have e2:(Ru++its)++(aQ k its).flatten=Ru++(aQ (k+1) its).flatten:=by
   grind
  rw[<-e2,<-Cf its k (Ru++its),<-e,eM,List.foldl_cons]
section
variable{X:Cx}{Q9:List (ag×Obj)}{O:St}{H:Hp}{s:aw}{l:ag}{xs ys:List V}
def Inv.Ây{its RX:List af}{n:Nat}{f:Array af->Array af}{t':Nat}(I:Inv X Q9 O H s)(hH:H l=Za (.lst xs))(e:s.heap.get? l=Za { cls:=.type "list",data:=.seq its.toArray n })(hf:f its.toArray=RX.toArray)(hv:Vals ys RX)(hz:ys.length<=aH) :
  Inv X Q9 O (upd H l (.lst ys)) { s with heap:=s.heap.update l (jV f),toks:=t' }:=by
 have q:=PySem.IsL.update e f;rw[hf] at q;refine I.write (by rw[hH];exact trivial) (.inl rfl) (λb' u hb hu=>(kF s.heap (jV f) (bH hb)).trans hu) ⟨_,q⟩ ?_;exact⟨hz,RX,_,hv,q⟩
def Inv.ÀA(I:Inv X Q9 O H s)(hv:Vals ys its)(hz:ys.length<=aH) :
  Inv X Q9 O (upd H s.heap.objs.size (.lst ys)) { s with heap:=s.heap.push { cls:=.type "list",data:=.seq its.toArray },toks:=t' } :=
 I.laid (λ_ _ q=>ak _ q) (al _) ⟨hz,its,0,hv,aN _ rfl⟩
theorem Inv.fresh(I:Inv X Q9 O H s):H s.heap.objs.size=none:=I.Yn.fresh (al _)
def Inv.Àz(I:Inv X Q9 O H s)(hH:H l=Za (.lst xs)):xs.length<=aH/\∃(its:List af)(n:Nat),Vals xs its/\xs.length=its.length/\s.heap.get? l=Za { cls:=.type "list",data:=.seq its.toArray n }:=by obtain⟨z,its,n,r,e⟩:=I.Yn l _ hH;exact⟨z,its,n,r,r.length,e⟩
def Kg(h:n<=aH):fU n=false:=by
 unfold fU
 grind
def MR:V->List V->Hp->VK->Prop:=λx vs H Q=>∃l xs y,x=.ref l/\vs=[y]/\H l=Za (.lst xs)/\xs.length<aH/\Q .Ym (upd H l (.lst (xs++[y])))
def B7:MtM X "list.append" MR:=by
 rintro Q9 s O H x vs v us Q I rx rv ⟨l,xs,y,rfl,rfl,hH,hz,q⟩
 cases rx;obtain⟨u,rfl,ru⟩:=rv.one;obtain⟨z,its,n,r,hl,e⟩:=I.Àz hH;refine jj kX ⟨_,e,rfl⟩ F.entry_list_append (F.args_list_append_2 _ _) (PySem.list_append l its.toArray n u (by grind)) ⟨e,?_⟩;refine⟨.Ym,_,I.Ây hH e (by simp) (r.append (.cons ru .nil)) ?_,rfl,q⟩;rw[aT,ii];lia
def QU:R2:=λx y H Q=>∃l k xs,x=.ref l/\y=.int k/\H l=Za (.lst xs)/\-(2^63)<=k/\k<2^63/\xs.length*k.toNat<=aH /\
 ∀p,H p=Zb->Q (.ref p) (upd H p (.lst (aQ k.toNat xs).flatten))
def NB(xs:List α)(k:Nat):(aQ k xs).flatten.length=k*xs.length:=by simp_all
def PU:ZA X (dE .Mult) QU:=by
 rintro Q9 s O H x y v u Q I rx ry ⟨l,k,xs,rfl,rfl,hH,h1,h2,hz,q⟩
 cases rx;obtain⟨t,rfl⟩:=ry;obtain⟨z,its,n,r,hl,e⟩:=I.Àz hH;have Re:its.toArray.size*k.toNat<=aH:=by rw[bj,<-hl];exact hz
 have Xx:¬its.toArray.size*k.toNat>(2^63-1)/8:=by have:aH<=(2^63-1)/8:=Zf rfl;lia
 have Xr:¬(!Builtin.List.listFitsIndex k)=true:=by
  rw[fitsIndex_both h1 h2]
  grind
 have Vp:¬fU (its.toArray.size*k.toNat)=true:=by
  rw[Kg Re]
  grind
 have Sb:List.foldl (λx1 x2=>x1++x2) #[] (aQ (if its.toArray.isEmpty=true then 0 else k.toNat) its.toArray)=(aQ k.toNat its).flatten.toArray:=by
  have f0:=λm=>by have:=Cf its m [];rw[dg] at this;exact this
  rw[f0];cases its with
  |nil=>simp
  |cons a r'=>rw[Zd (by simp)]
 refine wpAny_binaryOp_repeat_ref (Zf rfl) ⟨_,e,rfl⟩ (λs'=>typeIs_int s' k t) noFill_list_mul F.fills_int_mul F.slot_int_rmul repeat_list F.slot_int_index.lookup
  (jj F.slot_int_rmul (typeIs_int s k t) F.entry_int_rmul (F.args_int_rmul_2 _ _) (int___rmul___int_list k t l its.toArray n)
   ⟨e,rfl,⟨_,e,rfl⟩,jj F.slot_list_mul ⟨_,e,rfl⟩ F.entry_list_mul (F.args_list_mul_2 _ _) (AutoListH.list___mul___list_int_3 l its.toArray n k t Xr Xx Vp) ⟨e,?_⟩⟩)
 rw[Sb];exact⟨.ref _,_,I.ÀA (r.rep k.toNat) (by rw[NB,Nat.mul_comm];exact hz),rfl,q _ I.fresh⟩
end
open PySem PySem.Spec PyProof.Rows
section
variable{κ:Type}[DecidableEq κ]
def pB(Ra:List (κ×V))(k:κ):Option V:=(Ra.find? λkv=>decide (kv.1=k)).map (·.2)
noncomputable def qY(Ra:List (κ×V))(k:κ)(v:V):List (κ×V) :=
 if(Ra.any λkv=>decide (kv.1=k))=true then Ra.map (λkv=>if kv.1=k then(kv.1,v) else kv) else Ra++[(k,v)]
def yE(Ra:List (κ×V))(k:κ):List (κ×V):=Ra.filter λkv=>decide (kv.1≠k)
def wK{p:κ×V}{r}{k:κ}(e:p.1=k):pB (p::r) k=Za p.2:=by simp[pB,bX,e]
def wM{p:κ×V}{r}{k:κ}(e:¬p.1=k):pB (p::r) k=pB r k:=by simp[pB,bX,e]
theorem Ak(k:κ):∀Ra:List (κ×V),(Ra.any λkv=>decide (kv.1=k))=(pB Ra k).isSome
 |[]=>rfl
 |p::r=>by
  rw[dU];by_cases e:p.1=k
  .simp only[wK e,Zg e,Bool.true_or,Option.isSome_some]
  .rw[wM e,Zh e,Bool.false_or];exact Ak k r
def rm(Ra)(k:κ)(v):(qY Ra k v).length<=Ra.length+1:=by
 unfold qY;split
 .simp_all
 .simp_all
def uU{Ra}{k:κ}(v)(h:pB Ra k=Zb):qY Ra k v=Ra++[(k,v)]:=by unfold qY;rw[Ak,h];exact Zd (Zf rfl)
def Ç.ZY(r:Ç o u):o.isSome=u.isSome:=by
 cases o with
 |none=>cases u with
  |none=>rfl
  |some _=>exact(r).elim
 |some _=>cases u with
  |none=>exact(r).elim
  |some _=>rfl
theorem Ç.getD(r:Ç o u)(rd:RelV d d'):RelV (o.getD d) (u.getD d'):=by
 cases o with
 |none=>cases u with
  |none=>exact rd
  |some _=>exact(r).elim
 |some _=>cases u with
  |none=>exact(r).elim
  |some _=>exact r
def KV.val{Ra}{vs}(r:KV Ra vs)(k:κ):Ç (pB Ra k) (kA vs k):=by
 induction r with
 |nil=>exact cF
 |@cons p q ps qs h t ih =>
  obtain⟨h1,h2⟩:=h;by_cases e:p.1=k
  .have e':=h1.symm.trans e;have b:kA (q::qs) k=Za q.2:=by simp[kA,bX,e']
   rw[wK e,b];exact h2
  .have e':¬q.1=k:=λz=>e (h1.trans z);have b:kA (q::qs) k=kA qs k:=by simp[kA,bX,e']
   rw[wM e,b];exact ih
theorem KV.any(r:KV Ra vs)(k:κ):(Ra.any λkv=>decide (kv.1=k))=vs.any λkv=>decide (kv.1=k):=by
 induction r with
 |nil=>rfl
 |cons h t ih=>rw[dU,dU,ih,h.1]
def KV.Àt(r:KV Ra vs)(k:κ)(ry:RelV y u) :
  KV (Ra.map λkv=>if kv.1=k then(kv.1,y) else kv) (vs.map λkv=>if kv.1=k then(kv.1,u) else kv):=by
 induction r with
 |nil=>exact .nil
 |@cons p q ps qs h t ih =>
  rw[am,am];refine .cons ?_ ih
  grind
def KV.put(r:KV Ra vs)(k:κ)(ry:RelV y u):KV (qY Ra k y) (stored vs k u):=by
 unfold qY stored;rw[r.any k];by_cases e:(vs.any λkv=>decide (kv.1=k))=true
 .rw[Zc e,Zc e];exact r.Àt k ry
 .rw[Zd e,Zd e];exact kE r ⟨rfl,ry⟩
def KV.drop(r:KV Ra vs)(k:κ):KV (yE Ra k) (without vs k):=by
 unfold yE without;induction r with
 |nil=>exact .nil
 |@cons p q ps qs h t ih =>
  obtain⟨h1,h2⟩:=h;rw[gP,gP];by_cases e:p.1=k
  .grind
  .have e':¬q.1=k:=λz=>e (h1.trans z);have a:decide (p.1≠k)=true:=by simp[e]
   have b:decide (q.1≠k)=true:=by simp[e']
   rw[Zc a,Zc b];exact .cons ⟨h1,h2⟩ ih
def KV.keys{Ra:List (κ×V)}{vs:List (κ×af)}(r:KV Ra vs):Ra.map (·.1)=vs.map (·.1):=by
 induction r with
 |nil=>rfl
 |cons h t ih=>rw[am,am,ih,h.1]
theorem KV.length(r:KV Ra vs):Ra.length=vs.length:=iJ r
def KH(Ra)(k:κ):(yE Ra k).length<=Ra.length:=cW _ _
end
def yC(r:RelV (kV k) u):(nI P w).is k u=true:=by
 obtain i|x:=k
 .obtain⟨t,e⟩:=(r);subst e;exact Eh P w i t
 .obtain⟨t,rfl⟩:=(r);exact Eg P w x t
theorem Cc:∀{ks:List Key}{us:List af},Vals (ks.map kV) us->ItemsAre (nI P w) ks us
 |[],_,r=>by rw[cP] at r;cases r;exact .nil
 |k::ks,_,r=>by
  rw[am] at r;cases r with
  |cons h t=>exact .cons (yC h) (Cc t)
abbrev KT(H:Hp):List (List Key×V)->List (List Key×ag×af)->Prop:=eU λp q=>p.1=q.1/\H q.2.1=Za (.tup (p.1.map kV))/\RelV p.2 q.2.2
def KT.val{H}{Ra}{xs}(r:KT H Ra xs)(k):Ç (pB Ra k) ((lO xs k).map (·.2)):=by
 induction r with
 |nil=>exact cF
 |@cons p q ps qs h t ih =>
  obtain⟨h1,_,h2⟩:=h;by_cases e:p.1=k
  .have e':=h1.symm.trans e;have b:lO (q::qs) k=Za q.2:=by simp[lO,bX,e']
   rw[wK e,b];exact h2
  .have e':¬q.1=k:=λz=>e (h1.trans z);have b:lO (q::qs) k=lO qs k:=by simp[lO,bX,e']
   rw[wM e,b];exact ih
def KT.Àt(r:KT H Ra xs)(k)(ry:RelV y u) :
  KT H (Ra.map λkv=>if kv.1=k then(kv.1,y) else kv) (xs.map (putAt k u)):=by
 induction r with
 |nil=>exact .nil
 |@cons p q ps qs h t ih =>
  rw[am,am];refine .cons ?_ ih;obtain⟨h1,h2,h3⟩:=h;unfold putAt;by_cases e:p.1=k
  .simp_all
  .simp_all
def KT.put(r:KT H Ra xs)(k)(hb:H b=Za (.tup (k.map kV)))(ry:RelV y u) :
  KT H (qY Ra k y) (storedH xs k b u):=by
 have e:(Ra.any λkv=>decide (kv.1=k))=(lO xs k).isSome:=by rw[Ak,(r.val k).ZY,dS]
 unfold qY storedH;rw[e];by_cases q:(lO xs k).isSome=true
 .rw[Zc q,Zc q];exact r.Àt k ry
 .rw[Zd q,Zd q];exact kE r ⟨rfl,hb,ry⟩
def KT.keeps(r:KT H Ra xs)(ht:∀b ys,H b=Za (.tup ys)->H' b=Za (.tup ys)):KT H' Ra xs :=
 eU.Àd r λ_ _ z=>⟨z.1,ht _ _ z.2.1,z.2.2⟩
section
variable{P:aL}{w:aX}{H:Hp}{h:bi}{a:ag}
def OE(ok:Õ P w H h)(e:Rd H a u):YJ P w H h a u:=e.ok ok
def vp(ok:Õ P w H h)(e:Rd H a (.dK Ra)):Ra.length<=aH/\(a==dZ)=false/\∃vs,KV Ra vs/\h.DictOf (nI P w) a vs :=
 OE ok e
def Mn(ok:Õ P w H h)(e:H a=Za (.dK Ra)):Ra.length<=aH/\(a==dZ)=false/\∃vs,KV Ra vs/\h.DictOf (nI P w) a vs:=vp ok (.inl e)
def yL(ok:Õ P w H h)(e:H a=Za (.tup (ks.map kV))):(i6 (nI P w)).is h ks a:=by obtain⟨_,its,r,o,h1,h2,n,h3⟩:=(ok a _ e);exact⟨o,its.toArray,n,h1,h2,h3,by simpa using Cc r⟩
def BD(ok:Õ P w H h)(e:Rd H a (.dT Ra)):Ra.length<=aH/\(a==dZ)=false /\
  ∃xs,KT H Ra xs/\h.DictOfH (i6 (nI P w)) a xs:=by
 obtain⟨z,y,xs,r,o,es,ep,h1,h2,h3,h4,h5⟩:=(OE ok e);refine⟨z,y,xs,r,o,es,ep,h1,h2,h3,h4,λx hx=>?_,h5⟩;have all:∀{l:List (List Key×V)}{m:List (List Key×ag×af)},KT H l m->∀x∈m,(i6 (nI P w)).is h x.1 x.2.1:=by
  intro l m q;induction q with
  |nil=>intro x hx;exact nomatch hx
  |@cons p q ps qs hq t ih =>
   intro x hx;obtain e|hx:=ao.mp hx
   .subst e;exact yL ok (by rw[<-hq.1];exact hq.2.1)
   .exact ih x hx
 exact all r x hx
def ÁN(ok:Õ P w H h)(e:H a=Za (.dT Ra)):Ra.length<=aH/\(a==dZ)=false /\
  ∃xs,KT H Ra xs/\h.DictOfH (i6 (nI P w)) a xs:=BD ok (.inl e)
end
def Zs(H:Hp)(a:ag)(y:V)(r:Option V):Prop :=
 (∃Ra k,Rd H a (.dK Ra)/\y=kV k/\r=pB Ra k)\/∃Ra k b,Rd H a (.dT Ra)/\y=.ref b/\H b=Za (.tup (k.map kV))/\r=pB Ra k
def ß(H:Hp)(a:ag)(y v:V)(H':Hp):Prop :=
 (∃Ra k,H a=Za (.dK Ra)/\y=kV k/\Ra.length<aH/\H'=upd H a (.dK (qY Ra k v))) \/
 ∃Ra k b,H a=Za (.dT Ra)/\y=.ref b/\H b=Za (.tup (k.map kV))/\Ra.length<aH/\H'=upd H a (.dT (qY Ra k v))
theorem Zs.k{H}{a}{Ra}{k}(e:H a=Za (.dK Ra)):Zs H a (kV k) (pB Ra k):=.inl ⟨Ra,k,.inl e,rfl,rfl⟩
def Zs.t{H}{a b}{Ra}{k}(e:H a=Za (.dT Ra))(eb:H b=Za (.tup (k.map kV))):Zs H a (.ref b) (pB Ra k):=.inr ⟨Ra,k,b,.inl e,rfl,eb,rfl⟩
theorem ß.k{H}{a}{Ra}{k}{v}(e:H a=Za (.dK Ra))(hl:Ra.length<aH):ß H a (kV k) v (upd H a (.dK (qY Ra k v))):=.inl ⟨Ra,k,e,rfl,hl,rfl⟩
def ß.t{H}{a b}{Ra}{k}{v}(e:H a=Za (.dT Ra))(eb:H b=Za (.tup (k.map kV)))(hl:Ra.length<aH) :
  ß H a (.ref b) v (upd H a (.dT (qY Ra k v))):=.inr ⟨Ra,k,b,e,rfl,eb,hl,rfl⟩
section
variable{X:Cx}{Q9:List (ag×Obj)}{O:St}{H:Hp}{s:aw}{a:ag}{y v:V}{u r:af}{o:Option V}{A:b8}{E:af->aw->Prop}
def Inv.big(I:Inv X Q9 O H s):dZ<s.heap.objs.size:=by have h:=(I.mod.glob.keeps I.bk).lt;exact g8 (Zf rfl) h
def Cj(hu:A.units+1<fb)(I:Inv X Q9 O H s)(g:Zs H a y (Za v))(ry:RelV y u)(h:∀w' s',Inv X Q9 O H s'->RelV v w'->Q w' s') :
  aP (model X.prog X.w) A (iH (.ref a) u) Q E s:=by
 rcases g with⟨Ra,k,e,ey,l⟩|⟨Ra,k,b,e,ey,eb,l⟩
 .subst ey;obtain⟨z,hd,vs,rel,dd⟩:=vp I.Yn e;obtain⟨w',hw,RR⟩:=Ç.some_of (by rw[l];exact rel.val k);exact wpAny_getItem_of (yC ry) dd.mapOf hw (h w' _ (I.tok _) RR)
 .subst ey;cases(ry);obtain⟨z,hd,xs,rel,dd⟩:=BD I.Yn e;obtain⟨w',hw,RR⟩:=Ç.some_of (by rw[l];exact rel.val k);obtain⟨p,hp,hp2⟩:=kj.mp hw;apply wpAny_getItem_heap (ft hu) (yL I.Yn eb) dd hp;rw[hp2];exact h w' _ (I.tok _) RR
def ÁR(hu:A.units+1<fb)(I:Inv X Q9 O H s)(g:Zs H a y o)(ry:RelV y u)(h:∀s',Inv X Q9 O H s'->Q (.bool o.isSome) s') :
  aP (model X.prog X.w) A (bR .In u (.ref a)) Q E s:=by
 rcases g with⟨Ra,k,e,ey,l⟩|⟨Ra,k,b,e,ey,eb,l⟩
 .subst ey;obtain⟨z,hd,vs,rel,dd⟩:=vp I.Yn e;apply wpAny_in_of (yC ry) hd dd.mapOf;rw[<-(rel.val k).ZY,<-l];exact h _ (I.tok _)
 .subst ey;cases(ry);obtain⟨z,hd,xs,rel,dd⟩:=BD I.Yn e;apply wpAny_in_heap (ft hu) (yL I.Yn eb) hd dd;have q:=(rel.val k).ZY;rw[dS] at q;rw[<-q,<-l];exact h _ (I.tok _)
def Oe(hu:A.units+1<fb)(I:Inv X Q9 O H s)(g:Zs H a y o)(ry:RelV y u)(h:∀s',Inv X Q9 O H s'->Q (.bool (!o.isSome)) s') :
  aP (model X.prog X.w) A (bR .NotIn u (.ref a)) Q E s:=by
 rcases g with⟨Ra,k,e,ey,l⟩|⟨Ra,k,b,e,ey,eb,l⟩
 .subst ey;obtain⟨z,hd,vs,rel,dd⟩:=vp I.Yn e;apply wpAny_notIn_of (yC ry) hd dd.mapOf;rw[<-(rel.val k).ZY,<-l];exact h _ (I.tok _)
 .subst ey;cases(ry);obtain⟨z,hd,xs,rel,dd⟩:=BD I.Yn e;apply wpAny_notIn_heap (ft hu) (yL I.Yn eb) hd dd;have q:=(rel.val k).ZY;rw[dS] at q;rw[<-q,<-l];exact h _ (I.tok _)
def z5(I:Inv X Q9 O H s)(mu:Mut (H a))(hs:i7 a s.heap h')(he:∃q,h'.get? a=Za q)(new:YJ X.prog X.w (upd H a ob) h' a ob) :
  Inv X Q9 O (upd H a ob) { s with heap:=h',toks:=t' } :=
 I.write mu (.inl rfl) (λb q hb z=>(hs.2 b hb).trans z) he new
def DX(z:Ra.length<=aH)(hd:(a==dZ)=false)(rel:KV Ra vs)(dd:h'.DictOf (nI P w) a vs) :
  YJ P w H' h' a (.dK Ra):=⟨z,hd,vs,rel,dd⟩
def Ci(hu:A.units+1<fb)(I:Inv X Q9 O H s)(g:ß H a y v H')(ry:RelV y u)(rv:RelV v r)(h:∀s',Inv X Q9 O H' s'->Q () s') :
  aP (model X.prog X.w) A (kB (.ref a) u r) Q E s:=by
 rcases g with⟨Ra,k,e,ey,l,eH⟩|⟨Ra,k,b,e,ey,eb,l,eH⟩
 .subst ey eH;obtain⟨z,hd,vs,rel,dd⟩:=Mn I.Yn e;have hz:vs.length<=aH:=by rw[<-rel.length];exact z
  have hl:(qY Ra k v).length<=aH:=by have:=rm Ra k v;lia
  refine wpAny_setItem_pairs (yC ry) dd λh' Tr hs=>h _ ?_;have he:∃q,h'.get? a=Za q:=let⟨q,_,_,hq,_⟩:=Tr;⟨q,hq⟩;exact z5 I (by rw[e];exact cF) hs he (DX hl hd (rel.put k rv) Tr)
 .subst ey eH;cases(ry);obtain⟨z,hd,xs,rel,dd⟩:=ÁN I.Yn e;have hz:xs.length<=aH:=by rw[<-iJ rel];exact z
  have hl:(qY Ra k v).length<=aH:=by have:=rm Ra k v;lia
  refine wpAny_setItem_heap (ft hu) (yL I.Yn eb) dd λh' Tr hs=>h _ ?_;obtain⟨q,es,ep,hq,h2,h3,h4,_,h5⟩:=Tr;refine z5 I (by rw[e];exact cF) hs ⟨q,hq⟩ ⟨hl,hd,_,(rel.put k eb rv).keeps λc ys ec=>?_,q,es,ep,hq,h2,h3,h4,h5⟩;rw[mj (FQ ec e (λz=>nomatch z))];exact ec
end
section
variable{X:Cx}{Q9:List (ag×Obj)}{O:St}{H:Hp}{s:aw}{a:ag}{Ra:List (Key×V)}{k:Key}{u:af}{A:b8}{E:af->aw->Prop}
def ÁQ(I:Inv X Q9 O H s)(e:H a=Za (.dK Ra))(ry:RelV (kV k) u)(l:pB Ra k=Za v)(hm:RF=[]\/∃x,RF=[x])(h:∀w' s',Inv X Q9 O (upd H a (.dK (yE Ra k))) s'->RelV v w'->Q w' s'):aP (model X.prog X.w) A (call (.builtin "dict.pop") (.ref a::u::RF)) Q E s:=by
 obtain⟨z,hd,vs,rel,dd⟩:=Mn I.Yn e;obtain⟨w',hw,RR⟩:=Ç.some_of (by rw[<-l];exact rel.val k);have hp:(keyPart u).isSome=true:=by
  obtain i|x:=k
  .obtain⟨t,q⟩:=(ry);subst q;rfl
  .obtain⟨t,rfl⟩:=(ry);rfl
 have ha:argsOk "dict.pop" ⟨.ref a::u::RF,[]⟩:=by
  obtain q|⟨x,q⟩:=hm
  .subst q;exact PySem.F.args_dict_pop_2 _ _
  .subst q;exact PySem.F.args_dict_pop_3 _ _ _
 refine jC ki dd.typeIs PySem.F.entry_dict_pop ha (meets_dict_pop_there (nI X.prog X.w) a (yC ry) RF hm hp)
  ⟨vs,w',dd,by rw[<-rel.length];exact z,hw,λh' Tr hs=>h w' _ ?_ RR⟩
 have he:∃q,h'.get? a=Za q:=let⟨q,_,_,hq,_⟩:=Tr;⟨q,hq⟩;exact z5 I (by rw[e];exact cF) hs he (DX (aI (KH Ra k) z) hd (rel.drop k) Tr)
def OZ(I:Inv X Q9 O H s)(e:Rd H a (.dK Ra))(h:∀t s',Inv X Q9 O H s'->Q (.int Ra.length t) s'):aP (model X.prog X.w) A (call (.builtin "len") [.ref a]) Q E s:=by obtain⟨z,hd,vs,rel,dd⟩:=vp I.Yn e;refine call_len_dict hd dd (by rw[<-rel.length];rw[kf] at z;lia) ?_;rw[<-rel.length];exact h _ _ (I.tok _)
end
def Q8(i:bc):Prop:=∀ov iv,subscripted i false ov iv=operate [ov,iv] (iH ov iv)
def MC{prog}{w}{A}{E}{s}{env:Env}{Ri Rv}{pos}{T id:String}{Q}(hl:ji (.type T) "__getitem__"=pure (Za (.builtin id)))(hs:Q8 Rv)(h:aP (model prog w) A (eval Ri env) (λo Rr=>aP (model prog w) A (eval Rv env) (λi SC=>SC.TypeIs o T/\aP (model prog w) A (iH o i) Q E SC) E Rr) E s) :
  aP (model prog w) A (eval (.Subscript Ri Rv pos) env) Q E s:=by
 refine Subscript_ (bw h (λo Rr VO=>bw VO (λi SC VA=>?_) λ_ _ x=>x) λ_ _ x=>x);obtain⟨hT,VA⟩:=VA;apply ah;rw[getitemInPython_of_ne hT.not_modules];refine ah (wpAny_specialOf hT hl ?_);have Rx:aP (model prog w) A (subscripted Rv false o i) (λr Rg=>aP (model prog w) A (letTemporaryGo Ri o r >>= λ_=>pure r) Q E Rg) E SC:=by rw[hs o i];exact wpAny_operating (bw VA (λr Rg UR=>ah (wpAny_letTemporaryGo (aG UR))) λ_ _ x=>x)
 first
  |exact aG (ah Rx)
  |exact ah (aG (ah Rx))
  |exact ah Rx
def yq(I:Inv X Q9 O H s)(g:Zs H a y o):s.TypeIs (.ref a) "dict":=by
 rcases g with⟨Ra,k,e,_,_⟩|⟨Ra,k,b,e,_,_,_⟩
 .obtain⟨_,_,vs,_,dd⟩:=vp I.Yn e;exact dd.typeIs
 .obtain⟨_,_,xs,_,dd⟩:=BD I.Yn e;exact dd.typeIs
def ÀU(td ty:TE):TE:=λO H Q=>td O H λx H1=>ty O H1 λy H2=>∃a v,x=.ref a/\Zs H2 a y (Za v)/\Q v H2
def Âh(ty td:TE):TE:=λO H Q=>ty O H λy H1=>td O H1 λx H2=>∃a o,x=.ref a/\Zs H2 a y o/\Q (.bl o.isSome) H2
def OC(td ty tv:TE):TS:=λD O H=>tv O H λv H1=>td O H1 λx H2=>ty O H2 λy H3=>∃a H4,x=.ref a/\ß H3 a y v H4/\D.nx O H4
section
variable{X:Cx}{o i Ri:bc}{pos Rl:Pos}{td ty tv:TE}
def xj(hu:X.A.units+1<fb)(ho:PE X o td)(hi:PE X i ty)(hs:Q8 i):PE X (.Subscript o i pos) (ÀU td ty):=by refine λQ9 s O H Q I h=>MC jq.lookup hs (Yy (ho Q9 s O H _ I h) λu s1=>e4 λx H1 I1 rx q1=>Yy (hi Q9 s1 O H1 _ I1 q1) λiv s2=>e4 λy H2 I2 ry ⟨a,v,ex,g,q2⟩=>?_);subst ex;obtain rfl:u=aR a:=rx;exact⟨yq I2 g,Cj hu I2 g ry λw' s3 I3 RR=>⟨v,H2,I3,RR,q2⟩⟩
def Lm(hu:X.A.units+1<fb)(hi:PE X i ty)(ho:PE X o td):PC X .In i o (Âh ty td):=by refine λQ9 s O H Q I h=>Yy (hi Q9 s O H _ I h) λiv s1=>e4 λy H1 I1 ry q1=>Yy (ho Q9 s1 O H1 _ I1 q1) λu s2=>e4 λx H2 I2 rx ⟨a,ov,ex,g,q2⟩=>?_;subst ex;obtain rfl:u=aR a:=rx;exact ÁR hu I2 g ry λs3 I3=>⟨.bl ov.isSome,H2,I3,rfl,q2⟩
def sd(hu:X.A.units+1<fb)(ho:PE X o td)(hi:PE X i ty)(hv:PE X Ri tv)(hs:cO Ri (Za (.Subscript o i Rl)) pos.line X.env=pure false) :
  PS X (.Assign [.Subscript o i Rl] Ri pos) (OC td ty tv):=by
 refine λQ9 s O H D I h=>wpAny_Assign_Subscript (Yy (hv Q9 s O H _ I h) λr s1=>e4 λv H1 I1 rv q1=>Yy (ho Q9 s1 O H1 _ I1 q1) λu s2=>e4 λx H2 I2 rx q2=>Yy (hi Q9 s2 O H2 _ I2 q2) λiv s3=>e4 λy H3 I3 ry ⟨a,H4,ex,g,q3⟩=>?_) hs;subst ex;obtain rfl:u=aR a:=rx;exact Ci hu I3 g ry rv λs4 I4=>⟨O,H4,I4,q3⟩
def E6(h:bi)(hb:dZ<h.objs.size):YJ P w H (h.push { cls:=.type "dict",data:=.dict #[] }) h.objs.size (.dK []) :=
 ⟨a6 _,beq_eq_false_iff_ne.mpr (bH (az hb)),[],.nil,kH h⟩
def KG(h:bi)(hb:dZ<h.objs.size):YJ P w H (h.push { cls:=.type "dict",data:=.dict #[] }) h.objs.size (.dT []) :=
 ⟨a6 _,beq_eq_false_iff_ne.mpr (bH (az hb)),[],.nil,_,#[],0,aN _ rfl,⟨rfl,rfl,rfl⟩,rfl,rfl,iC⟩
def Pf:TE:=λ_ H Q=>∀p,H p=Zb->Q (.ref p) (upd H p (.dK []))
def Pe:TE:=λ_ H Q=>∀p,H p=Zb->Q (.ref p) (upd H p (.dT []))
def ZU:PE X (.Dict [] [] pos) Pf:=λQ9 s O H Q I h =>
 wpAny_Dict_empty ⟨.ref s.heap.objs.size,_,I.laid (λ_ _ q=>ak _ q) (al _) (E6 s.heap I.big),rfl,h _ (I.Yn.fresh (al _))⟩
def ϟ:PE X (.Dict [] [] pos) Pe:=λQ9 s O H Q I h =>
 wpAny_Dict_empty ⟨.ref s.heap.objs.size,_,I.laid (λ_ _ q=>ak _ q) (al _) (KG s.heap I.big),rfl,h _ (I.Yn.fresh (al _))⟩
end
def Go:List (TE×TE)->St->Hp->(List (V×V)->Hp->Prop)->Prop
 |[],_,H,Q=>Q [] H
 |(tk,tv)::r,O,H,Q=>tk O H λx H1=>tv O H1 λy H2=>Go r O H2 λps H3=>Q ((x,y)::ps) H3
abbrev VV:List (V×V)->List (af×af)->Prop:=eU λp q=>RelV p.1 q.1/\RelV p.2 q.2
def PPs(X:Cx)(pos:Pos)(keys:List (Option bc))(Se:List bc)(Ub:List (TE×TE)):Prop :=
 ∀(Q9:List (ag×Obj))(s:aw)(O:St)(H:Hp)(Q:List (V×V)->Hp->Prop),Inv X Q9 O H s->Go Ub O H Q ->
  aP (model X.prog X.w) X.A (evalPairs (pairTrees keys Se X.env pos)) (λvs s'=>∃ps H',Inv X Q9 O H' s'/\VV ps vs/\Q ps H') X.xe s
def G8:PPs X pos [] [] []:=λQ9 s O H Q I h=>pairTrees_nil_walk ⟨[],H,I,.nil,h⟩
def EM(hk:PE X k tk)(hv:PE X v tv)(hr:PPs X pos ks vs Ub) :
  PPs X pos (Za k::ks) (v::vs) ((tk,tv)::Ub):=λQ9 s O H Q I h =>
 pairTrees_cons_walk (Yy (hk Q9 s O H _ I h) λu s1=>e4 λx H1 I1 rx q1=>Yy (hv Q9 s1 O H1 _ I1 q1) λw2 s2=>e4 λy H2 I2 ry q2 =>
  Yy (hr Q9 s2 O H2 _ I2 q2) λws s3=>e4 λps H3 I3 rel q3=>⟨(x,y)::ps,H3,I3,.cons ⟨rx,ry⟩ rel,q3⟩)
def Bl(Ra RF:List (Key×V)):List (Key×V):=RF.foldl (λRu kv=>qY Ru kv.1 kv.2) Ra
def KV.merge:∀{RF:List (Key×V)}{rs:List (Key×af)}{Ra:List (Key×V)}{vs:List (Key×af)},KV RF rs->KV Ra vs->KV (Bl Ra RF) (merged vs rs):=by
 intro RF rs Ra vs r;induction r generalizing Ra vs with
 |nil=>intro q;exact q
 |@cons p q ps qs h t ih =>
  intro r0;have e:KV (qY Ra p.1 p.2) (stored vs q.1 q.2):=by have:=r0.put p.1 h.2;rw[<-h.1];exact this
  exact ih e
theorem vG:∀(RF Ra:List (Key×V)),(Bl Ra RF).length<=Ra.length+RF.length
 |[],Ra=>by show Ra.length<=Ra.length+0;lia
 |p::r,Ra=>by
  have h1:=vG r (qY Ra p.1 p.2);have h2:=rm Ra p.1 p.2;show(Bl (qY Ra p.1 p.2) r).length<=_
  grind
theorem Ab:∀{Ra:List (Key×V)}{ws:List (af×af)},VV (Ra.map λkv=>(kV kv.1,kv.2)) ws->∃rs,Carries (nI P w) ws rs/\KV Ra rs
 |[],_,r=>by rw[cP] at r;cases r;exact⟨[],cF,.nil⟩
 |p::Ra,_,r=>by
  rw[am] at r;cases r with
  |@cons a b as bs h t =>
   obtain⟨rs,c,q⟩:=Ab t;obtain⟨b1,b2⟩:=b;exact⟨(p.1,b2)::rs,⟨yC h.1,rfl,c⟩,.cons ⟨rfl,h.2⟩ q⟩
def ÀT(Ub:List (TE×TE)):TE:=λO H Q=>∀p,H p=Zb->Go Ub O (upd H p (.dK [])) λps H2=>H2 p=Za (.dK [])/\∃Ra:List (Key×V),ps=Ra.map (λkv=>(kV kv.1,kv.2))/\Ra.length<=15/\Q (.ref p) (upd H2 p (.dK (Bl [] Ra)))
def Ha(h:PPs X pos keys Se Ub)(Uz:keys.all (·.isSome)=true)(hl:keys.length=Se.length)(h0:keys≠[])(h15:keys.length<=15):PE X (.Dict keys Se pos) (ÀT Ub):=by
 intro Q9 s O H Q I q;have hn:=I.Yn.fresh (al s.heap.objs.size);have I1:=I.laid (t':=s.toks) (λ_ _ q=>ak _ q) (al _) (E6 s.heap I.big);refine wpAny_Dict_walk (knd:=nI X.prog X.w) Uz hl h0 h15 (Yy (h Q9 _ O _ _ I1 (q _ hn)) λws s2=>e4 λps H2 I2 rel ⟨e,Ra,ep,lk,q2⟩=>?_);subst ep;obtain⟨rs,c,rk⟩:=Ab rel;obtain⟨z,hd,S6,⟨⟩,dd⟩:=Mn I2.Yn e;refine⟨rs,c,dd,λh' Tr hs=>⟨.ref s.heap.objs.size,_,?_,rfl,q2⟩⟩;have hz:(Bl [] Ra).length<=aH:=by have h1:=vG Ra [];rw[jv] at h1;rw[kf];lia
 have he:∃q,h'.get? s.heap.objs.size=Za q:=let⟨q,_,_,hq,_⟩:=Tr;⟨q,hq⟩;exact z5 I2 (by rw[e];exact cF) hs he (DX hz hd (rk.merge .nil) Tr)
structure M1(X:Cx)(o:bc)(m:Str)(Rc:Pos)(e:bc)(Rb:Pos):Prop where
 base:cL o m X.env (eval o X.env)=eval o X.env
 few:((bP Rb (aq [e] X.env)).all (λx=>!x.1)&&(eO Rb (cM [] X.env)).all (λx=>x.1.isSome)
  && decide (([e]:List bc).length+([]:List fK).length+(if([]:List fK).isEmpty then 0 else 1)<30))=true
 line:(Rc.endLine==Rb.line)=true
 trees:bP Rb (aq [e] X.env)=[(false,eval e X.env)]
structure M2(X:Cx)(o:bc)(m:Str)(Rc:Pos)(e f:bc)(Rb:Pos):Prop where
 base:cL o m X.env (eval o X.env)=eval o X.env
 few:((bP Rb (aq [e,f] X.env)).all (λx=>!x.1)&&(eO Rb (cM [] X.env)).all (λx=>x.1.isSome)
  && decide (([e,f]:List bc).length+([]:List fK).length+(if([]:List fK).isEmpty then 0 else 1)<30))=true
 line:(Rc.endLine==Rb.line)=true
 trees:bP Rb (aq [e,f] X.env)=[(false,eval e X.env),(false,eval f X.env)]
def IsD(H:Hp)(a:ag):Prop:=(∃Ra,Rd H a (.dK Ra))\/∃Ra,Rd H a (.dT Ra)
def GE(I:Inv X Q9 O H s)(d:IsD H a) :
  s.TypeIs (.ref a) "dict"/\(∀b,aR a=.ref b->∃ob,s.heap.get? b=Za ob/\ob.dict=Zb)/\(a==dZ)=false:=by
 rcases d with⟨Ra,e⟩|⟨Ra,e⟩
 .obtain⟨_,hd,vs,_,dd⟩:=vp I.Yn e;refine⟨dd.typeIs,λb q=>?_,hd⟩;cases q;obtain⟨ob,_,_,h1,h2,_⟩:=dd;exact⟨ob,h1,h2.2.1⟩
 .obtain⟨_,hd,xs,_,dd⟩:=BD I.Yn e;refine⟨dd.typeIs,λb q=>?_,hd⟩;cases q;obtain⟨ob,_,_,h1,h2,_⟩:=dd;exact⟨ob,h1,h2.2.1⟩
section
variable{X:Cx}{Q9:List (ag×Obj)}{O:St}{H:Hp}{s:aw}{a:ag}{y d:V}{u r:af}{o:Option V}{A:b8}{E:af->aw->Prop}
def QM(hu:A.units+1<fb)(I:Inv X Q9 O H s)(g:Zs H a y o)(ry:RelV y u)(rd:RelV d r)(h:∀w' s',Inv X Q9 O H s'->RelV (o.getD d) w'->Q w' s') :
  aP (model X.prog X.w) A (call (.builtin "dict.get") [.ref a,u,r]) Q E s:=by
 rcases g with⟨Ra,k,e,ey,l⟩|⟨Ra,k,b,e,ey,eb,l⟩
 .subst ey;obtain⟨z,hd,vs,rel,dd⟩:=vp I.Yn e;refine jC gS dd.typeIs jX (jN _ _ _) (meets_dict_get_default (nI X.prog X.w) a (yC ry) hd r) ⟨_,dd.mapOf,h _ _ (I.tok _) ?_⟩;rw[l];exact(rel.val k).getD rd
 .subst ey;cases(ry);obtain⟨z,hd,xs,rel,dd⟩:=BD I.Yn e;refine jC gS dd.typeIs jX (jN _ _ _) (meetsH_dict_get_default (i6 (nI X.prog X.w)) a b hd r) ⟨ft hu,k,xs,yL I.Yn eb,dd,h _ _ (I.tok _) ?_⟩;rw[l];exact(rel.val k).getD rd
end
def K8(td ty tx:TE):TE:=λO H Q=>td O H λx H1=>∃a,x=.ref a/\IsD H1 a/\ty O H1 λy H2=>tx O H2 λz H3=>∃o,Zs H3 a y o/\Q (o.getD z) H3
def Pd(td ty:TE):TE:=λO H Q=>td O H λx H1=>∃a,x=.ref a/\IsD H1 a/\ty O H1 λy H2=>∃Ra k v,H2 a=Za (.dK Ra)/\y=kV k/\pB Ra k=Za v/\Q v (upd H2 a (.dK (yE Ra k)))
section
variable{X:Cx}{o e f:bc}{Rc Rb:Pos}{td ty tx:TE}
def At(hu:X.A.units+1<fb)(ho:PE X o td)(he:PE X e ty)(hf:PE X f tx)(m:M2 X o "get" Rc e f Rb):PE X (.Call (.Attribute o "get" Rc) [e,f] [] Rb) (K8 td ty tx):=by
 refine λQ9 s O H Q I h=>wpAny_Call_method m.base m.few m.line gB gS PySem.F.type_dict_get (Yy (ho Q9 s O H _ I h) λu s1=>e4 λx H1 I1 rx ⟨a,ex,d,q1⟩=>?_);subst ex;obtain rfl:u=aR a:=rx;obtain⟨t1,t2,_⟩:=GE I1 d;refine⟨t1,t2,?_⟩;rw[m.trees];refine fc rfl (fL (eR (Yy (he Q9 s1 O H1 _ I1 q1) λiv s2=>e4 λy H2 I2 ry q2 =>
  eR (Yy (hf Q9 s2 O H2 _ I2 q2) λfv s3=>e4 λz H3 I3 rz ⟨ov,g,q3⟩=>gA ?_))))
 exact QM hu I3 g ry rz λw' s4 I4 RR=>⟨_,H3,I4,RR,q3⟩
def EQ(ho:PE X o td)(he:PE X e ty)(m:M1 X o "pop" Rc e Rb):PE X (.Call (.Attribute o "pop" Rc) [e] [] Rb) (Pd td ty):=by refine λQ9 s O H Q I h=>wpAny_Call_method m.base m.few m.line gB ki PySem.F.type_dict_pop (Yy (ho Q9 s O H _ I h) λu s1=>e4 λx H1 I1 rx ⟨a,ex,d,q1⟩=>?_);subst ex;obtain rfl:u=aR a:=rx;obtain⟨t1,t2,_⟩:=GE I1 d;refine⟨t1,t2,?_⟩;rw[m.trees];refine fc rfl (fL (eR (Yy (he Q9 s1 O H1 _ I1 q1) λiv s2=>e4 λy H2 I2 ry ⟨Ra,k,v,ea,ey,l,q2⟩=>gA ?_)));subst ey;exact ÁQ I2 ea ry l (.inl rfl) λw' s3 I3 RR=>⟨v,_,I3,RR,q2⟩
end
end L2
namespace Att
open PySem PySem.W PySem.Calls PyProof.Rows
def yD:∀(ns:List Int)(vs:List af),WellAll P h vs (ns.map iy)->IntsAre vs ns:=by
 intro ns;induction ns with
 |nil =>
  intro vs w;rw[cP] at w;cases w;exact .nil
 |cons n ns ih =>
  intro vs w;rw[am] at w;cases w with
  |cons a b =>
   cases a;exact .cons _ _ (ih _ b)
def HZ{l:gH}{n}(hn:l.most=Za n){P:Params}{h}{args}{T9}(TB:l.row.toRowW.claim.pre args=true)(W7:WellAll P h T9 args) :
  ∃a vs ns,T9=[aR a]/\args=[WData.list (ns.map iy)]/\h.get? a=Za { cls:=.type "list",data:=.seq vs.toArray }/\IntsAre vs ns/\ns.length<=n:=by
 have hsh:=(pre_splitW TB).1;have hc:l.pre.holds [] { args:=args }=true:=(pre_splitW TB).2;obtain⟨d,r,rfl,h1,h2⟩:=hasAllW_cons hsh;obtain rfl:=hasAllW_nil h2;obtain⟨xs,rfl,h3⟩:=hasW_list h1;obtain⟨ns,rfl⟩:=items_int h3;have Re:ns.length<=n:=by
  have h4:(WTm.not (.lt (.lit (.int n)) (.len (.arg 0)))).holds [] { args:=[.list (ns.map .int)] }=true:=by have h4:=(holds_andW hc).1;rw[hn] at h4;exact h4
  have h5:=condW_of h4 (w_not (w_lt w_lit (w_len_list (w_arg rfl))))
  grind
 cases W7 with
 |cons w1 w2 =>
  cases w2;cases w1 with
  |list ho Uz=>exact⟨_,_,ns,rfl,rfl,ho,yD ns _ Uz,Re⟩
def Ih(l:gH)(args):l.row.toRowW.claim.post args (.bool true) args=true :=
 postW_of
  (show WShape.has [] (.bool true) .bool=true by first|rfl|decide|simp[WShape.has,WShape.arms,WShape.armsAll])
  (w_eq_bool (w_res rfl) w_lit) rfl
end Att
namespace L2
open PySem PySem.Spec PyProof.Rows
theorem BN:∀{vs:List af}{ns:List Int},IntsAre vs ns->Vals (ns.map V.int) vs
 |_,_,.nil=>.nil
 |_,_,.cons n t h=>.cons ⟨t,rfl⟩ (BN h)
def Ow(H:Hp):Prop:=∀b,H b=Zb\/∃o xs,H b=Za (.YZ o (.lst xs))
def Ks{P}{w}{K}{mg mb}{CX:Ŷ}{k}{fa a}{fd}{x}{sp:Sp}{Rr}{vs}{ns}(KX:K.In Rr.heap)(SS:Rr.heap.Ns aV mg)(hb:Rr.heap.Ns jk mb)(hbb:∀x:Str,x≠"__name__"->mb x=bu x)(Xj:Rr.heap.NoLimit)(hg:Rr.gens=#[])(ha:Rr.heap.get? a=Za { cls:=.type "list",data:=.seq vs.toArray })(hi:IntsAre vs ns)(hl:ns.length<=aH)(hr:YA k jB)(F:∀base:bi,K.In base->base.Ns aV mg->YD P w K mg base CX k fa fd [x] sp)(VL:∀(s:aw)(u:af),jI s fd ⟨[u],[]⟩ [(x,u)])(Tn:∀H:Hp,Ow H->YY K H a (ns.map V.int)->sp [.ref a] H (λv _=>v=.bl true) λ_ _ _=>False)(XR:∀H e s',CX [] H Rr (λ_ _ _=>False) e s'->False) :
  fj (model P w) jB (.call (.ref fa) ⟨[.ref a],[]⟩) (λr s'=>r=.ok (.ret (.bool true))/\OldK Rr.heap s'.heap/\s'.os=Rr.os/\gW s'.gens) Rr:=by
 have rv:=BN hi;have W0:=hi.length;have VW:∀H:Hp,Ow H->YY K H a (ns.map V.int)->Õ P w H Rr.heap->(∀b,H b≠Zb->b=a)->(H a≠Zb->K.lookup a=Zb) ->
   fj (model P w) jB (.call (.ref fa) ⟨[.ref a],[]⟩) (λr s'=>r=.ok (.ret (.bool true))/\OldK Rr.heap s'.heap/\s'.os=Rr.os/\gW s'.gens) Rr:=by
  intro H hO hS Yn hA hK;have SL:∀{b:ag}{o:Obj},Rr.heap.get? b=Za o->H b=Zb->(Hj Rr.heap H).get? b=Za o:=λe n=>Kv e n;have U8:∀{b:ag}{o:Obj}{es:Array DictEntry}{ep:Nat},Rr.heap.get? b=Za o->o.data=.dict es ep->H b=none:=λ{b o es ep} e d=>by
   grind
  have V7:∀{b:ag}{m:Str->Option af},Rr.heap.Ns b m->(Hj Rr.heap H).Ns b m:=λ{b m} ⟨o,es,ep,e,d,r⟩=>⟨o,es,ep,SL e (U8 e d),d,r⟩;have hKb:=λb o e=>SL (KX b o e) (by
   cases q:H b with
   |none=>rfl
   |some u =>
    have e':=hA b (by rw[q];simp);subst e';rw[hK (by rw[q];simp)] at e;cases e)
  have hM:Mod K mg (Hj Rr.heap H):=⟨hKb,V7 SS,⟨mb,V7 hb,hbb⟩,let⟨mc,h1,h2⟩:=Xj;⟨mc,V7 h1,h2⟩⟩;have e0:ŵ P w K mg (Hj Rr.heap H) jB [] Rr H:=⟨rfl,hM,λb o e=>Nr e,jf (IL _ _),trivial,λb hb=>absurd (show b∈([]:List ag) from hb) (by simp),Yn,.of_eq hg⟩;refine fH ((F _ hKb (V7 SS)).run jB [] Rr H ⟨[.ref a],[]⟩ [.ref a] [.ref a] _ _ hr e0 (VL Rr (.ref a)) (.cons rfl .nil) (Tn H hO hS)) λr s' h=>?_;cases r with
  |error e=>exact(XR H e s' h).elim
  |ok fl =>
   cases fl with
   |next=>exact bo h
   |brk=>exact bo h
   |cont=>exact bo h
   |ret u =>
    obtain⟨v,H',os,bare,un,Xc,r',q⟩:=h;have q':=q;subst q';obtain rfl:u=Value.bool true:=r';refine⟨rfl,OldK.of_keep λb o e=>?_,os,bare⟩;cases q:H b with
    |none=>exact un.keep b o e q (λz=>absurd (show b∈([]:List ag) from z) (by simp)) (by simp)
    |some u =>
     obtain z|⟨ob,xs,z⟩:=hO b
     .grind
     .have z2:=un.ZO b ob _ z;obtain⟨e1,_⟩:=Yn b _ z;obtain⟨e2,_⟩:=Xc b _ z2
      grind
 cases hk:K.lookup a with
 |some o =>
  have e:=KX a o hk;rw[ha] at e;cases e;refine VW (λ_=>Zb) (λ_=>.inl rfl) (.inr ⟨_,vs.toArray,_,hk,rfl,rfl,rfl,by rw[bj,W0];exact hl,by simpa using rv⟩) (λb u z=>by have z':=z;cases z') (λb z=>absurd rfl z) λz=>absurd rfl z
 |none =>
  refine VW (λb=>if b=a then Za (.YZ { cls:=.type "list",data:=.seq vs.toArray } (.lst (ns.map V.int))) else Zb) (λb=>?_) (.inl (.inr ⟨{ cls:=.type "list",data:=.seq vs.toArray },Zc rfl⟩)) (λb u z=>?_) (λb z=>?_) λ_=>hk
  .grind
  .by_cases hb:b=a
   .have z':=(Zc hb).symm.trans z;cases z';subst hb;exact⟨ha,by rw[ac];exact hl,vs,_,rv,ha⟩
   .grind
  .grind
def oS(s:bN)(j:Nat):bN:=match s with
 |.ClassDef _ _ _ body _ _ _ _ _ _ _=>body.getD j (.Pass ⟨0,0,0,0⟩)
 |_=>.Pass ⟨0,0,0,0⟩
def oT(s:bN):jY:=match s with
 |.FunctionDef _ a _ _ _ _ _ _ _ _=>a
 |_=>{ posonlyargs:=[],args:=[],vararg:=Zb,kwonlyargs:=[],kw_defaults:=[],kwarg:=Zb,defaults:=[] }
def oj(s:bN):List bN:=match s with
 |.FunctionDef _ _ b _ _ _ _ _ _ _=>b
 |_=>[]
def mw(s:bN):dF:=match s with
 |.FunctionDef _ _ _ _ _ _ sc _ _ _=>sc
 |_=>{ kind:=.function,names:=[],isGenerator:=false,isCoroutine:=false }
abbrev E0:XK:=λ_ _ _=>False
structure Î(K:aa)(x qual:Str)(st:bN)(f:ag)(fd:cj):Prop where
 ex:∃(oc:af)(od:Option ag)(kV Sj pm:af)(an:Option ag)(Rk ct:af)(Ts:Array (Option af)),
  fd=bZ x qual (oT st) (oj st) (mw st) .none kV Sj pm an Rk ct/\K.lookup f=Za ⟨oc,od,.func fd,Ts⟩/\fW K Rk qual=true
 kp:bW K (.ref f)=true
section
variable{K:aa}
def Î.binds{x qual}{st}{f}{fd}{ps}(F:Î K x qual st f fd)(h:∀(kV Sj pm:af)(an:Option ag)(Rk ct:af)(us:List af),us.length=ps.length->f9 (bZ x qual (oT st) (oj st) (mw st) .none kV Sj pm an Rk ct) ⟨us,[]⟩=pure (ps.zip us)):Binds K fd ps []:=by
 obtain⟨oc,od,kV,Sj,pm,an,Rk,ct,Ts,rfl,lk,R9⟩:=F.ex;exact .all (h kV Sj pm an Rk ct)
def LD{x qual}{st}{f}{oc}{od an}{Ts:Array (Option af)}{kV Sj pm Rk ct}(l:K.lookup f=Za ⟨oc,od,.func (bZ x qual (oT st) (oj st) (mw st) .none kV Sj pm an Rk ct),Ts⟩)(c:fW K Rk qual=true)(k:bW K (.ref f)=true):Î K x qual st f (bZ x qual (oT st) (oj st) (mw st) .none kV Sj pm an Rk ct):=⟨⟨oc,od,kV,Sj,pm,an,Rk,ct,Ts,rfl,l,c⟩,k⟩
end
def qN(hr:YA k A):A.units+1<fb:=aZ (lW (by grind) _) hr.units
section
variable{X:Cx}
def pv(i)(hN:X.N[i]?=Za x:=by rfl)(hv:Vis X.env.scope x:=by first|exact eA rfl|exact gJ (eA rfl)|exact gJ (gJ rfl))(hd:Ò x:=by decide)(R9:(x==("__classdict__":Str))=false:=by decide):PE X (.Name x pos) (Jz i):=DH hN hv hd R9
def Cr:YV X (.builtin "len") (λxs H Q=>∃a Ra,xs=[V.ref a]/\H a=Za (.dK Ra)/\Q (.int Ra.length) H):=by
 rintro Q9 s O H xs us Q I r ⟨a,Ra,rfl,ha,q⟩
 obtain⟨u,rfl,rfl⟩:=rh r;exact OZ I (.inl ha) λt s' I'=>⟨.int Ra.length,H,I',⟨t,rfl⟩,q⟩
end
def NH{A B:Prop}(h:B):if false=true then A else B:=by grind
def NG{A B:Prop}(h:A):if true=true then A else B:=by grind
def vH{c A B:Prop}[Decidable c](h1:c->A)(h2:¬c->B):if c then A else B:=by grind
def YQ(H H':Hp):Prop:=∀b o,H b=Za o->H' b=Za o
def YQ.trans(a:YQ H H1)(b:YQ H1 H2):YQ H H2:=λc o h=>b c o (a c o h)
def YQ.free(e:YQ H H')(h:H' l=Option.none):H l=Option.none:=by
 cases q:H l with
 |none=>rfl
 |some o =>
  rw[e l o q] at h;cases h
def YQ.seq{K}{H H'}{a}{xs}(e:YQ H H')(h:YY K H a xs):YY K H' a xs:=by
 rcases h with(h|⟨o,h⟩)|h
 .exact .inl (.inl (e _ _ h))
 .exact .inl (.inr ⟨o,e _ _ h⟩)
 .exact .inr h
section
variable{κ:Type}[DecidableEq κ]
def zC:∀{l:List κ}{k:κ},l.Nodup->¬k∈l->(l++[k]).Nodup
 |[],k,_,_=>by simp
 |a::r,k,h,hk=>by
  obtain⟨h1,h2⟩:=aM.mp h
  grind
end
def ff:(bS==bS)=true:=rfl
noncomputable def rb(cells:List (Str×ag)):List (Str×iu)->List (Str×ag)->List (Str×ag)
 |[],cs=>cs
 |(n,k)::r,cs=>rb cells r (if k==.free then(n,(cells.lookup n).getD 0)::cs else cs)
theorem xV(env:Env):∀(names:List (Str×iu))(cs:List (Str×ag)),(∀y∈names,y.2=.free->∃c,env.cells.lookup y.1=Za c) ->
  (forIn names cs λ(x:Str×iu)(r:List (Str×ag))=>match x with
   |(name,kind)=>if(kind==.free)=true then(do let c <-cellOf env name;pure (eE ((name,c)::r))) else pure (eE r):Sem (List (Str×ag)))=pure (rb env.cells names cs)
 |[],cs,_=>rfl
 |(n,k)::r,cs,h=>by
  rw[List.forIn_cons];by_cases hk:k=.free
  .subst hk;obtain⟨c,hc⟩:=h (n,.free) ai rfl;have hc:=hc;have ih:=xV env r ((n,c)::cs) λy hy=>h y (ae _ hy);have e1:rb env.cells ((n,bS)::r) cs=rb env.cells r ((n,c)::cs):=by
    show rb env.cells r (if(bS==bS)=true then(n,(env.cells.lookup n).getD 0)::cs else cs)=_
    simp_all
   rw[e1,<-ih];have e2:cellOf env n=pure c:=by unfold cellOf;rw[hc]
   simp_all
  .have hb:(k==bS)=false:=by simpa using hk
   have ih:=xV env r cs λy hy=>h y (ae _ hy);have e1:rb env.cells ((n,k)::r) cs=rb env.cells r cs:=by
    show rb env.cells r (if(k==bS)=true then(n,(env.cells.lookup n).getD 0)::cs else cs)=_
    simp_all
   simp_all
def qj(h:∀y∈scope.names,y.2=.free->∃c,env.cells.lookup y.1=Za c):closureFor scope env=pure (rb env.cells scope.names []):=by have e:=xV env scope.names [] h;refine Eq.trans ?_ (congrArg (λm:Sem (List (Str×ag))=>m >>= pure) e);rfl
theorem E9:∀(names:List (Str×iu))(cs:List (Str×ag)),(∀z∈names,z.2=.free->∃c,cells.lookup z.1=Za c)->(∀z d,cs.lookup z=Za d->cells.lookup z=Za d) ->
  (rb cells names cs).lookup y=Za c->cells.lookup y=Za c
 |[],cs,_,VJ,h=>VJ y c h
 |(n,k)::r,cs,hf,VJ,h=>by
  refine E9 r _ (λz hz=>hf z (ae _ hz)) ?_ h;by_cases hk:k=.free
  .subst hk;obtain⟨d,hd⟩:=hf (n,.free) ai rfl
   grind
  .grind
theorem Aa:∀(names:List (Str×iu))(cs:List (Str×ag)),(cs.lookup y).isSome=true->((rb cells names cs).lookup y).isSome=true
 |[],cs,h=>h
 |(n,k)::r,cs,h=>by
  refine Aa r _ ?_;by_cases hk:(k==bS)=true
  .rw[Zc hk,cz];cases z:(y==n)
   .exact h
   .rfl
  .rw[Zd hk];exact h
theorem Cq:∀(names:List (Str×iu))(cs:List (Str×ag)),(y,bS)∈names->((rb cells names cs).lookup y).isSome=true
 |(n,k)::r,cs,h=>by
  obtain e|e:=ao.mp h
  .cases e;refine Aa r _ ?_;rw[Zc ff,cz];simp
  .exact Cq r _ e
noncomputable def í(X:Cx)(scope:dF)(cl:List (Str×ag))(C:ag)(Nb:List Str)(Rg:aw)(Rh:Hp)(fp:List ag):Cx where
 prog:=X.prog
 w:=X.w
 K:=X.K
 mg:=X.mg
 base:=X.base
 A:=X.A
 N:=Nb
 Y':=Rg
 Ha0:=Rh
 env:=compEnvC scope cl C X.env
 outer:=X.stack
 stack:=X.stack
 ex:=fp
 fn:=λ_=>false
 calm:=true
 pn:=[]
 xe:=λ_ _=>False
structure ZQ(N:List Str)(VS:dF)(scope:dF)(x:Str)(fr:List Str)(ix:List Nat):Prop where
 kind:scope.kind=.function
 cell:∀y∈scope.names,y.2≠.cell
 loc:scope.names.lookup x=Za .local
 nm:∀y∈scope.names,y.2=.local->scope.names.lookup y.1=Za .local
 free:∀y∈scope.names,y.2=.free->VS.names.lookup y.1=Za .cell
 nd:(x::fr).Nodup
 idx:∀p∈fr.zip ix,N[p.2]?=Za p.1
 ZE:∀y∈fr,scope.names.lookup y=Za .free/\VS.names.lookup y=Za .cell
 len:ix.length=fr.length
def O1{X:Cx}{N ps:List Str}{e c:dF}{x:Str}{fr:List Str}{ix:List Nat}(S:N' N ps e)(h0:X.N=N:=by rfl)(VP:X.env.scope=e:=by rfl)(h1:c.kind=.function:=by rfl)(h2:∀y∈c.names,y.2≠.cell:=by decide +kernel)(h3:c.names.lookup x=Za .local:=by rfl)(h4:∀y∈c.names,y.2=.local->c.names.lookup y.1=Za .local:=by decide +kernel)(h5:∀y∈c.names,y.2=.free->e.names.lookup y.1=Za .cell:=by decide +kernel)(h6:(x::fr).Nodup:=by decide +kernel)(h7:∀p∈fr.zip ix,N[p.2]?=Za p.1:=by decide +kernel)(h8:∀y∈fr,c.names.lookup y=Za .free/\e.names.lookup y=Za .cell:=by decide +kernel)(h9:ix.length=fr.length:=by rfl):ZQ X.N X.env.scope c x fr ix:=by rw[h0,VP];exact⟨h1,h2,h3,h4,h5,h6,h7,h8,h9⟩
noncomputable def Zy(ix:List Nat)(O:St):St:=ix.map λi=>(O[i]?).getD Zb
def Gh(X:Cx)(Ry:List bc)(t:TT):Prop :=
 ∀(Q9:List (ag×Obj))(s:aw)(O:St)(H:Hp)(Q:Bool->Hp->Prop),Inv X Q9 O H s->t O H Q ->
  aP (model X.prog X.w) X.A (forIn Ry true λc r=>if r=true then do let ok <-isTrue c X.env (eval c X.env);pure (eE ok) else pure (eE r)) (TP X Q9 O Q) X.xe s
def ÀM:TT:=λ_ H Q=>Q true H
def As:Gh X [] ÀM:=λQ9 s O H Q I h=>aG ⟨H,I,h⟩
def J1(h:PT X c t):Gh X [c] t:=by intro Q9 s O H Q I hq;rw[List.forIn_cons];apply ah;refine ah (Yy (h Q9 s O H Q I hq) λb s1 h1=>aG ?_);show aP _ _ (forIn [] b _) _ _ _;exact aG h1
def Ę(J:It)(tc:TT)(te:TE)(cap:St)(D:ag)(H1:Hp)(Q:VK):Prop :=
 ∃Pv:Nat->Nat->List V->Hp->Prop,(∃m,Pv 0 m [] (upd H1 D (.lst [])))/\∀i m ys H2,Pv i m ys H2 ->
  (J.stop i H2/\H2 D=Za (.lst ys)/\Q (.ref D) H2)\/(J.go i H2/\∀x H3,J.yld i H2 x H3->tc (Za x::cap) H3 λb H4=>if b=true then
   te (Za x::cap) H4 λv H5=>H5 D=Za (.lst ys)/\ys.length<aH/\∃m',m'<m/\Pv (i+1) m' (ys++[v]) (upd H5 D (.lst (ys++[v])))
   else ∃m',m'<m/\Pv (i+1) m' ys H4)
def Jl(wi:TI)(ix:List Nat)(tc:TT)(te:TE):TE:=λO H Q=>wi O H λJ H1=>∀D,H1 D=Zb->Ę J tc te (Zy ix O) D H1 Q
section
variable{X:Cx}{scope:dF}{ix:List Nat}
theorem qC{env:Env}(hk:env.scope.kind=.function):∀{names:List (Str×iu)}{y:Str},names.lookup y=Za .free->env.scope.names.lookup y=Za .cell ->
  (names.map λ(n,k)=>if(k==bS&&env.scope.kind==.function&&env.kindOf n==Za .cell) then(n,ir) else(n,k)).lookup y=Za .cell
 |[],_,h,_=>by simp at h
 |(n,k)::r,y,h,hc=>by
  have ih:=@qC env hk r y;show gD y ((if(k==bS&&env.scope.kind==.function&&env.kindOf n==Za .cell)=true then(n,ir) else(n,k))::_)=_;cases hx:y==n with
  |true =>
   simp[cz,hx] at h;have e:y=n:=by simpa using hx
   have e2:env.kindOf y=Za .cell:=hc
   simp_all
  |false =>
   simp[cz,hx] at h;split
   .simp only[cz,hx];exact ih h hc
   .simp only[cz,hx];exact ih h hc
def KU{ix:List Nat}{O:St}{k:Nat}{v:V}(h:(Zy ix O)[k]?=Za (Za v)):∃i,ix[k]?=Za i/\O[i]?=Za (Za v):=by
 unfold Zy at h;rw[aF] at h;cases e:ix[k]? with
 |none=>rw[e] at h;cases h
 |some i =>
  rw[e] at h;refine⟨i,rfl,?_⟩;have h2:(O[i]?).getD Zb=Za v:=bO h;cases q:O[i]? with
  |none=>rw[q] at h2;cases h2
  |some o=>rw[q] at h2;exact congrArg Za h2
def O6(X:Cx)(Q9:List (ag×Obj))(C:ag):Prop:=C≠X.env.locals/\X.Y'.heap.objs.size<=C/\(∀y c,X.env.cells.lookup y=Za c->c≠C)/\∀p∈X.pn++Q9,p.1≠C
end
section
variable{prog:aL}{w:aX}{A:b8}{R:jU->aw->Prop}{s:aw}
def F9(I:Nat->aw->Prop)(Sx:∀n s,I n s->aP (model prog w) A (pyNext it) (λr Rr=>match r with
   |none=>R (.ok .next) Rr
   |some v=>aP (model prog w) A (kn Sf it v) (λ_ Y'=>aP (model prog w) A (assign Sf env v) (λ_ SC =>
     aP (model prog w) A (forIn Ry true λc r=>if r=true then do let ok <-isTrue c env (eval c env);pure (eE ok) else pure (eE r)) (λok Rg =>
      if ok=true then aP (model prog w) A (eval Rz env) (λx UG =>
       aP (model prog w) A (call (.builtin "list.append") [Ru,x]) (λ_ sa5=>∃m,m<n/\I m sa5) (kC (model prog w) A env λe s'=>R (.error e) s') UG) (kC (model prog w) A env λe s'=>R (.error e) s') Rg
      else ∃m,m<n/\I m Rg) (kC (model prog w) A env λe s'=>R (.error e) s') SC) (kC (model prog w) A env λe s'=>R (.error e) s') Y') (kC (model prog w) A env λe s'=>R (.error e) s') Rr) (kC (model prog w) A env λe s'=>R (.error e) s') s)(n:Nat)(h:I n s) :
  fj (model prog w) A (.compLoop (.ListComp Rz [⟨Sf,iter,Ry,0⟩] scope pos) 0 it Ru env) R s:=by
 refine codeAny_loop rfl I (λn s hI=>?_) n h;apply wpAny_noted;rw[compTurn_list];refine ah (eg (ah (bw (Sx n s hI) (λr Rr VO=>?_) λ_ _ h'=>h')));cases r with
 |none=>exact aG VO
 |some v =>
  refine ah (bw VO (λ_ Y' h₀=>?_) λ_ _ h'=>h');refine ah (bw h₀ (λ_ SC VA=>ah (bw VA (λok Rg UR=>?_) λ_ _ h'=>h')) λ_ _ h'=>h');cases ok with
  |false=>exact aG ⟨rfl,UR⟩
  |true =>
   exact ah (ah (bw UR (λx UG ha4=>ah (bw ha4 (λ_ sa5 hb5=>aG (aG ⟨rfl,hb5⟩)) λ_ _ h'=>h')) λ_ _ h'=>h'))
end
structure Ó(N:List Str)(VS:dF)(scope:dF)(xs fr:List Str)(ix:List Nat):Prop where
 kind:scope.kind=.function
 cell:∀y∈scope.names,y.2≠.cell
 nm:∀y∈scope.names,y.2=.local->scope.names.lookup y.1=Za .local
 free:∀y∈scope.names,y.2=.free->VS.names.lookup y.1=Za .cell
 nd:(xs++fr).Nodup
 idx:∀p∈fr.zip ix,N[p.2]?=Za p.1
 ZE:∀y∈fr,scope.names.lookup y=Za .free/\VS.names.lookup y=Za .cell
 len:ix.length=fr.length
def ÁS{X:Cx}{N ps:List Str}{e c:dF}{xs fr:List Str}{ix:List Nat}(S:N' N ps e)(h0:X.N=N:=by rfl)(VP:X.env.scope=e:=by rfl)(h1:c.kind=.function:=by rfl)(h2:∀y∈c.names,y.2≠.cell:=by decide +kernel)(h4:∀y∈c.names,y.2=.local->c.names.lookup y.1=Za .local:=by decide +kernel)(h5:∀y∈c.names,y.2=.free->e.names.lookup y.1=Za .cell:=by decide +kernel)(h6:(xs++fr).Nodup:=by decide +kernel)(h7:∀p∈fr.zip ix,N[p.2]?=Za p.1:=by decide +kernel)(h8:∀y∈fr,c.names.lookup y=Za .free/\e.names.lookup y=Za .cell:=by decide +kernel)(h9:ix.length=fr.length:=by rfl):Ó X.N X.env.scope c xs fr ix:=by rw[h0,VP];exact⟨h1,h2,h4,h5,h6,h7,h8,h9⟩
def D3(J:It)(gt:TG)(k:Nat)(tc:TT)(te:TE)(cap:St)(D:ag)(H1:Hp)(Q:VK):Prop :=
 ∃Pv:Nat->Nat->List V->St->Hp->Prop,(∃m,Pv 0 m [] (aQ k Zb++cap) (upd H1 D (.lst [])))/\∀i m ys Ğ H2,Pv i m ys Ğ H2 ->
  (J.stop i H2/\H2 D=Za (.lst ys)/\Q (.ref D) H2)\/(J.go i H2/\∀x H3,J.yld i H2 x H3->gt x Ğ H3 λĝ H3'=>tc ĝ H3' λb H4=>if b=true then
   te ĝ H4 λv H5=>H5 D=Za (.lst ys)/\ys.length<aH/\∃m',m'<m/\Pv (i+1) m' (ys++[v]) ĝ (upd H5 D (.lst (ys++[v])))
   else ∃m',m'<m/\Pv (i+1) m' ys ĝ H4)
def Gp(wi:TI)(ix:List Nat)(gt:TG)(k:Nat)(tc:TT)(te:TE):TE:=λO H Q=>wi O H λJ H1=>∀D,H1 D=Zb->D3 J gt k tc te (Zy ix O) D H1 Q
section
variable{X:Cx}{Rz iter tg:bc}{Ry:List bc}{pos:Pos}{scope:dF}{tc:TT}{te:TE}{gt:TG}{xs fr:List Str}{ix:List Nat}
def wb{PR:af->ag->jU->aw->Prop}{Q9:List (ag×Obj)}{O:St}{H2:Hp}{s2:aw}{it:ag}{fp:List ag}{tn:Nat->bi->Prop}{J:It}{Q:VK}(hc:X.calm=true)(S:Ó X.N X.env.scope scope xs fr ix)(hg:∀cl C Rg Rh fp,PG (í X scope cl C (xs++fr) Rg Rh fp) tg gt)(ht:∀cl C Rg Rh fp,Gh (í X scope cl C (xs++fr) Rg Rh fp) Ry tc)(he:∀cl C Rg Rh fp,PE (í X scope cl C (xs++fr) Rg Rh fp) Rz te)(Rj:∀y∈scope.names,y.2=.free->∃c,X.env.cells.lookup y.1=Za c)(I2:Inv X Q9 O H2 s2)(T:Turn X.prog X.w X.K tg J fp it tn)(R7:tn 0 s2.heap)(f2:∀b∈fp,Ai X Q9 H2 b)(q2:∀D,H2 D=Zb->D3 J gt xs.length tc te (Zy ix O) D H2 Q)(Uu:∀D C H' s',Inv X Q9 O H' s'->H' C=Zb->O6 X Q9 C->(∃m,s'.heap.Ns C m)->Q (.ref D) H'->PR (.ref D) C (.ok .next) s') :
  aP (model X.prog X.w) X.A (newList []) (λRu Rg=>aP (model X.prog X.w) X.A (newFunctionEnv scope X.env.globals (rb X.env.cells scope.names []) [] X.env.qual Zb .none (Za X.env)) (λTl UG =>
   fj (model X.prog X.w) X.A (.compStart (.ListComp Rz [⟨tg,iter,Ry,0⟩] scope pos) 0 (.ref it) Ru { Tl with scope:=relabel scope X.env }) (PR Ru Tl.locals) UG) X.xe Rg) X.xe s2:=by
 refine dB ?_;have hD:H2 s2.heap.objs.size=none:=I2.Yn.fresh (al _);have I3:Inv X Q9 O (upd H2 s2.heap.objs.size (.lst [])) { s2 with heap:=s2.heap.push { cls:=.type "list",dict:=Zb,data:=.seq ([]:List af).toArray } } :=
  I2.ÀA (its:=[]) (t':=s2.toks) (.nil) (a6 _)
 obtain⟨Pv,⟨m0,p0⟩,Sx⟩:=q2 s2.heap.objs.size hD;generalize hD':s2.heap.objs.size=D at *;generalize hs3:({ s2 with heap:=s2.heap.push { cls:=.type "list",dict:=Zb,data:=.seq ([]:List af).toArray } }:aw)=s3 at *;have Vv:∀b o,s2.heap.get? b=Za o->s3.heap.get? b=Za o:=λb o e=>by rw[<-hs3];exact ak _ e
 have hH3:∀b,b≠D->(upd H2 D (.lst [])) b=H2 b:=λb hb=>mj hb;have f3:∀b∈fp,Ai X Q9 (upd H2 D (.lst [])) b/\b<s3.heap.objs.size:=λb hb=>by obtain⟨o,e,_⟩:=T.obj _ _ R7 b hb;have Rs:=au e;refine⟨⟨?_,(f2 b hb).2⟩,au (Vv b o e)⟩;rw[hH3 b (by rw[<-hD'];exact az Rs)];exact(f2 b hb).1
 have U3:tn 0 s3.heap:=T.keep _ _ _ R7 λb hb o e=>Vv b o e;refine wpAny_newFunctionEnv S.cell (by intro y hy;simp at hy) (λh4 Xf Xa=>?_) S.kind;generalize hC:s3.heap.objs.size=C at *;let X':Cx:=í X scope (rb X.env.cells scope.names []) C (xs++fr) s3 (upd H2 D (.lst [])) fp;have SE:∀y c,(rb X.env.cells scope.names []).lookup y=Za c->X.env.cells.lookup y=Za c:=λy c e=>E9 scope.names [] Rj (λz d hz=>by simp at hz) e;have Tk:∀y,(y,bS)∈scope.names->∃c,(rb X.env.cells scope.names []).lookup y=Za c:=λy hy=>eL.mp (Cq scope.names [] hy);have UK:∀b o,s3.heap.get? b=Za o->h4.get? b=Za o:=λb o e=>Xa.extBut b o (by rw[<-hC];exact az (au e)) (ak _ e);have SI:∀(l:List (Str×iu)) y k,(l.map λ(n,k)=>if(k==bS&&X.env.scope.kind==.function&&X.env.kindOf n==Za .cell) then(n,ir) else(n,k)).lookup y=Za k->(k=.cell\/k=.free) ->
   (∀z∈l,z.2≠.cell)->(y,bS)∈l:=by
  intro l;induction l with
  |nil=>intro y k e _ _;simp at e
  |cons z r ih =>
   intro y k e hk hn;obtain⟨n,kz⟩:=z;rw[am] at e;by_cases hy:y=n
   .grind
   .have hb:(y==n)=false:=by simpa using hy
    refine ae _ (ih y k ?_ hk λz hz=>hn z (ae _ hz));have e:gD y ((if(kz==bS&&X.env.scope.kind==.function&&X.env.kindOf n==Za .cell)=true then(n,ir) else(n,kz))::_)=Za k:=e;by_cases hq:(kz==bS&&X.env.scope.kind==.function&&X.env.kindOf n==Za .cell)=true
    .rw[Zc hq,cz] at e;simp only[hb] at e;exact e
    .rw[Zd hq,cz] at e;simp only[hb] at e;exact e
 have ok':X'.Ok:=by
  refine⟨I3.ok.mod,S.kind,I3.ok.glob,I3.ok.blt,?_,λy z c e1 e2=>I3.ok.inj y z c (SE y c e1) (SE z c e2),λy hy=>?_,λy c e _=>(by cases e),λ_=>I3.ok.hd hc,I3.ok.frames,.inl rfl,λb hb=>⟨?_,λy c e=>(f3 b hb).1.2.2.2.2.1 y c (SE y c e)⟩,I3.bs,aI I3.ok.bsz I3.sz,λb o e hb=>?_,λb hb z=>?_,I3.stack,I3.Ă⟩
  .show s3.heap.objs.size<=C;rw[hC];exact al _
  .obtain hy|hy:=hy
   .exact Tk y (SI scope.names y _ hy (.inl rfl) S.cell)
   .exact Tk y (SI scope.names y _ hy (.inr rfl) S.cell)
  .exact az (f3 b hb).2
  .rcases(f3 b hb).1.2.2.2.1 with z|z
   .exact I3.ok.ZV b o e z
   .exact absurd (ax (au e) (aI I3.ok.bsz z)) (eS _)
  .obtain z|z:=ao.mp (I3.ĸ b z)
   .exact(f3 b hb).1.2.1 z
   .exact(f3 b hb).1.2.2.1 z
 have TK:∀{h':bi}{m:Str->Option af},(∀b o,s3.heap.get? b=Za o->(∃v,o.data=.cell v)->h'.get? b=Za o)->∀(k:Nat)(y:Str)(v:V),fr[k]?=Za y->(Zy ix O)[k]?=Za (Za v)->∃u,RelV v u/\Look X'.env h' m y u:=by
  intro h' m hkc k y v hy hv;obtain⟨i,hix,hσ⟩:=KU hv;have W5:(y,i)∈fr.zip ix:=by apply dk (i:=k);rw[List.getElem?_zip_eq_some];exact⟨hy,hix⟩
  have hN:X.N[i]?=Za y:=S.idx (y,i) W5;obtain⟨hfr,RW⟩:=S.ZE y (dk hy);obtain⟨m3,hn3,hl3⟩:=I3.loc;obtain⟨u,ru,l⟩:=hl3 i y v hN hσ (.inr (.inl RW));refine⟨u,ru,?_⟩;rcases l with⟨kd,_⟩|⟨_,c,ec,ic⟩
  .have kd:X.env.scope.names.lookup y=Za .local:=kd;rw[RW] at kd;cases kd
  .refine .inr ⟨.inl (qC I3.ok.kind hfr RW),c,?_,?_⟩
   .obtain⟨c',e'⟩:=Tk y (dy hfr);have:=SE y c' e';rw[ec] at this;cases this;exact e'
   .obtain⟨o,ho,hd⟩:=ic;exact⟨o,hkc c o ho ⟨_,hd⟩,hd⟩
 have hNd:X'.N.Nodup:=S.nd;have WZ:(aQ xs.length Zb++Zy ix O).length=X'.N.length:=by show _=(xs++fr).length;unfold Zy;rw[aT,aT,dX,ac,S.len]
 have I4:Inv X' [] (aQ xs.length Zb++Zy ix O) (upd H2 D (.lst [])) { s3 with heap:=h4,toks:=s3.toks+([]:List (Str×af)).length }:=by
  refine⟨ok',rfl,I3.bare,Un.kept UK,⟨_,Xf,λk y v e1 e2 e3=>?_⟩,λy c e=>?_,?_,λy c e=>I3.Zt y c (SE y c e),λp hp=>?_,I3.Yn.kept UK,WZ⟩
  .have e1:(xs++fr)[k]?=Za y:=e1;by_cases hk:k<xs.length
   .rw[da (by rw[dX];exact hk),gM,Zc hk] at e2;cases e2
   .have hk:xs.length<=k:=fN hk;rw[cU hk] at e1;rw[cU (by rw[dX];exact hk),dX] at e2;exact TK (λb o e _=>UK b o e) (k-xs.length) y v e1 e2
  .obtain⟨v,o,ho,hd⟩:=I3.cell y c (SE y c e);exact⟨v,o,UK c o ho,hd⟩
  .exact I3.Yn.fresh (by show s3.heap.objs.size<=C;rw[hC];exact al _)
  .exact absurd (show p∈([]:List (ag×Obj)) from hp) (by simp)
 have SA:∀{H':Hp}{b:ag},b∈fp->H' b=Zb->Ai X' [] H' b:=λ{H' b} hb hn=>by
  refine⟨hn,?_,?_,.inl hb,λy c e=>(f3 b hb).1.2.2.2.2.1 y c (SE y c e),λp hp=>absurd (show p∈([]:List (ag×Obj)) from hp) (by simp)⟩
  .exact az (f3 b hb).2
  .intro z;obtain z|z:=ao.mp (I3.ĸ b z)
   .exact(f3 b hb).1.2.1 z
   .exact(f3 b hb).1.2.2.1 z
 have SY:∀b∈fp,(b∈X.ex\/X.Y'.heap.objs.size<=b)/\b≠X.env.locals/\(∀y c,X.env.cells.lookup y=Za c->c≠b)/\∀p∈X.pn++Q9,p.1≠b:=λb hb =>
  ⟨(f3 b hb).1.2.2.2.1,(f3 b hb).1.2.1,(f3 b hb).1.2.2.2.2.1,(f3 b hb).1.2.2.2.2.2⟩
 have Rx:∀{YE:St}{H':Hp}{s':aw},Inv X' [] YE H' s'->Q (.ref D) H'->PR (.ref D) C (.ok .next) s':=λ{YE H' s'} I' q'=>by
  obtain⟨m',Sh,_⟩:=I'.loc;have J:=I3.Àl (s':=s') (ch:=fp) I'.os I'.base I'.Yn I'.bare SY;refine Uu D C H' s' J I'.free ⟨?_,?_,λy c e=>?_,λp hp=>?_⟩ ⟨m',Sh⟩ q'
  .rw[<-hC];exact fz I3.lt
  .rw[<-hC];exact I3.sz
  .obtain⟨v,z⟩:=I3.cell y c e;rw[<-hC];exact az z.lt
  .rw[<-hC];exact az (au (I3.pin p hp).1)
 have loop:fj (model X.prog X.w) X.A (.compLoop (.ListComp Rz [⟨tg,iter,Ry,0⟩] scope pos) 0 (.ref it) (.ref D) X'.env) (PR (.ref D) C) { s3 with heap:=h4,toks:=s3.toks+([]:List (Str×af)).length }:=by
  refine F9 (λn s'=>∃i ys σ5 H',Inv X' [] σ5 H' s'/\tn i s'.heap/\(∀b∈fp,H' b=Zb)/\Pv i n ys σ5 H') ?_ m0 ⟨0,[],_,_,I4,T.keep _ _ _ U3 λb hb o e=>UK b o e,λb hb=>(f3 b hb).1.1,p0⟩
  rintro n s5 ⟨i,ys,σ5,H5,I5,st5,fr5,p5⟩
  rcases Sx i n ys σ5 H5 p5 with⟨stop,hd5,qn⟩|⟨go,step⟩
  .refine bw (T.done X' rfl rfl rfl rfl i [] s5 _ H5 (λ_ _=>False) I5 (λb hb=>SA hb (fr5 b hb)) st5 stop) (λr s6 ⟨hr,I6⟩=>?_) λ_ _ z=>bo z;subst hr;exact Rx I6 qn
  .refine bw (T.item X' rfl rfl rfl rfl i [] s5 _ H5 (λ_ _=>False) I5 (λb hb=>SA hb (fr5 b hb)) st5 go) (λr s6 ⟨u,hr,h6⟩=>?_) λ_ _ z=>bo z;subst hr;dsimp only;refine bw h6 (λ_ s6' h6'=>?_) λ_ _ z=>bo z;obtain⟨xv,H6,I6,r6,y6,WI,fr6⟩:=h6';have I6':=I6.pinned (λb hb=>SA hb (fr6 b hb)) (T.obj _ _ WI);refine bw (hg _ _ _ _ _ _ s6' _ H6 xv u _ I6' r6 (step xv H6 y6)) (λ_ s7 h7=>?_) λ_ _ z=>bo z;obtain⟨ŷ,H7,I7,q7⟩:=h7;refine bw (ht _ _ _ _ _ _ s7 _ H7 _ I7 q7) (λb s8=>e3 λH8 I8 q8=>?_) λ_ _ z=>bo z;have back:∀{H9:Hp}{s9:aw}{UY:List V},Inv X' ([]++A7 fp s6'.heap) ŷ H9 s9->(∃m',m'<n/\Pv (i+1) m' UY ŷ H9) ->
     ∃m,m<n/\∃i ys σ5 H',Inv X' [] σ5 H' s9/\tn i s9.heap/\(∀b∈fp,H' b=Zb)/\Pv i m ys σ5 H':=λ{H9 s9 UY} I9 h9=>by
    obtain⟨m',hm,p9⟩:=h9;refine⟨m',hm,i+1,UY,_,H9,I9.ä,T.keep _ _ _ WI λb hb o e=>(I9.pin (b,o) (aD _ (aD _ (tQ hb e)))).1,λb hb=>?_,p9⟩;obtain⟨o,e,d⟩:=T.obj _ _ WI b hb;exact(I9.pin (b,o) (aD _ (aD _ (tQ hb e)))).2.1
   cases b with
   |false =>
    rw[Zd bJ] at q8 ⊢;exact back I8 q8
   |true =>
    rw[Zc rfl] at q8 ⊢;refine bw (he _ _ _ _ _ _ s8 _ H8 _ I8 q8) (λw9 s9=>e4 λv9 H9 I9 r9 ⟨hd9,hz9,q9⟩=>?_) λ_ _ z=>bo z;refine bw (B7 (X:=X') _ s9 _ H9 (.ref D) [v9] (.ref D) [w9] (λ_ H'=>H'=upd H9 D (.lst (ys++[v9]))) I9 rfl (.cons r9 .nil) ⟨D,ys,v9,rfl,rfl,hd9,hz9,rfl⟩) (λ_ VZ h10=>?_) λ_ _ z=>bo z;obtain⟨_,H10,TL,_,rfl⟩:=h10;exact back TL q9
 exact codeAny_compStart_list loop (T.self _ 0 _ _ _ (T.keep _ _ _ U3 λb hb o e=>UK b o e) loop)
end
section
variable{X:Cx}{Rz iter:bc}{Ry:List bc}{x:Str}{px pos:Pos}{scope:dF}{wi:TI}{tc:TT}{te:TE}{fr:List Str}{ix:List Nat}
theorem Ę.g(h:Ę J tc te cap D H1 Q):D3 J (F6 0) 1 tc te cap D H1 Q:=by
 obtain⟨Pv,⟨m,p⟩,h⟩:=h;refine⟨λi m ys Ğ H2=>Pv i m ys H2/\∃o,Ğ=o::cap,⟨m,p,Zb,rfl⟩,λi m ys Ğ H2 ⟨p,o,e⟩=>?_⟩;subst e;refine(h i m ys H2 p).imp id λ⟨g,h⟩=>⟨g,λx H3 y=>?_⟩;show tc (Za x::cap) H3 _
 simp_all
def Cn{PR:af->ag->jU->aw->Prop}{Q9:List (ag×Obj)}{O:St}{H2:Hp}{s2:aw}{it:ag}{fp:List ag}{tn:Nat->bi->Prop}{J:It}{Q:VK}(hc:X.calm=true)(S:ZQ X.N X.env.scope scope x fr ix)(ht:∀cl C Rg Rh fp,Gh (í X scope cl C (x::fr) Rg Rh fp) Ry tc)(he:∀cl C Rg Rh fp,PE (í X scope cl C (x::fr) Rg Rh fp) Rz te)(Rj:∀y∈scope.names,y.2=.free->∃c,X.env.cells.lookup y.1=Za c)(I2:Inv X Q9 O H2 s2)(T:Turn X.prog X.w X.K (.Name x px) J fp it tn)(R7:tn 0 s2.heap)(f2:∀b∈fp,Ai X Q9 H2 b)(q2:∀D,H2 D=Zb->Ę J tc te (Zy ix O) D H2 Q)(Uu:∀D C H' s',Inv X Q9 O H' s'->H' C=Zb->O6 X Q9 C->(∃m,s'.heap.Ns C m)->Q (.ref D) H'->PR (.ref D) C (.ok .next) s') :
  aP (model X.prog X.w) X.A (newList []) (λRu Rg=>aP (model X.prog X.w) X.A (newFunctionEnv scope X.env.globals (rb X.env.cells scope.names []) [] X.env.qual Zb .none (Za X.env)) (λTl UG =>
   fj (model X.prog X.w) X.A (.compStart (.ListComp Rz [⟨.Name x px,iter,Ry,0⟩] scope pos) 0 (.ref it) Ru { Tl with scope:=relabel scope X.env }) (PR Ru Tl.locals) UG) X.xe Rg) X.xe s2 :=
 wb (xs:=[x]) hc ⟨S.kind,S.cell,S.nm,S.free,S.nd,S.idx,S.ZE,S.len⟩ (λcl C Rg Rh fp=>G9 S.nd rfl (.inl (dD S.loc)) (.inr (dD S.loc))) ht he Rj I2 T R7 f2 (λD hD=>(q2 D hD).g) Uu
def zu(hc:X.calm=true)(S:ZQ X.N X.env.scope scope x fr ix)(hi:PI X (.Name x px) iter wi)(ht:∀cl C Rg Rh fp,Gh (í X scope cl C (x::fr) Rg Rh fp) Ry tc)(he:∀cl C Rg Rh fp,PE (í X scope cl C (x::fr) Rg Rh fp) Rz te)(hs:∀v,bL iter X.env v=pure v:=by intro _;rfl):PE X (.ListComp Rz [⟨.Name x px,iter,Ry,0⟩] scope pos) (Jl wi ix tc te):=by
 intro Q9 s O H Q I h;have Rj:∀y∈scope.names,y.2=.free->∃c,X.env.cells.lookup y.1=Za c:=λy hy hf=>I.ok.has y.1 (.inl (S.free y hy hf));refine eZ rfl hs (qj Rj) S.kind S.nm (Yy (hi Q9 s O H _ I h) λv s1 h1=>Yy h1 λUL s2 h2=>?_);obtain⟨it,fp,tn,J,H2,rfl,I2,T,R7,f2,q2⟩:=h2;refine Cn hc S ht he Rj I2 T R7 f2 q2 λD C H' s' I' UC ⟨b1,b2,b3,b4⟩ SS q'=>?_;obtain⟨m',Sh⟩:=SS;refine⟨m',Sh,λh' Uj=>⟨.ref D,H',?_,rfl,q'⟩⟩;exact I'.turned (λb o hb e=>Uj.extBut b o hb e) UC b1 (.inr b2) b3 b4
def zq(hN:X.N.Nodup)(TH:X.N[i]?=Za y)(Td:X.env.scope.names.lookup y=Za .local)(hc:X.calm=true)(S:ZQ X.N X.env.scope scope x fr ix)(hi:PI X (.Name x px) iter wi)(ht:∀cl C Rg Rh fp,Gh (í X scope cl C (x::fr) Rg Rh fp) Ry tc)(he:∀cl C Rg Rh fp,PE (í X scope cl C (x::fr) Rg Rh fp) Rz te)(Tx:cO (.ListComp Rz [⟨.Name x px,iter,Ry,0⟩] scope pos) (Za (.Name y py)) Ĺ.line X.env=pure true:=by rfl)(hs:∀v,bL iter X.env v=pure v:=by intro _;rfl):PS X (.Assign [.Name y py] (.ListComp Rz [⟨.Name x px,iter,Ry,0⟩] scope pos) Ĺ) (OB (Jl wi ix tc te) (F6 i)):=by
 intro Q9 s O H D0 I h;have Rj:∀y∈scope.names,y.2=.free->∃c,X.env.cells.lookup y.1=Za c:=λy hy hf=>I.ok.has y.1 (.inl (S.free y hy hf));rw[exec_Assign_Name_used _ _ _ _ Tx];refine ah (eg (ah ?_));refine ah (bw (eZ rfl hs (qj Rj) S.kind S.nm
  (Yy (hi Q9 s O H _ I h) λv s1 h1=>Yy h1 λUL s2 h2=>?_)) (λ_ s' hq=>aG (aG hq)) λ_ _ e=>e)
 obtain⟨it,fp,tn,J,H2,rfl,I2,T,R7,f2,q2⟩:=h2;refine Cn hc S ht he Rj I2 T R7 f2 q2 λD C H' s' I' UC ⟨b1,b2,b3,b4⟩ SS q'=>?_;obtain⟨m',Sh⟩:=SS;refine jA (xG (v:=.ref D) I' hN TH (.inl Td) rfl (λs5 I5 sb=>?_) (.inr Td));obtain⟨a5,sb,XD⟩:=sb;have XQ:C≠a5:=by
  obtain z|z:=XD
  .rw[z];exact b1
  .exact(b3 _ _ z).symm
 refine⟨m',Sh.sameBut sb XQ,λh' Uj=>⟨_,H',?_,q'⟩⟩;exact I5.turned (λb o hb e=>Uj.extBut b o hb e) UC b1 (.inr b2) b3 b4
end
abbrev ϑ:List af:=[.type "ValueError",.type "Exception",.type "BaseException",.type "object"]
structure Exw(K:aa)(C:ag):Prop where
 ob:∃dd cd sl,K.lookup C=Za ⟨.type "type",dd,.cls cd,sl⟩
 ga:aK K (.ref C) "__getattribute__"=Za (Za (.builtin "BaseException.__getattribute__"))
 gt:aK K (.ref C) "__getattr__"=Za Zb
 ha:aK K (.ref C) "__class__"=Za (Za (.builtin "object.__class__"))
 hn:cI K (.builtin "object.__class__") "__get__"=Za (Za (.builtin "getset_descriptor.__get__"))
 ht:fI K (.builtin "object.__class__")=Za true
 mo:bF K C (.type "object")=Za true
 mb:bF K C (.type "BaseException")=Za true
structure Exc(K:aa)(C:ag):Prop extends Exw K C where
 ex:fC K C ϑ "ValueError.__new__"=true
def ÁM{K:aa}{C:ag}(z:fC K C ϑ "ValueError.__new__"=true):∃dd cd sl,K.lookup C=Za ⟨.type "type",dd,.cls cd,sl⟩:=by
 unfold fC at z;split at z
 .exact⟨_,_,_,‹_›⟩
 .cases z
def Exc.obj{K}{C}{h}(Zj:Exc K C)(X:K.In h):∃bm N nm q bs hdct sn sub ab col dd k0 k1 k2 k3 k5 mN,
  h.get? C=Za (excClassObj nm q C N bs bm hdct sn sub ab col dd k0 k1 k2 k3 k5 "ValueError.__new__")/\h.Ns N mN/\mN "__init__"=Zb/\OwnTail h ϑ bm:=by
 have z:=Zj.ex;unfold fC at z;split at z
 case h_2=>cases z
 case h_1 ddv Rk slv lk =>
  split at z
  case h_2=>cases z
  case h_1 D bm a0 a1 a2 a3 nw a5 em es =>
   have z':((((D=C/\nw="ValueError.__new__")/\Rk.hasDel=false)/\jm K ϑ bm=true)/\PySem.W.nsOkIn K Rk.ns=true)/\bI K Rk.ns "__init__"=Za none:=by
    simp_all
   obtain⟨⟨⟨⟨⟨eD,eN⟩,TY⟩,tl⟩,okn⟩,ini⟩:=z';rcases Rk with⟨c1,c2,c3,c4,c5,c6,c7,c8,c9,X8,c11⟩;subst em TY eD eN;have XY:slv=#[a0,a1,a2,a3,Za (.builtin "ValueError.__new__"),a5]:=by
    rcases slv with⟨l⟩
    grind
   subst XY;refine⟨bm,c4,c1,c5,c2,c6,c7,c8,c9,X8,ddv,a0,a1,a2,a3,a5,h.nsMap c4,X _ _ lk,?_,?_,kS X tl⟩
   .exact .of_isNs (PySem.W.isNs_of_in X okn)
   .exact PySem.W.nsMap_none_of_in X okn ini
def Jv(h:bi)(a C:ag):Prop:=∃ox vs,h.get? a=Za ox/\ox.cls=.ref C/\ox.data=.fields vs
def F8(C a:ag):HO:=.ext λh=>Jv h a C
def NP(I:Jv h a C):YJ P w H h a (F8 C a):=by
 refine⟨I,?_,λh1 h2 p k=>?_⟩
 .obtain⟨ox,_,e,_⟩:=I;exact⟨ox,e⟩
 .obtain⟨ox,vs,e,c,d⟩:=p;exact⟨ox,vs,k _ e,c,d⟩
section
variable{prog:aL}{w:aX}{A:b8}{E:af->aw->Prop}{s:aw}{K:aa}{x C:ag}{ox:Obj}
open PySem.W Builtin Builtin.ObjectAttr Builtin.Getset_descriptor in
def IT(Zj:Exw K C)(X:K.In s.heap)(I:Jv s.heap x C)(h:Q (Za (.ref C)) { s with toks:=s.toks+1 }) :
  aP (model prog w) A (getAttr? (.ref x) "__class__") Q E s:=by
 obtain⟨hh,g,d,t,os⟩:=s;have L0:en (model prog w) hh (typeOf (.ref x)) (.ref C):=by obtain⟨ox,vs,RY,Su,VE⟩:=I;have RY:hh.get? x=Za ox:=RY;exact Su▸(ku RY).andThen .now
 have L1:=eI (M:=model prog w) X Zj.ga;have L2:=eI (M:=model prog w) X Zj.gt;have L3:en (model prog w) hh (Builtin.ObjectAttr.find (.ref x) (.ref C) "__class__") (.bind (.builtin "getset_descriptor.__get__") (.builtin "object.__class__")):=by have M1:=eI (M:=model prog w) X Zj.ha;have M2:en (model prog w) hh (Builtin.ObjectAttr.getOf (Za (.builtin "object.__class__"))) (Za (.builtin "getset_descriptor.__get__")):=looks_specialIn X Zj.hn;have M3:=looks_takesIn (M:=model prog w) X Zj.ht;refine M1.andThen (M2.andThen ?_);refine Looks.andThen (a:=Za (.builtin "getset_descriptor.__get__",.builtin "object.__class__")) ?_ (Looks.tag .now);exact M3.andThen .now
 have LO:=ig (M:=model prog w) X Zj.mo;have X7:∀{A:b8}{tk:Nat}{R:jU->aw->Prop},R (.ok (.ret (.ref C))) ⟨hh,g,d,tk,os⟩->fj (model prog w) A (.call (.builtin "getset_descriptor.__get__") ⟨[.builtin "object.__class__",.ref x,.ref C],[]⟩) R ⟨hh,g,d,tk,os⟩:=by
  intro A tk R hq;obtain⟨ox,vs,RY,Su,VE⟩:=I;have RY:hh.get? x=Za ox:=RY;refine f8 KF.slot_gs.plain KF.entry_gs (KF.slot_gs.check _ _ _ _ _ _ _ _ KF.type_class (KF.args_gs _ _ _) ?_);unfold Builtin.«getset_descriptor.__get__» descrGet;rw[dga_obj];refine ah (aG ?_);unfold descrGetter descrCheckInstance descrNameAndClass kR;simp only[KF.owner_class]
  repeat lk
  refine⟨iV _ (by decide +kernel),ko KF.entry_class ?_⟩;unfold Builtin.«object.__class__» shownTypeOf
  repeat lk
  exact hq
 have LB:en (model prog w) hh (kR (.ref x) (.type "BaseException")) true:=L0.andThen (ig X Zj.mb);have f3:=PySem.F.slot_gs_get;have hx2:(jT "BaseException.__getattribute__"==jT "object.__getattribute__")=false:=by decide +kernel
 have cls:∀{tk:Tok}{R:jU->aw->Prop},R (.ok (.ret (.ref C))) ⟨hh,g,d,t+1,os⟩->fj (model prog w) A (.call (.builtin "BaseException.__getattribute__") ⟨[.ref x,.str "__class__" tk],[]⟩) R ⟨hh,g,d,t+1,os⟩:=by
  intro tk R hq;have hk:builtinKind "BaseException.__getattribute__"=Za .slot:=by decide +kernel
  have Ui:splitId "BaseException.__getattribute__"=Za ("BaseException","__getattribute__"):=by decide +kernel
  have ha:=F.args_bexc_ga (.ref x) (.str "__class__" tk);apply f8 (by decide +kernel) F.entry_bexc_ga;simp only[checkBuiltinCall,hk,Ui];refine ah (LB.at ?_)
  repeat (any_goals (first|assumption|wp_step))
  obtain⟨ox,vs,RY,Su,VE⟩:=id I;have RY:hh.get? x=Za ox:=RY;refine dC RY (aG ?_);rw[Su];clear RY Su VE;refine ah (L3.at ?_)
  repeat (any_goals (first|assumption|wp_step))
  apply X7
  repeat (any_goals (first|assumption|wp_step))
 have f4:=PySem.F.excAttr_ValueError.ga.bind (.ref x);unfold getAttr? getAttrBy? getAttrBy;refine ah (wpAny_mkText (ah (wpAny_attempt (cX (ah (L0.at (ah (L1.at ?_))))))));show aP _ _ (getAttrByItsOwn _ _ _ _ _ _) _ _ _;unfold getAttrByItsOwn;refine ah (L2.at ?_)
 repeat (any_goals (first|assumption|wp_step))
 refine cls ?_
 repeat (any_goals (first|assumption|wp_step))
end
section
variable{K:aa}{C a:ag}
open PySem.W in
def EV(Zj:Exw K C):KitX K (.ref a) (.ref C) (λh=>Jv h a C) where
 ty:=λ_ _ _ ⟨_,_,e,c,_⟩=>c▸(ku e).andThen .now
 it:=λ_ h X _=>by obtain⟨dd,cd,sl,hk⟩:=Zj.ob;have hC:=X _ _ hk;exact λA' Q' E' s' k z=>ah (kQ (k _ _ hC) (aG z))
 ne:=λh tp dd its n sl X htp=>by
  obtain⟨dd,cd,sl,hk⟩:=Zj.ob;have hC:=X _ _ hk
  grind
 ca:=λX I k=>IT Zj X I k
end
def O2:V->af
 |.ref a=>.ref a
 |.ty n=>.type n
 |_=>.none
def KS(r:RelV c u)(h:(∃a,c=.ref a)\/∃n,c=.ty n):u=O2 c:=by rcases h with⟨a,rfl⟩|⟨n,rfl⟩<;>exact r
section
variable{X:Cx}
def À0(K:aa):List V->Hp->VK->Prop:=λxs H Q=>∃x c t b,xs=[x,c]/\((∃a,c=.ref a)\/∃n,c=.ty n)/\(ö K H x t\/(∃a C,x=.ref a/\t=.ref C/\H a=Za (F8 C a)/\Exw K C)\/(∃a ys,x=.ref a/\t=.type "list"/\YY K H a ys)\/∃a ys,x=.ref a/\t=.type "tuple"/\ZK K H a ys)/\aY K t (O2 c)=Za b/\Q (.bl b) H
def Fb:YV X (.builtin "isinstance") (À0 X.K):=by
 rintro Q9 s O H xs us Q I r ⟨x,c,t,b,rfl,hc,ty,e,q⟩
 obtain⟨u,v,rfl,ru,rv⟩:=Jh r;rw[KS rv hc];have Rx:∀tk,EP X Q9 O Q (.bool b) { s with toks:=tk }:=λtk=>⟨.bl b,H,I.tok tk,rfl,q⟩;obtain ty|⟨a,C,rfl,rfl,ha,Zj⟩|⟨a,ys,rfl,rfl,hq⟩|⟨a,ys,rfl,rfl,hq⟩:=ty
 .exact II I ru ty e Rx
 .cases(ru);obtain⟨p,_⟩:=I.Yn a _ ha;exact bQ (EV Zj) I.ZI p e (λz=>nomatch z) Rx
 .cases(ru);obtain⟨its,r',pl,_⟩:=I.list hq;obtain⟨o,h1,h2,_⟩:=pl.isList;exact bQ iR I.ZI ⟨o,h1,h2⟩ e (λz=>nomatch z) Rx
 .cases(ru);obtain⟨its,r',pl,_⟩:=I.tuple hq;obtain⟨o,h1,h2,_⟩:=pl;exact bQ kT I.ZI ⟨o,h1,h2⟩ e (λz=>nomatch z) Rx
end
def YJ.there(x:YJ P w H h a o):∃ob,h.get? a=Za ob:=by
 cases o with
 |lst xs=>obtain⟨_,_,_,_,e⟩:=x;exact⟨_,e⟩
 |tup xs=>obtain⟨_,_,_,ob,e,_⟩:=x;exact⟨ob,e⟩
 |dK Ra=>obtain⟨_,_,_,_,ob,_,_,e,_⟩:=x;exact⟨ob,e⟩
 |dT Ra=>obtain⟨_,_,_,_,ob,_,_,e,_⟩:=x;exact⟨ob,e⟩
 |set S n=>obtain⟨ob,_,_,_,e,_⟩:=x;exact⟨ob,e⟩
 |ins C dx fs=>obtain⟨_,_,_,e,_⟩:=x;exact⟨_,e⟩
 |own y=>exact x
 |xd fs=>obtain⟨_,⟨ob,_,_,e,_⟩,_⟩:=x;exact⟨ob,e⟩
 |rng lo hi=>obtain⟨_,_,_,e⟩:=x;exact⟨_,e⟩
 |YZ ob u=>obtain⟨e,_⟩:=x;exact⟨ob,e⟩
 |Ő ps=>exact⟨_,x⟩
 |met f y=>exact⟨_,x⟩
 |ext φ=>exact x.2.1
def Y7(P:aL)(w:aX):Ŷ:=λouter H s E e s'=>∃(a C:ag)(t:af)(B:bi)(H':Hp),e=.ref a/\s'.os=s.os/\gW s'.gens/\Un (ZE outer) [] H H' s.heap s'.heap/\Õ P w H' s'.heap /\
 kG B outer a (.ref C) t s'.heap/\(∀b u o,H' b=Za u->s'.heap.get? b=Za o->B.get? b=Za o) /\
 (∀b o,s.heap.get? b=Za o->b∉ZE outer->∃o',s'.heap.get? b=Za o'/\B.get? b=Za o')/\E (.ref C) Zb H'
def sN:oQ (Y7 P w) X E0:=λ_ _ _ _ _ _ _ h=>by obtain⟨_,_,_,_,_,_,_,_,_,_,_,_,_,z⟩:=h;exact z.elim
def He(hf:env.frame=Za L)(h:b∈ZE (env::outer)):b=L\/b∈ZE outer:=by
 unfold ZE at h ⊢
 simp_all
def zS(hf:env.frame=Za L)(h:b∈ZE outer):b∈ZE (env::outer):=by
 unfold ZE at h ⊢
 simp_all
section
variable{P:aL}{w:aX}{K:aa}{mg:Str->Option af}{base:bi}{N:List Str}{qual:Str}{scope:dF}{f:ag}{cd:af}{A:b8}{outer:List Env}{Y':aw}{Ha0:Hp}{E:XK}
def pR:oQ (Y7 P w) (Du (Y7 P w) P w K mg base N qual scope f cd A outer Y' Ha0 E) E:=by
 rintro Q9 O H s e s' I ⟨a,C,t,B,H',rfl,TC,Tj,un,Yn,fl,Tv,So,hE⟩
 have hlow:∀b o,Y'.heap.get? b=Za o->b≠Y'.heap.objs.size:=λb o e=>az (au e);refine wpAny_leaves_onW (I.ok.frames) rfl fl λh' UU up=>?_;have eq1:ZE (ei qual scope Y'.heap.objs.size f cd::outer)=Y'.heap.objs.size::ZE outer:=rfl;have ZH:∀b o,Y'.heap.get? b=Za o->b∉ZE outer->b∉ZE (ei qual scope Y'.heap.objs.size f cd::outer):=λb o e n z=>by
  grind
 have ub:Un (ZE outer) [] Ha0 H Y'.heap s.heap:=I.base;have old:∀b o,Y'.heap.get? b=Za o->b∉ZE outer->∃o',h'.get? b=Za o'/\B.get? b=Za o':=λb o e n=>by obtain⟨o1,e1⟩:=ub.there b o e (by simp);obtain⟨o2,e2,e3⟩:=So b o1 e1 (ZH b o e n);exact⟨o2,UU.1 b o2 e3,e3⟩
 refine⟨a,C,t,B,H',rfl,TC.trans I.os,Tj,⟨λb o e n hb _=>?_,λb o e n hb _=>?_,λb o e n _=>?_,λb o e _=>?_,λb xs e=>un.É b xs (ub.É b xs e),λb o u e=>un.ZO b o u (ub.ZO b o u e),λb ps e=>?_⟩,?_,UU,?_,old,hE⟩
 .have e1:=ub.keep b o e n hb (by simp);have n1:=ub.free b o e n (by simp);have e2:=un.keep b o e1 n1 (ZH b o e hb) (by simp);obtain⟨o2,e3,e4⟩:=So b o e1 (ZH b o e hb);rw[e2] at e3;cases e3;exact UU.1 b o e4
 .obtain⟨sl,e1⟩:=ub.slot b o e n hb (by simp);have n1:=ub.free b o e n (by simp);obtain⟨U4,e2⟩:=un.slot b _ e1 n1 (zS rfl hb) (by simp);obtain⟨_,o3,e3,Tc⟩:=fl.2.2.1.mem (zS rfl hb);obtain⟨sl3,e4⟩:=up b _ e3 Tc
  grind
 .obtain⟨o1,e1⟩:=ub.there b o e (by simp);exact un.free b o1 e1 (ub.free b o e n (by simp)) (by simp)
 .by_cases hb:b∈ZE outer
  .obtain⟨_,o3,e3,Tc⟩:=fl.2.2.1.mem (zS rfl hb);obtain⟨sl3,e4⟩:=up b _ e3 Tc;exact⟨_,e4⟩
  .grind
 .obtain⟨m1,e1⟩:=ub.Ú b ps e;obtain⟨m2,e2⟩:=un.Ú b _ e1
  grind
 .refine λb u e=>(Yn b u e).Û (λc v hc q=>?_) (λ_ q=>q) λ_ _ q=>q;obtain z|z:=hc
  .subst z;exact UU.1 _ _ (Tv _ u v e q)
  .exact UU.1 _ _ (Tv c _ v z q)
 .intro b u o e q;obtain⟨o1,q1⟩:∃o1,s'.heap.get? b=Za o1:=by exact(Yn b u e).there
  have z:=Tv b u o1 e q1;have z2:=UU.1 b o1 z
  grind
def Ah(X:Cx)(E:XK):Prop:=∀(Q9:List (ag×Obj))(O:St)(H:Hp)(s:aw)(a C:ag)(vs:List af)(h':bi),Inv X Q9 O H s->Heap.MadeExcOf s.heap h' a (.ref C) vs->E (.ref C) Zb H->X.xe (.ref a) { s with heap:=h' }
def zF:Ah (Du (Y7 P w) P w K mg base N qual scope f cd A outer Y' Ha0 E) E:=by
 intro Q9 O H s a C vs VO I mk hE;have ő:=I.stack;let l:=ZE (ei qual scope Y'.heap.objs.size f cd::outer);have RH:∀env∈(ei qual scope Y'.heap.objs.size f cd::outer),∀b,env.frame=Za b->b∈l:=λenv he b hb=>gu.mpr ⟨env,he,hb⟩;have U2:∀b o,s.heap.get? b=Za o->b∉l->(dM s.heap l).get? b=Za o:=λb o e n=>iq l e n;have ub:Un (ZE outer) [] Ha0 H Y'.heap s.heap:=I.base;have ZH:∀b o,Y'.heap.get? b=Za o->b∉ZE outer->b∉l:=λb o e n z=>by
  obtain z|z:=He rfl z
  .exact az (au e) z
  .exact n z
 have Uc:∀b u,H b=Za u->b∉l:=λb u e z=>by rw[I.Ă b z] at e;cases e
 refine wpAny_leaves_madeW (I.ok.frames) rfl (λb o e=>iI l e) (jR ő RH) mk λh' t fl tup nt up=>?_;have RV:=λb o e n=>fl.1 b o (U2 b o e n);have frame:∀b o,s.heap.get? b=Za o->b∈l->∃sl,h'.get? b=Za { o with slots:=sl }:=λb o e hb=>by obtain⟨_,o3,e3,Tc⟩:=ő.mem hb;rw[e] at e3;cases e3;exact up b o (mk.keeps b o e) Tc
 refine⟨a,C,.ref t,dM s.heap l,H,rfl,I.os,I.bare,⟨λb o e n hb _=>?_,λb o e n hb _=>?_,λb o e n _=>ub.free b o e n (by simp),λb o e _=>?_,ub.É,ub.ZO,ub.Ú⟩,λb u e=>?_,fl,λb u o e q=>?_,λb o e n=>?_,hE⟩
 .exact RV b o (ub.keep b o e n hb (by simp)) (ZH b o e hb)
 .obtain⟨sl,e1⟩:=ub.slot b o e n hb (by simp)
  grind
 .obtain⟨o1,e1⟩:=ub.there b o e (by simp)
  grind
 .refine(I.Yn b u e).Û (λc v hc q=>?_) (λ_ q=>q) λ_ _ q=>q
  grind
 .obtain⟨o1,q1⟩:=(I.Yn b u e).there
  grind
 .obtain⟨o1,e1⟩:=ub.there b o e (by simp);exact⟨o1,RV b o1 e1 (ZH b o e n),U2 b o1 e1 (ZH b o e n)⟩
end
section
variable{X:Cx}{C:ag}{x:Str}{np Rb pos:Pos}{e:bc}{te:TE}{E:XK}
def Pc(C:ag)(E:XK)(te:TE):TS:=λ_ O H=>te O H λ_ H1=>E (.ref C) Zb H1
def qA(Zj:Exc X.K C)(hg:Gl X x)(hm:X.mg x=Za (.ref C))(hc:X.calm=true)(ha:PE X e te)(hp:Ah X E)(hd:Ò x:=by decide)(he:aq [e] X.env=[(false,eval e X.env)]:=by rfl):PS X (.Raise (Za (.Call (.Name x np) [e] [] Rb)) Zb pos) (Pc C E te):=by
 intro Q9 s O H D I h;obtain⟨bm,N,nm,q,bs,hdct,sn,sub,ab,col,dd,k0,k1,k2,k3,k5,mN,hC,hN,hni,T⟩:=Zj.obj I.mod.kin;refine wpAny_Raise_call_subT (nm:=nm) (q:=q) (N:=N) (bs:=bs) (hdct:=hdct) (sn:=sn) (sub:=sub) (ab:=ab) (col:=col) (dd:=dd) (k0:=k0) (k1:=k1) (k2:=k2) (k3:=k3) (k5:=k5)
  cB (T.hasType cB.hasBase) (I.ok.hd hc) (by rw[he];rfl) hni (qZ I hg hm ⟨rfl,?_⟩ hd)
 rw[he];apply fL;refine eR (Yy (ha Q9 s O H _ I h) λu SC=>e4 λv H2 I2 r2 q2=>?_);refine gA ⟨rfl,?_,I2.bk _ _ hC,hN.keeps I2.bk,T.keeps I2.bk,λh' a mk=>hp Q9 O H2 SC a C _ h' I2 mk q2⟩;show 1<=aH;decide
end
section
variable{M:Model}{A:b8}{E:af->aw->Prop}{K:aa}{C D e:ag}{oe:Obj}
def Ek{h}{g:Array jF}{d:Drawn}{t}{os:OsState}{Q}(ZC:Exw K C)(ZD:Exc K D)(X:K.In h)(sub:bF K C (.ref D)=Za true)(he:h.get? e=Za oe)(Uy:oe.cls=.ref C)(hq:Q true ⟨h,g,d,t,os⟩):aP M A (excMatches (.ref e) (.ref D)) Q E ⟨h,g,d,t,os⟩:=by
 have L0:en M h (typeOf (.ref e)) (.ref C):=Uy▸(ku he).andThen .now;have L1:en M h (isSubtype (.ref C) (.ref D)) true:=ig X sub;obtain⟨bm,N,nm,q,bs,hdct,sn,sb,ab,col,dd,k0,k1,k2,k3,k5,mN,hD,hN,hni,T⟩:=ZD.obj X;have Xz:(aR D::bm).contains (.type "BaseException")=true:=by rw[lZ,T.hasType cB.hasBase,Bool.or_true]
 have f:=tc_notTuple
 repeat (first|with_reducible refine dC hD ?_|(with_reducible refine jc hD ?_;rw[Xz])|with_reducible refine L0.at ?_|with_reducible refine L1.at ?_|wp_step)
 grind
end
def XO(X:Cx)(Q9:List (ag×Obj))(O:St)(E:XK):af->aw->Prop:=λe s'=>∃H1 s1,Inv X Q9 O H1 s1/\Y7 X.prog X.w X.stack H1 s1 E e s'
def PEx(X:Cx)(e:bc)(t:XK->TE):Prop:=∀(Q9:List (ag×Obj))(s:aw)(O:St)(H:Hp)(Q:VK)(E:XK),Inv X Q9 O H s->t E O H Q->aP (model X.prog X.w) X.A (eval e X.env) (EP X Q9 O Q) (XO X Q9 O E) s
def PSx(X:Cx)(st:bN)(t:XK->TS):Prop:=∀(Q9:List (ag×Obj))(s:aw)(O:St)(H:Hp)(D:Ends)(E:XK),Inv X Q9 O H s->t E D O H->aP (model X.prog X.w) X.A (exec st X.env) (SP X Q9 D) (XO X Q9 O E) s
def Á0(X:Cx)(st:List bN)(t:XK->TS):Prop:=∀(Q9:List (ag×Obj))(s:aw)(O:St)(H:Hp)(D:Ends)(E:XK),Inv X Q9 O H s->t E D O H->aP (model X.prog X.w) X.A (execs st X.env) (SP X Q9 D) (XO X Q9 O E) s
section
variable{X:Cx}{k:Nat}{f:ag}{fd:cj}{ps:List Str}{sp:Sp}{RS:List V}{ds:List af}{x:Str}{p pos:Pos}{e:bc}{es:List bc}{t:TA}
def ML(F:YD X.prog X.w X.K X.mg X.base (Y7 X.prog X.w) k f fd ps sp)(hr:YA k X.A)(hb:Binds X.K fd ps ds)(hd:Vals RS ds)(I:Inv X Q9 O H s)(r:Vals vs us)(h:sp (vs++RS) H Q E):aP (model X.prog X.w) X.A (call (.ref f) us) (EP X Q9 O Q) (XO X Q9 O E) s:=by
 have r2:=r.append hd;have hl:(us++ds).length=ps.length:=by rw[<-r2.length];exact F.len _ _ _ _ h
 refine iG (fH (F.run X.A X.stack s H ⟨us,[]⟩ (us++ds) (vs++RS) Q E hr I.Àf (hb s us I.ZI hl) r2 h) λr s' hq=>?_);cases r with
 |error e=>exact⟨H,s,I,hq⟩
 |ok fl =>
  cases fl with
  |ret u=>exact I.after hq
  |next=>exact bo hq
  |brk=>exact bo hq
  |cont=>exact bo hq
def J4(F:YD X.prog X.w X.K X.mg X.base (Y7 X.prog X.w) k f fd ps sp)(hr:YA k X.A)(hg:Gl X x)(hm:X.mg x=Za (.ref f))(hk:bW X.K (.ref f)=true)(hb:Binds X.K fd ps ds)(hd:Vals RS ds)(ha:PA X.þ (e::es) t)(RP:Ò x:=by decide)(he:ě X e es:=by rfl)(Rp:(bP pos (aq es X.env)).any (·.1)=false:=by rfl) :
  PEx X (.Call (.Name x p) (e::es) [] pos) (λE=>Fv sp RS E t):=by
 refine λQ9 s O H Q E I h=>de (qZ I hg hm ?_ RP);refine eP I.ok.mod.kin hk (bw (ha pos Q9 s O H _ (I.ý _) h) (λus s1=>e4 λvs H1 I1 r q=>⟨I1.Zx.ZI,?_⟩) λ_ _ z=>bo z) he Rp;exact ML F hr hb hd I1.Zx r q
end
section
variable{X:Cx}{e:bc}{pos:Pos}
def Ñ(X:Cx)(a:ag):Cx:={ X with A:=X.A.mark (Za (.ref a)),calm:=false,xe:=λ_ _=>False }
def Á7(K:aa)(D:ag)(i:Nat)(tb:XK->TS)(th:TS):TS:=λDn O H=>tb (λcls _ H'=>∃C,cls=.ref C/\Exw K C/\bF K C (.ref D)=Za true /\
  ∀a,H' a=Zb->th { nx:=λYE H''=>Dn.nx (YE.set i Zb) H'',rt:=Dn.rt,bk:=λYE H''=>Dn.bk (YE.set i Zb) H'',ct:=λYE H''=>Dn.ct (YE.set i Zb) H'' } (O.set i (Za (.ref a))) (upd H' a (F8 C a))) Dn O H
theorem Inv.Ñ(I:Inv X Q9 O H s):Inv (L2.Ñ X a) Q9 O H s :=
 ⟨⟨I.ok.mod,I.ok.kind,I.ok.glob,I.ok.blt,I.ok.above,I.ok.inj,I.ok.has,I.ok.cab,λz=>Bool.noConfusion (z),I.ok.frames,I.ok.ő,I.ok.exf,I.ok.bs,I.ok.bsz,I.ok.ZV,I.ok.ϥ,I.ok.ó,I.ok.frf⟩,I.os,I.bare,I.base,I.loc,I.cell,I.free,I.Zt,I.pin,I.Yn,I.len⟩
def Inv.Ż(ok:X.Ok)(I:Inv (L2.Ñ X a) Q9 O H s):Inv X Q9 O H s :=
 ⟨ok,I.os,I.bare,I.base,I.loc,I.cell,I.free,I.Zt,I.pin,I.Yn,I.len⟩
def zQ{pos}(I:Inv X Q9 O H s)(hN:X.N.Nodup)(hi:X.N[i]?=Za n)(hl:X.env.scope.names.lookup n=Za .local)(h:∀s',Inv X Q9 (O.set i Zb) H s'->Q () s'):aP M A (do bindName X.env n .none;unbindBehindTheSuite X.env n pos) Q E s:=by
 obtain⟨m,hn,hm⟩:=id I.loc;refine wpAny_nameGoes_keeps hl hn (by rw[I.ok.kind];rfl) λh' v Sh hs=>h _ ?_;obtain⟨oL,_,_,UN,_⟩:=id hn;have hk:∀b o,b≠X.env.locals->s.heap.get? b=Za o->h'.get? b=Za o:=λb o hb e=>(hs.2 b hb).trans e;have low:∀b o,X.Y'.heap.get? b=Za o->b≠X.env.locals:=λb o e=>az (ax (au e) I.ok.above);refine⟨I.ok,I.os,I.bare,⟨λb o e z hb hx=>hk b o (low b o e) (I.base.keep b o e z hb hx),λb o e z hb hx=>?_,I.base.free,λb o e hx=>?_,I.base.É,I.base.ZO,I.base.Ú⟩,⟨_,Sh,λj y v' e1 e2 e3=>?_⟩,λy c e=>?_,I.free,I.Zt,λp hp=>?_,λb u e=>?_,by simpa using I.len⟩
 .obtain⟨sl,e1⟩:=I.base.slot b o e z hb hx;exact⟨sl,hk b _ (low b o e) e1⟩
 .obtain⟨o',e1⟩:=I.base.there b o e hx;exact⟨o',hk b o' (low b o e) e1⟩
 .have hj:j≠i:=λz=>by
   subst z;rw[gE] at e2;simp only[if_true] at e2;split at e2<;>cases e2
  rw[fR (bH hj)] at e2;obtain⟨u,r,l⟩:=hm j y v' e1 e2 e3;refine⟨u,r,?_⟩;rcases l with⟨kd,e⟩|⟨kd,c,e,z⟩
  .refine .inl ⟨kd,?_⟩;have hy:y≠n:=λz=>hj (Au hN e1 (z▸hi))
   grind
  .exact .inr ⟨kd,c,e,z.sameBut hs (I.cne y c e)⟩
 .obtain⟨w',z⟩:=I.cell y c e;exact⟨w',z.sameBut hs (I.cne y c e)⟩
 .obtain⟨e,z,ne,nf,d⟩:=I.pin p hp;exact⟨hk _ _ ne e,z,ne,nf,d⟩
 .refine(I.Yn b u e).Û (λc v hc q=>hk c v ?_ q) (λ_ q=>q) λ_ _ q=>q
  rintro rfl
  obtain hc|hc:=hc
  .rw[<-hc,I.free] at e;cases e
  .rw[I.free] at hc;cases hc
end
def ÁK(un:Un (ZE ő) [] H H' h0 h1)(Yn:Õ P w H' h1)(fl:kG B ő a (.ref C) t h1)(Tv:∀b u o,H' b=Za u->h1.get? b=Za o->B.get? b=Za o)(So:∀b o,h0.get? b=Za o->b∉ZE ő->∃o',h1.get? b=Za o'/\B.get? b=Za o')(st:B.StaysIn h2)(up:h1.UpToSlots h2) :
  Un (ZE ő) [] H H' h0 h2/\Õ P w H' h2:=by
 have frame:∀b o,h1.get? b=Za o->b∈ZE ő->∃sl,h2.get? b=Za { o with slots:=sl }:=λb o e hb=>by obtain⟨_,o3,e3,Tc⟩:=fl.2.2.1.mem (hb);rw[e] at e3;cases e3;exact up b o e Tc
 refine⟨⟨λb o e n hb hx=>?_,λb o e n hb hx=>?_,un.free,λb o e hx=>?_,un.É,un.ZO,un.Ú⟩,λb u e=>?_⟩
 .have e2:=un.keep b o e n hb hx;obtain⟨o2,e3,e4⟩:=So b o e hb;rw[e2] at e3;cases e3;exact st b _ e4
 .obtain⟨sl,e1⟩:=un.slot b o e n hb hx
  grind
 .by_cases hb:b∈ZE ő
  .obtain⟨o1,e1⟩:=un.there b o e hx
   grind
  .obtain⟨o2,e3,e4⟩:=So b o e hb;exact⟨o2,st b _ e4⟩
 .refine(Yn b u e).Û (λc v hc q=>?_) (λ_ q=>q) λ_ _ q=>q;obtain z|z:=hc
  .subst z;exact st _ _ (Tv _ u v e q)
  .exact st _ _ (Tv c _ v z q)
section
variable{X:Cx}{body:List bN}{x n:Str}{np hp pos:Pos}{UW:bN}{bs:List bN}{tb:XK->TS}{th:TS}{D:ag}{i:Nat}
def Px(hc:X.calm=true)(R8:X.stack=X.env::X.outer)(hf:X.env.frame=Za X.env.locals)(Uv:X.ex=[])(hb:Á0 X body tb)(hg:Gl X x)(hm:X.mg x=Za (.ref D))(ZD:Exc X.K D)(hN:X.N.Nodup)(hi:X.N[i]?=Za n)(hl:X.env.scope.names.lookup n=Za .local)(hh:∀a,ŉ (Ñ X a) (UW::bs) th)(hd:Ò x:=by decide) :
  PS X (.Try body [.ExceptHandler (Za (.Name x np)) (Za n) (UW::bs) hp] [] [] pos) (Á7 X.K D i tb th):=by
 refine λQ9 s O H Dn I h=>wpAny_Try_except (bw (hb Q9 s O H Dn _ I h) (λfl s1 q1=>?_) λe s1 q1=>?_)
 .cases fl with
  |next=>exact fg q1
  |brk=>exact q1
  |cont=>exact q1
  |ret v=>exact q1
 .obtain⟨H1,s2,J,a,C,t,B,H',rfl,TC,Tj,un,Yn,fl,Tv,So,C',⟨⟩,ZC,sub,hth⟩:=q1;have Xq:X.A.frames=Za (X.env::X.outer):=by rw[<-R8];exact J.ok.frames
  have ha:s2.heap.get? a=none:=by
   cases q:s2.heap.get? a with
   |none=>rfl
   |some o =>
    exfalso;by_cases hb:a∈ZE X.stack
    .obtain⟨_,o3,e3,Tc⟩:=fl.2.2.1.mem (show a∈X.stack.filterMap (·.frame) from hb);obtain⟨oe,vs,e4,_,e5,_⟩:=fl.first;rw[e4] at e3;cases e3;exact Tc vs e5
    .obtain⟨o',_,e⟩:=So a o q hb;rw[fl.2.1] at e;cases e
  have inv:∀{h2:bi}{tk:Nat},B.StaysIn h2->s1.heap.UpToSlots h2->Inv X Q9 O H' { s1 with heap:=h2,toks:=tk }:=λ{h2 tk} st up=>by obtain⟨u2,ok2⟩:=ÁK un Yn fl Tv So st up;exact J.Àl (s':={ s1 with heap:=h2,toks:=tk }) (ch:=[]) TC u2 ok2 Tj (λb z=>absurd z (by simp))
  have UQ:H' a=none:=by
   cases q:H' a with
   |none=>rfl
   |some u =>
    exfalso;obtain⟨oe,e4,_⟩:=fl.there;have:=Tv a u oe q e4;rw[fl.2.1] at this;cases this
  have fl1:kG B (X.env::X.outer) a (.ref C) t s1.heap:=by rw[<-R8];exact fl
  refine wpAny_looks_onW Xq hf fl1 λh4 VD up4=>?_;refine wpAny_landsW VD λh5 XX up5=>?_;have I5:Inv X Q9 O H' { s1 with heap:=h5 }:=inv (tk:=s1.toks) XX.1 (up4.trans up5);have I5h:Inv (Ñ X a) Q9 O H' { s1 with heap:=h5 }:=I5.Ñ;refine wpAny_handleBy_cons (codeAny_handlers_test (qZ (X:=Ñ X a) I5h hg hm ?_ hd)) (by intro z;cases z);obtain⟨oe,e4,X0⟩:=XX.there;refine Ek ZC ZD I5.ZI sub e4 X0 (codeAny_handlers_suite_as ?_);refine lands_againW XX λh6 fl6 up6=>?_;have I6:Inv X Q9 O H' { s1 with heap:=h6 }:=inv (tk:=s1.toks) fl6.1 ((up4.trans up5).trans up6);have V8:∀b o,s2.heap.get? b=Za o->b≠a:=λb o e z=>by rw[z,ha] at e;cases e
  have I7:Inv X Q9 O (upd H' a (F8 C a)) { s1 with heap:=h6 }:=by
   refine⟨I6.ok,I6.os,I6.bare,⟨I6.base.keep,I6.base.slot,λb o e z hx=>?_,I6.base.there,λb xs e=>?_,λb o u e=>?_,λb ps e=>?_⟩,I6.loc,I6.cell,?_,λy c e=>?_,λp hp=>?_,λb u e=>?_,I6.len⟩
   .obtain⟨o',e'⟩:=J.base.there b o e hx;rw[mj (V8 b o' e')];exact I6.base.free b o e z hx
   .rw[mj (mG (I6.base.É b xs e) UQ)];exact I6.base.É b xs e
   .rw[mj (mG (I6.base.ZO b o u e) UQ)];exact I6.base.ZO b o u e
   .obtain⟨m1,e1⟩:=I6.base.Ú b ps e;exact⟨m1,by rw[mj (mG e1 UQ)];exact e1⟩
   .obtain⟨m,⟨o,_,_,ho,_⟩,_⟩:=J.loc;rw[mj (V8 _ o ho)];exact I6.free
   .obtain⟨v,o,ho,_⟩:=J.cell y c e;rw[mj (V8 _ o ho)];exact I6.Zt y c e
   .obtain⟨e1,z1,r1⟩:=I6.pin p hp;refine⟨e1,?_,r1⟩;rw[mj (V8 _ _ (J.pin p hp).1)];exact z1
   .by_cases hb:b=a
    .subst hb;rw[mv] at e;cases e;obtain⟨oe,vs,e7,c7,d7,_⟩:=fl6.first;exact NP ⟨oe,vs,e7,c7,d7⟩
    .rw[mj hb] at e;exact(I6.Yn b u e).Û (λc v _ q=>q) (λc q=>by rw[mj (mG q UQ)];exact q) λc xs q=>by rw[mj (mG q UQ)];exact q
  refine sK (v:=.ref a) I7 hN hi (.inl hl) rfl (λs8 I8=>?_) (.inr hl);refine bw (hh a Q9 s8 _ _ _ I8.Ñ (hth a UQ)) (λfl9 s9 q9=>?_) λ_ _ z=>bo z;have ok:=I8.ok;cases fl9 with
  |next =>
   obtain⟨σ9,H9,I9,q9⟩:=q9;exact zQ (I9.Ż ok) hN hi hl λVZ TL=>⟨_,H9,TL,q9⟩
  |brk =>
   obtain⟨σ9,H9,I9,q9⟩:=q9;exact zQ (I9.Ż ok) hN hi hl λVZ TL=>⟨_,H9,TL,q9⟩
  |cont =>
   obtain⟨σ9,H9,I9,q9⟩:=q9;exact zQ (I9.Ż ok) hN hi hl λVZ TL=>⟨_,H9,TL,q9⟩
  |ret v =>
   obtain⟨y,σ9,H9,I9,r9,q9⟩:=q9;exact zQ (I9.Ż ok) hN hi hl λVZ TL=>⟨y,_,H9,TL,r9,q9⟩
def JY{st}{t}(h:PSx X st t):Á0 X [st] t:=by
 refine λQ9 s O H Dn E I hq=>jd (Yy (h Q9 s O H Dn E I hq) λf s1 q=>?_);cases f with
 |next=>exact fg q
 |brk=>exact q
 |cont=>exact q
 |ret v=>exact q
def ŋ(a b:Str):Bool:=!fT b.cps.toList a.cps.toList
theorem wq:∀a:List Nat,fT a a=false
 |[]=>rfl
 |a::r=>by show(decide (a<a)||(a==a&&fT r r))=false;rw[wq r];simp
theorem uA:∀{a b c:List Nat},fT a b=true->fT b c=true->fT a c=true
 |[],_,[],h1,h2=>by
  cases ‹List Nat› with
  |nil=>exact h1
  |cons x r=>exact absurd (show fT (x::r) []=true from h2) (by intro z;cases z)
 |[],_,_::_,_,_=>rfl
 |a::r,[],_,h1,_=>by cases h1
 |a::r,b::t,[],_,h2=>by cases h2
 |a::r,b::t,c::u,h1,h2=>by
  have h1:(decide (a<b)||(a==b&&fT r t))=true:=h1;have h2:(decide (b<c)||(b==c&&fT t u))=true:=h2;show(decide (a<c)||(a==c&&fT r u))=true;simp only[di,dI,beq_iff_eq] at h1 h2 ⊢;obtain h1|⟨e1,g1⟩:=h1
  .grind
  .obtain h2|⟨e2,g2⟩:=h2
   .exact .inl (by lia)
   .exact .inr ⟨e1.trans e2,uA g1 g2⟩
theorem xN:∀a b:List Nat,fT a b=false->fT b a=false->a=b
 |[],[],_,_=>rfl
 |[],_::_,h,_=>by cases h
 |_::_,[],_,h=>by cases h
 |a::r,b::t,h1,h2=>by
  have h1:(decide (a<b)||(a==b&&fT r t))=false:=h1;have h2:(decide (b<a)||(b==a&&fT t r))=false:=h2;simp only[Bool.or_eq_false_iff,Bool.and_eq_false_iff,beq_eq_false_iff_ne] at h1 h2;have e:a=b:=by lia
  subst e;rw[xN r t (h1.2.resolve_left λz=>z rfl) (h2.2.resolve_left λz=>z rfl)]
def IE(a b):ŋ a b=true\/ŋ b a=true:=by
 unfold ŋ;cases h:fT b.cps.toList a.cps.toList with
 |false=>exact .inl rfl
 |true =>
  right;cases h2:fT a.cps.toList b.cps.toList with
  |false=>rfl
  |true =>
   have:=uA h h2;rw[wq] at this;cases this
def Kq(h1:ŋ a b=true)(h2:ŋ b a=true):a=b:=by
 unfold ŋ at h1 h2;have e:=xN b.cps.toList a.cps.toList (by simpa using h1) (by simpa using h2);obtain⟨⟨x⟩⟩:=a;obtain⟨⟨y⟩⟩:=b
 grind
def Ca(h1:ŋ a b=true)(h2:ŋ b c=true):ŋ a c=true:=by
 unfold ŋ at *;cases h:fT c.cps.toList a.cps.toList with
 |false=>rfl
 |true =>
  have h2:fT c.cps.toList b.cps.toList=false:=by simpa using h2
  cases h3:fT b.cps.toList c.cps.toList with
  |true =>
   have:=uA h3 h
   grind
  |false =>
   have e:=xN _ _ h3 h2
   grind
def JB(x:Str):List Str->List Str
 |[]=>[x]
 |y::r=>if ŋ x y then x::y::r else y::JB x r
noncomputable def Yq:List Str->List Str
 |[]=>[]
 |x::r=>JB x (Yq r)
theorem xP(x):∀l,(JB x l).Perm (x::l)
 |[]=>.refl _
 |y::r=>by
  unfold JB;split
  .exact .refl _
  .exact((xP x r).cons y).trans (.swap x y r)
theorem mF:∀l,(Yq l).Perm l
 |[]=>.refl _
 |x::r=>(xP x (Yq r)).trans ((mF r).cons x)
theorem yj(x):∀l,l.Pairwise (λa b=>ŋ a b=true)->(JB x l).Pairwise (λa b=>ŋ a b=true)
 |[],_=>by simp[JB]
 |y::r,h=>by
  obtain⟨h1,h2⟩:=cS.mp h;unfold JB;split
  .rename_i Wb;refine cS.mpr ⟨λz hz=>?_,h⟩;obtain rfl|hz:=ao.mp hz
   .exact Wb
   .exact Ca Wb (h1 z hz)
  .rename_i Wb;refine cS.mpr ⟨λz hz=>?_,yj x r h2⟩;obtain rfl|hz:=ao.mp ((xP x r).mem_iff.mp hz)
   .exact(IE z y).resolve_left Wb
   .exact h1 z hz
theorem p7:∀l,(Yq l).Pairwise (λa b=>ŋ a b=true)
 |[]=>.nil
 |x::r=>yj x _ (p7 r)
theorem qe:∀{l m:List Str},l.Perm m->l.Pairwise (λa b=>ŋ a b=true)->m.Pairwise (λa b=>ŋ a b=true)->l=m
 |[],m,p,_,_=>(List.nil_perm.mp p).symm
 |a::l,[],p,_,_=>absurd (List.perm_nil.mp p) (by simp)
 |a::l,b::m,p,h1,h2=>by
  obtain⟨a1,a2⟩:=cS.mp h1;obtain⟨b1,b2⟩:=cS.mp h2;have e:a=b:=by
   have ha:=p.mem_iff.mp ai;have hb:=p.mem_iff.mpr ai;obtain e|ha:=ao.mp ha
   .exact e
   .obtain e|hb:=ao.mp hb
    .exact e.symm
    .exact Kq (a1 b hb) (b1 a ha)
  subst e;rw[qe (List.Perm.cons_inv p) a2 b2]
def D5(p:l.Perm m):Yq l=Yq m:=qe ((mF l).trans (p.trans (mF m).symm)) (p7 l) (p7 m)
def vV(l):(Yq l).length=l.length:=(mF l).length_eq
theorem tP:∀(p:Str)(l:List Str),risingS p l=true->(p::l).Pairwise (λa b=>ŋ a b=true)
 |p,[],_=>List.pairwise_singleton _ _
 |p,x::r,h=>by
  have h:(!fT x.cps.toList p.cps.toList&&risingS x r)=true:=h;rw[dI] at h;have ih:=tP x r h.2;refine cS.mpr ⟨λz hz=>?_,ih⟩;obtain rfl|hz:=ao.mp hz
  .exact h.1
  .exact Ca (h.1) ((cS.mp ih).1 z hz)
def w5:∀(l:List Str),sortedS l=true->l.Pairwise (λa b=>ŋ a b=true)
 |[],_=>.nil
 |x::r,h=>tP x r h
def Lw(p:l.Perm m)(h:sortedS l=true):l=Yq m:=qe (p.trans (mF m).symm) (w5 l h) (p7 m)
theorem zg:∀{ss:List Str}{us:List af},Vals (ss.map V.str) us->StrsAre us ss
 |[],_,.nil=>.nil
 |x::ss,_,.cons ⟨t,e⟩ r=>by subst e;exact .cons x t (zg r)
theorem Df:∀{ss:List Str}{us:List af},StrsAre us ss->Vals (ss.map V.str) us
 |_,_,.nil=>.nil
 |_,_,.cons x t r=>.cons ⟨t,rfl⟩ (Df r)
theorem GR:∀(xs:List V)(us:List af),xs.length=us.length->(∀(j:Nat) x u,xs[j]?=Za x->us[j]?=Za u->RelV x u)->Vals xs us
 |[],[],_,_=>.nil
 |[],_::_,e,_=>by cases e
 |_::_,[],e,_=>by cases e
 |x::xs,u::us,e,h=>.cons (h 0 x u rfl rfl) (GR xs us (jO e) λj y v e1 e2=>h (j+1) y v (by simpa using e1) (by simpa using e2))
def Ń:YV X (.builtin "sorted") (λxs H Q=>∃p ss,xs=[.ref p]/\YY X.K H p (ss.map V.str)/\ss.length<64/\∀l,H l=Zb->Q (.ref l) (upd H l (.lst ((Yq ss).map V.str)))):=by
 rintro Q9 s O H xs us Q I r ⟨p,ss,rfl,hq,hz,q⟩
 obtain⟨u,rfl,rfl⟩:=rh r;obtain⟨its,rv,pl,Vf⟩:=I.list hq;have hS:=zg rv;have hl:its.length=ss.length:=by have:=rv.length;grind
 refine sorted_strs pl.isList hS (by lia) λUJ ss' h1 h2 h3=>?_;have e:=Lw h2 h3;subst e;obtain⟨ep,RY⟩:=sortedAll_at s.heap its UJ;have hf:=I.Yn.fresh (eX _);refine⟨.ref _,_,I.laid (λb o e=>sortedAll_old e) (eX _) ?_,rfl,q _ hf⟩;refine⟨?_,UJ.toList,ep,Df h1,?_⟩
 .rw[ac,vV]
  simp_all
 .rw[RY]
def qO(hc:X.calm=true):YV X (.builtin "sorted") (λxs H Q=>∃p Ra ss,xs=[.ref p]/\Rd H p (.dK Ra)/\Ra.map (·.1)=ss.map ap/\ss.length<64/\∀l,H l=Zb->Q (.ref l) (upd H l (.lst ((Yq ss).map V.str)))):=by
 rintro Q9 s O H xs us Q I r ⟨p,Ra,ss,rfl,hq,hk,hz,q⟩
 obtain⟨u,rfl,rfl⟩:=rh r;obtain⟨z,Ug,vs,rel,dd⟩:=vp I.Yn hq;obtain⟨ep,RY⟩:=dd.dictAt;have Re:vs.length=ss.length:=by
  have e1:=rel.length;have e2:=congrArg cD hk
  grind
 apply Calls.call_function_entry kind_sorted plain_sorted entry_sorted (args_sorted1 _);refine ah (aG ?_);refine ah (PySem.W.kdu_collect (PySem.W.kdl_dict Ug) (I.ok.hd hc) RY (aI (by lia) (show 64<=aH by decide)) λh' tk Ru hkp VN=>?_);have hl:Ru.toList.length=vs.length:=by rw[li];exact VN.1
 have hS:StrsAre Ru.toList ss:=by
  refine zg (GR _ _ (by grind) λj x u e1 e2=>?_);obtain⟨k,y,e3,e4⟩:=VN.2 j u (by rw[<-Array.getElem?_toList];exact e2);have e5:(vs.map (·.1))[j]?=Za k:=by rw[aF,e3];rfl
  rw[<-rel.keys,hk,aF] at e5;rw[aF] at e1;cases e6:ss[j]? with
  |none=>rw[e6] at e1;cases e1
  |some z =>
   rw[e6] at e1 e5;have e1:=bO e1;have e5:=bO e5;subst e1 e5;rcases nF (k:=ap z) e4 with⟨i,t,q1,_⟩|⟨y',t,q1,q2⟩
   .cases q1
   .cases q1;exact⟨t,q2⟩
 refine ah (wpAny_newList ?_ (by rw[hl];exact aI (by lia) (show 64<=aH by decide)));have UN:(h'.push (seqObj "list" Ru.toList.toArray 0)).get? h'.objs.size=Za (seqObj "list" Ru.toList.toArray 0):=aN _ rfl;refine ah (cX (wpAny_call_entry slot_list_sort ⟨_,UN,rfl⟩ entry_list_sort (list_sort_treeK strKind_oneLt UN hS.keysOf (λU0 UZ rest e=>keyKind_strs (by rw[<-e];exact hS)) (by lia) λSB a1 a2=>⟨_,rfl,?_⟩) (args_list_sort _)));refine aG ⟨_,rfl,?_⟩;obtain⟨ss',h1,h2,h3⟩:=sorted_out_str hS a1 a2;have e:=Lw h2 h3;subst e;have I1:Inv X Q9 O H { s with heap:=h',toks:=tk }:=I.kept hkp;obtain⟨e',XC⟩:=sortedHeap_at UN;have hf:=I1.Yn.fresh (al _);refine⟨.ref _,_,I1.laid (λb o e=>?_) (al _) ?_,rfl,q _ hf⟩
 .have Rs:=au e;refine(sortedHeap_old (az Rs) (by rw[size_push'];exact cm Rs)).trans ?_;exact ak _ e
 .refine⟨?_,((arrOf SB).map (·.2)).toList,e',Df h1,?_⟩
  .rw[ac,vV];exact aI (fA hz) (by decide)
  .exact XC
end
def Its(x:Str):It:=⟨λi _=>i<x.cps.size,λi H v H'=>H'=H/\∃c,x.cps[i]?=Za c/\v=.str ⟨#[c]⟩,λi _=>x.cps.size<=i⟩
def BL(hh:A.handled=Zb)(it)(x)(t):Walks P w A it [it] [it] x.cps.size (SignAt x) (λi h=>h.IsStrIter it (iW x) x t i):=by
 unfold iW;split
 .exact Walks.strAscii hh it x t
 .exact Walks.strWide hh it x t
def JG{P}{w}{K}{tg}(it)(x)(t):Turn P w K tg (Its x) [it] it (λi h=>i<=x.cps.size/\h.IsStrIter it (iW x) x t i) where
 mem:=by simp
 obj:=λi h st b hb=>by
  have e:b=it:=by simpa using hb
  subst e;obtain⟨_,o,e,c,d⟩:=st
  grind
 keep:=λi h h' st k=>by obtain⟨z,o,e,c,d⟩:=st;exact⟨z,o,k it (by simp) o e,c,d⟩
 item:=by intro X hP hw hK hc i Q9 s O H E I hf st hg;subst hP hw hK;obtain⟨f0,f1,f2,f3,f4,f5⟩:=hf it (by simp);refine(BL (I.ok.hd hc) it x t).item i s _ _ hg st.2 λv h' tk hv SB kk=>?_;obtain⟨c,u,e1,rfl⟩:=hv;have I1:Inv X Q9 O H { s with heap:=h',toks:=tk }:=I.turned (λb o hb e=>kk b o (by simpa using hb) e) f0 f1 f3 f4 f5;obtain⟨o,e,cl,d⟩:=id SB;refine⟨_,rfl,FY e cl d ?_ ⟨.str ⟨#[c]⟩,H,I1,⟨u,rfl⟩,⟨rfl,c,e1,rfl⟩,⟨hg,SB⟩,λb hb=>(hf b hb).1⟩⟩;unfold iW;split<;>decide
 done:=by intro X hP hw hK hc i Q9 s O H E I hf st hg;subst hP hw hK;obtain⟨f0,f1,f2,f3,f4,f5⟩:=hf it (by simp);have e:=jJ st.1 hg;subst e;exact(BL (I.ok.hd hc) it x t).done s _ _ st.2 λh' tk kk=>⟨rfl,I.turned (λb o hb e=>kk b o (by simpa using hb) e) f0 f1 f3 f4 f5⟩
 self:=λA i s Q E st h=>by
  obtain⟨_,st⟩:=st;unfold iW at st;split at st
  .exact wpAny_pyIter_striter_ascii st h
  .exact wpAny_pyIter_striter_wide st h
section
variable{X:Cx}{tg:bc}
def ÂH(tl:TE):TI:=λO H R=>tl O H λv H1=>∃x,v=.str x/\R (Its x) H1
def PD{l}{tl}(hl:PE X l tl):PI X tg l (ÂH tl):=by
 refine λQ9 s O H R I h=>Yy (hl Q9 s O H _ I h) λv s1=>e4 λy H1 I1 r1 q1=>?_;obtain⟨x,rfl,q⟩:=q1;obtain⟨t,rfl⟩:=r1;apply wpAny_pyIter_strU;refine⟨s1.heap.objs.size,[s1.heap.objs.size],_,_,H1,rfl,I1.kept λb o e=>ak _ e,JG _ x t,⟨a6 _,_,aN _ rfl,rfl,rfl⟩,λb hb=>?_,q⟩;have e:b=s1.heap.objs.size:=by simpa using hb
 subst e;exact I1.ŀ (al _) (I1.Yn.fresh (al _))
end
section
variable{X:Cx}{Q9:List (ag×Obj)}{O:St}{H:Hp}{s:aw}{d:ag}{Ra:List (Key×V)}{ob:Obj}
def Inv.ť(I:Inv X Q9 O H s)(hd:H d=Za u)(n1:∀y,u≠.own y)(n2:∀xs,u≠.tup xs)(n3:∀o v,X.Ha0 d≠Za (.YZ o v))(n4:∀ps,u≠.Ő ps)(ok:YJ X.prog X.w (upd H d u') s.heap d u'):Inv X Q9 O (upd H d u') s:=by
 have ne:∀b v,H b=Za v->v≠u->b≠d:=λb v e hv z=>by
  grind
 have nn:∀b,H b=Zb->b≠d:=λb e z=>by
  grind
 refine⟨I.ok,I.os,I.bare,⟨I.base.keep,I.base.slot,λb o e z hx=>?_,I.base.there,λb xs e=>?_,λb o v e=>?_,λb ps e=>?_⟩,I.loc,I.cell,?_,λy c e=>?_,λp hp=>?_,λb v e=>?_,I.len⟩
 .have:=I.base.free b o e z hx;rw[mj (nn b this)];exact this
 .have:=I.base.É b xs e;rw[mj (ne b _ this λz=>n2 xs z.symm)];exact this
 .have:=I.base.ZO b o v e;have hb:b≠d:=λz=>by subst z;exact n3 o v e
  rw[mj hb];exact this
 .obtain⟨m,e1⟩:=I.base.Ú b ps e;exact⟨m,by rw[mj (ne b _ e1 λz=>n4 _ z.symm)];exact e1⟩
 .rw[mj (nn _ I.free)];exact I.free
 .rw[mj (nn _ (I.Zt y c e))];exact I.Zt y c e
 .obtain⟨e1,z1,r1⟩:=I.pin p hp;exact⟨e1,by rw[mj (nn _ z1)];exact z1,r1⟩
 .by_cases hb:b=d
  .subst hb;rw[mv] at e
   grind
  .rw[mj hb] at e;exact(I.Yn b v e).Û (λc v _ q=>q) (λc q=>by rw[mj (ne c _ q λz=>n1 _ z.symm)];exact q) λc xs q=>by rw[mj (ne c _ q λz=>n2 _ z.symm)];exact q
def O0{H H'}(x:YJ P w H h d (.dK Ra)):YJ P w H' h d (.dK Ra):=x
def Inv.freeze(I:Inv X Q9 O H s)(hd:H d=Za (.dK Ra))(ho:s.heap.get? d=Za ob):Inv X Q9 O (upd H d (.YZ ob (.dK Ra))) s :=
 I.ť hd (by grind) (by grind) (λo v z=>by rw[I.base.ZO d o v z] at hd;grind) (by grind) ⟨ho,O0 (I.Yn d _ hd)⟩
def Inv.Ĉ(I:Inv X Q9 O H s)(hd:H d=Za (.YZ ob (.dK Ra)))(n3:∀o v,X.Ha0 d≠Za (.YZ o v)):Inv X Q9 O (upd H d (.dK Ra)) s :=
 I.ť hd (by grind) (by grind) n3 (by grind) (O0 (I.Yn d _ hd).2)
end
def Itd(d:ag)(ob:Obj)(Ra:List (Key×V)):It :=
 ⟨λi H=>i<Ra.length/\H d=Za (.YZ ob (.dK Ra)),λi H v H'=>H'=H/\∃kv,Ra[i]?=Za kv/\v=kV kv.1,λi H=>Ra.length<=i/\H d=Za (.YZ ob (.dK Ra))⟩
def LF(I:Inv X Q9 O H s)(hd:H d=Za (.YZ ob (.dK Ra)))(he:ob.data=.dict es0 ep) :
  ∃vs,KV Ra vs/\s.heap.DictAt (nI X.prog X.w) d vs ep:=by
 obtain⟨e,z,_,vs,rel,dd⟩:=(I.Yn d _ hd);obtain⟨Wp,o,es,e1,e2,e3,e4⟩:=dd.dictAt;rw[e] at e1;cases e1;rw[he] at e3;cases e3;exact⟨vs,rel,ob,_,e,e2,he,e4⟩
def BP{P}{w}{K}{tg}(d it)(ob)(Ra)(es0:Array DictEntry)(ep)(he:ob.data=.dict es0 ep) :
  Turn P w K tg (Itd d ob Ra) [it] it (λi h=>i<=Ra.length/\h.IsKeyIter it d i Ra.length ep) where
 mem:=by simp
 obj:=λi h st b hb=>by
  have e:b=it:=by simpa using hb
  subst e;obtain⟨_,o,e,c,d⟩:=st
  grind
 keep:=λi h h' st k=>by obtain⟨z,o,e,c,d⟩:=st;exact⟨z,o,k it (by simp) o e,c,d⟩
 item:=by
  intro X hP hw hK hc i Q9 s O H E I hf st hg;subst hP hw hK;obtain⟨f0,f1,f2,f3,f4,f5⟩:=hf it (by simp);obtain⟨hi,hd⟩:=hg;obtain⟨vs,rel,at_⟩:=LF I hd he;have hl:=rel.length;have hiv:i<vs.length:=by omega
  have Ur:s.heap.IsKeyIter it d i vs.length ep:=by rw[<-hl];exact st.2
  refine wpAny_pyNext_dict_item (k:=vs[i].1) (v:=vs[i].2) Ur at_ (by simp[hiv]) λkey h' hk it' sb=>?_;have I1:=I.turned (t':=s.toks) (λb o hb e=>(sb.2 b hb).trans e) f0 f1 f3 f4 f5;have Uq:Ra[i].1=vs[i].1:=by
   have e1:(Ra.map (·.1))[i]?=(vs.map (·.1))[i]?:=by rw[rel.keys]
   rw[aF,aF,aC hi,aC hiv] at e1;exact bO e1
  obtain⟨o,e,cl,dt⟩:=id it';refine⟨key,rfl,FY e cl dt (Zf rfl) ⟨kV Ra[i].1,H,I1,?_,⟨rfl,Ra[i],by simp[hi],rfl⟩,⟨hi,by rw[hl];exact it'⟩,λb hb=>(hf b hb).1⟩⟩;rw[Uq];have hk:=hk;rcases nF hk with⟨z,t,q1,q2⟩|⟨z,t,q1,q2⟩
  .rw[q1,q2];exact⟨t,rfl⟩
  .rw[q1,q2];exact⟨t,rfl⟩
 done:=by
  intro X hP hw hK hc i Q9 s O H E I hf st hg;subst hP hw hK;obtain⟨f0,f1,f2,f3,f4,f5⟩:=hf it (by simp);obtain⟨hi,hd⟩:=hg;obtain⟨vs,rel,at_⟩:=LF I hd he;have hl:=rel.length;have Ur:s.heap.IsKeyIter it d i vs.length ep:=by rw[<-hl];exact st.2
  exact wpAny_pyNext_dict_end (I.ok.hd hc) Ur at_ (by grind) λh' eb=>⟨rfl,I.turned (λb o hb e=>eb b o hb e) f0 f1 f3 f4 f5⟩
 self:=λA i s Q E st h=>by exact wpAny_pyIter_keyiter st.2 h
section
variable{X:Cx}
def Nm(x:Str):Prop:=x.length<=100/\∀c∈x.cps.toList,c<16^8
def BZ:ZA X (bR .LtE) (λx y H Q=>∃i j,x=.str i/\y=.str j/\Q (.bl (!decide (j.cps.toList<i.cps.toList))) H):=by
 rintro Q9 s O H x y v u Q I rx ry ⟨i,j,rfl,rfl,q⟩
 obtain⟨t,rfl⟩:=rx;obtain⟨t',rfl⟩:=ry;exact PySem.P.le_str ⟨.bl _,H,I,rfl,q⟩
def Nx:MtR X "str.join" (λx vs H Q=>∃(z:Str)(p:ag)(ys:List Str),x=.str z/\vs=[.ref p]/\YY X.K H p (ys.map V.str)/\(ys.map (·.length)).sum+ys.length*z.length<=16777216/\Q (.str (Txt.join z ys)) H):=by
 rintro Q9 s O H x vs v us Q I rx rv ⟨z,p,ys,rfl,rfl,hq,hz,q⟩
 obtain⟨t,rfl⟩:=rx;obtain⟨u,rfl,rfl⟩:=rv.one;obtain⟨its,r,pl,Vf⟩:=I.list hq;exact join_list pl.isList (by simpa using zg r) hz λt' k=>⟨.str _,H,I.tok k,⟨t',rfl⟩,q⟩
def Fc:YV X (.builtin "all") (λxs H Q=>∃(p:ag)(bs:List Bool),xs=[.ref p]/\YY X.K H p (bs.map V.bl)/\X.calm=true/\Q (.bl (bs.all id)) H):=by
 rintro Q9 s O H xs us Q I r ⟨p,bs,rfl,hq,hc,q⟩
 obtain⟨u,rfl,rfl⟩:=rh r;obtain⟨its,rv,pl,Vf⟩:=I.list hq;have hl:its.length=bs.length:=by have:=rv.length;rw[ac] at this;exact this.symm
 have RD:p≠s.heap.objs.size:=by obtain⟨o,ho,_⟩:=pl.isList;exact az (au ho)
 refine call_all_walk (gT pl.isList ?_);refine⟨s.heap.objs.size,_,_,its.toArray.size,_,_,λi=>(bs[i]?).getD true,rfl,Walks.list (show X.A.in1.handled=Zb from I.ok.hd hc) _ p RD its.toArray,⟨⟨_,aN _ rfl,rfl,rfl⟩,pl.isList.push _⟩,?_,λh' tk hk=>?_⟩
 .intro i v s' Q' E' hP hQ;have hP:=hP;have hv:its[i]?=Za v:=by simpa using hP
  have hi:=(aS.mp hv).1;obtain⟨u',hu',rfl⟩:=rv.get (i:=i) (x:=.bl bs[i]) (by simp[<-hl,hi]);rw[hv] at hu';cases hu';apply dA;have e:(bs[i]?).getD true=bs[i]:=by simp[<-hl,hi]
  rw[<-e];exact hQ
 .have I1:Inv X Q9 O H { s with heap:=h',toks:=tk }:=I.kept λb o e=>hk b o (λz=>by
   have e1:b=s.heap.objs.size:=by simpa using z
   exact absurd (au e) (by rw[e1];exact eS _)) (ak _ e)
  refine⟨.bl _,H,I1,rfl,?_⟩;have e:(br its.toArray.size).all (λi=>(bs[i]?).getD true)=bs.all id:=by
   rw[bj,hl,ci,dH,dH];constructor
   .intro z b hb;obtain⟨i,hi,rfl⟩:=List.mem_iff_getElem.mp hb;have:=z i (cT.mpr hi);simpa[hi] using this
   .intro z i hi;have hi:=cT.mp hi;simpa[hi] using z bs[i] (cR hi)
  rw[e];exact q
def NR:List V->List V->Bool
 |[],[]=>true
 |x::xs,y::ys=>ū x y&&NR xs ys
 |_,_=>false
theorem E5:∀{xs ys:List V},xs.length=ys.length->NR xs ys=(br xs.length).all λi=>ū ((xs[i]?).getD .Ym) ((ys[i]?).getD .Ym)
 |[],[],_=>rfl
 |[],_::_,h=>by cases h
 |_::_,[],h=>by cases h
 |x::xs,y::ys,h=>by show(ū x y&&NR xs ys)=_;rw[E5 (jO h),bx,kM,iS,List.all_map];rfl
def FU(rx:Vals xs us)(ry:Vals ys ws)(hl:xs.length=ys.length)(fx:xs.all tR=true)(fy:ys.all tR=true) :
  ∀j (h1:j<us.toArray.size) (h2:j<ws.toArray.size),lC A s us.toArray[j] ws.toArray[j] (ū ((xs[j]?).getD .Ym) ((ys[j]?).getD .Ym)):=by
 intro j h1 h2;have e1:=rx.length;have e2:=ry.length;have US:j<xs.length:=by rw[e1];simpa using h1
 have XU:j<ys.length:=by rw[e2];simpa using h2
 obtain⟨u,hu,ru⟩:=rx.get (i:=j) (x:=xs[j]) (by simp[US]);obtain⟨w,hw,RR⟩:=ry.get (i:=j) (x:=ys[j]) (by simp[XU]);have e3:us.toArray[j]=u:=by
  simp_all
 have e4:ws.toArray[j]=w:=by
  have:ws[j]?=Za ws.toArray[j]:=by simp[show j<ws.length by simpa using h2]
  grind
 rw[e3,e4];have e5:(xs[j]?).getD .Ym=xs[j]:=by simp[US]
 have e6:(ys[j]?).getD .Ym=ys[j]:=by simp[XU]
 rw[e5,e6];exact GG ru RR (dH.mp fx _ (cR US)) (dH.mp fy _ (cR XU))
def ÂM(K:aa)(n:Nat)(t:ϲ):TG:=λv O H Q=>∃a xs,v=.ref a/\YY K H a xs/\xs.length=n/\t xs O H Q
def PK(hc:X.calm=true)(h:PGs X es t)(hn:(cJ es X.env).length=n:=by rfl)(R8:(cJ es X.env).findIdx? (·.1)=none:=by rfl):PG X (.Tuple es k pos) (ÂM X.K n t):=by
 rintro Q9 s O H v u Q I r ⟨a,xs,e1,hq,hl,hw⟩
 subst e1;cases r;obtain⟨its,rv,ht,hz⟩:=I.list hq;refine ah (eg ?_);unfold unpack;have hsz:(cJ es X.env).length=its.toArray.size:=by simp[hn,<-hl,rv.length]
 rw[hsz,R8];refine ah (cX (PySem.W.kun_itemsOf (I.ok.hd hc) ht.isList λh' hx=>?_));have I1:=I.kept (t':=s.toks) λb o e=>hx b o (az (au e)) e;exact h Q9 _ O H xs _ Q I1 (by simpa using rv) hw
def PJ(X:Cx)(es:List bc)(t:St->Hp->(Hp->Prop)->Prop):Prop:=∀(Q9:List (ag×Obj))(s:aw)(O:St)(H:Hp)(Ru:Str)(n:Nat)(Q:Hp->Prop),Inv X Q9 O H s->Ru.length<=2000*n->n+es.length<=100->t O H Q ->
 Joins (model X.prog X.w) X.A X.xe (evalEach es X.env) Ru (λUJ s1=>UJ.length<=aH/\∃H',Inv X Q9 O H' s1/\Q H') s
def ÂC:St->Hp->(Hp->Prop)->Prop:=λ_ H Q=>Q H
def ÂB(te:TE)(t:St->Hp->(Hp->Prop)->Prop):St->Hp->(Hp->Prop)->Prop:=λO H Q=>te O H λv H1=>(∃x,v=.str x/\Nm x)/\t O H1 Q
def AZ:PJ X [] ÂC:=λQ9 s O H Ru n Q I h1 h2 h=>⟨aI h1 (aI (lV 2000 (show n<=100 by simpa using h2)) (Zf rfl)),H,I,h⟩
def zH(a b:Str):(a++b).length=a.length+b.length:=strLen_append a b
def AY{j pos}(hr:PJ X es t)(hl:c.length<=2000:=by decide):PJ X (.Constant (.str c) j pos::es) t:=by
 intro Q9 s O H Ru n Q I h1 h2 h;have h2:n+(es.length+1)<=100:=h2;refine lF ⟨c,s.toks,rfl,?_,hr Q9 _ O H (Ru++c) (n+1) Q (I.tok _) ?_ (by lia) h⟩
 .rw[zH];exact aI (show Ru.length+c.length<=2000*101 by lia) (Zf rfl)
 .rw[zH];lia
def yI(he:PE X e te)(hr:PJ X es t):PJ X (.FormattedValue e 114 Zb pos::es) (ÂB te t):=by
 intro Q9 s O H Ru n Q I h1 h2 h;have h2:n+(es.length+1)<=100:=h2;refine wpAny_FormattedValue_repr (Yy (he Q9 s O H _ I h) λv s1 ⟨y,H1,I1,r1,⟨x,e1,nm⟩,q1⟩=>?_);subst e1;obtain⟨tk,rfl⟩:=r1;have Re:(im x).length<=1002:=aI (PySem.StrLaws.reprText_len x nm.2) (by have:=nm.1;lia);have hsz:(im x).length<=aH:=aI Re (Zf rfl);have Rx:∀tk s2,Inv X Q9 O H1 s2->∃y t',Value.str (im x) tk=.str y t'/\(Ru++y).length<=aH/\Joins (model X.prog X.w) X.A X.xe (evalEach es X.env) (Ru++y) (λUJ s1=>UJ.length<=aH/\∃H',Inv X Q9 O H' s1/\Q H') s2:=λtk s2 I2=>by
  refine⟨_,tk,rfl,?_,hr Q9 s2 O H1 _ (n+1) Q I2 ?_ (by lia) q1⟩
  .rw[zH];exact aI (show Ru.length+(im x).length<=2000*101 by lia) (Zf rfl)
  .rw[zH];lia
 refine wpAny_pyReprObj_str ?_ hsz;exact wpAny_formatField_str (Rx _ _ (I1.tok _)) (Rx _ _ ((I1.tok _).tok _)) hsz
def tFs(t:St->Hp->(Hp->Prop)->Prop):TE:=λO H Q=>t O H λH1=>∀x,Q (.str x) H1
def FJ{U0 UZ}{rest}{pos}{t}(h:PJ X (U0::UZ::rest) t)(hl:(U0::UZ::rest).length<=100:=by decide):PE X (.JoinedStr (U0::UZ::rest) pos) (tFs t):=by
 refine λQ9 s O H Q I hq=>wpAny_JoinedStr ?_;have:=h Q9 s O H cx 0 (λH1=>∀x,Q (.str x) H1) I (a6 _) (by lia) hq;revert this;generalize evalEach (U0::UZ::rest) X.env=parts;generalize cx=Ru;intro this;clear h hl hq I;induction parts generalizing Ru s with
 |nil =>
  obtain⟨z,H',I',q⟩:=this;exact⟨z,.str Ru,H',I'.tok _,⟨_,rfl⟩,q Ru⟩
 |cons p ps ih =>
  refine bw this (λv s1 ⟨y,t,e,z,k⟩=>⟨y,t,e,z,ih _ _ k⟩) λ_ _ z=>z
end
def Fn(P:aL)(w:aX)(K:aa)(mg:Str->Option af)(base:bi)(x:Str)(k:Nat)(ps:List Str)(sp:Sp):Prop :=
 ∃f fd,YD P w K mg base (Y7 P w) k f fd ps sp/\mg x=Za (.ref f)/\bW K (.ref f)=true/\Binds K fd ps []
def Mt(P:aL)(w:aX)(K:aa)(mg:Str->Option af)(base:bi)(C:ag)(m:Str)(k:Nat)(ps:List Str)(sp:Sp):Prop :=
 ∃f fd,YD P w K mg base (Y7 P w) k f fd ps sp/\Meth K C m f/\ş K C/\Binds K fd ps []
def MkB(P:aL)(w:aX)(K:aa)(mg:Str->Option af)(base:bi)(x:Str)(C:ag)(k:Nat)(ps:List Str)(sp:Sp):Prop :=
 ∃f fd,YD P w K mg base (Y7 P w) k f fd ps sp/\mg x=Za (.ref C)/\Mk K C f/\Binds K fd ps []
section
variable{X:Cx}{k:Nat}{C:ag}{ps:List Str}{sp:Sp}{E:XK}{x m:Str}{p pos Rc:Pos}{e o:bc}{es:List bc}{ta:TE}{t:TA}
def wR(F:Fn X.prog X.w X.K X.mg X.base x k ps sp)(hr:YA k X.A)(hg:Gl X x)(hx:oQ (Y7 X.prog X.w) X E)(ha:PA X (e::es) t)(RP:Ò x:=by decide)(he:ě X e es:=by rfl)(Rp:(bP pos (aq es X.env)).any (·.1)=false:=by rfl):PE X (.Call (.Name x p) (e::es) [] pos) (Fv sp [] E t):=by
 obtain⟨f,fd,F,hm,hk,hb⟩:=F;exact M7 F hr hg hm hk hb .nil hx ha RP he Rp
def PL(F:Fn X.prog X.w X.K X.mg X.base x k ps sp)(hr:YA k X.A)(hg:Gl X x)(ha:PA X.þ (e::es) t)(RP:Ò x:=by decide)(he:ě X e es:=by rfl)(Rp:(bP pos (aq es X.env)).any (·.1)=false:=by rfl):PEx X (.Call (.Name x p) (e::es) [] pos) (λE=>Fv sp [] E t):=by
 obtain⟨f,fd,F,hm,hk,hb⟩:=F;exact J4 F hr hg hm hk hb .nil ha RP he Rp
def vm(he:PE X o ta)(M:Mt X.prog X.w X.K X.mg X.base C m k ps sp)(hr:YA k X.A)(hx:oQ (Y7 X.prog X.w) X E)(ha:PA X (e::es) t)(R8:ě X e es:=by rfl)(Rp:(bP pos (aq es X.env)).any (·.1)=false:=by rfl)(ht:eval (.Call (.Attribute o m Rc) (e::es) [] pos) X.env=(do
   let ov <-eval o X.env
   fY Rc.atName
   let(f,first) <-holding [ov] (fV ov m pl)
   iX pos f first (bP pos (aq (e::es) X.env)) (eO pos (cM [] X.env))):=by rfl):PE X (.Call (.Attribute o m Rc) (e::es) [] pos) (Jj C m sp [] E ta t):=by
 obtain⟨f,fd,F,hm,c,hb⟩:=M;exact M5 he c hm F hr hb .nil hx ha R8 Rp ht
def PN(he:PE X o ta)(M:Mt X.prog X.w X.K X.mg X.base C m k ps sp)(hr:YA k X.A)(hx:oQ (Y7 X.prog X.w) X E)(ht:eval (.Call (.Attribute o m Rc) [] [] pos) X.env=(do
   let ov <-eval o X.env
   fY Rc.atName
   let(f,first) <-holding [ov] (fV ov m pl)
   iX pos f first (bP pos (aq [] X.env)) (eO pos (cM [] X.env))):=by rfl):PE X (.Call (.Attribute o m Rc) [] [] pos) (Jj C m sp [] E ta K7):=by
 obtain⟨f,fd,F,hm,c,hb⟩:=M;exact J6 he c hm F hr hb .nil hx ht
def PP(M:MkB X.prog X.w X.K X.mg X.base x C k ps sp)(hr:YA (k+1) X.A)(hg:Gl X x)(hx:oQ (Y7 X.prog X.w) X E)(RP:Ò x:=by decide):PE X (.Call (.Name x p) [] [] pos) (Jk C sp [] E K7):=by obtain⟨f,fd,F,hm,mk,hb⟩:=M;exact J7 mk F hr hg hm hb .nil hx RP
def sO:ZA X (dE .FloorDiv) (rI (λ_ j=>0<j/\j.natAbs.log2<9000) λi j=>.int (i/j)):=opI λi j _ _ _ _ _ hc q=>by exact floordiv_int (by lia) (by rw[Int.fdiv_eq_ediv_of_nonneg i (by lia)];exact q) (.inl (PyProof.noPylong_of_log2 hc.2))
end
section
variable{P:aL}{w:aX}{K:aa}{mg:Str->Option af}{base:bi}
def Î.okN{x qual}{st}{f}{fd}{N ps}{k}{sp:Sp}(F:Î K x qual st f fd)(S:N' N ps (mw st))(len:∀vs H Q E,sp vs H Q E->vs.length=ps.length)(Sr:∀(Rk:af)(A:b8)(outer:List Env)(s:aw)(H:Hp)(vs:List V)(Q:VK)(E:XK),YA k (A.deeper (ei qual (mw st) s.heap.objs.size f Rk))->sp vs H Q E ->
   ∃t,ŉ (Du (Y7 P w) P w K mg base N qual (mw st) f Rk A outer s H E).þ (oj st) t/\t { nx:=λ_ H'=>Q .Ym H',rt:=Q } (start N vs) H):YD P w K mg base (Y7 P w) (k+1) f fd ps sp:=by
 obtain⟨oc,od,kV,Sj,pm,an,Rk,ct,Ts,rfl,lk,R9⟩:=F.ex;refine OW lk R9 S len λA outer s H vs Q E hr Tn=>?_;obtain⟨t,h,q⟩:=Sr Rk A outer s H vs Q E hr Tn;exact⟨t,h.þ,q⟩
def Î.okX{x qual}{st}{f}{fd}{N ps}{k}{sp:Sp}(F:Î K x qual st f fd)(S:N' N ps (mw st))(len:∀vs H Q E,sp vs H Q E->vs.length=ps.length)(Sr:∀(Rk:af)(A:b8)(outer:List Env)(s:aw)(H:Hp)(vs:List V)(Q:VK)(E:XK),YA k (A.deeper (ei qual (mw st) s.heap.objs.size f Rk))->sp vs H Q E ->
   ∃t,ŉ (Du (Y7 P w) P w K mg base N qual (mw st) f Rk A outer s H E) (oj st) t/\t { nx:=λ_ H'=>Q .Ym H',rt:=Q } (start N vs) H):YD P w K mg base (Y7 P w) (k+1) f fd ps sp:=by
 obtain⟨oc,od,kV,Sj,pm,an,Rk,ct,Ts,rfl,lk,R9⟩:=F.ex;exact OW lk R9 S len λA outer s H vs Q E hr Tn=>Sr Rk A outer s H vs Q E hr Tn
end
def HD(n:Nat)(R:Nat->List V->Hp->Prop)(h0:R 0 [] (upd H1 D (.lst [])))(hn:n<=aH)(hD:∀i ys H,R i ys H->H D=Za (.lst ys))(hgo:∀i ys H,i<n->R i ys H->J.go i H)(Vk:∀i ys H x H',i<n->R i ys H->J.yld i H x H'->∀(Kt:VK)(Kf:Hp->Prop),(∀v H5,H5 D=Za (.lst ys)->R (i+1) (ys++[v]) (upd H5 D (.lst (ys++[v])))->Kt v H5)->(∀H4,R (i+1) ys H4->Kf H4) ->
   tc (Za x::cap) H' λb H4=>if b=true then te (Za x::cap) H4 Kt else Kf H4)(Xs:∀ys H,ys.length<=n->R n ys H->J.stop n H/\Q (.ref D) H) :
  Ę J tc te cap D H1 Q:=by
 refine⟨λi m ys H=>i<=n/\m=n-i/\ys.length<=i/\R i ys H,⟨n,a6 _,by simp,a6 _,h0⟩,?_⟩
 rintro i m ys H2 ⟨hi,rfl,hl,r⟩
 by_cases Rs:i<n
 .refine .inr ⟨hgo i ys H2 Rs r,λx H3 y=>Vk i ys H2 x H3 Rs r y _ _ (λv H5 e r'=>⟨e,by lia,n-(i+1),by lia,Rs,rfl,by simp;lia,r'⟩) λH4 r'=>⟨n-(i+1),by lia,Rs,rfl,by lia,r'⟩⟩
 .have e:i=n:=by lia
  subst e;obtain⟨h1,h2⟩:=Xs ys H2 hl r;exact .inl ⟨h1,hD i ys H2 r,h2⟩
def D2:bu "len"=Za (.builtin "len"):=by decide +kernel
def rP:bu "isinstance"=Za (.builtin "isinstance"):=by decide +kernel
def vt:bu "sorted"=Za (.builtin "sorted"):=by decide +kernel
def QR:bu "abs"=Za (.builtin "abs"):=by decide +kernel
def LX:bu "all"=Za (.builtin "all"):=by decide +kernel
def LW:bu "int"=Za (.type "int"):=by decide +kernel
def Fe:bu "tuple"=Za (.type "tuple"):=by decide +kernel
def Ad:bu "list"=Za (.type "list"):=by decide +kernel
def LV:bu "str"=Za (.type "str"):=by decide +kernel
def Oh:bu "bool"=Za (.type "bool"):=by decide +kernel
end L2
set_option maxHeartbeats 4000000
namespace My
open PySem L2
abbrev YQ:=L2.YQ
def sL(h:H p=Zb):YQ H (upd H p o):=λb u e=>by rw[mj (mG e h)];exact e
def nbT(h:(!b)=true):b=false:=by grind
def nbF(h:¬(!b)=true):b=true:=by grind
structure Ent where
 nm:Str
 th:Int
 mr:Int
 ls:Int
 held:List (Str×Int×Int)
structure BA where
 dx:ag
 dp:ag
 dt:ag
 dm:ag
 dl:ag
 dh:ag
def bf(z:BA):List (Str×V):=[(("people":Str),V.ref z.dp),("things_of",.ref z.dt),("mark_of",.ref z.dm),("loss_of",.ref z.dl),("held_of",.ref z.dh)]
def qD{g f:Str}{v:V}{r:List (Str×V)}(h:¬f=g):gD f ((g,v)::r)=gD f r:=by grind
def xm{f:Str}{v:V}{r:List (Str×V)}:gD f ((f,v)::r)=Za v:=by grind
def vv(z:BA):(bf z).lookup ("people":Str)=Za (V.ref z.dp):=xm
def Jd(z:BA):(bf z).lookup ("things_of":Str)=Za (V.ref z.dt):=by unfold bf;rw[qD (by decide +kernel)];exact xm
def Oi(z:BA):(bf z).lookup ("mark_of":Str)=Za (V.ref z.dm):=by unfold bf;rw[qD (by decide +kernel),qD (by decide +kernel)];exact xm
def Oj(z:BA):(bf z).lookup ("loss_of":Str)=Za (V.ref z.dl):=by unfold bf;rw[qD (by decide +kernel),qD (by decide +kernel),qD (by decide +kernel)];exact xm
def vN(z:BA):(bf z).lookup ("held_of":Str)=Za (V.ref z.dh):=by unfold bf;rw[qD (by decide +kernel),qD (by decide +kernel),qD (by decide +kernel),qD (by decide +kernel)];exact xm
def vw(z:BA){m:Str}(h1:¬m="people":=by decide +kernel)(h2:¬m="things_of":=by decide +kernel)(h3:¬m="mark_of":=by decide +kernel)(h4:¬m="loss_of":=by decide +kernel)(h5:¬m="held_of":=by decide +kernel):(bf z).lookup m=none:=by
 unfold bf
 simp_all
def HeldAt(K:aa)(H:Hp)(p:ag)(l:List (Str×Int×Int)):Prop :=
 ∃ts:List ag,ts.length=l.length/\H p=Za (.dK ((l.zip ts).map λq=>(ap q.1.1,V.ref q.2)))/\∀q∈l.zip ts,ZK K H q.2 [.int q.1.2.1,.int q.1.2.2]
def ś(H:Hp)(d:ag)(S:List (Key×V)):Prop:=∃T:List (Key×V),H d=Za (.dK T)/\T.Perm S/\(S.map (·.1)).Nodup
theorem zc:∀{l:List (Key×V)},(l.map (·.1)).Nodup->(pB l k=Za v↔(k,v)∈l)
 |[],_=>⟨λh=>(by cases h),λh=>(by cases h)⟩
 |x::r,h=>by
  obtain⟨h1,h2⟩:=aM.mp h;have ih:=zc (k:=k) (v:=v) h2;unfold pB at ih ⊢
  grind
def Eu(p:T.Perm S)(nd:(S.map (·.1)).Nodup)(k:Key):pB T k=pB S k:=by apply Option.ext;intro v;rw[zc ((p.map (·.1)).nodup_iff.mpr nd),zc nd,p.mem_iff]
def ś.keep(h:ś H d S)(k:∀o,H d=Za o->H' d=Za o):ś H' d S:=by obtain⟨T,e,p,n⟩:=h;exact⟨T,k _ e,p,n⟩
def ś.ÀC(h:ś H d S)(x:Str):Zs H d (kV (ap x)) (pB S (ap x)):=by obtain⟨T,e,p,n⟩:=h;rw[<-Eu p n];exact Zs.k e
def ś.keys{H:Hp}{d:ag}{α:Type}{L:List α}{key:α->Str}{v:α->V}(h:ś H d (L.map λe=>((ap (key e):Key),v e))):∃(T:List (Key×V))(ss:List Str),H d=Za (.dK T)/\T.map (·.1)=ss.map ap/\ss.Perm (L.map key):=by
 obtain⟨T,e,p,n⟩:=h;have q:=p.map (·.1);rw[aE] at q;refine⟨T,(T.map (·.1)).map λk=>match k with|.inr s=>s|.inl _=>cx,e,?_,?_⟩
 .rw[aE];refine((iD _).symm.trans (a7 λk hk=>?_));have:=q.mem_iff.mp hk;obtain⟨x,_,rfl⟩:=ar.mp this;rfl
 .have:=q.map λk:Key=>match k with|.inr s=>s|.inl _=>cx
  have e2:(L.map ((λx=>x.1)∘λe=>((ap (key e):Key),v e))).map (λk:Key=>match k with|.inr s=>s|.inl _=>cx)=L.map key:=by rw[aE];rfl
  simp_all
structure Yx(K:aa)(C:ag)(H:Hp)(b:ag)(z:BA)(Rf:List Str)(L:List (Ent×ag)):Prop where
 ob:H b=Za (.ins C z.dx (bf z))
 pp:H z.dp=Za (.dK (Rf.map λn=>(ap n,.bl true)))
 tt:H z.dt=Za (.dK (L.map λe=>(ap e.1.nm,.int e.1.th)))
 mm:H z.dm=Za (.dK (L.map λe=>(ap e.1.nm,.int e.1.mr)))
 ll:H z.dl=Za (.dK (L.map λe=>(ap e.1.nm,.int e.1.ls)))
 hh:ś H z.dh (L.map λe=>(ap e.1.nm,.ref e.2))
 he:∀e∈L,HeldAt K H e.2 e.1.held
 nd:(b::z.dp::z.dt::z.dm::z.dl::z.dh::L.map (·.2)).Nodup
 p6:Rf.length<=6
 h8:L.length<=8
noncomputable def Z6(b:ag)(z:BA)(L:List (Ent×ag)):List ag:=b::z.dp::z.dt::z.dm::z.dl::z.dh::L.map (·.2)
def vy{K}(h:ZK K H t xs)(k:∀c o,H c=Za o->(∃xs,o=.tup xs\/∃ob,o=.YZ ob (.tup xs))->H' c=Za o):ZK K H' t xs:=by
 rcases h with(h|⟨ob,h⟩)|h
 .exact .inl (.inl (k _ _ h ⟨xs,.inl rfl⟩))
 .exact .inl (.inr ⟨ob,k _ _ h ⟨xs,.inr ⟨ob,rfl⟩⟩⟩)
 .exact .inr h
def HeldAt.keep{K}(h:HeldAt K H p l)(hp:∀o,H p=Za o->H' p=Za o)(k:∀c o,H c=Za o->(∃xs,o=.tup xs\/∃ob,o=.YZ ob (.tup xs))->H' c=Za o):HeldAt K H' p l:=by obtain⟨ts,e1,e2,e3⟩:=h;exact⟨ts,e1,hp _ e2,λq hq=>vy (e3 q hq) k⟩
theorem Yx.keep{K}(B:Yx K C H b z Rf L)(k:∀c o,H c=Za o->(c∈Z6 b z L\/∃xs,o=.tup xs\/∃ob,o=.YZ ob (.tup xs))->H' c=Za o):Yx K C H' b z Rf L:=by
 refine⟨k _ _ B.ob (.inl (by simp[Z6])),k _ _ B.pp (.inl (by simp[Z6])),k _ _ B.tt (.inl (by simp[Z6])),k _ _ B.mm (.inl (by simp[Z6])),k _ _ B.ll (.inl (by simp[Z6])),B.hh.keep (λo h=>k _ _ h (.inl (by simp[Z6]))),λe he=>?_,B.nd,B.p6,B.h8⟩;refine(B.he e he).keep (λo h=>k _ _ h (.inl ?_)) λc o h x=>k c o h (.inr x);unfold Z6
 grind
def Yx.same{K}(B:Yx K C H b z Rf L)(s:YQ H H'):Yx K C H' b z Rf L:=B.keep λc o h _=>s c o h
def qL(L:List (Ent×ag))(n:Str):Bool:=(L.find? λe=>decide (e.1.nm=n)).isSome
def oJ(Rf:List Str)(n:Str):Bool:=(Rf.find? λm=>decide (m=n)).isSome
def rY(l:List α)(key:α->Str)(v:α->V)(n:Str):pB (l.map λe=>((ap (key e):Key),v e)) (ap n)=(l.find? λe=>decide (key e=n)).map v:=by
 unfold pB;rw[gw,Option.map_map];have e:((λkv:Key×V=>decide (kv.1=ap n))∘λe=>((ap (key e):Key),v e))=λe=>decide (key e=n):=by
  grind
 rw[e];rfl
end My
namespace L2
open PySem PySem.Spec PyProof.Rows
abbrev fzO(o:Obj):HO:=.YZ o (.own 0)
structure ÂX(scope:dF)(x:Str)(fr:List Str):Prop where
 kind:scope.kind=.function
 co:scope.isCoroutine=false
 gen:scope.isGenerator=false
 cell:∀y∈scope.names,y.2≠.cell
 par:scope.names.lookup x=Za .local
 ZE:∀y∈fr,scope.names.lookup y=Za .free
 nd:(x::fr).Nodup
structure ÂY(scope:dF)(fr:List Str)(cl:List (Str×ag))(cs:List (ag×Obj))(UD:List V):Prop where
 has:∀y,scope.names.lookup y=Za .free->∃c,cl.lookup y=Za c
 inj:∀y z c,cl.lookup y=Za c->cl.lookup z=Za c->y=z
 cel:∀y c,cl.lookup y=Za c->∃o u,cs.lookup c=Za o/\o.data=.cell u
 val:∀(i:Nat)(y:Str)(v:V),fr[i]?=Za y->UD[i]?=Za v->∃c o u,cl.lookup y=Za c/\cs.lookup c=Za o/\o.data=.cell (Za u)/\RelV v u
 len:UD.length=fr.length
def O5(H:Hp)(P:ag)(q:Str):Prop:=∃ps,H P=Za (.Ő ps)/\TriplesOk ps.toList/\∀pos c,codeAmong pos ps.toList=Za c->∃c' oc,c=.ref c'/\H c'=Za (fzO oc)/\∃vs tq,oc.data=.fields vs/\vs[1]?=Za (.str q tq)
section
variable{cd P:ag}
structure ÂU(K:aa)(mg:Str->Option af)(base:bi)(cd P:ag):Prop where
 hd:∀h:bi,K.In h->PySem.W.CodeHd h cd P
 nP:P≠aV
 bm:∃bm o,mg "__builtins__"=Za (.ref bm)/\bm≠jk/\bm≠aV/\bm≠P/\base.get? bm=Za o/\o.cls=.type "module"/\o.dict=Za jk/\o.data=.plain
end
def ϫ(u:HO):Prop:=(∃ps,u=.Ő ps)\/∃ob x,u=.YZ ob (.own x)
def ϱ(H H':Hp):Prop:=(∀a ps,H a=Za (.Ő ps)->∃Ue,H' a=Za (.Ő Ue))/\∀P q,O5 H P q->O5 H' P q
def ϱ.of(k:∀a o,H a=Za o->ϫ o->H' a=Za o):ϱ H H':=⟨λa ps h=>⟨ps,k a _ h (.inl ⟨ps,rfl⟩)⟩,λP q ⟨ps,h,t,g⟩=>⟨ps,k P _ h (.inl ⟨ps,rfl⟩),t,λp c e=>by obtain⟨c',oc,a1,a2,a3⟩:=g p c e;exact⟨c',oc,a1,k c' _ a2 (.inr ⟨oc,0,rfl⟩),a3⟩⟩⟩
def ϱ.same(k:YQ H H'):ϱ H H':=.of λa o h _=>k a o h
theorem ϱ.upd(h:H d=Za u)(n:¬ϫ u):ϱ H (upd H d o):=.of λa o' h' od=>by rw[mj (λz=>by grind)];exact h'
def Mf:¬ϫ (.dK Ra):=λz=>by rcases z with⟨_,z⟩|⟨_,_,z⟩<;>cases z
def Bj:¬ϫ (.lst xs):=λz=>by rcases z with⟨_,z⟩|⟨_,_,z⟩<;>cases z
def Án:¬ϫ (.dT Ra):=λz=>by rcases z with⟨_,z⟩|⟨_,_,z⟩<;>cases z
def Lp:¬ϫ (.ins C dx fs):=λz=>by rcases z with⟨_,z⟩|⟨_,_,z⟩<;>cases z
def Qe:¬ϫ (.YZ ob (.dK Ra)):=λz=>by rcases z with⟨_,z⟩|⟨_,_,z⟩<;>cases z
def Fi:List Str:=["rules"]
def Tab(K:aa)(P:ag)(q:Str):Prop:=∃x∈Fi,∃c,PySem.W.tabIn K x=Za (c,P)/\q=x++".<locals>.<lambda>"
inductive PV where
 |Ym|bl (b:Bool)|int (i:Int)|str (x:Str)|tup (l:List PV)|lst (l:List PV)|Yr (l:List (Key×PV))|ref (n:Nat)|exc (c:ag)|seq (l:List PV)|ŭ (a:ag) (vs:List V) (l:List PV)
inductive Cell where
 |lst (l:List PV)|Yr (l:List (Key×PV))|book (pp:List Str) (L:List My.Ent)|obj (C:ag) (fs:List (Str×PV))|Zp (l:List (Key×PV))|Å (l:List (List Key×PV))
structure K' where
 nx:Nat
 cs:List (Nat×Cell)
structure Mp where
 ad:Nat->ag
 fp:Nat->List ag
 YW:List ag
noncomputable def qw:List (Nat×Cell)->Nat->Option Cell
 |[],_=>Zb
 |(k,c)::r,n=>if k=n then Za c else qw r n
noncomputable def pE(n:Nat)(c:Cell):List (Nat×Cell)->List (Nat×Cell)
 |[]=>[]
 |(k,d)::r=>if k=n then(n,c)::r else(k,d)::pE n c r
noncomputable def Dr(n:Nat):List (Nat×Cell)->List (Nat×Cell)
 |[]=>[]
 |(k,d)::r=>if k=n then r else(k,d)::Dr n r
def K'.get(s:K')(n:Nat):Option Cell:=qw s.cs n
def K'.set(s:K')(n:Nat)(c:Cell):K':=⟨s.nx,pE n c s.cs⟩
def K'.del(s:K')(n:Nat):K':=⟨s.nx,Dr n s.cs⟩
noncomputable def K'.add(s:K')(c:Cell):K':=⟨s.nx+1,(s.nx,c)::s.cs⟩
theorem oy:∀{l:List (Nat×Cell)},qw l n=Za c->(n,c)∈l
 |(k,d)::r,h=>by
  unfold qw at h;split at h
  .rename_i e;cases h;subst e;exact ai
  .exact ae _ (oy h)
theorem EF:∀{l:List (Nat×Cell)},(l.map (·.1)).Nodup->q∈pE n c l->q=(n,c)\/(q∈l/\q.1≠n)
 |(k,d)::r,nd,h=>by
  unfold pE at h;obtain⟨n1,n2⟩:=aM.mp (nd);split at h
  .grind
  .rename_i e;obtain h|h:=ao.mp h
   .grind
   .obtain h|⟨h,h'⟩:=EF n2 h
    .exact .inl h
    .grind
theorem qo:∀{l:List (Nat×Cell)},(pE n c l).map (·.1)=l.map (·.1)
 |[]=>rfl
 |(k,d)::r=>by
  unfold pE;split
  .rename_i e;simp[e]
  .simp[qo]
theorem ve:∀{l:List (Nat×Cell)},q∈Dr n l->q∈l
 |(k,d)::r,h=>by
  unfold Dr at h;split at h
  .exact ae _ h
  .obtain h|h:=ao.mp h
   .subst h;exact ai
   .exact ae _ (ve h)
theorem Hz:∀{l:List (Nat×Cell)},(l.map (·.1)).Nodup->((Dr n l).map (·.1)).Nodup
 |[],_=>iC
 |(k,d)::r,nd=>by
  obtain⟨n1,n2⟩:=aM.mp (nd);unfold Dr;split
  .exact n2
  .refine aM.mpr ⟨λz=>n1 ?_,Hz n2⟩;obtain⟨q,hq,e⟩:=ar.mp z;exact ar.mpr ⟨q,ve hq,e⟩
theorem Hy:∀{l:List (Nat×Cell)},(l.map (·.1)).Nodup->q∈Dr n l->q.1≠n
 |(k,d)::r,nd,h=>by
  obtain⟨n1,n2⟩:=aM.mp (nd);unfold Dr at h;split at h
  .grind
  .rename_i e;obtain h|h:=ao.mp h
   .grind
   .exact Hy n2 h
theorem rn(h:k≠n):∀{l:List (Nat×Cell)},qw (pE n c l) k=qw l k
 |[]=>rfl
 |(j,d)::r=>by
  unfold pE;split
  .rename_i e;unfold qw;rw[Zd (λz=>h z.symm),Zd (λz=>h (z.symm.trans e))]
  .unfold qw;split
   .rfl
   .exact rn h
theorem qu(h:k≠n):∀{l:List (Nat×Cell)},qw (Dr n l) k=qw l k
 |[]=>rfl
 |(j,d)::r=>by
  unfold Dr;split
  .rename_i e
   conv=>rhs;unfold qw
   rw[Zd (λz=>h (z.symm.trans e))]
  .unfold qw;split
   .rfl
   .exact qu h
def ĥ(m:Mp)(s:K')(a:ag):Prop:=a∉m.YW/\∀n∈s.cs.map (·.1),a∉m.fp n
def KL(K:aa)(a:ag)(xs:List V):Prop:=∃(o:Obj)(its:Array af)(n:Nat),K.lookup a=Za o/\o.cls=.type "list"/\o.dict=Zb/\o.data=.seq its n/\its.size<=aH/\Vals xs its.toList
def KT'(K:aa)(a:ag)(xs:List V):Prop:=∃(o:Obj)(its:Array af)(n:Nat),K.lookup a=Za o/\o.cls=.type "tuple"/\o.data=.seq its n/\its.size<=aH/\Vals xs its.toList
mutual
inductive Rep (K:aa) (H:Hp) (m:Mp) (s:K'):V->PV->Prop
 |Ym:Rep K H m s .Ym .Ym
 |bl {b:Bool}:Rep K H m s (.bl b) (.bl b)
 |int {i:Int}:Rep K H m s (.int i) (.int i)
 |str {x:Str}:Rep K H m s (.str x) (.str x)
 |tup {a:ag}{vs:List V}{l:List PV}:(Rd H a (.tup vs)/\ĥ m s a\/KT' K a vs)->Yd K H m s vs l->Rep K H m s (.ref a) (.tup l)
 |lst {a:ag}{vs:List V}{l:List PV}:H a=Za (.lst vs)->ĥ m s a->Yd K H m s vs l->Rep K H m s (.ref a) (.lst l)
 |seq {a:ag}{vs:List V}{l:List PV}:((∃o,H a=Za (.YZ o (.lst vs)))/\ĥ m s a\/KL K a vs)->Yd K H m s vs l->Rep K H m s (.ref a) (.seq l)
 |Yr {a:ag}{vs:List (Key×V)}{l:List (Key×PV)}:Rd H a (.dK vs)->ĥ m s a->Yf K H m s vs l->Rep K H m s (.ref a) (.Yr l)
 |ref {n:Nat}:n<s.nx->Rep K H m s (.ref (m.ad n)) (.ref n)
 |exc {a c:ag}:H a=Za (F8 c a)->ĥ m s a->Rep K H m s (.ref a) (.exc c)
 |ŭ {a:ag}{vs:List V}{l:List PV}:Yd K H m s vs l->Rep K H m s (.ref a) (.ŭ a vs l)
inductive Yd (K:aa) (H:Hp) (m:Mp) (s:K'):List V->List PV->Prop
 |nil:Yd K H m s [] []
 |cons {v:V}{p:PV}{vs:List V}{l:List PV}:Rep K H m s v p->Yd K H m s vs l->Yd K H m s (v::vs) (p::l)
inductive Yf (K:aa) (H:Hp) (m:Mp) (s:K'):List (Key×V)->List (Key×PV)->Prop
 |nil:Yf K H m s [] []
 |cons {k:Key}{v:V}{p:PV}{vs:List (Key×V)}{l:List (Key×PV)}:Rep K H m s v p->Yf K H m s vs l->Yf K H m s ((k,v)::vs) ((k,p)::l)
end
structure ExtR(H:Hp)(m:Mp)(s:K')(H':Hp)(m':Mp)(s':K'):Prop where
 nx:s.nx<=s'.nx
 ad:∀n,n<s.nx->m'.ad n=m.ad n
 pu:∀a u,Rd H a u->ĥ m s a->Rd H' a u/\ĥ m' s' a
 el:∀a u,H a=Za u->(∀Ra,u≠.dK Ra)->ĥ m s a->H' a=Za u
structure Ext0(H:Hp)(m:Mp)(s:K')(H':Hp)(m':Mp)(s':K'):Prop extends ExtR H m s H' m' s' where
 df:∀n l,n<s.nx->qw s.cs n=Za (.Zp l)->qw s'.cs n=Za (.Zp l)/\∀o,H (m.ad n)=Za o->H' (m.ad n)=Za o
structure Ext(H:Hp)(m:Mp)(s:K')(H':Hp)(m':Mp)(s':K'):Prop extends Ext0 H m s H' m' s' where
 hd:m'.YW=m.YW
 hk:∀a∈m.YW,∀o,H a=Za o->(∀ps,o≠.Ő ps)->H' a=Za o
def Ext.refl:Ext H m s H m s:=⟨⟨⟨al _,λ_ _=>rfl,λ_ _ h p=>⟨h,p⟩,λ_ _ h _ _=>h⟩,λ_ _ _ h=>⟨h,λ_ h=>h⟩⟩,rfl,λ_ _ _ h _=>h⟩
theorem Ext0.trans(a:Ext0 H m s H1 m1 s1)(b:Ext0 H1 m1 s1 H2 m2 s2):Ext0 H m s H2 m2 s2 :=
 ⟨⟨aI a.nx b.nx,λn h=>(b.ad n (ax h a.nx)).trans (a.ad n h),λc u h p=>let⟨h1,p1⟩:=a.pu c u h p;b.pu c u h1 p1,λc x h n p=>b.el c x (a.el c x h n p) n (a.pu c _ (.inl h) p).2⟩,λn l hn h=>by obtain⟨h1,k1⟩:=a.df n l hn h;obtain⟨h2,k2⟩:=b.df n l (ax hn a.nx) h1;rw[a.ad n hn] at k2;exact⟨h2,λo h=>k2 o (k1 o h)⟩⟩
theorem Ext.trans(a:Ext H m s H1 m1 s1)(b:Ext H1 m1 s1 H2 m2 s2):Ext H m s H2 m2 s2 :=
 ⟨a.toExt0.trans b.toExt0,b.hd.trans a.hd,λc hc o h n=>b.hk c (by rw[a.hd];exact hc) o (a.hk c hc o h n) n⟩
def Rd.same(k:YQ H H')(h:Rd H a u):Rd H' a u:=h.elim (λh=>.inl (k _ _ h)) λ⟨o,h⟩=>.inr ⟨o,k _ _ h⟩
def Rd.ne(h:Rd H a u)(hb:H b=Zb):a≠b:=h.elim (λh=>mG h hb) λ⟨_,h⟩=>mG h hb
theorem Ext.same(k:YQ H H'):Ext H m s H' m s:=⟨⟨⟨al _,λ_ _=>rfl,λ_ _ h p=>⟨h.same k,p⟩,λ_ _ h _ _=>k _ _ h⟩,λ_ _ _ h=>⟨h,λo h=>k _ _ h⟩⟩,rfl,λ_ _ _ h _=>k _ _ h⟩
mutual
theorem Rep.Yu{K}{H H'}{m m'}{s s'}(e:ExtR H m s H' m' s'):∀{v:V}{p:PV},Rep K H m s v p->Rep K H' m' s' v p
 |_,_,.Ym=>.Ym
 |_,_,.bl=>.bl
 |_,_,.int=>.int
 |_,_,.str=>.str
 |_,_,.tup h r=>.tup (h.imp (λz=>e.pu _ _ z.1 z.2) λz=>z) (Yd.Yu e r)
 |_,_,.lst h p r=>.lst (e.el _ _ h (by intro _ z;cases z) p) (e.pu _ _ (.inl h) p).2 (Yd.Yu e r)
 |_,_,.seq h r=>.seq (h.imp (λ⟨⟨o,z⟩,p⟩=>⟨⟨o,e.el _ _ z (by intro _ z;cases z) p⟩,(e.pu _ _ (.inl z) p).2⟩) λz=>z) (Yd.Yu e r)
 |_,_,.Yr h p r=>.Yr (e.pu _ _ h p).1 (e.pu _ _ h p).2 (Yf.Yu e r)
 |_,_,.ref (n:=n) h=>by rw[<-e.ad _ h];exact .ref (ax h e.nx)
 |_,_,.exc h p=>.exc (e.el _ _ h (by intro _ z;cases z) p) (e.pu _ _ (.inl h) p).2
 |_,_,.ŭ r=>.ŭ (Yd.Yu e r)
theorem Yd.Yu{K}{H H'}{m m'}{s s'}(e:ExtR H m s H' m' s'):∀{v:List V}{p:List PV},Yd K H m s v p->Yd K H' m' s' v p
 |_,_,.nil=>.nil
 |_,_,.cons a b=>.cons (Rep.Yu e a) (Yd.Yu e b)
theorem Yf.Yu{K}{H H'}{m m'}{s s'}(e:ExtR H m s H' m' s'):∀{v:List (Key×V)}{p:List (Key×PV)},Yf K H m s v p->Yf K H' m' s' v p
 |_,_,.nil=>.nil
 |_,_,.cons a b=>.cons (Rep.Yu e a) (Yf.Yu e b)
end
def Rep.ext{K}{H H'}{m m'}{s s'}(e:Ext H m s H' m' s'){v}{p}(r:Rep K H m s v p):Rep K H' m' s' v p:=r.Yu e.toExtR
def Yd.ext{K}{H H'}{m m'}{s s'}(e:Ext H m s H' m' s'){v}{p}(r:Yd K H m s v p):Yd K H' m' s' v p:=r.Yu e.toExtR
def Yf.ext{K}{H H'}{m m'}{s s'}(e:Ext H m s H' m' s'){v}{p}(r:Yf K H m s v p):Yf K H' m' s' v p:=r.Yu e.toExtR
mutual
inductive Old (k:Nat):PV->Prop
 |Ym:Old k .Ym
 |bl {b:Bool}:Old k (.bl b)
 |int {i:Int}:Old k (.int i)
 |str {x:Str}:Old k (.str x)
 |tup {l:List PV}:Olds k l->Old k (.tup l)
 |lst {l:List PV}:Olds k l->Old k (.lst l)
 |seq {l:List PV}:Olds k l->Old k (.seq l)
 |Yr {l:List (Key×PV)}:Ķ k l->Old k (.Yr l)
 |ref {n:Nat}:n<k->Old k (.ref n)
 |exc {c:ag}:Old k (.exc c)
 |ŭ {a:ag}{vs:List V}{l:List PV}:Olds k l->Old k (.ŭ a vs l)
inductive Olds (k:Nat):List PV->Prop
 |nil:Olds k []
 |cons {p:PV}{l:List PV}:Old k p->Olds k l->Olds k (p::l)
inductive Ķ (k:Nat):List (Key×PV)->Prop
 |nil:Ķ k []
 |cons {q:Key}{p:PV}{l:List (Key×PV)}:Old k p->Ķ k l->Ķ k ((q,p)::l)
end
structure Sub(m:Mp)(s:K')(m':Mp)(s':K'):Prop where
 pu:∀a,ĥ m s a->ĥ m' s' a
 ad:∀n,n<s'.nx->m'.ad n=m.ad n
mutual
theorem Rep.sub{K}{H}{m m'}{s s'}(e:Sub m s m' s'):∀{v:V}{p:PV},Old s'.nx p->Rep K H m s v p->Rep K H m' s' v p
 |_,_,_,.Ym=>.Ym
 |_,_,_,.bl=>.bl
 |_,_,_,.int=>.int
 |_,_,_,.str=>.str
 |_,_,.tup o,.tup h r=>.tup (h.imp (λz=>⟨z.1,e.pu _ z.2⟩) λz=>z) (Yd.sub e o r)
 |_,_,.lst o,.lst h p r=>.lst h (e.pu _ p) (Yd.sub e o r)
 |_,_,.seq o,.seq h r=>.seq (h.imp (λz=>⟨z.1,e.pu _ z.2⟩) λz=>z) (Yd.sub e o r)
 |_,_,.Yr o,.Yr h p r=>.Yr h (e.pu _ p) (Yf.sub e o r)
 |_,_,.ref o,.ref _=>by rw[<-e.ad _ o];exact .ref o
 |_,_,_,.exc h p=>.exc h (e.pu _ p)
 |_,_,.ŭ o,.ŭ r=>.ŭ (Yd.sub e o r)
theorem Yd.sub{K}{H}{m m'}{s s'}(e:Sub m s m' s'):∀{v:List V}{p:List PV},Olds s'.nx p->Yd K H m s v p->Yd K H m' s' v p
 |_,_,_,.nil=>.nil
 |_,_,.cons o q,.cons a b=>.cons (Rep.sub e o a) (Yd.sub e q b)
theorem Yf.sub{K}{H}{m m'}{s s'}(e:Sub m s m' s'):∀{v:List (Key×V)}{p:List (Key×PV)},Ķ s'.nx p->Yf K H m s v p->Yf K H m' s' v p
 |_,_,_,.nil=>.nil
 |_,_,.cons o q,.cons a b=>.cons (Rep.sub e o a) (Yf.sub e q b)
end
mutual
theorem Rep.old{K}{H}{m}{s}:∀{v:V}{p:PV},Rep K H m s v p->Old s.nx p
 |_,_,.Ym=>.Ym
 |_,_,.bl=>.bl
 |_,_,.int=>.int
 |_,_,.str=>.str
 |_,_,.tup _ r=>.tup (Yd.old r)
 |_,_,.lst _ _ r=>.lst (Yd.old r)
 |_,_,.seq _ r=>.seq (Yd.old r)
 |_,_,.Yr _ _ r=>.Yr (Yf.old r)
 |_,_,.ref h=>.ref h
 |_,_,.exc _ _=>.exc
 |_,_,.ŭ r=>.ŭ r.old
theorem Yd.old{K}{H}{m}{s}:∀{v:List V}{p:List PV},Yd K H m s v p->Olds s.nx p
 |_,_,.nil=>.nil
 |_,_,.cons a b=>.cons (Rep.old a) (Yd.old b)
theorem Yf.old{K}{H}{m}{s}:∀{v:List (Key×V)}{p:List (Key×PV)},Yf K H m s v p->Ķ s.nx p
 |_,_,.nil=>.nil
 |_,_,.cons a b=>.cons (Rep.old a) (Yf.old b)
end
def Ś(K:aa)(H:Hp)(m:Mp)(s:K')(Sv:List (Str×V))(fs:List (Str×PV)):Prop:=Sv.map (·.1)=fs.map (·.1)/\Yd K H m s (Sv.map (·.2)) (fs.map (·.2))
def ÁZ(K:aa)(H:Hp)(m:Mp)(s:K')(Sv:List (List Key×V))(fs:List (List Key×PV)):Prop:=Sv.map (·.1)=fs.map (·.1)/\Yd K H m s (Sv.map (·.2)) (fs.map (·.2))
def ZR(K:aa)(CB:ag)(H:Hp)(m:Mp)(s:K')(n:Nat):Cell->Prop
 |.lst l=>m.fp n=[m.ad n]/\∃vs,H (m.ad n)=Za (.lst vs)/\Yd K H m s vs l
 |.Yr l=>m.fp n=[m.ad n]/\∃vs,H (m.ad n)=Za (.dK vs)/\Yf K H m s vs l
 |.Zp l=>m.fp n=[m.ad n]/\∃ob vs,H (m.ad n)=Za (.YZ ob (.dK vs))/\Yf K H m s vs l
 |.book pp L=>∃z L',My.Yx K CB H (m.ad n) z pp L'/\L'.map (·.1)=L/\m.fp n=My.Z6 (m.ad n) z L'
 |.obj C fs=>m.fp n=[m.ad n]/\∃dx Sv,H (m.ad n)=Za (.ins C dx Sv)/\Ś K H m s Sv fs
 |.Å l=>m.fp n=[m.ad n]/\∃vs,H (m.ad n)=Za (.dT vs)/\ÁZ K H m s vs l
structure SR(K:aa)(CB:ag)(H:Hp)(m:Mp)(s:K'):Prop where
 nd:(s.cs.map (·.1)).Nodup
 lt:∀n∈s.cs.map (·.1),n<s.nx
 ok:∀q∈s.cs,ZR K CB H m s q.1 q.2
 dj:∀n∈s.cs.map (·.1),∀k∈s.cs.map (·.1),n≠k->∀a∈m.fp n,a∉m.fp k
 hx:∀n∈s.cs.map (·.1),∀a∈m.fp n,a∉m.YW
 hs:∀a∈m.YW,H a≠Zb/\∀xs o,H a≠Za (.tup xs)/\H a≠Za (.YZ o (.tup xs))/\H a≠Za (.YZ o (.lst xs))/\∀x,H a≠Za (.YZ o (.own x))
 tb:∀P q,Tab K P q->P∈m.YW/\O5 H P q
def SR.tbk{K}{CB}{H H'}{m}{s}(S:SR K CB H m s)(e:ϱ H H'):∀P q,Tab K P q->P∈m.YW/\O5 H' P q:=λP q t=>⟨(S.tb P q t).1,e.2 P q (S.tb P q t).2⟩
def ZR.kind{K}{CB}{H}{m}{s}{n}{c}(h:ZR K CB H m s n c){a}(ha:a∈m.fp n):∃o,H a=Za o/\(∀xs,o≠.tup xs)/\(∀ob xs,o≠.YZ ob (.tup xs)/\o≠.YZ ob (.lst xs))/\¬ϫ o:=by
 cases c with
 |lst l=>obtain⟨e,vs,h,_⟩:=h;rw[e,ay] at ha;subst ha;exact⟨_,h,(by grind),(λ_ _=>⟨(by grind),(by grind)⟩),Bj⟩
 |Yr l=>obtain⟨e,vs,h,_⟩:=h;rw[e,ay] at ha;subst ha;exact⟨_,h,(by grind),(λ_ _=>⟨(by grind),(by grind)⟩),Mf⟩
 |Zp l=>obtain⟨e,ob,vs,h,_⟩:=h;rw[e,ay] at ha;subst ha;exact⟨_,h,(by grind),(λ_ _=>⟨(by grind),(by grind)⟩),Qe⟩
 |obj C fs=>obtain⟨e,dx,vs,h,_⟩:=h;rw[e,ay] at ha;subst ha;exact⟨_,h,(by grind),(λ_ _=>⟨(by grind),(by grind)⟩),Lp⟩
 |Å l=>obtain⟨e,vs,h,_⟩:=h;rw[e,ay] at ha;subst ha;exact⟨_,h,(by grind),(λ_ _=>⟨(by grind),(by grind)⟩),Án⟩
 |book pp L =>
  obtain⟨z,L',B,_,e⟩:=h;rw[e] at ha;unfold My.Z6 at ha;have d:∀{c:ag}{Ra:List (Key×V)},H c=Za (.dK Ra)->∃o,H c=Za o/\(∀xs,o≠.tup xs)/\(∀ob xs,o≠.YZ ob (.tup xs)/\o≠.YZ ob (.lst xs))/\¬ϫ o:=λh=>⟨_,h,(by grind),(λ_ _=>⟨(by grind),(by grind)⟩),Mf⟩;simp only[ao] at ha;obtain rfl|rfl|rfl|rfl|rfl|rfl|ha:=ha
  .exact⟨_,B.ob,(by grind),(λ_ _=>⟨(by grind),(by grind)⟩),Lp⟩
  .exact d B.pp
  .exact d B.tt
  .exact d B.mm
  .exact d B.ll
  .obtain⟨T,e,_⟩:=B.hh;exact d e
  .obtain⟨q,hq,rfl⟩:=ar.mp ha;obtain⟨ts,_,h2,_⟩:=B.he q hq;exact d h2
def SR.YM{K}{CB}{H}{m}{s}(S:SR K CB H m s){a}(h:H a=Zb):ĥ m s a:=⟨λz=>(S.hs a z).1 h,λn hn ha=>by obtain⟨q,hq,rfl⟩:=ar.mp hn;obtain⟨o,e,_⟩:=(S.ok q hq).kind ha;rw[h] at e;grind⟩
def SR.Zo{K}{CB}{H}{m}{s}(S:SR K CB H m s){a}{xs}(h:H a=Za (.tup xs)):ĥ m s a:=⟨λz=>((S.hs a z).2 xs default).1 h,λn hn ha=>by obtain⟨q,hq,rfl⟩:=ar.mp hn;obtain⟨o,e,k,_⟩:=(S.ok q hq).kind ha;rw[h] at e;grind⟩
def SR.Č{K}{CB}{H}{m}{s}(S:SR K CB H m s){a}{ob}{xs}(h:H a=Za (.YZ ob (.tup xs))\/H a=Za (.YZ ob (.lst xs))):ĥ m s a:=⟨λz=>h.elim (λh=>((S.hs a z).2 xs ob).2.1 h) λh=>((S.hs a z).2 xs ob).2.2.1 h,λn hn ha=>by
 obtain⟨q,hq,rfl⟩:=ar.mp hn;obtain⟨o,e,_,k,_⟩:=(S.ok q hq).kind ha;obtain h|h:=h<;>(rw[h] at e;cases e)
 .exact(k _ _).1 rfl
 .exact(k _ _).2 rfl⟩
def ZK.Ár{K}{CB}{H H'}{m m'}{s s'}(S:SR K CB H m s)(e:ExtR H m s H' m' s'){t}{xs}(h:ZK K H t xs):ZK K H' t xs:=by
 obtain h|h:=h
 .exact .inl (e.pu _ _ h (h.elim (λh=>S.Zo h) λ⟨_,h⟩=>S.Č (.inl h))).1
 .exact .inr h
def Ś.ext{K}{H H'}{m m'}{s s'}(e:ExtR H m s H' m' s'){a}{b}(h:Ś K H m s a b):Ś K H' m' s' a b:=⟨h.1,h.2.Yu e⟩
theorem ZR.keep{K}{CB}{H H'}{m m'}{s s'}{n}{c}(S:SR K CB H m s)(e:ExtR H m s H' m' s')(k:∀a∈m.fp n,∀o,H a=Za o->H' a=Za o)(ha:m'.ad n=m.ad n)(hf:m'.fp n=m.fp n)(h:ZR K CB H m s n c):ZR K CB H' m' s' n c:=by
 cases c with
 |lst l=>obtain⟨e1,vs,h,r⟩:=h;exact⟨by rw[ha,hf];exact e1,vs,by rw[ha];exact k _ (by rw[e1];simp) _ h,r.Yu e⟩
 |Yr l=>obtain⟨e1,vs,h,r⟩:=h;exact⟨by rw[ha,hf];exact e1,vs,by rw[ha];exact k _ (by rw[e1];simp) _ h,r.Yu e⟩
 |Zp l=>obtain⟨e1,ob,vs,h,r⟩:=h;exact⟨by rw[ha,hf];exact e1,ob,vs,by rw[ha];exact k _ (by rw[e1];simp) _ h,r.Yu e⟩
 |obj C fs=>obtain⟨e1,dx,vs,h,r⟩:=h;exact⟨by rw[ha,hf];exact e1,dx,vs,by rw[ha];exact k _ (by rw[e1];simp) _ h,Ś.ext e r⟩
 |Å l=>obtain⟨e1,vs,h,r⟩:=h;exact⟨by rw[ha,hf];exact e1,vs,by rw[ha];exact k _ (by rw[e1];simp) _ h,⟨r.1,r.2.Yu e⟩⟩
 |book pp L =>
  obtain⟨z,L',B,e1,e2⟩:=h;rw[e2] at k;have kb:=k;refine⟨z,L',?_,e1,by rw[ha,hf];exact e2⟩;rw[ha];refine⟨kb _ (by simp[My.Z6]) _ B.ob,kb _ (by simp[My.Z6]) _ B.pp,kb _ (by simp[My.Z6]) _ B.tt,kb _ (by simp[My.Z6]) _ B.mm,kb _ (by simp[My.Z6]) _ B.ll,B.hh.keep (λo h=>kb _ (by simp[My.Z6]) _ h),λq hq=>?_,B.nd,B.p6,B.h8⟩;obtain⟨ts,h1,h2,h3⟩:=B.he q hq;refine⟨ts,h1,kb _ ?_ _ h2,λy hy=>(h3 y hy).Ár S e⟩;unfold My.Z6
  grind
theorem SR.same{K}{CB}{H H'}{m}{s}(S:SR K CB H m s)(k:YQ H H'):SR K CB H' m s :=
 ⟨S.nd,S.lt,λq hq=>(S.ok q hq).keep S (Ext.same k).toExtR (λa _ o h=>k a o h) rfl rfl,S.dj,S.hx,λa ha=>by
  obtain⟨h1,h2⟩:=S.hs a ha;cases e:H a with
  |none=>exact absurd e h1
  |some o =>
   rw[k a o e];rw[e] at h2;exact⟨by simp,h2⟩,S.tbk (.same k)⟩
theorem SR.get{K}{CB}{H}{m}{s}(S:SR K CB H m s){n}{c}(h:s.get n=Za c):ZR K CB H m s n c:=S.ok _ (oy h)
def SR.ÁG{K}{CB}{H}{m}{s}(S:SR K CB H m s){n}{c}(h:s.get n=Za c):n<s.nx:=S.lt _ (ar.mpr ⟨_,oy h,rfl⟩)
def Mp.ZF(m:Mp)(n:Nat)(f':List ag):Mp:=⟨m.ad,λj=>if j=n then f' else m.fp j,m.YW⟩
def SR.hsk{K}{CB}{H H'}{m}{s}(S:SR K CB H m s)(k:∀a∈m.YW,∀o,H a=Za o->(∀ps,o≠.Ő ps)->H' a=Za o)(kt:ϱ H H'):∀a∈m.YW,H' a≠Zb/\∀xs o,H' a≠Za (.tup xs)/\H' a≠Za (.YZ o (.tup xs))/\H' a≠Za (.YZ o (.lst xs))/\∀x,H' a≠Za (.YZ o (.own x)):=λa ha=>by
 obtain⟨h1,h2⟩:=S.hs a ha;cases e:H a with
 |none=>exact absurd e h1
 |some o =>
  by_cases t:∃ps,o=.Ő ps
  .obtain⟨ps,t⟩:=t;rw[t] at e;obtain⟨Ue,e'⟩:=kt.1 a ps e
   simp_all
  rw[k a ha o e λps z=>t ⟨ps,z⟩];rw[e] at h2;exact⟨by simp,h2⟩
def SR.À2{K}{CB}{H}{m}{s}(S:SR K CB H m s){n}{c c'}(hn:s.get n=Za c)(H')(f')(k:∀a o,H a=Za o->a∉m.fp n->H' a=Za o)(Sb:∀a∈f',a∈m.fp n\/H a=Zb)(Yn:ExtR H m s H' (m.ZF n f') (s.set n c')->ZR K CB H' (m.ZF n f') (s.set n c') n c') :
  SR K CB H' (m.ZF n f') (s.set n c')/\ExtR H m s H' (m.ZF n f') (s.set n c')/\((∀l,c≠.Zp l)->Ext H m s H' (m.ZF n f') (s.set n c')):=by
 have RH:n∈s.cs.map (·.1):=ar.mpr ⟨_,oy hn,rfl⟩;have hkd:∀a∈m.YW,∀o,H a=Za o->(∀ps,o≠.Ő ps)->H' a=Za o:=λa ha o h _=>k a o h λz=>S.hx n RH a z ha;have htb:ϱ H H':=.of λa o h od=>k a o h λz=>by
  obtain⟨o',e',_,_,no⟩:=(S.get hn).kind z
  grind
 have hx:ExtR H m s H' (m.ZF n f') (s.set n c'):=by
  refine⟨al _,λ_ _=>rfl,λa u h p=>?_,λa u h _ p=>k _ _ h (p.2 n RH)⟩;have RD:∃o,H a=Za o:=h.elim (λh=>⟨_,h⟩) λ⟨o,h⟩=>⟨_,h⟩;refine⟨h.elim (λh=>.inl (k _ _ h (p.2 n RH))) λ⟨o,h⟩=>.inr ⟨o,k _ _ h (p.2 n RH)⟩,p.1,λj hj hm=>?_⟩;have hm:a∈(if j=n then f' else m.fp j):=hm;have TF:j∈s.cs.map (·.1):=by rw[<-qo (n:=n) (c:=c')];exact hj
  by_cases e:j=n
  .simp[e,Zc] at hm;obtain z|z:=Sb a hm
   .exact p.2 n RH z
   .grind
  .simp[Zd e] at hm;exact p.2 j TF hm
 refine⟨⟨?_,?_,λq hq=>?_,λj hj i hi RD a ha hb=>?_,λj hj a ha hb=>?_,S.hsk hkd htb,S.tbk htb⟩,hx,λÑ=>⟨⟨hx,λj l hj h=>?_⟩,rfl,hkd⟩⟩
 .show((pE n c' s.cs).map (·.1)).Nodup;rw[qo];exact S.nd
 .intro j hj;have TF:j∈s.cs.map (·.1):=by rw[<-qo (n:=n) (c:=c')];exact hj
  exact S.lt j TF
 .obtain rfl|⟨hq,RD⟩:=EF S.nd hq
  .exact Yn hx
  .refine(S.ok q hq).keep S hx (λa ha o h=>k a o h (S.dj _ (ar.mpr ⟨q,hq,rfl⟩) _ RH RD a ha)) rfl ?_;show(if q.1=n then f' else m.fp q.1)=_;rw[Zd RD]
 .have ha:a∈(if j=n then f' else m.fp j):=ha;have hb:a∈(if i=n then f' else m.fp i):=hb;have TF:j∈s.cs.map (·.1):=by rw[<-qo (n:=n) (c:=c')];exact hj
  have Vy:i∈s.cs.map (·.1):=by rw[<-qo (n:=n) (c:=c')];exact hi
  have RE:∀j∈s.cs.map (·.1),∀a∈m.fp j,H a≠none:=λj hj a ha z=>by obtain⟨q,hq,rfl⟩:=ar.mp hj;obtain⟨o,e,_⟩:=(S.ok q hq).kind ha;rw[z] at e;cases e
  by_cases e1:j=n
  .have e2:i≠n:=λz=>RD (e1.trans z.symm);simp[e1,Zc] at ha;simp[Zd e2] at hb;obtain z|z:=Sb a ha
   .exact S.dj _ RH _ Vy (λz=>e2 z.symm) a z hb
   .exact RE i Vy a hb z
  .simp[Zd e1] at ha;by_cases e2:i=n
   .simp[e2,Zc] at hb;obtain z|z:=Sb a hb
    .exact S.dj _ TF _ RH e1 a ha z
    .exact RE j TF a ha z
   .simp[Zd e2] at hb;exact S.dj _ TF _ Vy RD a ha hb
 .have ha:a∈(if j=n then f' else m.fp j):=ha;have TF:j∈s.cs.map (·.1):=by rw[<-qo (n:=n) (c:=c')];exact hj
  by_cases e1:j=n
  .rw[Zc e1] at ha;obtain z|z:=Sb a ha
   .exact S.hx n RH a z hb
   .exact(S.hs a hb).1 z
  .rw[Zd e1] at ha;exact S.hx j TF a ha hb
 .have Vw:j≠n:=λz=>by
   subst z;have h:s.get j=Za (.Zp l):=h
   grind
  refine⟨(rn Vw).trans h,λo ho=>?_⟩;obtain⟨e1,_⟩:=S.ok _ (oy h);exact k _ _ ho (S.dj j (ar.mpr ⟨_,oy h,rfl⟩) n RH Vw _ (by rw[e1];simp))
def SR.put{K}{CB}{H}{m}{s}(S:SR K CB H m s){n}{c c'}(hn:s.get n=Za c)(Ñ:∀l,c≠.Zp l)(H')(f')(k:∀a o,H a=Za o->a∉m.fp n->H' a=Za o)(Sb:∀a∈f',a∈m.fp n\/H a=Zb)(Yn:ExtR H m s H' (m.ZF n f') (s.set n c')->ZR K CB H' (m.ZF n f') (s.set n c') n c'):SR K CB H' (m.ZF n f') (s.set n c')/\Ext H m s H' (m.ZF n f') (s.set n c') :=
 let⟨a,_,b⟩:=S.À2 hn H' f' k Sb Yn;⟨a,b Ñ⟩
noncomputable def Mp.add(m:Mp)(n:Nat)(p:ag)(f:List ag):Mp:=⟨λj=>if j=n then p else m.ad j,λj=>if j=n then f else m.fp j,m.YW⟩
theorem SR.add{K}{CB}{H}{m}{s}(S:SR K CB H m s){c}(H')(p)(f)(k:YQ H H')(hf:∀a∈f,H a=Zb)(Yn:Ext H m s H' (m.add s.nx p f) (s.add c)->ZR K CB H' (m.add s.nx p f) (s.add c) s.nx c) :
  SR K CB H' (m.add s.nx p f) (s.add c)/\Ext H m s H' (m.add s.nx p f) (s.add c):=by
 have Rs:=λj hj=>az (S.lt j hj);have RE:∀j∈s.cs.map (·.1),∀a∈m.fp j,H a≠none:=λj hj a ha z=>by obtain⟨q,hq,rfl⟩:=ar.mp hj;obtain⟨o,e,_⟩:=(S.ok q hq).kind ha;rw[z] at e;cases e
 have hx:Ext H m s H' (m.add s.nx p f) (s.add c):=by
  refine⟨⟨⟨eX _,λj hj=>?_,λa u h q=>⟨h.same k,q.1,λj hj hm=>?_⟩,λa u h _ _=>k _ _ h⟩,λj l hj h=>⟨?_,λo ho=>k _ _ ho⟩⟩,rfl,λa _ o h _=>k a o h⟩
  rotate_left 2
  .show qw ((s.nx,c)::s.cs) j=_;unfold qw;rw[Zd (λz=>az hj z.symm)];exact h
  .show(if j=s.nx then p else m.ad j)=_;rw[Zd (az hj)]
  .have hm:a∈(if j=s.nx then f else m.fp j):=hm;obtain e|hj:=ao.mp (hj)
   .rw[Zc e] at hm;have:=hf a hm;obtain h|⟨o,h⟩:=h<;>(rw[this] at h;cases h)
   .rw[Zd (Rs j hj)] at hm;exact q.2 j hj hm
 have SK:∀j∈s.cs.map (·.1),(m.add s.nx p f).fp j=m.fp j:=λj hj=>by show(if j=s.nx then f else m.fp j)=_;rw[Zd (Rs j hj)]
 have Tg:(m.add s.nx p f).fp s.nx=f:=by show(if s.nx=s.nx then f else _)=_;rw[Zc rfl]
 refine⟨⟨?_,?_,λq hq=>?_,λj hj i hi RD a ha hb=>?_,λj hj a ha hb=>?_,S.hsk hx.hk (.same k),S.tbk (.same k)⟩,hx⟩
 .exact aM.mpr ⟨λz=>Rs _ z rfl,S.nd⟩
 .intro j hj;obtain e|hj:=ao.mp (hj)
  .rw[e];exact cA _
  .exact cm (S.lt j hj)
 .obtain rfl|hq:=ao.mp (hq)
  .exact Yn hx
  .have Vm:q.1∈s.cs.map (·.1):=ar.mpr ⟨q,hq,rfl⟩;exact(S.ok q hq).keep S hx.toExtR (λa ha o h=>k a o h) (hx.ad _ (S.lt _ Vm)) (SK _ Vm)
 .obtain e|hj:=ao.mp (hj)<;>obtain e'|hi:=ao.mp (hi)
  .grind
  .rw[e,Tg] at ha;rw[SK i hi] at hb;exact RE i hi a hb (hf a ha)
  .rw[SK j hj] at ha;rw[e',Tg] at hb;exact RE j hj a ha (hf a hb)
  .rw[SK j hj] at ha;rw[SK i hi] at hb;exact S.dj j hj i hi RD a ha hb
 .obtain e|hj:=ao.mp (hj)
  .rw[e,Tg] at ha;exact(S.hs a hb).1 (hf a ha)
  .rw[SK j hj] at ha;exact S.hx j hj a ha hb
theorem SR.del{K}{CB}{H}{m}{s}(S:SR K CB H m s)(n)(Ñ:∀l,s.get n≠Za (.Zp l)):SR K CB H m (s.del n)/\Ext H m s H m (s.del n):=by
 have RH:∀j∈(s.del n).cs.map (·.1),j∈s.cs.map (·.1):=λj hj=>by obtain⟨q,hq,rfl⟩:=ar.mp hj;exact ar.mpr ⟨q,ve hq,rfl⟩
 have hx:Ext H m s H m (s.del n):=⟨⟨⟨al _,λ_ _=>rfl,λa u h p=>⟨h,p.1,λj hj=>p.2 j (RH j hj)⟩,λ_ _ h _ _=>h⟩,λj l hj h=>⟨(qu (λz=>Ñ l (by rw[<-z];exact h))).trans h,λo h=>h⟩⟩,rfl,λ_ _ _ h _=>h⟩;exact⟨⟨Hz S.nd,λj hj=>S.lt j (RH j hj),λq hq=>(S.ok q (ve hq)).keep S hx.toExtR (λ_ _ _ h=>h) rfl rfl,λj hj i hi=>S.dj j (RH j hj) i (RH i hi),λj hj=>S.hx j (RH j hj),S.hs,S.tb⟩,hx⟩
inductive Out (α:Type) where
 |ok (a:α) (s:K')|ex (c:ag) (s:K')|bad
noncomputable def Out.bind{α β:Type}(o:Out α)(k:α->K'->Out β):Out β:=match o with
 |.ok a s=>k a s
 |.ex c s=>.ex c s
 |.bad=>.bad
abbrev En:=List (Option PV)
abbrev XE:=En->K'->Out PV
abbrev XT:=En->K'->Out Bool
abbrev XA:=En->K'->Out (List PV)
inductive SO where
 |nx (Z:En) (s:K')|rt (v:PV) (s:K')|bk (Z:En) (s:K')|ct (Z:En) (s:K')|ex (c:ag) (s:K')|bad
abbrev XS:=En->K'->SO
def Yw{α β:Type}(K:aa)(CB:ag)(R:Hp->Mp->K'->β->α->Prop)(E:XK)(o:Out α)(H:Hp)(m:Mp)(s:K')(Q:β->Hp->Prop):Prop:=match o with
 |.ok v s'=>∀u H' m',Ext H m s H' m' s'->SR K CB H' m' s'->R H' m' s' u v->Q u H'
 |.ex c s'=>∀H' m',Ext H m s H' m' s'->SR K CB H' m' s'->E (.ref c) Zb H'
 |.bad=>False
def Yw.shift{α β:Type}{K}{CB}{R}{E}{o:Out α}{H H1}{m m1}{s s1}{Q:β->Hp->Prop}(e:Ext H m s H1 m1 s1)(h:Yw K CB R E o H m s Q):Yw K CB R E o H1 m1 s1 Q:=by
 cases o with
 |ok v s'=>exact λu H' m' x S r=>h u H' m' (e.trans x) S r
 |ex c s'=>exact λH' m' x S=>h H' m' (e.trans x) S
 |bad=>exact h
theorem Yw.bind{α β α' β':Type}{K}{CB}{R}{R'}{E}{o:Out α}{k:α->K'->Out α'}{H}{m}{s}{Q:β'->Hp->Prop}{Q1:β->Hp->Prop}(h:Yw K CB R' E (o.bind k) H m s Q)(f:∀v s1 u H1 m1,Ext H m s H1 m1 s1->SR K CB H1 m1 s1->R H1 m1 s1 u v->Yw K CB R' E (k v s1) H1 m1 s1 Q->Q1 u H1):Yw K CB R E o H m s Q1:=by
 cases o with
 |ok v s1=>exact λu H1 m1 x S r=>f v s1 u H1 m1 x S r (Yw.shift x h)
 |ex c s'=>exact h
 |bad=>exact h
def Yw.here{α β:Type}{K}{CB}{R}{E}{v:α}{H}{m}{s}{Q:β->Hp->Prop}{u:β}(h:Yw K CB R E (.ok v s) H m s Q)(S:SR K CB H m s)(r:R H m s u v):Q u H:=h u H m .refl S r
def Yw.new{α β:Type}{K}{CB}{R}{E}{v:α}{H}{m}{s}{Q:β->Hp->Prop}{u:β}{p}{o}(h:Yw K CB R E (.ok v s) H m s Q)(S:SR K CB H m s)(hp:H p=Zb)(r:Ext H m s (upd H p o) m s->SR K CB (upd H p o) m s->R (upd H p o) m s u v):Q u (upd H p o):=by
 have k:YQ H (upd H p o):=My.sL hp;exact h u _ m (.same k) (S.same k) (r (.same k) (S.same k))
structure ER(K:aa)(H:Hp)(m:Mp)(s:K')(O:St)(Z:En):Prop where
 len:Z.length=O.length
 at_:∀(i:Nat)(p:PV),Z[i]?=Za (Za p)->∃u,O[i]?=Za (Za u)/\Rep K H m s u p
theorem ER.ext{K}{H H'}{m m'}{s s'}{O}{Z}(h:ER K H m s O Z)(e:Ext H m s H' m' s'):ER K H' m' s' O Z :=
 ⟨h.len,λi p q=>let⟨u,a,b⟩:=h.at_ i p q;⟨u,a,b.ext e⟩⟩
theorem ER.set{K}{H}{m}{s}{O}{Z}{u}{p}(h:ER K H m s O Z)(i)(r:Rep K H m s u p):ER K H m s (O.set i (Za u)) (Z.set i (Za p)):=by
 refine⟨by simp[h.len],λj q e=>?_⟩;rw[gE] at e ⊢;by_cases c:i=j
 .rw[Zc c] at e ⊢;by_cases d:i<Z.length
  .rw[Zc d] at e;rw[Zc (by rw[<-h.len];exact d)];grind
  .simp_all
 .rw[Zd c] at e ⊢;exact h.at_ j q e
def ER.cons{K}{H}{m}{s}{O}{Z}{u}{p}(h:ER K H m s O Z)(r:Rep K H m s u p):ER K H m s (Za u::O) (Za p::Z):=by
 refine⟨by simp[h.len],λj q e=>?_⟩;cases j with
 |zero=>simp at e;subst e;exact⟨u,rfl,r⟩
 |succ j=>exact h.at_ j q (by simpa using e)
theorem ER.start{K}{H}{m}{s}:∀{vs:List V}{ps:List PV},Yd K H m s vs ps->∀n,ER K H m s (vs.map Za++aQ n Zb) (ps.map Za++aQ n Zb)
 |_,_,.nil,n=>⟨by simp,λi p e=>by
   have e:(aQ n (Zb:Option PV))[i]?=Za (Za p):=by simpa using e
   rw[gM] at e;split at e<;>cases e⟩
 |_,_,.cons a b,n=>(ER.start b n).cons a
noncomputable def nS(ix:List Nat)(Z:En):En:=ix.map λi=>(Z[i]?).getD Zb
theorem ER.Zy{K}{H}{m}{s}{O}{Z}(h:ER K H m s O Z)(ix):ER K H m s (Zy ix O) (nS ix Z):=by
 refine⟨by simp[L2.Zy,nS],λj q e=>?_⟩;unfold nS at e;unfold L2.Zy;rw[aF] at e ⊢;cases c:ix[j]? with
 |none=>rw[c] at e;cases e
 |some i =>
  rw[c] at e;have e:(Z[i]?).getD Zb=Za q:=bO e;cases d:Z[i]? with
  |none=>rw[d] at e;cases e
  |some o =>
   rw[d] at e;subst e;obtain⟨u,h1,h2⟩:=h.at_ i q d
   simp_all
def Ň(K:aa)(CB:ag)(E:XK)(f:XE):TE:=λO H Q=>∃Z s m,ER K H m s O Z/\SR K CB H m s/\Yw K CB (Rep K) E (f Z s) H m s Q
def ϒ(K:aa)(CB:ag)(E:XK)(f:XT):TT:=λO H Q=>∃Z s m,ER K H m s O Z/\SR K CB H m s/\Yw K CB (λ_ _ _ u v=>u=v) E (f Z s) H m s Q
def TDA(K:aa)(CB:ag)(E:XK)(f:XA):TA:=λO H Q=>∃Z s m,ER K H m s O Z/\SR K CB H m s/\Yw K CB (Yd K) E (f Z s) H m s Q
def YL(K:aa)(CB:ag)(E:XK)(o:SO)(H:Hp)(m:Mp)(s:K')(D:Ends):Prop:=match o with
 |.nx Yp s'=>∀YE H' m',Ext H m s H' m' s'->SR K CB H' m' s'->ER K H' m' s' YE Yp->D.nx YE H'
 |.rt v s'=>∀u H' m',Ext H m s H' m' s'->SR K CB H' m' s'->Rep K H' m' s' u v->D.rt u H'
 |.bk Yp s'=>∀YE H' m',Ext H m s H' m' s'->SR K CB H' m' s'->ER K H' m' s' YE Yp->D.bk YE H'
 |.ct Yp s'=>∀YE H' m',Ext H m s H' m' s'->SR K CB H' m' s'->ER K H' m' s' YE Yp->D.ct YE H'
 |.ex c s'=>∀H' m',Ext H m s H' m' s'->SR K CB H' m' s'->E (.ref c) Zb H'
 |.bad=>False
def TDS(K:aa)(CB:ag)(E:XK)(g:XS):TS:=λD O H=>∃Z s m,ER K H m s O Z/\SR K CB H m s/\YL K CB E (g Z s) H m s D
def oE{K:aa}{CB:ag}{H:Hp}{O:St}{Zj:En->K'->Mp->Prop}{R:Prop}(k:∀Z s m,ER K H m s O Z->SR K CB H m s->Zj Z s m->R)(h:∃Z s m,ER K H m s O Z/\SR K CB H m s/\Zj Z s m):R:=h.elim λZ h=>h.elim λs h=>h.elim λm h=>k Z s m h.1 h.2.1 h.2.2
structure DE(X:Cx)(CB:ag)(E:XK)(e:bc)(f:XE):Prop where
 pe:PE X e (Ň X.K CB E f)
structure DT(X:Cx)(CB:ag)(E:XK)(e:bc)(f:XT):Prop where
 pt:PT X e (ϒ X.K CB E f)
structure DW(X:Cx)(CB:ag)(E:XK)(e:bc)(f:XT):Prop where
 pw:PW X e (ϒ X.K CB E f)
structure DA(X:Cx)(CB:ag)(E:XK)(es:List bc)(f:XA):Prop where
 pa:PA X es (TDA X.K CB E f)
structure DS(X:Cx)(CB:ag)(E:XK)(st:bN)(g:XS):Prop where
 ps:PS X st (TDS X.K CB E g)
structure ϗ(X:Cx)(CB:ag)(E:XK)(st:List bN)(g:XS):Prop where
 pss:ŉ X st (TDS X.K CB E g)
def PE.mono(h:PE X e t)(k:∀O H Q,t' O H Q->t O H Q):PE X e t':=λQ9 s O H Q I q=>h Q9 s O H Q I (k O H Q q)
def PT.mono(h:PT X e t)(k:∀O H Q,t' O H Q->t O H Q):PT X e t':=λQ9 s O H Q I q=>h Q9 s O H Q I (k O H Q q)
def PW.mono(h:PW X e t)(k:∀O H Q,t' O H Q->t O H Q):PW X e t':=λw Q9 s O H Q I q=>h w Q9 s O H Q I (k O H Q q)
def PA.mono(h:PA X e t)(k:∀O H Q,t' O H Q->t O H Q):PA X e t':=λpos Q9 s O H Q I q=>h pos Q9 s O H Q I (k O H Q q)
def PS.mono(h:PS X e t)(k:∀D O H,t' D O H->t D O H):PS X e t':=λQ9 s O H D I q=>h Q9 s O H D I (k D O H q)
def ŉ.mono(h:ŉ X e t)(k:∀D O H,t' D O H->t D O H):ŉ X e t':=λQ9 s O H D I q=>h Q9 s O H D I (k D O H q)
def j'(i:Nat)(Z:En)(s:K'):Out PV:=match Z[i]? with
 |some (Za p)=>.ok p s
 |_=>.bad
def xC(p:PV)(_:En)(s:K'):Out PV:=.ok p s
def x1(f:XE)(F:PV->K'->Out PV)(Z:En)(s:K'):Out PV:=(f Z s).bind F
def x2(f g:XE)(F:PV->PV->K'->Out PV)(Z:En)(s:K'):Out PV:=(f Z s).bind λv s1=>(g Z s1).bind λw s2=>F v w s2
def J'(_:En)(s:K'):Out (List PV):=.ok [] s
def F'(f:XE)(g:XA)(Z:En)(s:K'):Out (List PV):=(f Z s).bind λv s1=>(g Z s1).bind λvs s2=>.ok (v::vs) s2
section
variable{X:Cx}{CB:ag}{E:XK}{a b c e:bc}{es:List bc}{f g h:XE}{fa:XA}{p pos:Pos}{x:Str}
def ō(K:aa)(CB:ag)(E:XK)(r:R2)(F:PV->PV->K'->Out PV):Prop:=∀H m s v w x y Q,SR K CB H m s->Rep K H m s x v->Rep K H m s y w->Yw K CB (Rep K) E (F v w s) H m s Q->r x y H Q
def Op1(K:aa)(CB:ag)(E:XK)(r:V->Hp->VK->Prop)(F:PV->K'->Out PV):Prop:=∀H m s v x Q,SR K CB H m s->Rep K H m s x v->Yw K CB (Rep K) E (F v s) H m s Q->r x H Q
def OpN(K:aa)(CB:ag)(E:XK)(r:List V->Hp->VK->Prop)(F:List PV->K'->Out PV):Prop:=∀H m s v x Q,SR K CB H m s->Yd K H m s x v->Yw K CB (Rep K) E (F v s) H m s Q->r x H Q
def two{r}{F}(o:ō X.K CB E r F){O}{H}{Q}(q:Ň X.K CB E (x2 f g F) O H Q):tOp r (Ň X.K CB E f) (Ň X.K CB E g) O H Q:=by obtain⟨Z,s,m,er,S,P⟩:=q;exact⟨Z,s,m,er,S,P.bind λv s1 u H1 m1 e1 S1 r1 P1=>⟨Z,s1,m1,er.ext e1,S1,P1.bind λw s2 u2 H2 m2 e2 S2 r2 P2=>o H2 m2 s2 v w u u2 Q S2 (r1.ext e2) r2 P2⟩⟩
def l9(i)(hN:X.N[i]?=Za x:=by rfl)(hv:Vis X.env.scope x:=by first|exact eA rfl|exact gJ (eA rfl)|exact gJ (gJ rfl))(hd:Ò x:=by decide)(R9:(x==("__classdict__":Str))=false:=by decide):DE X CB E (.Name x pos) (j' i):=⟨(DH hN hv hd R9).mono λO H Q=>oE λZ s m er S P=>by
 unfold j' at P;split at P
 .rename_i q hq;obtain⟨u,h1,h2⟩:=er.at_ i q hq;exact⟨u,h1,P.here S h2⟩
 .exact P.elim⟩
def mB{i}{j}:DE X CB E (.Constant (.int i) j pos) (xC (.int i)):=⟨YR.mono λO H Q=>oE λZ s m er S P=>P.here S .int⟩
def qi{i}{j}:DE X CB E (.Constant (.bool i) j pos) (xC (.bl i)):=⟨Àk.mono λO H Q=>oE λZ s m er S P=>P.here S .bl⟩
def Br{i}{j}:DE X CB E (.Constant (.str i) j pos) (xC (.str i)):=⟨ñ.mono λO H Q=>oE λZ s m er S P=>P.here S .str⟩
def GJ{j}:DE X CB E (.Constant .none j pos) (xC .Ym):=⟨Àv.mono λO H Q=>oE λZ s m er S P=>P.here S .Ym⟩
def z3(ho:ZA X (dE op) r)(o:ō X.K CB E r F)(ha:DE X CB E a f)(hb:DE X CB E b g):DE X CB E (.BinOp a op b pos) (x2 f g F):=⟨(t7 ho ha.pe hb.pe).mono λO H Q q=>two o q⟩
def ÁO(ho:UnR X (unaryOp op) r)(o:Op1 X.K CB E r F)(ha:DE X CB E a f):DE X CB E (.UnaryOp op a pos) (x1 f F):=⟨(OJ ho ha.pe).mono λO H Q=>oE λZ s m er S P =>
 ⟨Z,s,m,er,S,P.bind λv s1 u H1 m1 e1 S1 r1 P1=>o H1 m1 s1 v u Q S1 r1 P1⟩⟩
def ÀD(ho:ZA X (bR op) r)(o:ō X.K CB E r F)(ha:DE X CB E a f)(hb:DE X CB E b g)(hm:cK op b=false):DE X CB E (.Compare a [op] [b] pos) (x2 f g F):=⟨(Hb ho ha.pe hb.pe hm).mono λO H Q q=>two o q⟩
def YO(f:XE)(Z:En)(s:K'):Out Bool:=(f Z s).bind λv s1=>match v with
 |.bl b=>.ok b s1
 |_=>.bad
def ϒ.tst{O}{H}{Q}(q:ϒ X.K CB E (YO f) O H Q):Ň X.K CB E f O H λx H1=>∃k,x=.bl k/\Q k H1:=by obtain⟨Z,s,m,er,S,P⟩:=q;refine⟨Z,s,m,er,S,P.bind λv s1 u H1 m1 e1 S1 r1 P1=>?_⟩;cases r1<;>first|exact P1.elim|exact⟨_,rfl,P1.here S1 rfl⟩
def ÀB(ho:ZA X (bR op) r)(o:ō X.K CB E r F)(ha:DE X CB E a f)(hb:DE X CB E b g)(hm:cK op b=false):DT X CB E (.Compare a [op] [b] pos) (YO (x2 f g F)):=⟨(vz ho ha.pe hb.pe hm).mono λO H Q q=>two o (ϒ.tst q)⟩
def vL(h:DE X CB E e f)(he:∀whole,isTrue e X.env whole=(do let v <-whole;fY e.pos;holding [v] (truthy v)):=by intro _;rfl):DT X CB E e (YO f):=⟨(wz h.pe he).mono λO H Q q=>ϒ.tst q⟩
def Àr(f g h:XE)(F G:PV->PV->K'->Out PV)(Z:En)(s:K'):Out PV:=(f Z s).bind λv s1=>(g Z s1).bind λw s2=>(F v w s2).bind λz s3=>match z with
 |.bl true=>(h Z s3).bind λy s4=>G w y s4
 |.bl false=>.ok (.bl false) s3
 |_=>.bad
def ğ(f:XT)(Z:En)(s:K'):Out Bool:=(f Z s).bind λb s1=>.ok (!b) s1
def Ť(f g:XT)(Z:En)(s:K'):Out Bool:=(f Z s).bind λb s1=>if b=true then g Z s1 else .ok false s1
def xOr(f g:XT)(Z:En)(s:K'):Out Bool:=(f Z s).bind λb s1=>if b=true then .ok true s1 else g Z s1
variable{t u:XT}{rest:List bc}
def yN(h:DT X CB E a t):DT X CB E (.UnaryOp .Not a pos) (ğ t):=⟨(AX h.pt).mono λO H Q=>oE λZ s m er S P =>
 ⟨Z,s,m,er,S,P.bind λv s1 b H1 m1 e1 S1 r1 P1=>by cases r1;exact P1.here S1 rfl⟩⟩
def NS(h:DT X CB E a t):DW X CB E (.BoolOp .And [a] pos) t:=⟨MS h.pt⟩
def LH(h:DT X CB E a t):DW X CB E (.BoolOp .Or [a] pos) t:=⟨Lh h.pt⟩
def Qz(h:DT X CB E a t)(k:DW X CB E (.BoolOp .And (b::rest) pos) u):DW X CB E (.BoolOp .And (a::b::rest) pos) (Ť t u):=⟨(Pt h.pt k.pw).mono λO H Q=>oE λZ s m er S P =>
 ⟨Z,s,m,er,S,P.bind λv s1 b H1 m1 e1 S1 r1 P1=>by
  cases r1;refine vH (λc=>?_) λc=>?_
  .rw[Zc c] at P1;exact⟨Z,s1,m1,er.ext e1,S1,P1⟩
  .rw[Zd c] at P1;exact P1.here S1 rfl⟩⟩
def Js(h:DT X CB E a t)(k:DW X CB E (.BoolOp .Or (b::rest) pos) u):DW X CB E (.BoolOp .Or (a::b::rest) pos) (xOr t u):=⟨(OH h.pt k.pw).mono λO H Q=>oE λZ s m er S P =>
 ⟨Z,s,m,er,S,P.bind λv s1 b H1 m1 e1 S1 r1 P1=>by
  cases r1;refine vH (λc=>?_) λc=>?_
  .rw[Zc c] at P1;exact P1.here S1 rfl
  .rw[Zd c] at P1;exact⟨Z,s1,m1,er.ext e1,S1,P1⟩⟩⟩
def DW.dt(h:DW X CB E a t):DT X CB E a t:=⟨h.pw.pt⟩
def ĭ(f g:XE)(Z:En)(s:K'):Out PV:=(f Z s).bind λv s1=>match v with
 |.bl true=>g Z s1
 |.bl false=>.ok (.bl false) s1
 |_=>.bad
def Á3(f g:XE)(Z:En)(s:K'):Out PV:=(f Z s).bind λv s1=>match v with
 |.bl true=>.ok (.bl true) s1
 |.bl false=>g Z s1
 |_=>.bad
def Ϛ(f:XE)(Z:En)(s:K'):Out PV:=(f Z s).bind λv s1=>match v with
 |.bl b=>.ok (.bl (!b)) s1
 |_=>.bad
def LP(h:DE X CB E a f):DE X CB E (.BoolOp op [a] pos) f:=⟨GA h.pe⟩
def QJ(h:DE X CB E a f):DE X CB E (.UnaryOp .Not a pos) (Ϛ f):=⟨(PM h.pe).mono λO H Q=>oE λZ s m er S P =>
 ⟨Z,s,m,er,S,P.bind λv s1 b H1 m1 e1 S1 r1 P1=>by cases r1<;>first|exact P1.elim|exact⟨_,rfl,P1.here S1 .bl⟩⟩⟩
def LQ(h:DE X CB E a f)(k:DE X CB E (.BoolOp .And (b::rest) pos) g):DE X CB E (.BoolOp .And (a::b::rest) pos) (ĭ f g):=⟨(Ll h.pe k.pe).mono λO H Q=>oE λZ s m er S P =>
 ⟨Z,s,m,er,S,P.bind λv s1 b H1 m1 e1 S1 r1 P1=>by
  cases r1 with
  |bl =>
   rename_i b;cases b
   .exact⟨_,rfl,NH (P1.here S1 .bl)⟩
   .exact⟨_,rfl,NG ⟨Z,s1,m1,er.ext e1,S1,P1⟩⟩
  |_=>exact P1.elim⟩⟩
def wG:DA X CB E [] J':=⟨Yi.mono λO H Q=>oE λZ s m er S P=>P.here S .nil⟩
def mq(ha:DE X CB E e f)(hr:DA X CB E es fa)(hs:ě X e es:=by rfl):DA X CB E (e::es) (F' f fa):=⟨(mI ha.pe hr.pa hs).mono λO H Q=>oE λZ s m er S P =>
 ⟨Z,s,m,er,S,P.bind λv s1 u H1 m1 e1 S1 r1 P1=>⟨Z,s1,m1,er.ext e1,S1,P1.bind λw s2 u2 H2 m2 e2 S2 r2 P2=>P2.here S2 (.cons (r1.ext e2) r2)⟩⟩⟩
def ms(ha:DE X CB E e f)(hs:aq [e] X.env=(false,eval e X.env)::aq [] X.env:=by rfl):DA X CB E [e] (F' f J'):=mq ha wG hs
theorem Yd.length{K}{H}{m}{s}:∀{vs:List V}{l:List PV},Yd K H m s vs l->vs.length=l.length
 |_,_,.nil=>rfl
 |_,_,.cons _ b=>congrArg Nat.succ b.length
def ϯ(h:n<=100000):n<=aH:=aI h (Zf rfl)
def sz6(h:n<100000):n<aH:=ax h (Zf rfl)
def ZT(fa:XA)(Z:En)(s:K'):Out PV:=(fa Z s).bind λvs s1=>if vs.length<=100000 then .ok (.tup vs) s1 else .bad
def ZL(fa:XA)(Z:En)(s:K'):Out PV:=(fa Z s).bind λvs s1=>if vs.length<=100000 then .ok (.lst vs) s1 else .bad
def á(fa:XA)(Z:En)(s:K'):Out PV:=(fa Z s).bind λvs s1=>if vs.length<=100000 then .ok (.ref s1.nx) (s1.add (.lst vs)) else .bad
def qJ{x1}(h:DA X CB E es fa):DE X CB E (.Tuple es x1 pos) (ZT fa):=⟨(wA h.pa).mono λO H Q=>oE λZ s m er S P =>
 ⟨Z,s,m,er,S,P.bind λv s1 u H1 m1 e1 S1 r1 P1=>by
  split at P1
  .rename_i hl;exact⟨by rw[r1.length];exact ϯ hl,λp hp=>P1.new S1 hp λex S'=>.tup (.inl ⟨.inl mv,S'.Zo mv⟩) (r1.ext ex)⟩
  .exact P1.elim⟩⟩
def qK(h:DA X CB E es fa):DE X CB E (.List es pos) (ZL fa):=⟨(Lj h.pa).mono λO H Q=>oE λZ s m er S P =>
 ⟨Z,s,m,er,S,P.bind λv s1 u H1 m1 e1 S1 r1 P1=>by
  split at P1
  .rename_i hl;exact⟨by rw[r1.length];exact ϯ hl,λp hp=>P1.new S1 hp λex S'=>.lst mv (S1.YM hp) (r1.ext ex)⟩
  .exact P1.elim⟩⟩
def SR.Âx{K}{H}{m}{s}{vs}{l}{p}(S:SR K CB H m s)(hp:H p=Zb)(r:Yd K H m s vs l):SR K CB (upd H p (.lst vs)) (m.add s.nx p [p]) (s.add (.lst l))/\Ext H m s (upd H p (.lst vs)) (m.add s.nx p [p]) (s.add (.lst l)) :=
 S.add _ p [p] (My.sL hp) (λa ha=>by rw[ay.mp ha];exact hp) λex=>by
  have e1:(m.add s.nx p [p]).ad s.nx=p:=by show(if s.nx=s.nx then p else _)=_;rw[Zc rfl]
  have e2:(m.add s.nx p [p]).fp s.nx=[p]:=by show(if s.nx=s.nx then [p] else _)=_;rw[Zc rfl]
  exact⟨by rw[e1,e2],vs,by rw[e1];exact mv,r.ext ex⟩
def SR.newD{K}{H H'}{m}{s}{vs}{l}{p}(S:SR K CB H m s)(hp:H p=Zb)(k:YQ H H')(hd:H' p=Za (.dK vs))(r:Yf K H m s vs l):SR K CB H' (m.add s.nx p [p]) (s.add (.Yr l))/\Ext H m s H' (m.add s.nx p [p]) (s.add (.Yr l)) :=
 S.add _ p [p] k (λa ha=>by rw[ay.mp ha];exact hp) λex=>by
  have e1:(m.add s.nx p [p]).ad s.nx=p:=by show(if s.nx=s.nx then p else _)=_;rw[Zc rfl]
  have e2:(m.add s.nx p [p]).fp s.nx=[p]:=by show(if s.nx=s.nx then [p] else _)=_;rw[Zc rfl]
  exact⟨by rw[e1,e2],vs,by rw[e1];exact hd,r.ext ex⟩
def Mp.ů{m:Mp}{n:Nat}{p:ag}{f:List ag}:(m.add n p f).ad n=p:=by show(if n=n then p else _)=_;grind
def Rep.new{K:aa}{H:Hp}{m:Mp}{s:K'}{p:ag}{f:List ag}{c:Cell}:Rep K H (m.add s.nx p f) (s.add c) (.ref p) (.ref s.nx):=by have h:Rep K H (m.add s.nx p f) (s.add c) (.ref ((m.add s.nx p f).ad s.nx)) (.ref s.nx):=.ref (cA _);rw[Mp.ů] at h;exact h
def xr(h:DA X CB E es fa):DE X CB E (.List es pos) (á fa):=⟨(Lj h.pa).mono λO H Q=>oE λZ s m er S P =>
 ⟨Z,s,m,er,S,P.bind λv s1 u H1 m1 e1 S1 r1 P1=>by
  split at P1
  .rename_i hl;refine⟨by rw[r1.length];exact ϯ hl,λp hp=>?_⟩;obtain⟨S2,e2⟩:=S1.Âx hp r1;exact P1 _ _ _ e2 S2 .new
  .exact P1.elim⟩⟩
end
end L2
namespace Fra
def Ĝ(a b:Int):Prop:=aJ a b=1
def ð(q:Int×Int):Prop:=0<q.2/\Ĝ q.1 q.2
noncomputable def red(q:Int×Int):Int×Int:=(q.1/(aJ q.1 q.2:Int),q.2/(aJ q.1 q.2:Int))
def Ĝ.symm(h:Ĝ a b):Ĝ b a:=by unfold Ĝ at *;rw[Int.gcd_comm];exact h
def ra(d:a∣a')(h:Ĝ a' b):Ĝ a b:=Nat.Coprime.coprime_dvd_left (fG.mpr d) h
def z6(h1:Ĝ a c)(h2:Ĝ b c):Ĝ (a*b) c:=by unfold Ĝ aJ at *;rw[iL];exact Nat.Coprime.mul_left h1 h2
def Dw(h:Ĝ a b)(d:a∣b*c):a∣c:=by have d':=fG.mpr d;rw[iL] at d';exact fG.mp (Nat.Coprime.dvd_of_dvd_mul_left h d')
def HB(h:Ĝ a b):Ĝ (a+k*b) b:=by
 have g1:(aJ (a+k*b) b:Int)∣a+k*b:=fP ..;have g2:(aJ (a+k*b) b:Int)∣b:=cq ..;have g3:(aJ (a+k*b) b:Int)∣a:=by
  have:=Int.dvd_sub g1 (Int.dvd_trans g2 (Int.dvd_mul_left k b))
  grind
 have g4:=Int.dvd_gcd g3 g2;rw[h] at g4;exact Nat.dvd_one.mp g4
def zG(hp:ð p)(hq:ð q)(h:p.1*q.2=q.1*p.2):p=q:=by obtain⟨a,b⟩:=p;obtain⟨c,d⟩:=q;obtain⟨h1,h2⟩:=hp;obtain⟨h3,h4⟩:=hq;simp only at h h1 h2 h3 h4;have d1:=Dw h2.symm ⟨c,by rw[h];grind⟩;have d2:=Dw h4.symm ⟨a,by rw[<-h];exact bT _ _⟩;have e:=Int.dvd_antisymm (by lia) (by lia) d1 d2;subst e;have:=ej (by lia) h;rw[this]
def tY(h:0<q.2):ð (red q)/\(red q).1*q.2=q.1*(red q).2:=by
 obtain⟨a,b⟩:=q;simp only at h;have hg:0<aJ a b:=bA _ (by lia);obtain⟨u,hu⟩:(aJ a b:Int)∣a:=fP ..;obtain⟨v,hv⟩:(aJ a b:Int)∣b:=cq ..;have eu:=jQ (by lia) hu;have ev:=jQ (by lia) hv;have hc:Ĝ u v:=by
  have e:aJ ((aJ a b:Int)*u) ((aJ a b:Int)*v)=aJ a b*aJ u v:=by rw[jo];rfl
  have:aJ a b*aJ u v=aJ a b*1:=by lia
  exact gC hg this
 have hv0:0<v:=by
  by_cases z:0<v
  .exact z
  .have:(aJ a b:Int)*v<=0:=eW (by lia) (by lia);lia
 unfold red;rw[eu,ev];refine⟨⟨hv0,hc⟩,?_⟩
 grind
def Pr(hp:ð p)(hq:0<q.2)(h:p.1*q.2=q.1*p.2):p=red q:=by
 obtain⟨r1,r2⟩:=tY hq;apply zG hp r1;have e:p.1*(red q).2*q.2=(red q).1*p.2*q.2:=by rw[eV,h,eV q.1,<-r2,eV]
 exact ej (by lia) e
def ÁW(p q:Int×Int):Int×Int :=
 let d:Int:=aJ p.2 q.2;let t:=p.1*(q.2/d)+q.1*(p.2/d);let e:Int:=aJ t d
 (t/e,p.2/d*(q.2/e))
def oC(p q:Int×Int):Int×Int:=red (p.1*q.2+q.1*p.2,p.2*q.2)
def Ou(hp:ð p)(hq:ð q):ÁW p q=oC p q:=by
 obtain⟨n1,b1⟩:=p;obtain⟨n2,b2⟩:=q;obtain⟨h1,h2⟩:=hp;obtain⟨h3,h4⟩:=hq;simp only at h1 h2 h3 h4;unfold ÁW oC;simp only;have hd:0<aJ b1 b2:=bA _ (by lia);obtain⟨u,hu⟩:(aJ b1 b2:Int)∣b1:=fP ..;obtain⟨v,hv⟩:(aJ b1 b2:Int)∣b2:=cq ..;have huv:Ĝ u v:=by
  have e:aJ ((aJ b1 b2:Int)*u) ((aJ b1 b2:Int)*v)=aJ b1 b2*aJ u v:=by rw[jo];rfl
  rw[<-hu,<-hv] at e;have:aJ b1 b2*aJ u v=aJ b1 b2*1:=by lia
  exact gC hd this
 generalize hD:(aJ b1 b2:Int)=d at *;have d0:0<d:=by lia
 subst hu;subst hv;rw[cH _ (by lia:d≠0),cH _ (by lia:d≠0)];have pos:∀{x:Int},0<d*x->0<x:=λ{x} hx=>by
  by_cases z:0<x
  .exact z
  .have:d*x<=0:=eW (by lia) (by lia);lia
 have u0:=pos h1;have v0:=pos h3;have X6:Ĝ (n1*v+n2*u) u:=HB (z6 (ra (Int.dvd_refl _) (ra ⟨d,bT _ _⟩ h2.symm).symm) huv.symm);have X5:Ĝ (n1*v+n2*u) v:=by rw[Int.add_comm];exact HB (z6 (ra ⟨d,bT _ _⟩ h4.symm).symm huv)
 generalize hT:n1*v+n2*u=t at *;have he:0<aJ t d:=bA _ (by lia);obtain⟨t',ht⟩:(aJ t d:Int)∣t:=fP ..;obtain⟨e',hE⟩:(aJ t d:Int)∣d:=cq ..;have cte:Ĝ t' e':=by
  have e:aJ ((aJ t d:Int)*t') ((aJ t d:Int)*e')=aJ t d*aJ t' e':=by rw[jo];rfl
  rw[<-ht,<-hE] at e;have:aJ t d*aJ t' e'=aJ t d*1:=by lia
  exact gC he this
 generalize hG:(aJ t d:Int)=g at *;have g0:0<g:=by lia
 have e0:0<e':=by
  by_cases z:0<e'
  .exact z
  .have:g*e'<=0:=eW (by lia) (by lia);lia
 have q1:t/g=t':=by rw[ht];exact cH _ (by lia)
 have q2:d*v/g=e'*v:=by rw[hE,bh];exact cH _ (by lia)
 rw[q1,q2];refine Pr ⟨bv u0 (bv e0 v0),?_⟩ (bv h1 h3) ?_
 .have d1:t'∣t:=⟨g,by rw[ht];exact bT _ _⟩;exact(z6 (ra d1 X6).symm (z6 cte.symm (ra d1 X5).symm)).symm
 .show t'*(d*u*(d*v))=(n1*(d*v)+n2*(d*u))*(u*(e'*v));have e1:n1*(d*v)+n2*(d*u)=d*t:=by rw[<-hT,Int.mul_add,fB,fB n2]
  rw[e1];have e2:d*t*(u*(e'*v))=d*(g*t')*(u*(e'*v)):=by rw[<-ht]
  have e3:t'*(d*u*(d*v))=t'*(d*u*(g*e'*v)):=by rw[<-hE]
  rw[e2,e3];simp[bh,fB,bT]
def Fh(hp:ð p)(hq:ð q):ð (oC p q):=(tY (bv hp.1 hq.1)).1
end Fra
namespace L2
open PySem PySem.Spec PyProof.Rows
def YI(s:K'):PV->Option (List PV)
 |.lst l=>Za l
 |.seq l=>Za l
 |.ref n=>match s.get n with
  |some (.lst l)=>Za l
  |_=>Zb
 |_=>Zb
def ZG(s:K'):PV->Option (List (Key×PV))
 |.Yr l=>Za l
 |.ref n=>match s.get n with
  |some (.Yr l)=>Za l
  |some (.Zp l)=>Za l
  |_=>Zb
 |_=>Zb
def Á:PV->Option Key
 |.int i=>Za (.inl i)
 |.str x=>Za (.inr x)
 |_=>Zb
noncomputable def toV:PV->Option V
 |.Ym=>Za .Ym
 |.bl b=>Za (.bl b)
 |.int i=>Za (.int i)
 |.str x=>Za (.str x)
 |_=>Zb
noncomputable def toVs:List PV->Option (List V)
 |[]=>Za []
 |p::l=>match toV p,toVs l with
  |some v,Za vs=>Za (v::vs)
  |_,_=>Zb
def p4(l:List (Key×PV))(k:Key):Option PV:=(l.find? λkv=>decide (kv.1=k)).map (·.2)
noncomputable def x9(l:List (Key×PV))(k:Key)(p:PV):List (Key×PV) :=
 if(l.any λkv=>decide (kv.1=k))=true then l.map (λkv=>if kv.1=k then(kv.1,p) else kv) else l++[(k,p)]
noncomputable def yQ(f:PV->Option kU):List PV->Option (List kU)
 |[]=>Za []
 |p::l=>match f p,yQ f l with
  |some d,Za ds=>Za (d::ds)
  |_,_=>Zb
noncomputable def PV.data(s:K'):Nat->PV->Option kU
 |0,_=>Zb
 |_+1,.Ym=>Za .none
 |_+1,.bl b=>Za (.bool b)
 |_+1,.int i=>Za (.int i)
 |_+1,.str x=>if bM x=true then Za (.str x) else Zb
 |k+1,.tup l=>(yQ (PV.data s k) l).map .tuple
 |k+1,.lst l=>(yQ (PV.data s k) l).map .list
 |k+1,.seq l=>(yQ (PV.data s k) l).map .list
 |k+1,.ref n=>match s.get n with
  |some (.lst l)=>(yQ (PV.data s k) l).map .list
  |_=>Zb
 |_+1,_=>Zb
section
variable{K:aa}{CB:ag}{H:Hp}{m:Mp}{s:K'}{x:V}{v:PV}
def Rep.ls(S:SR K CB H m s)(r:Rep K H m s x v)(e:YI s v=Za l):∃a vs,x=.ref a/\YY K H a vs/\Yd K H m s vs l:=by
 cases r with
 |lst h _ q=>cases e;exact⟨_,_,rfl,YY.of h,q⟩
 |seq h q=>cases e;exact⟨_,_,rfl,h.elim (λz=>.inl (.inr z.1)) .inr,q⟩
 |ref h =>
  rename_i n;have e:(match s.get n with|some (.lst l)=>Za l|_=>Zb)=Za l:=e;split at e<;>cases e
  rename_i hg;obtain⟨_,vs,h1,h2⟩:=S.get hg;exact⟨_,vs,rfl,YY.of h1,h2⟩
 |_=>cases e
def Rep.tp(r:Rep K H m s x (.tup l)):∃a vs,x=.ref a/\ZK K H a vs/\Yd K H m s vs l:=by
 cases r with
 |tup h q=>exact⟨_,_,rfl,h.elim (λz=>.inl z.1) .inr,q⟩
def Rep.dc(S:SR K CB H m s)(r:Rep K H m s x v)(e:ZG s v=Za l):∃a vs,x=.ref a/\Rd H a (.dK vs)/\Yf K H m s vs l:=by
 cases r with
 |Yr h _ q=>cases e;exact⟨_,_,rfl,h,q⟩
 |ref h =>
  rename_i n;have e:(match s.get n with|some (.Yr l)=>Za l|some (.Zp l)=>Za l|_=>Zb)=Za l:=e;split at e<;>cases e
  .rename_i hg;obtain⟨_,vs,h1,h2⟩:=S.get hg;exact⟨_,vs,rfl,.inl h1,h2⟩
  .rename_i hg;obtain⟨_,ob,vs,h1,h2⟩:=S.get hg;exact⟨_,vs,rfl,.inr ⟨ob,h1⟩,h2⟩
 |_=>cases e
theorem Rep.toV(r:Rep K H m s x v)(e:L2.toV v=Za z):x=z:=by cases r<;>first|cases e;rfl|cases e
theorem Yd.toVs:∀{vs:List V}{l:List PV}{zs:List V},Yd K H m s vs l->L2.toVs l=Za zs->vs=zs
 |_,_,_,.nil,e=>by cases e;rfl
 |_,_,_,.cons a b,e=>by
  unfold L2.toVs at e;split at e<;>cases e
  rename_i h1 h2;rw[a.toV h1,b.toVs h2]
def Al{v}(e:L2.toV v=Za z):tR z=true:=by cases v<;>first|cases e;rfl|cases e
theorem xE:∀{l:List PV}{zs:List V},L2.toVs l=Za zs->zs.all tR=true
 |[],_,e=>by cases e;rfl
 |p::l,_,e=>by
  unfold L2.toVs at e;split at e<;>cases e
  rename_i h1 h2;rw[iS,Al h1,xE h2];rfl
theorem Yd.get:∀{vs:List V}{l:List PV}{i:Nat}{p:PV},Yd K H m s vs l->l[i]?=Za p->∃u,vs[i]?=Za u/\Rep K H m s u p
 |_,_,_,_,.nil,e=>by simp at e
 |_,_,0,_,.cons a _,e=>by simp at e;subst e;exact⟨_,rfl,a⟩
 |_,_,i+1,p,.cons _ b,e=>by
  obtain⟨u,h1,h2⟩:=b.get (by simpa using e)
  simp_all
theorem Yd.È(r:Yd K H m s vs l)(e:L2.È l i=Za p):∃u,L2.È vs i=Za u/\Rep K H m s u p:=by
 unfold L2.È at e ⊢;rw[r.length];cases c:ũ l.length i with
 |none=>rw[c] at e;cases e
 |some j=>rw[c] at e;exact r.get e
theorem Yd.append:∀{vs ws:List V}{l k:List PV},Yd K H m s vs l->Yd K H m s ws k->Yd K H m s (vs++ws) (l++k)
 |_,_,_,_,.nil,q=>q
 |_,_,_,_,.cons a b,q=>.cons a (b.append q)
theorem Yd.drop:∀{vs:List V}{l:List PV}(n:Nat),Yd K H m s vs l->Yd K H m s (vs.drop n) (l.drop n)
 |_,_,0,r=>r
 |_,_,_+1,.nil=>.nil
 |_,_,n+1,.cons _ b=>b.drop n
theorem Yd.take:∀{vs:List V}{l:List PV}(n:Nat),Yd K H m s vs l->Yd K H m s (vs.take n) (l.take n)
 |_,_,0,_=>.nil
 |_,_,_+1,.nil=>.nil
 |_,_,n+1,.cons a b=>.cons a (b.take n)
theorem Yd.set:∀{vs:List V}{l:List PV}{u:V}{p:PV}(i:Nat),Yd K H m s vs l->Rep K H m s u p->Yd K H m s (vs.set i u) (l.set i p)
 |_,_,_,_,_,.nil,_=>.nil
 |_,_,_,_,0,.cons _ b,r=>.cons r b
 |_,_,_,_,i+1,.cons a b,r=>.cons a (b.set i r)
theorem Yd.strs:∀{vs:List V}{ss:List Str},Yd K H m s vs (ss.map PV.str)->vs=ss.map V.str
 |_,[],.nil=>rfl
 |_,x::ss,.cons a b=>by cases a;rw[Yd.strs (ss:=ss) b];rfl
theorem Yd.ofStrs:∀(ss:List Str),Yd K H m s (ss.map V.str) (ss.map PV.str)
 |[]=>.nil
 |_::r=>.cons .str (Yd.ofStrs r)
theorem Yf.keys:∀{vs:List (Key×V)}{l:List (Key×PV)},Yf K H m s vs l->vs.map (·.1)=l.map (·.1)
 |_,_,.nil=>rfl
 |_,_,.cons _ b=>by simp[b.keys]
theorem Yf.length(r:Yf K H m s vs l):vs.length=l.length:=by have:=congrArg cD r.keys;simpa using this
theorem Yf.val:∀{vs:List (Key×V)}{l:List (Key×PV)}(k:Key),Yf K H m s vs l->(∀p,p4 l k=Za p->∃u,pB vs k=Za u/\Rep K H m s u p)/\(p4 l k=Zb->pB vs k=Zb)
 |_,_,k,.nil=>⟨λp e=>(by cases e),λ_=>rfl⟩
 |_,_,k,.cons (k:=q) (p:=p0) (v:=v0) a b=>by
  by_cases e:q=k
  .refine⟨λp h=>⟨v0,wK e,?_⟩,λh=>?_⟩
   .unfold p4 at h;simp[e] at h;subst h;exact a
   .unfold p4 at h;simp[e] at h
  .rw[wM e];have h2:∀{l:List (Key×PV)},p4 ((q,p0)::l) k=p4 l k:=λ{l}=>by unfold p4;simp[e]
   rw[h2];exact b.val k
theorem Yf.any(r:Yf K H m s vs l)(k):(vs.any λkv=>decide (kv.1=k))=l.any λkv=>decide (kv.1=k):=by
 have h:∀{β:Type}(l:List (Key×β)),(l.any λkv=>decide (kv.1=k))=(l.map (·.1)).any λj=>decide (j=k):=λl=>by rw[gX];rfl
 rw[h,h,r.keys]
theorem Yf.Ũ:∀{vs:List (Key×V)}{l:List (Key×PV)}{u:V}{p:PV}(k:Key),Yf K H m s vs l->Rep K H m s u p->Yf K H m s (vs.map λkv=>if kv.1=k then(kv.1,u) else kv) (l.map λkv=>if kv.1=k then(kv.1,p) else kv)
 |_,_,_,_,_,.nil,_=>.nil
 |_,_,u,p,k,.cons (k:=q) a b,r=>by
  rw[am,am];by_cases e:q=k
  .rw[Zc e,Zc e];exact .cons r (b.Ũ k r)
  .rw[Zd e,Zd e];exact .cons a (b.Ũ k r)
theorem Yf.append:∀{vs ws:List (Key×V)}{l k:List (Key×PV)},Yf K H m s vs l->Yf K H m s ws k->Yf K H m s (vs++ws) (l++k)
 |_,_,_,_,.nil,q=>q
 |_,_,_,_,.cons a b,q=>.cons a (b.append q)
def Yf.put(k)(q:Yf K H m s vs l)(r:Rep K H m s u p):Yf K H m s (qY vs k u) (x9 l k p):=by
 unfold qY x9;rw[q.any];split
 .exact q.Ũ k r
 .exact q.append (.cons r .nil)
def qE(r:Rep K H m s x v)(e:Á v=Za k):x=kV k:=by cases r<;>first|cases e;rfl|cases e
end
section
variable{X:Cx}{CB:ag}
theorem Yd.ĉ{sh:aw}{H:Hp}{m:Mp}{s:K'}{k:Nat}(ih:∀{v:V}{p:PV}{u:af}{d:kU},Rep X.K H m s v p->RelV v u->PV.data s k p=Za d->(∃as,Reads sh.heap u d as)/\d.canLay0=true/\d.depth<=k) :
  ∀{v:List V}{p:List PV}{u:List af}{d:List kU},Yd X.K H m s v p->Vals v u->yQ (PV.data s k) p=Za d->(∃as,ReadsAll sh.heap u.toArray.toList d as)/\lE d=true/\PyData.depthAll d<=k
 |_,_,_,_,.nil,.nil,e=>by unfold yQ at e;cases e;exact⟨⟨_,.nil⟩,rfl,a6 _⟩
 |_,_,_,_,.cons a b,.cons r rs,e=>by
  unfold yQ at e;split at e<;>cases e
  rename_i h1 h2;obtain⟨⟨as,r1⟩,r2,r3⟩:=ih a r h1;obtain⟨⟨bs,q1⟩,q2,q3⟩:=Yd.ĉ ih b rs h2;refine⟨⟨_,.cons r1 (by simpa using q1)⟩,by unfold lE;rw[r2,q2];rfl,?_⟩;unfold PyData.depthAll;lia
theorem Rep.reads(I:Inv X Q9 O H sh)(S:SR X.K CB H m s):∀(k:Nat){v:V}{p:PV}{u:af}{d:kU},Rep X.K H m s v p->RelV v u->PV.data s k p=Za d ->
  (∃as,Reads sh.heap u d as)/\d.canLay0=true/\d.depth<=k
 |0,_,p,_,_,_,_,e=>by cases p<;>(unfold PV.data at e;cases e)
 |k+1,_,_,_,_,.Ym,ru,e=>by cases ru;unfold PV.data at e;cases e;exact⟨⟨_,.none⟩,rfl,a6 _⟩
 |k+1,_,_,_,_,.bl,ru,e=>by cases ru;unfold PV.data at e;cases e;exact⟨⟨_,.bool _⟩,rfl,a6 _⟩
 |k+1,_,_,_,_,.int,ru,e=>by obtain⟨t,rfl⟩:=ru;cases e;exact⟨⟨_,.int _ _⟩,rfl,a6 _⟩
 |k+1,_,_,_,_,.str,ru,e=>by
  obtain⟨t,rfl⟩:=ru;unfold PV.data at e;split at e<;>cases e
  rename_i h;exact⟨⟨_,.str _ _⟩,h,a6 _⟩
 |k+1,_,_,_,_,.tup (l:=l) h q,ru,e=>by
  cases ru;unfold PV.data at e;cases c:yQ (PV.data s k) l with
  |none=>rw[c] at e;cases e
  |some ds =>
   rw[c] at e;cases e;obtain⟨its,rv,⟨o,g1,g2,n,g3⟩,_⟩:=I.tuple (h.elim (λz=>(.inl z.1:ZK X.K H _ _)) .inr);obtain⟨⟨as,r1⟩,r2,r3⟩:=Yd.ĉ (Rep.reads I S k) q rv c;exact⟨⟨_,.tuple g1 g2 g3 r1⟩,r2,by unfold iU;lia⟩
 |k+1,_,_,_,_,.lst (l:=l) h _ q,ru,e=>by
  cases ru;unfold PV.data at e;cases c:yQ (PV.data s k) l with
  |none=>rw[c] at e;cases e
  |some ds =>
   rw[c] at e;cases e;obtain⟨its,rv,⟨o,n,g1,g2,_,g3⟩,_⟩:=I.list (YY.of h);obtain⟨⟨as,r1⟩,r2,r3⟩:=Yd.ĉ (Rep.reads I S k) q rv c;exact⟨⟨_,.list g1 g2 g3 r1⟩,r2,by unfold iU;lia⟩
 |k+1,_,_,_,_,.seq (l:=l) h q,ru,e=>by
  cases ru;unfold PV.data at e;cases c:yQ (PV.data s k) l with
  |none=>rw[c] at e;cases e
  |some ds =>
   rw[c] at e;cases e;obtain⟨its,rv,⟨o,n,g1,g2,_,g3⟩,_⟩:=I.list (h.elim (λz=>(.inl (.inr z.1):YY X.K H _ _)) .inr);obtain⟨⟨as,r1⟩,r2,r3⟩:=Yd.ĉ (Rep.reads I S k) q rv c;exact⟨⟨_,.list g1 g2 g3 r1⟩,r2,by unfold iU;lia⟩
 |k+1,_,_,_,_,.Yr _ _ _,_,e=>by cases e
 |k+1,_,_,_,_,.exc _ _,_,e=>by cases e
 |k+1,_,_,_,_,.ŭ _,_,e=>by cases e
 |k+1,_,_,_,_,.ref _,ru,e=>by
  cases ru;unfold PV.data at e;split at e<;>first|cases e|skip
  rename_i l hg;cases c:yQ (PV.data s k) l with
  |none=>rw[c] at e;cases e
  |some ds =>
   rw[c] at e;cases e;obtain⟨_,vs,h1,q⟩:=S.get hg;obtain⟨its,rv,⟨o,n,g1,g2,_,g3⟩,_⟩:=I.list (YY.of h1);obtain⟨⟨as,r1⟩,r2,r3⟩:=Yd.ĉ (Rep.reads I S k) q rv c;exact⟨⟨_,.list g1 g2 g3 r1⟩,r2,by unfold iU;lia⟩
def Bt(k:Nat)(n:Int):Prop:=n.natAbs<2^k
def Bt.mono(h:Bt k n)(hl:k<=l):Bt l n:=ax h (cg (Zf rfl) hl)
def Bt.mul(h:Bt k n)(g:Bt l m):Bt (k+l) (n*m):=by
 unfold Bt at *;rw[iL,lI];by_cases z:m.natAbs=0
 .rw[z,Nat.mul_zero];exact lJ (cE k) (cE l)
 .exact ax (Nat.mul_lt_mul_of_pos_right h (Nat.pos_of_ne_zero z)) (lV _ (fA g))
def Bt.add(h:Bt k n)(g:Bt k m):Bt (k+1) (n+m):=by unfold Bt at *;have:=Int.natAbs_add_le n m;lia
def Bt.neg(h:Bt k n):Bt k (-n):=by unfold Bt at *;rw[iK];exact h
def Bt.div(h:Bt k n):Bt k (n/d):=aZ (Int.natAbs_ediv_le_natAbs n d) h
def Bt.dvd(h:Bt k n)(hn:n≠0)(hd:d∣n):Bt k d:=aZ (Nat.le_of_dvd (by lia) (fG.mpr hd)) h
def Bt.log(h:Bt 9000 n)(h0:0<n):n.natAbs.log2<9000:=(Nat.log2_lt (by lia)).mpr h
def Ff(h:Bt 20000 i):cy i<=2^20:=by
 unfold cy;split
 .exact a6 _
 .rename_i z;have:=(Nat.log2_lt (by grind)).mpr h;lia
def Ð:ZA X (dE .Mult) (rI (λi j=>Bt 20000 i/\Bt 20000 j) λi j=>.int (i*j)):=opI λ_ _ _ _ _ _ _ hc q=>mul_int q (.of_bits (Ff hc.1) (Ff hc.2))
def L9(K:aa):R2:=λx y H Q=>∃l b xs zs,x=.ref l/\y=.ref b/\YY K H l xs/\YY K H b zs/\xs.length+zs.length<=aH/\∀p,H p=Zb->Q (.ref p) (upd H p (.lst (xs++zs)))
def Nh:ZA X (dE .Add) (L9 X.K):=by
 rintro Q9 s O H x y v u Q I rx ry ⟨l,b,xs,zs,rfl,rfl,hH,hB,hz,q⟩
 cases rx;cases ry;obtain⟨its,r,ht,_⟩:=I.list hH;obtain⟨Sg,r2,Vj,_⟩:=I.list hB;have l1:=r.length;have l2:=r2.length;obtain⟨⟨cls,dd,data,sl⟩,n,ho,hc,_,hd⟩:=ht;obtain⟨⟨cls2,dd2,data2,U4⟩,n2,TD,TJ,_,VG⟩:=Vj;subst hc hd TJ VG;refine concat_meets ⟨_,ho,rfl⟩ ⟨_,TD,rfl⟩ noFill_list_add seq_list_add PySem.F.slot_list_add PySem.F.entry_list_add (PySem.F.args_list_add_2 _ _) (list_addW l b its.toArray Sg.toArray n n2 dd dd2 sl U4 (by grind)) ⟨ho,TD,?_⟩;have ea:its.toArray++Sg.toArray=(its++Sg).toArray:=by simp
 rw[ea];exact⟨.ref _,_,I.ÀA (r.append r2) (by grind),rfl,q _ I.fresh⟩
def Ps:V->List V->Hp->VK->Prop:=λx vs H Q=>∃(l:ag)(ss:List Str)(y:Str)(j:Nat),x=.ref l/\vs=[.str y]/\H l=Za (.lst (ss.map V.str))/\ss[j]?=Za y/\(∀m,m<j->ss[m]?≠Za y)/\ss.length<1000/\Q (.int (j:Nat)) H
def Kk:MtM X "list.index" Ps:=by
 rintro Q9 s O H x vs v us Q I rx rv ⟨l,ss,y,j,rfl,rfl,hH,hj,SU,Re,q⟩
 cases rx;obtain⟨u,rfl,ru⟩:=rv.one;obtain⟨t,rfl⟩:=ru;obtain⟨z,its,n,r,hl,e⟩:=I.Àz hH;rw[ac] at hl;have W4:∀m (hm:m<its.toArray.size),∃z tz,its.toArray[m]=.str z tz/\ss[m]?=Za z:=λm hm=>by
  have To:m<ss.length:=by rw[hl];simpa using hm
  obtain⟨u,hu,ru⟩:=r.get (i:=m) (x:=.str ss[m]) (by simp[To]);obtain⟨tz,rfl⟩:=ru;refine⟨ss[m],tz,?_,by simp[To]⟩;have:its[m]?=Za its.toArray[m]:=by simp[show m<its.length by simpa using hm]
  grind
 have jl:j<its.toArray.size:=by
  have:=(aS.mp hj).1
  grind
 refine jj jL ⟨_,e,rfl⟩ PySem.F.entry_list_index (PySem.F.args_list_index_2 _ _)
  (SeqAt.list_indexAt l its.toArray n _ _ (.str y t) (λv=>match v with|.str z _=>decide (z=y)|_=>false) j jl (by grind) ?_ ?_) ⟨e,λw hw=>?_,⟨.int j,H,I.tok _,⟨_,rfl⟩,q⟩⟩
 .obtain⟨z',tz,e1,e2⟩:=W4 j jl;rw[e1]
  grind
 .intro m hm Rs;obtain⟨z',tz,e1,e2⟩:=W4 m hm;rw[e1];exact Zh λw=>SU m Rs (by rw[e2,w])
 .obtain⟨m,hm,rfl⟩:=Array.getElem_of_mem hw;obtain⟨z',tz,e1,e2⟩:=W4 m hm;rw[e1];exact GG (show RelV (.str z') (.str z' tz) from⟨tz,rfl⟩) (show RelV (.str y) (.str y t) from⟨t,rfl⟩) rfl rfl
def QY:R2:=λx y H Q=>∃a v,x=.ref a/\Zs H a y (Za v)/\Q v H
def NF(hu:X.A.units+1<fb):ϳ X QY:=by
 intro Ri Rv Q9 s O H x y v u Q I rx ry h hs;obtain⟨a,z,rfl,g,q⟩:=h;obtain rfl:v=aR a:=rx;have hT:=yq I g;apply ah;refine ah (wpAny_specialOf hT jq.lookup ?_);have Rx:aP (model X.prog X.w) X.A (subscripted Rv false (.ref a) u) (λr Rg=>aP (model X.prog X.w) X.A (letTemporaryGo Ri (.ref a) r >>= λ_=>pure r) (EP X Q9 O Q) X.xe Rg) X.xe s:=by rw[hs];exact wpAny_operating (bw (Cj hu I g ry λw' s3 I3 RR=>(⟨z,H,I3,RR,q⟩:EP X Q9 O Q w' s3)) (λr Rg UR=>ah (wpAny_letTemporaryGo (aG UR))) λ_ _ x=>x)
 first
  |exact aG (ah Rx)
  |exact ah (aG (ah Rx))
  |exact ah Rx
def Âq:R2:=λy x H Q=>∃a o,x=.ref a/\Zs H a y o/\Q (.bl o.isSome) H
def MQ:R2:=λy x H Q=>∃a o,x=.ref a/\Zs H a y o/\Q (.bl (!o.isSome)) H
def FK(hu:X.A.units+1<fb):ZA X (bR .In) Âq:=by
 rintro Q9 s O H y x v u Q I ry rx ⟨a,o,rfl,g,q⟩
 obtain rfl:u=aR a:=rx;exact ÁR hu I g ry λs3 I3=>⟨.bl o.isSome,H,I3,rfl,q⟩
def A8(hu:X.A.units+1<fb):ZA X (bR .NotIn) MQ:=by
 rintro Q9 s O H y x v u Q I ry rx ⟨a,o,rfl,g,q⟩
 obtain rfl:u=aR a:=rx;exact Oe hu I g ry λs3 I3=>⟨.bl (!o.isSome),H,I3,rfl,q⟩
def Ja:YV X (.builtin "len") (λxs H Q=>∃a Ra,xs=[V.ref a]/\Rd H a (.dK Ra)/\Q (.int Ra.length) H):=by
 rintro Q9 s O H xs us Q I r ⟨a,Ra,rfl,ha,q⟩
 obtain⟨u,rfl,rfl⟩:=rh r;exact OZ I ha λt s' I'=>⟨.int Ra.length,H,I',⟨t,rfl⟩,q⟩
def QZ(K:aa)(CB:ag)(neg:Bool):R2:=λx y H Q=>∃m s v w d e,SR K CB H m s/\Rep K H m s x v/\Rep K H m s y w/\PV.data s 12 v=Za d/\PV.data s 12 w=Za e/\Q (.bl (if neg then !cC d e else cC d e)) H
def P5{CB}(hu:X.A.units+12<fb):ZA X (bR .Eq) (QZ X.K CB false):=by
 rintro Q9 s O H x y v u Q I rx ry ⟨m,t,p,q,d,e,S,r1,r2,e1,e2,k⟩
 obtain⟨⟨as,a1⟩,a2,a3⟩:=r1.reads I S 12 rx e1;obtain⟨⟨bs,b1⟩,b2,b3⟩:=r2.reads I S 12 ry e2;exact SeqAt.rcAt_reads a1 b1 a2 b2 (by lia) _ _ _ _ ⟨.bl _,H,I,rfl,k⟩
def PY{CB}(hu:X.A.units+12<fb):ZA X (bR .NotEq) (QZ X.K CB true):=by
 rintro Q9 s O H x y v u Q I rx ry ⟨m,t,p,q,d,e,S,r1,r2,e1,e2,k⟩
 obtain⟨⟨as,a1⟩,a2,a3⟩:=r1.reads I S 12 rx e1;obtain⟨⟨bs,b1⟩,b2,b3⟩:=r2.reads I S 12 ry e2;exact SeqAt.rcNeAt_reads a1 b1 a2 b2 (by lia) _ _ _ _ ⟨.bl _,H,I,rfl,k⟩
end
def qz(i j:Int):Prop:=(Bt 20000 i/\Bt 20000 j)\/ϓ i j
def zY(j:Int):Prop:=0<j/\Bt 9000 j
noncomputable instance (i j:Int):Decidable (qz i j):=du _
noncomputable instance (j:Int):Decidable (zY j):=du _
def YH(v w:PV)(s:K'):Out PV:=match v,w with
 |.int i,.int j=>.ok (.int (i+j)) s
 |.str x,.str y=>if x.length+y.length<=100000 then .ok (.str (x++y)) s else .bad
 |v,w=>match YI s v,YI s w with
  |some l,Za k=>if l.length+k.length<=100000 then .ok (.lst (l++k)) s else .bad
  |_,_=>.bad
def Ü(v w:PV)(s:K'):Out PV:=match v,w with
 |.int i,.int j=>.ok (.int (i-j)) s
 |_,_=>.bad
def YC(v w:PV)(s:K'):Out PV:=match v,w with
 |.int i,.int j=>if qz i j then .ok (.int (i*j)) s else .bad
 |.lst l,.int k=>if -(2^63)<=k/\k<2^63/\l.length*k.toNat<=100000 then .ok (.lst (aQ k.toNat l).flatten) s else .bad
 |_,_=>.bad
def Í(v w:PV)(s:K'):Out PV:=match v,w with
 |.int i,.int j=>if zY j then .ok (.int (i/j)) s else .bad
 |_,_=>.bad
def Â(v w:PV)(s:K'):Out PV:=match v,w with
 |.int i,.int j=>if 0<j then .ok (.int (i%j)) s else .bad
 |_,_=>.bad
noncomputable def ë(v w:PV)(s:K'):Out PV:=match v,w with
 |.int i,.int j=>if 0<=j/\j<=1000000/\i.natAbs<2^64 then .ok (.int (i^j.toNat)) s else .bad
 |_,_=>.bad
noncomputable def Ū(p:Int->Int->Bool)(v w:PV)(s:K'):Out PV:=match v,w with
 |.int i,.int j=>.ok (.bl (p i j)) s
 |_,_=>.bad
abbrev fLt:=Ū λi j=>decide (i<j)
abbrev fGt:=Ū λi j=>decide (j<i)
abbrev fGe:=Ū λi j=>decide (j<=i)
def Z0(neg:Bool)(v w:PV)(s:K'):Out PV:=match PV.data s 12 v,PV.data s 12 w with
 |some d,Za e=>.ok (.bl (if neg then !cC d e else cC d e)) s
 |_,_=>.bad
abbrev Ý:=Z0 false
abbrev Ō:=Z0 true
def PV.Ϣ:PV->Bool
 |.Ym=>true
 |_=>false
def fIs(v w:PV)(s:K'):Out PV:=match w with
 |.Ym=>.ok (.bl v.Ϣ) s
 |_=>.bad
def ı(v w:PV)(s:K'):Out PV:=match w with
 |.Ym=>.ok (.bl (!v.Ϣ)) s
 |_=>.bad
def Fj(neg b:Bool):Bool:=if neg then !b else b
def rg(neg:Bool)(v w:PV)(s:K'):Out PV:=match ZG s w with
 |some l=>match Á v with
  |some k=>.ok (.bl (Fj neg (p4 l k).isSome)) s
  |none=>.bad
 |none=>match toV v with
  |none=>.bad
  |some x=>match w with
   |.tup l=>match toVs l with
    |some zs=>.ok (.bl (Fj neg (inV x zs))) s
    |none=>.bad
   |w=>match YI s w with
    |some l=>match toVs l with
     |some zs=>.ok (.bl (Fj neg (inV x zs))) s
     |none=>.bad
    |none=>.bad
abbrev fIn:=rg false
abbrev qh:=rg true
def Yo(v w:PV)(s:K'):Out PV:=match v with
 |.tup l=>match w with
  |.int i=>match È l i with
   |some p=>.ok p s
   |none=>.bad
  |_=>.bad
 |.str x=>match w with
  |.int i=>match È x.cps.toList i with
   |some c=>if x.length<=100000 then .ok (.str ⟨#[c]⟩) s else .bad
   |none=>.bad
  |_=>.bad
 |v=>match YI s v with
  |some l=>match w with
   |.int i=>match È l i with
    |some p=>.ok p s
    |none=>.bad
   |_=>.bad
  |none=>match ZG s v with
   |some l=>match Á w with
    |some k=>match p4 l k with
     |some p=>.ok p s
     |none=>.bad
    |none=>.bad
   |none=>.bad
def œ(v:PV)(s:K'):Out PV:=match v with
 |.int i=>.ok (.int (-i)) s
 |_=>.bad
section
variable{X:Cx}{CB:ag}{E:XK}
def Áj:ō X.K CB E (λx y H Q=>ϔ (λi j=>V.int (i+j)) x y H Q\/(∃i j,x=V.str i/\y=V.str j/\i.length+j.length<=aH/\Q (V.str (i++j)) H)\/L9 X.K x y H Q) YH:=by
 intro H m s v w x y Q S rx ry P;unfold YH at P;split at P
 .cases rx;cases ry;exact .inl ⟨_,_,rfl,rfl,P.here S .int⟩
 .cases rx;cases ry;split at P
  .rename_i h;exact .inr (.inl ⟨_,_,rfl,rfl,ϯ h,P.here S .str⟩)
  .exact P.elim
 .split at P
  .rename_i l k h1 h2;split at P
   .rename_i h;obtain⟨a,vs,rfl,q1,r1⟩:=rx.ls S h1;obtain⟨b,ws,rfl,q2,r2⟩:=ry.ls S h2;exact .inr (.inr ⟨a,b,vs,ws,rfl,rfl,q1,q2,by rw[r1.length,r2.length];exact ϯ h,λp hp=>P.new S hp λex S'=>.lst mv (S.YM hp) ((r1.append r2).ext ex)⟩)
   .exact P.elim
  .exact P.elim
def Ni:ZA X (dE .Add) (λx y H Q=>ϔ (λi j=>V.int (i+j)) x y H Q\/(∃i j,x=V.str i/\y=V.str j/\i.length+j.length<=aH/\Q (V.str (i++j)) H)\/L9 X.K x y H Q):=Ϡ.or (Ŧ.or Nh)
def Ác:ō X.K CB E (ϔ λi j=>V.int (i-j)) Ü:=by
 intro H m s v w x y Q S rx ry P;unfold Ü at P;split at P
 .cases rx;cases ry;exact⟨_,_,rfl,rfl,P.here S .int⟩
 .exact P.elim
theorem Yd.rep{K}{H}{m}{s}{vs}{l}(r:Yd K H m s vs l):∀n,Yd K H m s (aQ n vs).flatten (aQ n l).flatten
 |0=>.nil
 |n+1=>by rw[eM,eM,gF,gF];exact r.append (r.rep n)
def Áf:ō X.K CB E (λx y H Q=>(rI (λi j=>Bt 20000 i/\Bt 20000 j) (λi j=>V.int (i*j)) x y H Q\/rI ϓ (λi j=>V.int (i*j)) x y H Q)\/QU x y H Q) YC:=by
 intro H m s v w x y Q S rx ry P;unfold YC at P;split at P
 .cases rx;cases ry;split at P
  .rename_i h;obtain h|h:=h
   .exact .inl (.inl ⟨_,_,rfl,rfl,h,P.here S .int⟩)
   .exact .inl (.inr ⟨_,_,rfl,rfl,h,P.here S .int⟩)
  .exact P.elim
 .split at P
  .rename_i h;cases rx with
   |lst h1 _ r1 =>
    cases ry;exact .inr ⟨_,_,_,rfl,rfl,h1,h.1,h.2.1,by rw[r1.length];exact ϯ h.2.2,λp hp=>P.new S hp λex S'=>.lst mv (S.YM hp) ((r1.rep _).ext ex)⟩
  .exact P.elim
 .exact P.elim
def Ng:ZA X (dE .Mult) (λx y H Q=>(rI (λi j=>Bt 20000 i/\Bt 20000 j) (λi j=>V.int (i*j)) x y H Q\/rI ϓ (λi j=>V.int (i*j)) x y H Q)\/QU x y H Q):=(Ð.or PZ).or PU
def Ái:ō X.K CB E (rI (λ_ j=>0<j/\j.natAbs.log2<9000) λi j=>V.int (i/j)) Í:=by
 intro H m s v w x y Q S rx ry P;unfold Í at P;split at P
 .cases rx;cases ry;split at P
  .rename_i h;exact⟨_,_,rfl,rfl,⟨h.1,h.2.log h.1⟩,P.here S .int⟩
  .exact P.elim
 .exact P.elim
def Ág:ō X.K CB E (rI (λ_ j=>0<j) λi j=>V.int (i%j)) Â:=by
 intro H m s v w x y Q S rx ry P;unfold Â at P;split at P
 .cases rx;cases ry;split at P
  .rename_i h;exact⟨_,_,rfl,rfl,h,P.here S .int⟩
  .exact P.elim
 .exact P.elim
def Ád:ō X.K CB E (rI Á2 λi j=>V.int (i^j.toNat)) ë:=by
 intro H m s v w x y Q S rx ry P;unfold ë at P;split at P
 .cases rx;cases ry;split at P
  .rename_i h;exact⟨_,_,rfl,rfl,h,P.here S .int⟩
  .exact P.elim
 .exact P.elim
def Me:ō X.K CB E (ϔ λi j=>V.bl (p i j)) (Ū p):=by
 intro H m s v w x y Q S rx ry P;unfold Ū at P;split at P
 .cases rx;cases ry;exact⟨_,_,rfl,rfl,P.here S .bl⟩
 .exact P.elim
def OO:ō X.K CB E (QZ X.K CB neg) (Z0 neg):=by
 intro H m s v w x y Q S rx ry P;unfold Z0 at P;split at P
 .rename_i d e h1 h2;exact⟨m,s,v,w,d,e,S,rx,ry,h1,h2,P.here S .bl⟩
 .exact P.elim
def IJ{K}{H}{m}{s}{x}{v}(r:Rep K H m s x v):decide (x=V.Ym)=v.Ϣ:=by cases r<;>first|rfl|exact Zh (by grind)
def Qc:ō X.K CB E (λx y H Q=>y=V.Ym/\Q (V.bl (!decide (x=V.Ym))) H) ı:=by
 intro H m s v w x y Q S rx ry P;unfold ı at P;split at P
 .cases ry;refine⟨rfl,?_⟩;rw[IJ rx];exact P.here S .bl
 .exact P.elim
def Q0(neg:Bool):R2:=λy x H Q=>∃a o,x=.ref a/\Zs H a y o/\Q (.bl (Fj neg o.isSome)) H
def Áh:ō X.K CB E (λx y H Q=>Q0 neg x y H Q\/rIn X.K neg x y H Q) (rg neg):=by
 intro H m s v w x y Q S rx ry P;unfold rg at P;split at P
 .rename_i l hl;split at P
  .rename_i k hk;obtain⟨a,vs,rfl,q,r⟩:=ry.dc S hl;refine .inl ⟨a,pB vs k,rfl,.inl ⟨vs,k,q,qE rx hk,rfl⟩,?_⟩;obtain⟨r1,r2⟩:=r.val k;cases c:p4 l k with
   |none=>rw[r2 c];rw[c] at P;exact P.here S .bl
   |some p=>obtain⟨u,e,_⟩:=r1 p c;rw[e];rw[c] at P;exact P.here S .bl
  .exact P.elim
 .split at P
  .exact P.elim
  .rename_i z hz;have ez:=rx.toV hz;subst ez;split at P
   .split at P
    .rename_i l zs Ve;obtain⟨a,vs,rfl,q,r⟩:=ry.tp;have e:=r.toVs Ve;subst e;exact .inr ⟨a,vs,rfl,.inr q,Al hz,xE Ve,P.here S .bl⟩
    .exact P.elim
   .split at P
    .rename_i l hl;split at P
     .rename_i zs Ve;obtain⟨a,vs,rfl,q,r⟩:=ry.ls S hl;have e:=r.toVs Ve;subst e;exact .inr ⟨a,vs,rfl,.inl q,Al hz,xE Ve,P.here S .bl⟩
     .exact P.elim
    .exact P.elim
def P0(hu:X.A.units+1<fb):ZA X (bR .In) (λx y H Q=>Q0 false x y H Q\/rIn X.K false x y H Q):=(FK hu).or Io
def Im(hu:X.A.units+1<fb):ZA X (bR .NotIn) (λx y H Q=>Q0 true x y H Q\/rIn X.K true x y H Q):=(A8 hu).or CM
def Âu:ō X.K CB E (λx y H Q=>(QV X.K x y H Q\/QW x y H Q)\/(QX X.K x y H Q\/QY x y H Q)) Yo:=by
 intro H m s v w x y Q S rx ry P;unfold Yo at P;split at P
 .split at P
  .split at P
   .rename_i p hp;cases ry;obtain⟨a,vs,rfl,q,r⟩:=rx.tp;obtain⟨u,e,ru⟩:=r.È hp;exact .inl (.inl ⟨a,vs,_,u,rfl,rfl,q,e,P.here S ru⟩)
   .exact P.elim
  .exact P.elim
 .split at P
  .split at P
   .rename_i c hc;split at P
    .rename_i hl;cases rx;cases ry;exact .inl (.inr ⟨_,_,c,rfl,rfl,ϯ hl,hc,P.here S .str⟩)
    .exact P.elim
   .exact P.elim
  .exact P.elim
 .split at P
  .rename_i l hl;split at P
   .split at P
    .rename_i p hp;cases ry;obtain⟨a,vs,rfl,q,r⟩:=rx.ls S hl;obtain⟨u,e,ru⟩:=r.È hp;exact .inr (.inl ⟨a,vs,_,u,rfl,rfl,q,e,P.here S ru⟩)
    .exact P.elim
   .exact P.elim
  .split at P
   .rename_i l hl;split at P
    .rename_i k hk;split at P
     .rename_i p hp;obtain⟨a,vs,rfl,q,r⟩:=rx.dc S hl;obtain⟨u,e,ru⟩:=(r.val k).1 p hp;exact .inr (.inr ⟨a,u,rfl,.inl ⟨vs,k,q,qE ry hk,e.symm⟩,P.here S ru⟩)
     .exact P.elim
    .exact P.elim
   .exact P.elim
def ÂF(hu:X.A.units+1<fb):ϳ X (λx y H Q=>(QV X.K x y H Q\/QW x y H Q)\/(QX X.K x y H Q\/QY x y H Q)):=(Y2.or yM).or (Àe.or (NF hu))
def Áe:Op1 X.K CB E (rU λi=>V.int (-i)) œ:=by
 intro H m s v x Q S rx P;unfold œ at P;split at P
 .cases rx;exact⟨_,rfl,P.here S .int⟩
 .exact P.elim
variable{a b c e:bc}{es:List bc}{f g h:XE}{fa:XA}{p pos Rc Rb:Pos}{x:Str}
def n9(ha:DE X CB E a f)(hb:DE X CB E b g):DE X CB E (.BinOp a .Add b pos) (x2 f g YH):=z3 Ni Áj ha hb
def yP(ha:DE X CB E a f)(hb:DE X CB E b g):DE X CB E (.BinOp a .Sub b pos) (x2 f g Ü):=z3 PQ Ác ha hb
def nL(ha:DE X CB E a f)(hb:DE X CB E b g):DE X CB E (.BinOp a .Mult b pos) (x2 f g YC):=z3 Ng Áf ha hb
def ud(ha:DE X CB E a f)(hb:DE X CB E b g):DE X CB E (.BinOp a .FloorDiv b pos) (x2 f g Í):=z3 sO Ái ha hb
def wF(ha:DE X CB E a f)(hb:DE X CB E b g):DE X CB E (.BinOp a .Mod b pos) (x2 f g Â):=z3 Lo Ág ha hb
def Bs(ha:DE X CB E a f)(hb:DE X CB E b g):DE X CB E (.BinOp a .Pow b pos) (x2 f g ë):=z3 PX Ád ha hb
def QK(ha:DE X CB E a f):DE X CB E (.UnaryOp .USub a pos) (x1 f œ):=ÁO K4 Áe ha
def ÁC(hr:YA k A):A.units+12<fb:=aZ (lW (by grind) _) hr.units
def mP(ha:DE X CB E a f)(hb:DE X CB E b g)(hr:YA jr X.A:=by assumption)(hs:HL b:=by exact λ_ _=>rfl):DE X CB E (.Subscript a b pos) (x2 f g Yo):=⟨(sx (ÂF (qN hr)) ha.pe hb.pe hs).mono λO H Q q=>two Âu q⟩
structure Ħ(X:Cx)(CB:ag)(E:XK)(op:CmpOp)(F:PV->PV->K'->Out PV):Prop where
 ex:∃r,ZA X (bR op) r/\ō X.K CB E r F
def ÂP:Ħ X CB E .Lt fLt:=⟨_,OK,Me⟩
def O3:Ħ X CB E .Gt fGt:=⟨_,OM,Me⟩
def ÁU:Ħ X CB E .GtE fGe:=⟨_,Mc,Me⟩
def Ct(hr:YA jr X.A:=by assumption):Ħ X CB E .Eq Ý:=⟨_,P5 (ÁC hr),OO⟩
def HF(hr:YA jr X.A:=by assumption):Ħ X CB E .NotEq Ō:=⟨_,PY (ÁC hr),OO⟩
def QO:Ħ X CB E .IsNot ı:=⟨_,Nd,Qc⟩
def ÁT(hr:YA jr X.A:=by assumption):Ħ X CB E .In fIn:=⟨_,P0 (qN hr),Áh⟩
def Ac(hr:YA jr X.A:=by assumption):Ħ X CB E .NotIn qh:=⟨_,Im (qN hr),Áh⟩
def BF(r:Ħ X CB E op F)(ha:DE X CB E a f)(hb:DE X CB E b g)(hm:cK op b=false:=by first|exact vC _|with_unfolding_all rfl):DE X CB E (.Compare a [op] [b] pos) (x2 f g F):=let⟨_,r1,r2⟩:=r.ex;L2.ÀD r1 r2 ha hb hm
def oP(r:Ħ X CB E op F)(ha:DE X CB E a f)(hb:DE X CB E b g)(hm:cK op b=false:=by first|exact vC _|with_unfolding_all rfl):DT X CB E (.Compare a [op] [b] pos) (YO (x2 f g F)):=let⟨_,r1,r2⟩:=r.ex;L2.ÀB r1 r2 ha hb hm
abbrev XO':=En->K'->Out (Option Int)
def TDO(K:aa)(CB:ag)(E:XK)(f:XO'):TO:=λO H Q=>∃Z s m,ER K H m s O Z/\SR K CB H m s/\Yw K CB (λ_ _ _ u v=>u=v) E (f Z s) H m s Q
structure DO(X:Cx)(CB:ag)(E:XK)(e:Option bc)(f:XO'):Prop where
 po:PO X e (TDO X.K CB E f)
def Ġ(_:En)(s:K'):Out (Option Int):=.ok Zb s
def Ö(f:XE)(Z:En)(s:K'):Out (Option Int):=(f Z s).bind λv s1=>match v with
 |.int i=>.ok (Za i) s1
 |_=>.bad
def PO.mono{e}{t t':TO}(h:PO X e t)(k:∀O H Q,t' O H Q->t O H Q):PO X e t':=λQ9 s O H Q I q=>h Q9 s O H Q I (k O H Q q)
def zW:DO X CB E Zb Ġ:=⟨Àa.mono λO H Q=>oE λZ s m er S P=>P.here S rfl⟩
def zV(h:DE X CB E e f):DO X CB E (Za e) (Ö f):=⟨(MX h.pe).mono λO H Q=>oE λZ s m er S P=>⟨Z,s,m,er,S,P.bind λv s1 u H1 m1 e1 S1 r1 P1=>by cases r1<;>first|exact P1.elim|exact⟨_,rfl,P1.here S1 rfl⟩⟩⟩
def Dv(l:List PV)(lo hi:Option Int):List PV:=(l.drop (HT.Y5 l.length 0 lo)).take (HT.Y5 l.length l.length hi-HT.Y5 l.length 0 lo)
def fSl(v:PV)(lo hi:Option Int)(s:K'):Out PV:=match v with
 |.tup l=>if HT.Y5 l.length 0 lo=0/\HT.Y5 l.length l.length hi=l.length then .bad else .ok (.tup (Dv l lo hi)) s
 |v=>match YI s v with
  |some l=>.ok (.lst (Dv l lo hi)) s
  |none=>.bad
def Ϯ(f:XE)(lo hi:XO')(Z:En)(s:K'):Out PV:=(f Z s).bind λv s1=>(lo Z s1).bind λl s2=>(hi Z s2).bind λu s3=>fSl v l u s3
def Yd.cut{K}{H}{m}{s}{vs}{l}(r:Yd K H m s vs l)(lo hi):Yd K H m s (LU vs lo hi) (Dv l lo hi):=by unfold LU Dv;rw[r.length];exact(r.drop _).take _
def Ju{lo hi}{fl fh:XO'}{p2}(ha:DE X CB E a f)(hl:DO X CB E lo fl)(hh:DO X CB E hi fh):DE X CB E (.Subscript a (.Slice lo hi Zb p2) pos) (Ϯ f fl fh) :=
 ⟨(J5 (Ϻ.or Pk) ha.pe hl.po hh.po).mono λO H Q=>oE λZ s m er S P=>⟨Z,s,m,er,S,P.bind λv s1 u H1 m1 e1 S1 r1 P1=>⟨Z,s1,m1,er.ext e1,S1,P1.bind λl s2 l' H2 m2 e2 S2 r2 P2=>by
  cases r2;refine⟨Z,s2,m2,(er.ext e1).ext e2,S2,P2.bind λk s3 k' H3 m3 e3 S3 r3 P3=>?_⟩;cases r3;have r1:=(r1.ext e2).ext e3;unfold fSl at P3;split at P3
  .split at P3
   .exact P3.elim
   .rename_i hn;obtain⟨a,vs,rfl,q,r⟩:=r1.tp;exact .inr ⟨a,vs,rfl,q,by rw[r.length];exact hn,λp hp=>P3.new S3 hp λex S'=>.tup (.inl ⟨.inl mv,S'.Zo mv⟩) ((r.cut _ _).ext ex)⟩
  .split at P3
   .rename_i l hl;obtain⟨a,vs,rfl,q,r⟩:=r1.ls S3 hl;exact .inl ⟨a,vs,rfl,q,λp hp=>P3.new S3 hp λex S'=>.lst mv (S3.YM hp) ((r.cut _ _).ext ex)⟩
   .exact P3.elim⟩⟩⟩
def xB(fa:XA)(F:List PV->K'->Out PV)(Z:En)(s:K'):Out PV:=(fa Z s).bind F
def nOf(o:OpN X.K CB E r F)(q:Ň X.K CB E (xB fa F) O H Q):tCB r (TDA X.K CB E fa) O H Q:=by obtain⟨Z,s,m,er,S,P⟩:=q;exact⟨Z,s,m,er,S,P.bind λv s1 u H1 m1 e1 S1 r1 P1=>o H1 m1 s1 v u Q S1 r1 P1⟩
structure Ĩ(X:Cx)(CB:ag)(E:XK)(fv:af)(F:List PV->K'->Out PV):Prop where
 ex:∃r,YV X fv r/\OpN X.K CB E r F
def nu{id:String}{F}(r:Ĩ X CB E (.builtin id) F)(ha:DA X CB E (e::es) fa)(hg:Gl X x:=by rfl)(hm:X.mg x=none:=by first|exact T.Zz|exact T.ϊ|exact T.YU|exact T.Ć|exact T.ĵ|exact T.Ė|exact T.ú|exact T.Ŗ|exact T.Àn|exact T.Àm|exact T.Ů|exact T.ÀE)(hv:bu x=Za (.builtin id):=by first|exact D2|exact vt|exact QR|exact LX|exact bt_any|exact bt_max)(hn:x≠"__name__":=by decide)(RP:Ò x:=by decide)(hs:ě X e es:=by rfl)(Rp:(bP pos (aq es X.env)).any (·.1)=false:=by rfl):DE X CB E (.Call (.Name x p) (e::es) [] pos) (xB fa F) :=
 let⟨_,r1,r2⟩:=r.ex;⟨(oK r1 hg hm hv ha.pa hn RP hs Rp).mono λO H Q q=>nOf r2 q⟩
def vq(r:Ĩ X CB E (.type T) F)(ha:DA X CB E (e::es) fa)(hg:Gl X x:=by rfl)(hm:X.mg x=none:=by first|exact T.Zz|exact T.ϊ|exact T.YU|exact T.Ć|exact T.ĵ|exact T.Ė|exact T.ú|exact T.Ŗ|exact T.Àn|exact T.Àm|exact T.Ů|exact T.ÀE)(hv:bu x=Za (.type T):=by first|exact LV|exact Fe|exact LW|exact Ad|exact Ņ)(hn:x≠"__name__":=by decide)(RP:Ò x:=by decide)(hs:ě X e es:=by rfl)(Rp:(bP pos (aq es X.env)).any (·.1)=false:=by rfl):DE X CB E (.Call (.Name x p) (e::es) [] pos) (xB fa F) :=
 let⟨_,r1,r2⟩:=r.ex;⟨(xM r1 hg hm hv ha.pa hn RP hs Rp).mono λO H Q q=>nOf r2 q⟩
def Zw(vs:List PV)(s:K'):Out PV:=match vs with
 |[.tup l]=>.ok (.int l.length) s
 |[.str x]=>if x.length<=100000 then .ok (.int x.length) s else .bad
 |[v]=>match YI s v with
  |some l=>.ok (.int l.length) s
  |none=>match ZG s v with
   |some l=>.ok (.int l.length) s
   |none=>.bad
 |_=>.bad
def Zz:Ĩ X CB E (.builtin "len") Zw:=⟨_,ń.or (ì.or Ja),by
 intro H m s v x Q S rx P;unfold Zw at P;split at P
 .cases rx with
  |cons r n =>
   cases n;obtain⟨a,vs,rfl,q,r⟩:=r.tp;rw[<-r.length] at P;exact .inl ⟨a,vs,rfl,.inr q,P.here S .int⟩
 .cases rx with
  |cons r n =>
   cases n;cases r;split at P
   .rename_i h;exact .inr (.inl ⟨_,rfl,ϯ h,P.here S .int⟩)
   .exact P.elim
 .cases rx with
  |cons r n =>
   cases n;split at P
   .rename_i l hl;obtain⟨a,vs,rfl,q,r⟩:=r.ls S hl;rw[<-r.length] at P;exact .inl ⟨a,vs,rfl,.inl q,P.here S .int⟩
   .split at P
    .rename_i l hl;obtain⟨a,vs,rfl,q,r⟩:=r.dc S hl;rw[<-r.length] at P;exact .inr (.inr ⟨a,vs,rfl,q,P.here S .int⟩)
    .exact P.elim
 .exact P.elim⟩
def Ĥ(vs:List PV)(s:K'):Out PV:=match vs with
 |[.int i]=>.ok (.int (if i<0 then -i else i)) s
 |_=>.bad
def ú:Ĩ X CB E (.builtin "abs") Ĥ:=⟨_,KW,by
 intro H m s v x Q S rx P;unfold Ĥ at P;split at P
 .cases rx with
  |cons r n=>cases n;cases r;exact⟨_,rfl,P.here S .int⟩
 .exact P.elim⟩
noncomputable def ÿ(vs:List PV)(s:K'):Out PV:=match vs with
 |[.int i]=>.ok (.int i) s
 |[.bl b]=>.ok (.int (if b=true then 1 else 0)) s
 |_=>.bad
def ĵ:Ĩ X CB E (.type "int") ÿ:=⟨_,Jc,by
 intro H m s v x Q S rx P;unfold ÿ at P;split at P
 .cases rx with
  |cons r n=>cases n;cases r;exact .inl ⟨_,rfl,P.here S .int⟩
 .cases rx with
  |cons r n=>cases n;cases r;exact .inr ⟨_,rfl,P.here S .int⟩
 .exact P.elim⟩
def Ł(vs:List PV)(s:K'):Out PV:=match vs with
 |[v]=>match YI s v with
  |some l=>.ok (.tup l) s
  |none=>.bad
 |_=>.bad
def Ć:Ĩ X CB E (.type "tuple") Ł:=⟨_,Bu,by
 intro H m s v x Q S rx P;unfold Ł at P;split at P
 .cases rx with
  |cons r n =>
   cases n;split at P
   .rename_i l hl;obtain⟨a,vs,rfl,q,r⟩:=r.ls S hl;exact⟨a,vs,rfl,.inl ⟨q,λp hp=>P.new S hp λex S'=>.tup (.inl ⟨.inl mv,S'.Zo mv⟩) (r.ext ex)⟩⟩
   .exact P.elim
 .exact P.elim⟩
def ϣ(vs:List PV)(s:K'):Out PV:=match vs with
 |[.tup l]=>.ok (.lst l) s
 |[v]=>match YI s v with
  |some l=>.ok (.lst l) s
  |none=>.bad
 |_=>.bad
noncomputable def t5:List PV->Option (List Str)
 |[]=>Za []
 |.str x::l=>(t5 l).map (x::·)
 |_=>Zb
theorem vj:∀{l:List PV}{ss:List Str},t5 l=Za ss->l=ss.map PV.str
 |[],_,e=>by cases e;rfl
 |p::l,ss,e=>by
  unfold t5 at e;split at e
  .rename_i h;cases h
  .rename_i x l' h;cases h;cases c:t5 l with
   |none=>rw[c] at e;cases e
   |some t=>rw[c] at e;cases e;rw[vj c];rfl
  .cases e
def vU(ss):t5 (ss.map PV.str)=Za ss:=by
 induction ss with
 |nil=>rfl
 |cons x r ih=>rw[am];unfold t5;rw[ih];rfl
noncomputable def keysOf:List (Key×PV)->Option (List Str)
 |[]=>Za []
 |(.inr x,_)::l=>(keysOf l).map (x::·)
 |_=>Zb
theorem Cb:∀{l:List (Key×PV)}{ss:List Str},keysOf l=Za ss->l.map (·.1)=ss.map ap
 |[],_,e=>by cases e;rfl
 |p::l,ss,e=>by
  unfold keysOf at e;split at e
  .rename_i h;cases h
  .rename_i x _ l' h;cases h;cases c:keysOf l with
   |none=>rw[c] at e;cases e
   |some t=>rw[c] at e;cases e;rw[am,Cb c];rfl
  .cases e
def m6(vs:List PV)(s:K'):Out PV:=match vs with
 |[v]=>match YI s v with
  |some l=>match t5 l with
   |some ss=>if ss.length<64 then .ok (.lst ((Yq ss).map PV.str)) s else .bad
   |none=>.bad
  |none=>match ZG s v with
   |some l=>match keysOf l with
    |some ss=>if ss.length<64 then .ok (.lst ((Yq ss).map PV.str)) s else .bad
    |none=>.bad
   |none=>.bad
 |_=>.bad
def YU(hc:X.calm=true):Ĩ X CB E (.builtin "sorted") m6:=⟨_,Ń.or (qO hc),by
 intro H m s v x Q S rx P;unfold m6 at P;split at P
 .cases rx with
  |cons r n =>
   cases n;split at P
   .rename_i l hl;split at P
    .rename_i ss hs;split at P
     .rename_i T0;obtain⟨a,vs,rfl,q,r⟩:=r.ls S hl;have e:=vj hs;subst e;rw[r.strs] at q;exact .inl ⟨a,ss,rfl,q,T0,λp hp=>P.new S hp λex S'=>.lst mv (S.YM hp) (.ofStrs _)⟩
     .exact P.elim
    .exact P.elim
   .split at P
    .rename_i l hl;split at P
     .rename_i ss hs;split at P
      .rename_i T0;obtain⟨a,vs,rfl,q,r⟩:=r.dc S hl;exact .inr ⟨a,vs,ss,rfl,q,r.keys.trans (Cb hs),T0,λp hp=>P.new S hp λex S'=>.lst mv (S.YM hp) (.ofStrs _)⟩
      .exact P.elim
     .exact P.elim
    .exact P.elim
 .exact P.elim⟩
noncomputable def Af:List PV->Option (List Bool)
 |[]=>Za []
 |.bl x::l=>(Af l).map (x::·)
 |_=>Zb
theorem Ae{K}{H}{m}{s}:∀{vs:List V}{l:List PV}{bs:List Bool},Yd K H m s vs l->Af l=Za bs->vs=bs.map V.bl
 |_,_,_,.nil,e=>by cases e;rfl
 |_,_,_,.cons (l:=l) a b,e=>by
  unfold Af at e;split at e
  .rename_i h;cases h
  .rename_i h;cases h;cases a;cases c:Af l with
   |none=>rw[c] at e;cases e
   |some t=>rw[c] at e;cases e;rw[Ae b c];rfl
  .cases e
def Ϥ(vs:List PV)(s:K'):Out PV:=match vs with
 |[v]=>match YI s v with
  |some l=>match Af l with
   |some bs=>.ok (.bl (bs.all id)) s
   |none=>.bad
  |none=>.bad
 |_=>.bad
def Ŗ(hc:X.calm=true):Ĩ X CB E (.builtin "all") Ϥ:=⟨_,Fc,by
 intro H m s v x Q S rx P;unfold Ϥ at P;split at P
 .cases rx with
  |cons r n =>
   cases n;split at P
   .rename_i l hl;split at P
    .rename_i bs hb;obtain⟨a,vs,rfl,q,r⟩:=r.ls S hl;have e:=Ae r hb;subst e;exact⟨a,bs,rfl,q,hc,P.here S .bl⟩
    .exact P.elim
   .exact P.elim
 .exact P.elim⟩
def Ī(f:XE)(fa:XA)(Z:En)(s:K'):Out PV:=(f Z s).bind λv s1=>match v with
 |.str z=>(fa Z s1).bind λvs s2=>match vs with
  |[w]=>match YI s2 w with
   |some l=>match t5 l with
    |some ys=>if(ys.map (·.length)).sum+ys.length*z.length<=16777216 then .ok (.str (Txt.join z ys)) s2 else .bad
    |none=>.bad
   |none=>.bad
  |_=>.bad
 |_=>.bad
def N8(ho:DE X CB E a f)(ha:DA X CB E (e::es) fa)(RI:cL a "join" X.env (eval a X.env)=eval a X.env:=by rfl)(SD:((bP Rb (aq (e::es) X.env)).all (λx=>!x.1)&&(eO Rb (cM [] X.env)).all (λx=>x.1.isSome)
   && decide ((e::es).length+([]:List fK).length+(if([]:List fK).isEmpty then 0 else 1)<30))=true:=by rfl)(RG:(Rc.endLine==Rb.line)=true:=by rfl)(hs:ě X e es:=by rfl)(RO:(bP Rb (aq es X.env)).any (·.1)=false:=by rfl) :
  DE X CB E (.Call (.Attribute a "join" Rc) (e::es) [] Rb) (Ī f fa) :=
 ⟨(Mb PySem.F.plainAttrs_str PySem.F.slot_str_join PySem.F.type_str_join Nx ho.pe ha.pa RI SD RG hs RO).mono λO H Q=>oE λZ s m er S P=>⟨Z,s,m,er,S,P.bind λv s1 u H1 m1 e1 S1 r1 P1=>by
  split at P1
  .cases r1;refine⟨rfl,Z,s1,m1,er.ext e1,S1,P1.bind λvs s2 us H2 m2 e2 S2 r2 P2=>?_⟩;split at P2
   .cases r2 with
    |cons r n =>
     cases n;split at P2
     .rename_i l hl;split at P2
      .rename_i ys hy;split at P2
       .rename_i hz;obtain⟨b,vs,rfl,q,r⟩:=r.ls S2 hl;have e:=vj hy;subst e;rw[r.strs] at q;exact⟨_,b,ys,rfl,rfl,q,hz,P2.here S2 .str⟩
       .exact P2.elim
      .exact P2.elim
     .exact P2.elim
   .exact P2.elim
  .exact P1.elim⟩⟩
def Zu(f:XE)(fa:XA)(Z:En)(s:K'):Out PV:=(f Z s).bind λv s1=>match v with
 |.ref n=>match s1.get n with
  |some (.lst _)=>(fa Z s1).bind λvs s2=>match vs with
   |[w]=>match s2.get n with
    |some (.lst l)=>if l.length<100000 then .ok .Ym (s2.set n (.lst (l++[w]))) else .bad
    |_=>.bad
   |_=>.bad
  |_=>.bad
 |_=>.bad
def SR.putL{K}{H}{m}{s}{n}{l l'}{RM}(S:SR K CB H m s)(hn:s.get n=Za (.lst l))(r:Yd K H m s RM l') :
  SR K CB (upd H (m.ad n) (.lst RM)) (m.ZF n [m.ad n]) (s.set n (.lst l'))/\Ext H m s (upd H (m.ad n) (.lst RM)) (m.ZF n [m.ad n]) (s.set n (.lst l')):=by
 obtain⟨e1,vs,h1,_⟩:=S.get hn;refine S.put hn (by grind) _ _ (λa o h ha=>?_) (λa ha=>.inl (by rw[e1];exact ha)) λex=>⟨by show(if n=n then [m.ad n] else m.fp n)=_;rw[Zc rfl];rfl,RM,mv,r.Yu ex⟩;rw[e1,ay] at ha;rw[mj ha];exact h
def SR.putD{K}{H}{m}{s}{n}{l l'}{RM}(S:SR K CB H m s)(hn:s.get n=Za (.Yr l))(r:Yf K H m s RM l') :
  SR K CB (upd H (m.ad n) (.dK RM)) (m.ZF n [m.ad n]) (s.set n (.Yr l'))/\Ext H m s (upd H (m.ad n) (.dK RM)) (m.ZF n [m.ad n]) (s.set n (.Yr l')):=by
 obtain⟨e1,vs,h1,_⟩:=S.get hn;refine S.put hn (by grind) _ _ (λa o h ha=>?_) (λa ha=>.inl (by rw[e1];exact ha)) λex=>⟨by show(if n=n then [m.ad n] else m.fp n)=_;rw[Zc rfl];rfl,RM,mv,r.Yu ex⟩;rw[e1,ay] at ha;rw[mj ha];exact h
def xT(ho:DE X CB E a f)(ha:DA X CB E (e::es) fa)(RI:cL a "append" X.env (eval a X.env)=eval a X.env:=by rfl)(SD:((bP Rb (aq (e::es) X.env)).all (λx=>!x.1)&&(eO Rb (cM [] X.env)).all (λx=>x.1.isSome)
   && decide ((e::es).length+([]:List fK).length+(if([]:List fK).isEmpty then 0 else 1)<30))=true:=by rfl)(RG:(Rc.endLine==Rb.line)=true:=by rfl)(hs:ě X e es:=by rfl)(RO:(bP Rb (aq es X.env)).any (·.1)=false:=by rfl) :
  DE X CB E (.Call (.Attribute a "append" Rc) (e::es) [] Rb) (Zu f fa) :=
 ⟨(Mb jM kX PySem.F.type_list_append B7 ho.pe ha.pa RI SD RG hs RO).mono λO H Q=>oE λZ s m er S P=>⟨Z,s,m,er,S,P.bind λv s1 u H1 m1 e1 S1 r1 P1=>by
  split at P1
  .split at P1
   .rename_i n _ _ hg;obtain⟨_,S6,h0,_⟩:=S1.get hg;cases r1 with
    |ref hn =>
    refine⟨.inl ⟨rfl,S6,YY.of h0⟩,Z,s1,m1,er.ext e1,S1,P1.bind λvs s2 us H2 m2 e2 S2 r2 P2=>?_⟩;split at P2
    .cases r2 with
     |cons r n' =>
      cases n';split at P2
      .rename_i l SX;split at P2
       .rename_i hl;obtain⟨f1,vs1,h1,q1⟩:=S2.get SX;obtain⟨S3,e3⟩:=S2.putL SX (q1.append (.cons r .nil));rw[<-e2.ad _ hn];exact⟨_,vs1,_,rfl,rfl,h1,by rw[q1.length];exact sz6 hl,P2 _ _ _ e3 S3 .Ym⟩
       .exact P2.elim
      .exact P2.elim
    .exact P2.elim
   .exact P1.elim
  .exact P1.elim⟩⟩
def â(f g h:XE)(Z:En)(s:K'):Out PV:=(f Z s).bind λv s1=>match ZG s1 v with
 |some _=>(g Z s1).bind λw s2=>(h Z s2).bind λz s3=>match ZG s3 v with
  |some l=>match Á w with
   |some k=>.ok ((p4 l k).getD z) s3
   |none=>.bad
  |none=>.bad
 |none=>.bad
def GL(ho:DE X CB E a f)(he:DE X CB E b g)(hf:DE X CB E c h)(hr:YA jr X.A:=by assumption)(mm:M2 X a "get" Rc b c Rb:=by exact⟨rfl,rfl,rfl,rfl⟩):DE X CB E (.Call (.Attribute a "get" Rc) [b,c] [] Rb) (â f g h) :=
 ⟨(At (qN hr) ho.pe he.pe hf.pe mm).mono λO H Q=>oE λZ s m er S P=>⟨Z,s,m,er,S,P.bind λv s1 u H1 m1 e1 S1 r1 P1=>by
  split at P1
  .rename_i l0 Up;obtain⟨a,S6,rfl,q0,_⟩:=r1.dc S1 Up;refine⟨a,rfl,.inl ⟨S6,q0⟩,Z,s1,m1,er.ext e1,S1,P1.bind λw s2 u2 H2 m2 e2 S2 r2 P2=>⟨Z,s2,m2,(er.ext e1).ext e2,S2,P2.bind λz s3 u3 H3 m3 e3 S3 r3 P3=>?_⟩⟩;split at P3
   .rename_i l hl;split at P3
    .rename_i k hk;obtain⟨a',vs,⟨⟩,q,r⟩:=((r1.ext e2).ext e3).dc S3 hl;refine⟨pB vs k,.inl ⟨vs,k,q,qE (r2.ext e3) hk,rfl⟩,?_⟩;obtain⟨v1,v2⟩:=r.val k;cases cc:p4 l k with
     |none=>rw[v2 cc];rw[cc] at P3;exact P3.here S3 r3
     |some p=>obtain⟨u,e,ru⟩:=v1 p cc;rw[e];rw[cc] at P3;exact P3.here S3 ru
    .exact P3.elim
   .exact P3.elim
  .exact P1.elim⟩⟩
def Ź(_:En)(s:K'):Out PV:=.ok (.ref s.nx) (s.add (.Yr []))
def HA:DE X CB E (.Dict [] [] pos) Ź:=⟨ZU.mono λO H Q=>oE λZ s m er S P p hp=>by obtain⟨S2,e2⟩:=S.newD hp (My.sL hp) mv .nil;exact P _ _ _ e2 S2 .new⟩
end
noncomputable def Out.so{α:Type}(o:Out α)(k:α->K'->SO):SO:=match o with
 |.ok a s=>k a s
 |.ex c s=>.ex c s
 |.bad=>.bad
def SO.ZV:SO->SO
 |.ex _ _=>.bad
 |o=>o
def YL.shift{K}{CB}{E}{o}{H H1}{m m1}{s s1}{D}(e:Ext H m s H1 m1 s1)(h:YL K CB E o H m s D):YL K CB E o H1 m1 s1 D:=by
 cases o with
 |nx=>exact λYE H' m' x=>h YE H' m' (e.trans x)
 |rt=>exact λYE H' m' x=>h YE H' m' (e.trans x)
 |bk=>exact λYE H' m' x=>h YE H' m' (e.trans x)
 |ct=>exact λYE H' m' x=>h YE H' m' (e.trans x)
 |ex=>exact λH' m' x=>h H' m' (e.trans x)
 |bad=>exact h
theorem Yw.so{α β:Type}{K}{CB}{R}{E}{o:Out α}{k:α->K'->SO}{H}{m}{s}{D}{Q1:β->Hp->Prop}(h:YL K CB E (o.so k) H m s D)(f:∀v s1 u H1 m1,Ext H m s H1 m1 s1->SR K CB H1 m1 s1->R H1 m1 s1 u v->YL K CB E (k v s1) H1 m1 s1 D->Q1 u H1):Yw K CB R E o H m s Q1:=by
 cases o with
 |ok v s1=>exact λu H1 m1 x S r=>f v s1 u H1 m1 x S r (YL.shift x h)
 |ex c s'=>exact h
 |bad=>exact h
def YL.next{K}{CB}{E}{Z}{H}{m}{s}{D}{O}(h:YL K CB E (.nx Z s) H m s D)(S:SR K CB H m s)(er:ER K H m s O Z):D.nx O H:=h O H m .refl S er
theorem YL.ZV{K}{CB}{E}{o}{H}{m}{s}{D}(h:YL K CB E o.ZV H m s D):YL K CB E0 o H m s D:=by cases o<;>first|exact h|exact bo h
def Yh(i:Nat)(f:XE)(Z:En)(s:K'):SO:=(f Z s).so λv s1=>.nx (Z.set i (Za v)) s1
def YF(f:XE)(Z:En)(s:K'):SO:=(f Z s).so λv s1=>.rt v s1
def Ÿ(_:En)(s:K'):SO:=.rt .Ym s
def ī(f:XE)(Z:En)(s:K'):SO:=(f Z s).so λ_ s1=>.nx Z s1
def Ø(t:XT)(g h:XS)(Z:En)(s:K'):SO:=(t Z s).so λb s1=>if b=true then g Z s1 else h Z s1
def Y9(Z:En)(s:K'):SO:=.nx Z s
def W'(g h:XS)(Z:En)(s:K'):SO:=match g Z s with
 |.nx Yp s'=>h Yp s'
 |o=>o
section
variable{X:Cx}{CB:ag}{E:XK}{a b c e:bc}{es:List bc}{f g h:XE}{fa:XA}{t:XT}{p pos Rl:Pos}{x:Str}{st:bN}{rest Sl Sy:List bN}{u v:XS}
theorem PS.þ{t}(h:PS X.þ st t):PS X st t:=λQ9 s O H D I hw=>bw (h Q9 s O H D (I.ý _) hw) (λ_ _ q=>q.Zx) λ_ _ z=>bo z
def mO(i)(he:DE X CB E e f)(hN:X.N.Nodup:=by exact ‹N' _ _ _›.nd)(hi:X.N[i]?=Za x:=by rfl)(hx:Loc X.env.scope x:=by first|exact eA rfl|exact gJ rfl)(hs:cO e (Za (.Name x Rl)) pos.line X.env=pure false:=by rfl)(hf:X.fn x=true\/X.env.scope.names.lookup x=Za .local:=by first|exact .inl rfl|exact .inr rfl|assumption):DS X CB E (.Assign [.Name x Rl] e pos) (Yh i f) :=
 ⟨(sM hN hi hx he.pe hs hf).mono λD O H=>oE λZ s m er S P=>⟨Z,s,m,er,S,Yw.so P λv s1 u H1 m1 e1 S1 r1 P1=>P1.next S1 ((er.ext e1).set i r1)⟩⟩
def mY(he:DE X CB E e f):DS X CB E (.Return (Za e) pos) (YF f) :=
 ⟨(rL he.pe).mono λD O H=>oE λZ s m er S P=>⟨Z,s,m,er,S,Yw.so P λv s1 u H1 m1 e1 S1 r1 P1=>P1 u H1 m1 .refl S1 r1⟩⟩
def NV:DS X CB E (.Return Zb pos) Ÿ:=⟨ϻ.mono λD O H=>oE λZ s m er S P=>P .Ym H m .refl S .Ym⟩
def wU(he:DE X CB E e f)(hs:cO e Zb pos.line X.env=pure false:=by rfl):DS X CB E (.Expr e pos) (ī f) :=
 ⟨(pY he.pe hs).mono λD O H=>oE λZ s m er S P=>⟨Z,s,m,er,S,Yw.so P λv s1 u H1 m1 e1 S1 r1 P1=>P1.next S1 (er.ext e1)⟩⟩
def pT(hc:DT X CB E c t)(ha:ϗ X CB E Sl u)(hb:ϗ X CB E Sy v):DS X CB E (.If c Sl Sy pos) (Ø t u v) :=
 ⟨(wQ hc.pt ha.pss hb.pss).mono λD O H=>oE λZ s m er S P=>⟨Z,s,m,er,S,Yw.so P λv s1 u H1 m1 e1 S1 r1 P1=>by
  cases r1;refine vH (λc=>?_) λc=>?_
  .rw[Zc c] at P1;exact⟨Z,s1,m1,er.ext e1,S1,P1⟩
  .rw[Zd c] at P1;exact⟨Z,s1,m1,er.ext e1,S1,P1⟩⟩⟩
def nK:ϗ X CB E [] Y9:=⟨Zv.mono λD O H=>oE λZ s m er S P=>P.next S er⟩
def mE(h:DS X CB E st u):ϗ X CB E [st] u:=⟨mW h.ps⟩
def mh(h:DS X CB E st u)(k:ϗ X CB E rest v):ϗ X CB E (st::rest) (W' u v) :=
 ⟨(mQ h.ps k.pss).mono λD O H=>oE λZ s m er S P=>⟨Z,s,m,er,S,by
  unfold W' at P;cases c:u Z s with
  |nx Yp s'=>rw[c] at P;exact λYE H' m' x S' er'=>⟨Yp,s',m',er',S',YL.shift x P⟩
  |rt=>rw[c] at P;exact P
  |bk=>rw[c] at P;exact P
  |ct=>rw[c] at P;exact P
  |ex=>rw[c] at P;exact P
  |bad=>rw[c] at P;exact P⟩⟩
abbrev XG:=PV->En->K'->Option En
abbrev XGs:=List PV->En->K'->Option En
def TDG(K:aa)(CB:ag)(h:XG):TG:=λv O H Q=>∃Z s m q Yp,ER K H m s O Z/\SR K CB H m s/\Rep K H m s v q/\h q Z s=Za Yp/\∀YE,ER K H m s YE Yp->Q YE H
def ÂT(K:aa)(CB:ag)(h:XGs):ϲ:=λv O H Q=>∃Z s m q Yp,ER K H m s O Z/\SR K CB H m s/\Yd K H m s v q/\h q Z s=Za Yp/\∀YE,ER K H m s YE Yp->Q YE H
structure DG(X:Cx)(CB:ag)(tg:bc)(h:XG):Prop where
 pg:PG X tg (TDG X.K CB h)
structure DGs(X:Cx)(CB:ag)(tg:List bc)(h:XGs):Prop where
 pgs:PGs X tg (ÂT X.K CB h)
def PG.mono{tg}{t t':TG}(h:PG X tg t)(k:∀v O H Q,t' v O H Q->t v O H Q):PG X tg t':=λQ9 s O H v u Q I r q=>h Q9 s O H v u Q I r (k v O H Q q)
def PGs.mono{tg}{t t':ϲ}(h:PGs X tg t)(k:∀v O H Q,t' v O H Q->t v O H Q):PGs X tg t':=λQ9 s O H v u Q I r q=>h Q9 s O H v u Q I r (k v O H Q q)
def PG.or{tg}{t t':TG}(h:PG X tg t)(h':PG X tg t'):PG X tg (λv O H Q=>t v O H Q\/t' v O H Q):=λQ9 s O H v u Q I r q=>q.elim (h Q9 s O H v u Q I r) (h' Q9 s O H v u Q I r)
def V'(i:Nat)(q:PV)(Z:En)(_:K'):Option En:=Za (Z.set i (Za q))
def Zl(q:List PV)(Z:En)(_:K'):Option En:=match q with
 |[]=>Za Z
 |_=>Zb
def Yj(h:XG)(k:XGs)(q:List PV)(Z:En)(s:K'):Option En:=match q with
 |p::r=>(h p Z s).bind λYp=>k r Yp s
 |[]=>Zb
def Zk(n:Nat)(k:XGs)(q:PV)(Z:En)(s:K'):Option En:=match q with
 |.tup l=>if l.length=n then k l Z s else Zb
 |q=>match YI s q with
  |some l=>if l.length=n then k l Z s else Zb
  |none=>Zb
def mT(i)(hN:X.N.Nodup:=by exact ‹N' _ _ _›.nd)(hi:X.N[i]?=Za x:=by rfl)(hx:Loc X.env.scope x:=by first|exact eA rfl|exact gJ rfl)(hf:X.fn x=true\/X.env.scope.names.lookup x=Za .local:=by first|exact .inl rfl|exact .inr rfl|assumption):DG X CB (.Name x pos) (V' i) :=
 ⟨(G9 hN hi hx hf).mono λv O H Q ⟨Z,s,m,q,Yp,er,S,r,e,k⟩=>by cases e;exact k _ (er.set i r)⟩
def qF:DGs X CB [] Zl:=⟨Àb.mono λv O H Q ⟨Z,s,m,q,Yp,er,S,r,e,k⟩=>by
 unfold Zl at e;split at e<;>cases e
 cases r;exact⟨rfl,k _ er⟩⟩
def nr{h:XG}{k:XGs}(h1:DG X CB e h)(h2:DGs X CB es k)(hs:(cJ (e::es) X.env).map (·.2)=assign e X.env::(cJ es X.env).map (·.2):=by rfl):DGs X CB (e::es) (Yj h k) :=
 ⟨(J3 h1.pg h2.pgs hs).mono λv O H Q ⟨Z,s,m,q,Yp,er,S,r,e,kk⟩=>by
  unfold Yj at e;split at e
  .rename_i p r';cases r with
   |cons a b =>
    cases c:h p Z s with
    |none=>rw[c] at e;cases e
    |some ā =>
     rw[c] at e;exact⟨_,_,rfl,Z,s,m,p,ā,er,S,a,c,λŠ er1=>⟨ā,s,m,r',Yp,er1,S,b,e,kk⟩⟩
  .cases e⟩
def sS{k:XGs}{n k0}(h:DGs X CB es k)(hc:X.calm=true:=by rfl)(hn:(cJ es X.env).length=n:=by rfl)(R8:(cJ es X.env).findIdx? (·.1)=none:=by rfl):DG X CB (.Tuple es k0 pos) (Zk n k) :=
 ⟨((PF hc h.pgs hn R8).or (PK hc h.pgs hn R8)).mono λv O H Q ⟨Z,s,m,q,Yp,er,S,r,e,kk⟩=>by
  unfold Zk at e;split at e
  .split at e
   .rename_i hl;obtain⟨a,vs,rfl,q1,r1⟩:=r.tp;exact .inl ⟨a,vs,rfl,q1,r1.length.trans hl,Z,s,m,_,Yp,er,S,r1,e,kk⟩
   .cases e
  .split at e
   .rename_i l Up;split at e
    .rename_i hl;obtain⟨a,vs,rfl,q1,r1⟩:=r.ls S Up;exact .inr ⟨a,vs,rfl,q1,r1.length.trans hl,Z,s,m,_,Yp,er,S,r1,e,kk⟩
    .cases e
   .cases e⟩
def ã(f:XE)(h:XG)(Z:En)(s:K'):SO:=(f Z s).so λv s1=>match h v Z s1 with
 |some Yp=>.nx Yp s1
 |none=>.bad
def Bp{h:XG}{tg}(he:DE X CB E e f)(hg:DG X CB tg h)(hs:gZ [tg] e pos.line X.env=pure false:=by rfl)(hw:g5 [tg] e X.env=pure none:=by rfl)(h1:(cJ [tg] X.env).map (·.2)=[assign tg X.env]:=by rfl):DS X CB E (.Assign [tg] e pos) (ã f h) :=
 ⟨(Li he.pe hg.pg hs hw h1).mono λD O H=>oE λZ s m er S P=>⟨Z,s,m,er,S,Yw.so P λv s1 u H1 m1 e1 S1 r1 P1=>by
  split at P1
  .rename_i Yp İ;exact⟨Z,s1,m1,v,Yp,er.ext e1,S1,r1,İ,λYE er'=>P1.next S1 er'⟩
  .exact P1.elim⟩⟩
def Ào(i j:Nat)(fa:XA)(Z:En)(s:K'):SO:=(fa Z s).so λvs s1=>match vs with
 |[v,w]=>.nx ((Z.set i (Za v)).set j (Za w)) s1
 |_=>.bad
def QE{kt k2 pt2}(hc:X.calm=true)(hN:X.N.Nodup)(hi:X.N[i]?=Za x)(hj:X.N[j]?=Za y)(Vx:i≠j)(hx:X.env.scope.names.lookup x=Za .local)(hy:X.env.scope.names.lookup y=Za .local)(ha:DA X CB E [a,b] fa)(hw:g5 [.Tuple [.Name x px,.Name y py] kt pt] (.Tuple [a,b] k2 pt2) X.env=pure (Za [x,y]))(hs:gZ [.Tuple [.Name x px,.Name y py] kt pt] (.Tuple [a,b] k2 pt2) pos.line X.env=pure false:=by rfl):DS X CB E (.Assign [.Tuple [.Name x px,.Name y py] kt pt] (.Tuple [a,b] k2 pt2) pos) (Ào i j fa) :=
 ⟨(Py hc hN hi hj Vx hx hy ha.pa hw hs).mono λD O H=>oE λZ s m er S P=>⟨Z,s,m,er,S,Yw.so P λv s1 u H1 m1 e1 S1 r1 P1=>by
  split at P1
  .cases r1 with
   |cons a b =>
    cases b with
    |cons b c=>cases c;exact⟨_,_,rfl,P1.next S1 (((er.ext e1).set i a).set j b)⟩
  .exact P1.elim⟩⟩
def vb(o i v:PV)(s:K'):Option K':=match o with
 |.ref n=>match s.get n with
  |some (.lst l)=>match i with
   |.int k=>match ũ l.length k with
    |some j=>Za (s.set n (.lst (l.set j v)))
    |none=>Zb
   |_=>Zb
  |some (.Yr l)=>match Á i with
   |some k=>if l.length<100000 then Za (s.set n (.Yr (x9 l k v))) else Zb
   |none=>Zb
  |_=>Zb
 |_=>Zb
def ü(fo fi fv:XE)(Z:En)(s:K'):SO:=(fv Z s).so λv s1=>(fo Z s1).so λo s2=>(fi Z s2).so λi s3=>match vb o i v s3 with
 |some s4=>.nx Z s4
 |none=>.bad
def OG:V->V->V->Hp->(Hp->Prop)->Prop:=λo i v H Q=>∃a H',o=.ref a/\ß H a i v H'/\Q H'
def JL(hu:X.A.units+1<fb):Ŝ X OG:=by
 rintro Q9 s O H o i v ov iv u Q I ro ri rv ⟨a,H',rfl,g,q⟩
 obtain rfl:ov=aR a:=ro;exact Ci hu I g ri rv λs4 I4=>⟨H',I4,q⟩
def Ŝ.or{t t':Ov}(h:Ŝ X t)(h':Ŝ X t'):Ŝ X (λo i v H Q=>t o i v H Q\/t' o i v H Q):=λQ9 s O H o i v ov iv u Q I r1 r2 r3 q=>q.elim (h Q9 s O H o i v ov iv u Q I r1 r2 r3) (h' Q9 s O H o i v ov iv u Q I r1 r2 r3)
def Pu{K}{H}{m}{s s'}{o i v}{xo xi xv}(S:SR K CB H m s)(ro:Rep K H m s xo o)(ri:Rep K H m s xi i)(rv:Rep K H m s xv v)(e:vb o i v s=Za s'){Q}(hq:∀H' m',Ext H m s H' m' s'->SR K CB H' m' s'->Q H'):OF xo xi xv H Q\/OG xo xi xv H Q:=by
 unfold vb at e;split at e
 .split at e
  .rename_i l hg;split at e
   .split at e
    .rename_i j hj;cases e;cases ro;cases ri;obtain⟨_,vs,h1,q1⟩:=S.get hg;obtain⟨S2,e2⟩:=S.putL hg (q1.set j rv);exact .inl ⟨_,vs,_,j,rfl,rfl,h1,by rw[q1.length];exact hj,hq _ _ e2 S2⟩
    .cases e
   .cases e
  .rename_i l hg;split at e
   .rename_i k hk;split at e
    .rename_i hl;cases e;cases ro;obtain⟨_,vs,h1,q1⟩:=S.get hg;obtain⟨S2,e2⟩:=S.putD hg (q1.put k rv);exact .inr ⟨_,_,rfl,.inl ⟨vs,k,h1,qE ri hk,by rw[q1.length];exact sz6 hl,rfl⟩,hq _ _ e2 S2⟩
    .cases e
   .cases e
  .cases e
 .cases e
def yO{RL}(ho:DE X CB E a f)(hi:DE X CB E b g)(hv:DE X CB E e h){jr}(hr:YA jr X.A:=by assumption)(hs:gZ [iA a b RL] e pos.line X.env=pure false:=by rfl)(hw:g5 [iA a b RL] e X.env=pure none:=by rfl)(h1:(cJ [iA a b RL] X.env).map (·.2)=[assign (iA a b RL) X.env]:=by rfl)(ha:∀v,assign (.Subscript a b RL) X.env v=(do
   let ov <-holding [v] (eval a X.env);let iv <-holding [v,ov] (eval b X.env)
   fY RL
   holding [v,ov,iv] (kB ov iv v)
   release [v,ov,iv] []):=by intro _;rfl):DS X CB E (.Assign [.Subscript a b RL] e pos) (ü f g h) :=
 ⟨(Li hv.pe (PH ho.pe hi.pe (set_list.or (JL (qN hr))) ha) hs hw h1).mono λD O H=>oE λZ s m er S P=>⟨Z,s,m,er,S,Yw.so P λv s1 u H1 m1 e1 S1 r1 P1 =>
  ⟨Z,s1,m1,er.ext e1,S1,Yw.so P1 λo s2 uo H2 m2 e2 S2 r2 P2=>⟨Z,s2,m2,(er.ext e1).ext e2,S2,Yw.so P2 λi s3 ui H3 m3 e3 S3 r3 P3=>by
   split at P3
   .rename_i s4 h4;exact Pu S3 (r2.ext e3) r3 ((r1.ext e2).ext e3) h4 λH' m' x S'=>P3 O H' m' x S' ((((er.ext e1).ext e2).ext e3).ext x)
   .exact P3.elim⟩⟩⟩⟩
def ql(K:aa)(CB:ag)(J:It)(l:List PV)(H0:Hp)(m0:Mp)(s0:K'):Prop:=∀i H m s,Ext0 H0 m0 s0 H m s->SR K CB H m s ->
 (∀q,l[i]?=Za q->J.go i H/\∀x H',J.yld i H x H'->Ext H m s H' m s/\SR K CB H' m s/\Rep K H' m s x q)/\(l.length<=i->J.stop i H)
def ϖ(K:aa)(CB:ag)(E:XK)(f:XA):TI:=λO H R=>∃Z s m,ER K H m s O Z/\SR K CB H m s/\match f Z s with
 |.ok l s'=>∀J H' m',Ext H m s H' m' s'->SR K CB H' m' s'->ql K CB J l H' m' s'->R J H'
 |.ex c s'=>∀H' m',Ext H m s H' m' s'->SR K CB H' m' s'->E (.ref c) Zb H'
 |.bad=>False
structure DI(X:Cx)(CB:ag)(E:XK)(tg e:bc)(f:XA):Prop where
 pi:PI X tg e (ϖ X.K CB E f)
def PI.mono{tg}{t t':TI}(h:PI X tg e t)(k:∀O H R,t' O H R->t O H R):PI X tg e t':=λQ9 s O H R I q=>h Q9 s O H R I (k O H R q)
end
section
variable{X:Cx}{CB:ag}{E:XK}{a b c e tg:bc}{es:List bc}{f h:XE}{fa fi:XA}{t:XT}{p pos:Pos}{x:Str}{Sl:List bN}{u v:XS}
def YK(f:XE)(Z:En)(s:K'):Out (List PV):=(f Z s).bind λv s1=>match v with
 |.lst l=>.ok l s1
 |.seq l=>.ok l s1
 |.tup l=>.ok l s1
 |_=>.bad
def OR{K}{H0}{m0}{s0}{b}{q}{l}(r:Rep K H0 m0 s0 (.ref b) q)(hl:∀s,YI s q=Za l):ql K CB (Itl K b) l H0 m0 s0:=by intro i H m s ex S;obtain⟨b',vs,⟨⟩,hq,rs⟩:=(r.Yu ex.toExtR).ls S (hl s);refine⟨λq' Sa=>?_,λhi=>⟨vs,hq,by rw[rs.length];exact hi⟩⟩;obtain⟨u,hu,ru⟩:=rs.get Sa;refine⟨⟨vs,u,hq,hu⟩,λx H' ⟨e1,e2⟩=>?_⟩;subst e1;have e3:=e2 vs hq;rw[hu] at e3;cases e3;exact⟨.refl,S,ru⟩
def Át{K}{H0}{m0}{s0}{b}{l}(r:Rep K H0 m0 s0 (.ref b) (.tup l)):ql K CB (Itt K b) l H0 m0 s0:=by intro i H m s ex S;obtain⟨b',vs,⟨⟩,hq,rs⟩:=(r.Yu ex.toExtR).tp;refine⟨λq' Sa=>?_,λhi=>⟨vs,hq,by rw[rs.length];exact hi⟩⟩;obtain⟨u,hu,ru⟩:=rs.get Sa;refine⟨⟨vs,u,hq,hu⟩,λx H' ⟨e1,e2⟩=>?_⟩;subst e1;have e3:=e2 vs hq;rw[hu] at e3;cases e3;exact⟨.refl,S,ru⟩
def iLT(K:aa)(tl:TE):TI:=λO H R=>tl O H λx H1=>(∃a,x=.ref a/\(∃xs,YY K H1 a xs)/\R (Itl K a) H1)\/(∃a,x=.ref a/\(∃xs,ZK K H1 a xs)/\R (Itt K a) H1)
def À3(hl:PE X e tl):PI X tg e (iLT X.K tl):=by
 refine λQ9 s O H R I h=>Yy (hl Q9 s O H _ I h) λv s1=>e4 λx H1 I1 r1 q1=>?_;rcases q1 with⟨a,e,⟨xs,hq⟩,q⟩|⟨a,e,⟨xs,hq⟩,q⟩
 .subst e;cases r1;obtain⟨its,rv,p,hz⟩:=I1.list hq;apply gT p.isList;refine⟨s1.heap.objs.size,[s1.heap.objs.size],_,_,H1,rfl,I1.kept λb o e=>ak _ e,BO a _,⟨_,aN _ rfl,rfl,rfl⟩,λb hb=>?_,q⟩;have e:b=s1.heap.objs.size:=by simpa using hb
  subst e;exact I1.ŀ (al _) (I1.Yn.fresh (al _))
 .subst e;cases r1;obtain⟨its,rv,p,hz⟩:=I1.tuple hq;apply wpAny_pyIter_tuple (p);refine⟨s1.heap.objs.size,[s1.heap.objs.size],_,_,H1,rfl,I1.kept λb o e=>ak _ e,Fp a _,⟨_,aN _ rfl,rfl,rfl⟩,λb hb=>?_,q⟩;have e:b=s1.heap.objs.size:=by simpa using hb
  subst e;exact I1.ŀ (al _) (I1.Yn.fresh (al _))
theorem ϖ.bind(q:ϖ X.K CB E (λZ s=>(f Z s).bind F) O H R)(k:∀v s1 u H1 m1,SR X.K CB H1 m1 s1->Rep X.K H1 m1 s1 u v->(match F v s1 with
  |.ok l s'=>∀J H' m',Ext H1 m1 s1 H' m' s'->SR X.K CB H' m' s'->ql X.K CB J l H' m' s'->R J H'
  |.ex c s'=>∀H' m',Ext H1 m1 s1 H' m' s'->SR X.K CB H' m' s'->E (.ref c) Zb H'
  |.bad=>False)->Q u H1):Ň X.K CB E f O H Q:=by
 obtain⟨Z,s,m,er,S,P⟩:=q;refine⟨Z,s,m,er,S,?_⟩;cases c:f Z s with
 |ok v s1 =>
  simp[c,Out.bind] at P;refine λu H1 m1 e1 S1 r1=>k v s1 u H1 m1 S1 r1 ?_;cases d:F v s1 with
  |ok l s'=>rw[d] at P;exact λJ H' m' x=>P J H' m' (e1.trans x)
  |ex c' s'=>rw[d] at P;exact λH' m' x=>P H' m' (e1.trans x)
  |bad=>rw[d] at P;exact P
 |ex c' s'=>simp[c] at P;exact P
 |bad=>simp[c,Out.bind] at P
def sB(hl:DE X CB E e f):DI X CB E tg e (YK f):=⟨(À3 hl.pe).mono λO H R q=>ϖ.bind q λv s1 u H1 m1 S1 r1 P=>by
 cases r1 with
 |lst h1 h2 h3=>exact .inl ⟨_,rfl,⟨_,YY.of h1⟩,P _ _ _ .refl S1 (OR (.lst h1 h2 h3) λ_=>rfl)⟩
 |seq h1 h3=>exact .inl ⟨_,rfl,⟨_,h1.elim (λz=>.inl (.inr z.1)) .inr⟩,P _ _ _ .refl S1 (OR (.seq h1 h3) λ_=>rfl)⟩
 |tup h1 h3=>exact .inr ⟨_,rfl,⟨_,h1.elim (λz=>.inl z.1) .inr⟩,P _ _ _ .refl S1 (Át (.tup h1 h3))⟩
 |_=>exact P.elim⟩
def Âl(x:Str):List PV:=x.cps.toList.map λc=>PV.str ⟨#[c]⟩
def Àp(f:XE)(Z:En)(s:K'):Out (List PV):=(f Z s).bind λv s1=>match v with
 |.str x=>.ok (Âl x) s1
 |_=>.bad
noncomputable def uT(lo:Int)(n:Nat):List PV:=(br n).map λ(k:Nat)=>PV.int (lo+k)
def Zn(fa:XA)(Z:En)(s:K'):Out (List PV):=(fa Z s).bind λvs s1=>match vs with
 |[.int j]=>if -(2^62)<=j/\j<2^62 then .ok (uT 0 j.toNat) s1 else .bad
 |_=>.bad
def Áu{K}{lo}{n}{H0}{m0}{s0}:ql K CB (Itr lo n) (uT lo n) H0 m0 s0:=by
 refine λi H m s ex S=>⟨λq hq=>?_,λhi=>?_⟩
 .unfold uT at hq;rw[aF] at hq;by_cases hi:i<n
  .rw[lK hi] at hq;cases hq;exact⟨hi,λx H' ⟨e1,e2⟩=>by subst e1 e2;exact⟨.refl,S,.int⟩⟩
  .simp_all
 .unfold uT at hi;rw[ac,List.length_range] at hi;exact hi
def ϖ.Ϩ(q:ϖ X.K CB E (λZ s=>(fa Z s).bind F) O H R)(k:∀v s1 u H1 m1,SR X.K CB H1 m1 s1->Yd X.K H1 m1 s1 u v->(match F v s1 with
  |.ok l s'=>∀J H' m',Ext H1 m1 s1 H' m' s'->SR X.K CB H' m' s'->ql X.K CB J l H' m' s'->R J H'
  |.ex c s'=>∀H' m',Ext H1 m1 s1 H' m' s'->SR X.K CB H' m' s'->E (.ref c) Zb H'
  |.bad=>False)->Q u H1):TDA X.K CB E fa O H Q:=by
 obtain⟨Z,s,m,er,S,P⟩:=q;refine⟨Z,s,m,er,S,?_⟩;cases c:fa Z s with
 |ok v s1 =>
  simp[c,Out.bind] at P;refine λu H1 m1 e1 S1 r1=>k v s1 u H1 m1 S1 r1 ?_;cases d:F v s1 with
  |ok l s'=>rw[d] at P;exact λJ H' m' x=>P J H' m' (e1.trans x)
  |ex c' s'=>rw[d] at P;exact λH' m' x=>P H' m' (e1.trans x)
  |bad=>rw[d] at P;exact P
 |ex c' s'=>simp[c] at P;exact P
 |bad=>simp[c,Out.bind] at P
def pG(ha:DA X CB E [a] fa)(hg:Gl X "range":=by rfl)(hm:X.mg "range"=none:=by exact T.Àh)(hs:aq [a] X.env=[(false,eval a X.env)]:=by rfl):DI X CB E tg (.Call (.Name "range" p) [a] [] pos) (Zn fa) :=
 ⟨(Ii hg hm ha.pa hs).mono λO H R q=>ϖ.Ϩ q λv s1 u H1 m1 S1 r1 P=>by
  split at P
  .rename_i l s' hF;split at hF
   .split at hF<;>cases hF
    rename_i hj;cases r1 with
    |cons r n=>cases n;cases r;exact⟨_,rfl,hj.1,hj.2,P _ _ _ .refl S1 Áu⟩
   .cases hF
  .rename_i hF;split at hF
   .split at hF<;>cases hF
   .cases hF
  .exact P.elim⟩
def xn:Key->PV
 |.inl i=>.int i
 |.inr x=>.str x
def Àq(f:XE)(Z:En)(s:K'):Out (List PV):=(f Z s).bind λv s1=>match v with
 |.Yr l=>.ok (l.map λkv=>xn kv.1) s1
 |_=>.bad
def ÁB(tl:TE):TI:=λO H R=>tl O H λx H1=>∃d Ra,x=.ref d/\((H1 d=Za (.dK Ra)/\∀ob,R (Itd d ob Ra) (upd H1 d (.YZ ob (.dK Ra))))\/∃ob,H1 d=Za (.YZ ob (.dK Ra))/\R (Itd d ob Ra) H1)
def De(hl:PE X e tl):PI X tg e (ÁB tl):=by
 refine λQ9 s O H R I h=>Yy (hl Q9 s O H _ I h) λv s1=>e4 λx H1 I1 r1 q1=>?_;obtain⟨d,Ra,rfl,q1⟩:=q1;cases r1;have hd:Rd H1 d (.dK Ra):=q1.elim (λz=>.inl z.1) λ⟨ob,z,_⟩=>.inr ⟨ob,z⟩;obtain⟨z,Ug,vs,rel,dd⟩:=vp I1.Yn hd;obtain⟨ep,at_⟩:=dd.dictAt;obtain⟨ob,es,ho,Uv,Ti,TR⟩:=id at_;apply wpAny_pyIter_dict Ug at_;have hl:=rel.length;have I2:Inv X Q9 O H1 { s1 with heap:=s1.heap.push { cls:=.type "dict_keyiterator",data:=.fields #[.ref d,.int 0 0,.int vs.length 0,.int ep 0] } }:=I1.kept λb o e=>ak _ e;have RD:s1.heap.objs.size≠d:=λz=>by
  have:=au ho;rw[z] at this
  grind
 have R7:(0<=Ra.length/\(s1.heap.push { cls:=.type "dict_keyiterator",data:=.fields #[.ref d,.int 0 0,.int vs.length 0,.int ep 0] }).IsKeyIter s1.heap.objs.size d 0 Ra.length ep):=by refine⟨a6 _,{ cls:=.type "dict_keyiterator",data:=.fields #[.ref d,.int 0 0,.int vs.length 0,.int ep 0] },aN _ rfl,rfl,?_⟩;rw[hl];rfl
 rcases q1 with⟨VH,q⟩|⟨Tt,VH,q⟩
 .refine⟨s1.heap.objs.size,[s1.heap.objs.size],_,Itd d ob Ra,_,rfl,I2.freeze VH (ak _ ho),BP d _ ob Ra es ep Ti,R7,λb hb=>?_,q ob⟩;have e:b=s1.heap.objs.size:=by simpa using hb
  subst e;apply I1.ŀ (al _);rw[mj RD];exact I1.Yn.fresh (al _)
 .have e0:Tt=ob:=by
   obtain⟨e1,_⟩:=(I1.Yn d _ VH)
   grind
  subst e0;refine⟨s1.heap.objs.size,[s1.heap.objs.size],_,Itd d Tt Ra,_,rfl,I2,BP d _ Tt Ra es ep Ti,R7,λb hb=>?_,q⟩;have e:b=s1.heap.objs.size:=by simpa using hb
  subst e;exact I1.ŀ (al _) (I1.Yn.fresh (al _))
def Qo{K}{H}{m}{s}(k):Rep K H m s (kV k) (xn k):=by
 obtain i|x:=k
 .exact .int
 .exact .str
theorem Yf.get:∀{K:aa}{H:Hp}{m:Mp}{s:K'}{vs:List (Key×V)}{l:List (Key×PV)}{i:Nat}{q:Key×PV},Yf K H m s vs l->l[i]?=Za q->∃w,vs[i]?=Za w/\w.1=q.1
 |_,_,_,_,_,_,_,_,.nil,e=>by simp at e
 |_,_,_,_,_,_,0,_,.cons _ _,e=>by simp at e;subst e;exact⟨_,rfl,rfl⟩
 |_,_,_,_,_,_,i+1,q,.cons _ b,e=>by
  obtain⟨w,h1,h2⟩:=b.get (by simpa using e)
  simp_all
def Áw{K}{H0}{m0}{s0}{d}{ob}{Ra}{l}(hd:∀H m s,Ext0 H0 m0 s0 H m s->SR K CB H m s->H d=Za (.YZ ob (.dK Ra)))(r:Yf K H0 m0 s0 Ra l):ql K CB (Itd d ob Ra) (l.map λkv=>xn kv.1) H0 m0 s0:=by
 intro i H m s ex S;have h:=hd H m s ex S;refine⟨λq hq=>?_,λhi=>⟨by rw[r.length];simpa using hi,h⟩⟩;rw[aF] at hq;cases c:l[i]? with
 |none=>rw[c] at hq;cases hq
 |some kv =>
  rw[c] at hq;cases hq;obtain⟨w,h1,h2⟩:=r.get c;refine⟨⟨(aS.mp h1).1,h⟩,λx H' ⟨e1,kv',e2,e3⟩=>?_⟩;subst e1 e3;rw[h1] at e2;cases e2;rw[h2];exact⟨.refl,S,Qo _⟩
def nj(body:PV->XS):List PV->XS
 |[],Z,s=>.nx Z s
 |q::l,Z,s=>match body q Z s with
  |.nx Yp s'=>nj body l Yp s'
  |.ct Yp s'=>nj body l Yp s'
  |.bk Yp s'=>.nx Yp s'
  |o=>o
def mV(y:XG)(u:XS)(q:PV)(Z:En)(s:K'):SO:=match y q Z s with
 |some Yp=>u Yp s
 |none=>.bad
def Z7(fi:XA)(y:XG)(body:XS)(Z:En)(s:K'):SO:=((fi Z s).so λl s1=>nj (mV y body) l Z s1).ZV
def Aw(S1:SR X.K CB H1 m1 s1)(er:ER X.K H1 m1 s1 O Z)(it:ql X.K CB J l H1 m1 s1)(P:YL X.K CB E0 (nj (mV y u) l Z s1) H1 m1 s1 D) :
  ∃W:Nat->Nat->St->Hp->Prop,(∃m,W 0 m O H1)/\∀i m O H,W i m O H ->
   (J.stop i H/\D.nx O H)\/(J.go i H/\∃N:St->Hp->Prop,(∀YE H',N YE H'->∃m',m'<m/\W (i+1) m' YE H')/\∀x H',J.yld i H x H'->(TDG X.K CB y) x O H' λĞ H2=>(TDS X.K CB E0 u) { D with nx:=N,ct:=N,bk:=D.nx } Ğ H2):=by
 refine⟨λi k YE H'=>∃Yp s' m',ER X.K H' m' s' YE Yp/\SR X.K CB H' m' s'/\Ext H1 m1 s1 H' m' s'/\i<=l.length/\k=l.length-i/\YL X.K CB E0 (nj (mV y u) (l.drop i) Yp s') H' m' s' D,⟨l.length,Z,s1,m1,er,S1,.refl,a6 _,rfl,P⟩,?_⟩
 rintro i k YE H' ⟨Yp,s',m',er',S',Wo,Vy,rfl,P'⟩
 obtain⟨Uf,Tu⟩:=it i H' m' s' Wo.toExt0 S';by_cases Rs:i<l.length
 .right;have hq:=aC Rs;obtain⟨go,yl⟩:=Uf _ hq;rw[eJ Rs] at P';refine⟨go,λĞ H2=>∃š s2 m2,ER X.K H2 m2 s2 Ğ š/\SR X.K CB H2 m2 s2/\Ext H1 m1 s1 H2 m2 s2/\YL X.K CB E0 (nj (mV y u) (l.drop (i+1)) š s2) H2 m2 s2 D,λĞ H2 ⟨š,s2,m2,a1,a2,a3,a4⟩=>⟨l.length-(i+1),by omega,š,s2,m2,a1,a2,a3,Rs,rfl,a4⟩,λx H2 hy=>?_⟩;obtain⟨e2,S2,r2⟩:=yl x H2 hy;unfold nj at P';have hbo:mV y u l[i] Yp s'=match y l[i] Yp s' with|some Yp=>u Yp s'|none=>.bad:=rfl
  rw[hbo] at P';cases hyq:y l[i] Yp s' with
  |none=>rw[hyq] at P';exact P'.elim
  |some š =>
   rw[hyq] at P';have P':=YL.shift e2 P';dsimp only at P';refine⟨Yp,s',m',l[i],š,er'.ext e2,S2,r2,hyq,λĞ VT=>⟨š,s',m',VT,S2,?_⟩⟩;cases cb:u š s' with
   |nx ρ3 s3=>rw[cb] at P';exact λĝ H3 m3 e3 S3 Tq=>⟨ρ3,s3,m3,Tq,S3,(Wo.trans e2).trans e3,YL.shift e3 P'⟩
   |ct ρ3 s3=>rw[cb] at P';exact λĝ H3 m3 e3 S3 Tq=>⟨ρ3,s3,m3,Tq,S3,(Wo.trans e2).trans e3,YL.shift e3 P'⟩
   |bk ρ3 s3=>rw[cb] at P';exact P'
   |rt v3 s3=>rw[cb] at P';exact P'
   |ex c3 s3=>rw[cb] at P';exact P'
   |bad=>rw[cb] at P';exact P'
 .left;have Si:=fN Rs;rw[fk Si] at P';exact⟨Tu Si,P'.next S' er'⟩
def qI(hi:DI X.þ CB E0 tg e fi)(hg:DG X.þ CB tg y)(hb:ϗ X.þ CB E0 Sl u)(hc:X.calm=true:=by rfl)(hs:∀x,bL e X.env x=pure x:=by intro _;rfl):DS X CB E (.For tg e Sl [] pos) (Z7 fi y u) :=
 ⟨PS.þ ((Gy (X:=X.þ) fD hc hi.pi hg.pg hb.pss hs).mono λD O H=>oE λZ s m er S P=>by
  have P:=YL.ZV P;refine⟨Z,s,m,er,S,?_⟩;cases c:fi Z s with
  |bad=>rw[c] at P;exact P
  |ex c' s'=>rw[c] at P;exact P
  |ok l s1 =>
   rw[c] at P;exact λJ H1 m1 e1 S1 it=>Aw S1 (er.ext e1) it (YL.shift e1 P))⟩
def m8(c:XT)(b:XS):Nat->XS
 |0,_,_=>.bad
 |n+1,Z,s=>(c Z s).so λt s1=>if t=true then(match b Z s1 with
  |.nx Yp s'=>m8 c b n Yp s'
  |.ct Yp s'=>m8 c b n Yp s'
  |.bk Yp s'=>.nx Yp s'
  |o=>o) else .nx Z s1
open Classical in
def tZ(c:XT)(b:XS)(Z:En)(s:K'):SO:=if h:∃n,m8 c b n Z s≠.bad then(m8 c b h.choose Z s).ZV else .bad
def Az{c}(hc:DT X.þ CB E0 c t)(hb:ϗ X.þ CB E0 Sl u):DS X CB E (.While c Sl [] pos) (tZ t u) :=
 ⟨PS.þ ((EL fD hc.pt hb.pss).mono λD O H=>oE λZ s m er S P=>by
  unfold tZ at P;split at P
  .rename_i h;have P:=YL.ZV P;refine⟨λn YE H'=>∃Yp s' m',ER X.K H' m' s' YE Yp/\SR X.K CB H' m' s'/\YL X.K CB E0 (m8 t u n Yp s') H' m' s' D,⟨_,Z,s,m,er,S,P⟩,?_⟩
   rintro n YE H' ⟨Yp,s',m',er',S',P'⟩
   cases n with
   |zero=>exact P'.elim
   |succ n =>
    refine⟨Yp,s',m',er',S',Yw.so P' λb s1 b' H1 m1 e1 S1 r1 P1=>?_⟩;cases r1;refine vH (λcb=>?_) λcb=>?_
    .rw[Zc cb] at P1;refine⟨λĞ H2=>∃š s2 m2,ER X.K H2 m2 s2 Ğ š/\SR X.K CB H2 m2 s2/\YL X.K CB E0 (m8 t u n š s2) H2 m2 s2 D,λĞ H2 q=>⟨n,cA _,q⟩,Yp,s1,m1,er'.ext e1,S1,?_⟩;cases cu:u Yp s1 with
     |nx ρ3 s3=>rw[cu] at P1;exact λĝ H3 m3 e3 S3 Tq=>⟨ρ3,s3,m3,Tq,S3,YL.shift e3 P1⟩
     |ct ρ3 s3=>rw[cu] at P1;exact λĝ H3 m3 e3 S3 Tq=>⟨ρ3,s3,m3,Tq,S3,YL.shift e3 P1⟩
     |bk ρ3 s3=>rw[cu] at P1;exact P1
     |rt v3 s3=>rw[cu] at P1;exact P1
     |ex c3 s3=>rw[cu] at P1;exact P1
     |bad=>rw[cu] at P1;exact P1
    .rw[Zd cb] at P1;exact P1.next S1 (er'.ext e1)
  .exact P.elim)⟩
theorem ug{c}{b}:∀{n:Nat}{Z:En}{s:K'},m8 c b n Z s≠.bad->m8 c b (n+1) Z s=m8 c b n Z s
 |0,_,_,h=>absurd rfl h
 |n+1,Z,s,h=>by
  unfold m8 at h ⊢;cases hc:c Z s with
  |ok t s1 =>
   rw[hc] at h;simp only[Out.so] at h ⊢;by_cases ht:t=true
   .rw[Zc ht] at h ⊢;rw[Zc ht];cases hb:b Z s1 with
    |nx Yp s'=>rw[hb] at h;exact ug h
    |ct Yp s'=>rw[hb] at h;exact ug h
    |_=>rfl
   .rw[Zd ht,Zd ht]
  |ex=>rfl
  |bad=>rfl
def BJ{c}{b}{n k}{Z}{s}(h:m8 c b n Z s≠.bad):m8 c b (n+k) Z s=m8 c b n Z s:=by
 induction k with
 |zero=>rfl
 |succ k ih=>rw[<-ky,ug (by rw[ih];exact h),ih]
def xD{c}{b}{n}{Z}{s}{o}(h:m8 c b n Z s=o)(ho:o≠.bad):tZ c b Z s=o.ZV:=by
 have hx:∃n,m8 c b n Z s≠.bad:=⟨n,by rw[h];exact ho⟩;unfold tZ;have h1:=BJ (k:=n) hx.choose_spec;have h2:=BJ (k:=hx.choose) (show m8 c b n Z s≠.bad by rw[h];exact ho);rw[Nat.add_comm] at h2
 simp_all
end
noncomputable def oi(c:XT)(e:XE)(cap:En):List PV->K'->Out (List PV)
 |[],s=>.ok [] s
 |q::l,s=>match c (Za q::cap) s with
  |.ok true s1=>match e (Za q::cap) s1 with
   |.ok v s2=>match oi c e cap l s2 with
    |.ok vs s3=>.ok (v::vs) s3
    |_=>.bad
   |_=>.bad
  |.ok false s1=>oi c e cap l s1
  |_=>.bad
def oU:oi c e cap (q::l) s=match c (Za q::cap) s with
  |.ok true s1=>match e (Za q::cap) s1 with
   |.ok v s2=>match oi c e cap l s2 with
    |.ok vs s3=>.ok (v::vs) s3
    |_=>.bad
   |_=>.bad
  |.ok false s1=>oi c e cap l s1
  |_=>.bad:=rfl
theorem wV:∀{l:List PV}{s s':K'}{k:ag},oi c e cap l s≠.ex k s'
 |[],_,_,_,h=>by cases h
 |q::l,s,s',k,h=>by
  unfold oi at h;split at h
  .split at h
   .split at h<;>cases h
   .cases h
  .exact wV h
  .cases h
def nQ(_:En)(s:K'):Out Bool:=.ok true s
def pP(fi:XA)(ix:List Nat)(c:XT)(e:XE)(Z:En)(s:K'):Out PV:=(fi Z s).bind λl s1=>if l.length<=100000 then(oi c e (nS ix Z) l s1).bind λvs s2=>.ok (.lst vs) s2 else .bad
structure Ş(X:Cx)(CB:ag)(Ry:List bc)(t:XT):Prop where
 Ϗ:Gh X Ry (ϒ X.K CB E0 t)
section
variable{X:Cx}{CB:ag}{E:XK}{a b c e Rz iter:bc}{Ry:List bc}{f h:XE}{fi:XA}{t:XT}{p px pos:Pos}{x:Str}{u v:XS}{scope:dF}{fr:List Str}{ix:List Nat}
def sR:Ş X CB [] nQ:=⟨λQ9 s O H Q I ⟨Z,s',m,er,S,P⟩=>As Q9 s O H Q I (P.here S rfl)⟩
def AA(h:DT X CB E0 c t):Ş X CB [c] t:=⟨J1 h.pt⟩
def Mp.hide(m:Mp)(d:ag):Mp:=⟨m.ad,m.fp,d::m.YW⟩
def Mp.bare(m:Mp)(l:List ag):Mp:=⟨m.ad,m.fp,l⟩
theorem Ext0.hide(hd:H d=Zb):Ext0 H m s (upd H d o) (m.hide d) s :=
 ⟨⟨al _,λ_ _=>rfl,λa u h p=>⟨h.same (My.sL hd),λz=>(ao.mp z).elim (h.ne hd) p.1,p.2⟩,λa u h _ _=>My.sL hd _ _ h⟩,λj l _ h=>⟨h,λo ho=>My.sL hd _ _ ho⟩⟩
theorem SR.hide{K}{H}{m}{s}{d}{xs}(S:SR K CB H m s)(hd:H d=Zb):SR K CB (upd H d (.lst xs)) (m.hide d) s:=by
 have k:=My.sL (o:=.lst xs) hd;have S1:=S.same k;have e0:Ext0 H m s (upd H d (.lst xs)) (m.hide d) s:=Ext0.hide hd;have RD:∀n∈s.cs.map (·.1),∀a∈m.fp n,a≠d:=λn hn a ha z=>by
  obtain⟨q,hq,rfl⟩:=ar.mp hn;obtain⟨o,e,_⟩:=(S.ok q hq).kind ha
  grind
 refine⟨S.nd,S.lt,λq hq=>?_,S.dj,λn hn a ha hb=>(ao.mp hb).elim (RD n hn a ha) (S.hx n hn a ha),λa ha=>?_,λP q t=>⟨ae _ (S1.tb P q t).1,(S1.tb P q t).2⟩⟩
 .have:=S.ok q hq;cases c:q.2 with
  |lst l=>rw[c] at this;obtain⟨a1,vs,a2,a3⟩:=this;exact⟨a1,vs,k _ _ a2,a3.Yu e0.toExtR⟩
  |Yr l=>rw[c] at this;obtain⟨a1,vs,a2,a3⟩:=this;exact⟨a1,vs,k _ _ a2,a3.Yu e0.toExtR⟩
  |Zp l=>rw[c] at this;obtain⟨a1,ob,vs,a2,a3⟩:=this;exact⟨a1,ob,vs,k _ _ a2,a3.Yu e0.toExtR⟩
  |obj C fs=>rw[c] at this;obtain⟨a1,dx,vs,a2,a3,a4⟩:=this;exact⟨a1,dx,vs,k _ _ a2,a3,a4.Yu e0.toExtR⟩
  |Å l=>rw[c] at this;obtain⟨a1,vs,a2,a3,a4⟩:=this;exact⟨a1,vs,k _ _ a2,a3,a4.Yu e0.toExtR⟩
  |book pp L =>
   have:=S1.ok q hq;rw[c] at this;exact this
 .obtain rfl|ha:=ao.mp ha
  .rw[mv];exact⟨by simp,λ_ _=>⟨by simp,by simp,by simp,by simp⟩⟩
  .exact S1.hs a ha
def Ext0.ť{K}{H}{m}{s}{d}{o u0}(S:SR K CB H m s)(hd:d∈m.YW)(hu:H d=Za u0)(SU:¬ϫ u0):Ext0 H m s (upd H d o) m s:=by
 have ne:∀a,ĥ m s a->a≠d:=λa p z=>p.1 (z▸hd);refine⟨⟨al _,λ_ _=>rfl,λa u h p=>⟨?_,p⟩,λa u h _ p=>by rw[mj (ne a p)];exact h⟩,λj l _ h=>⟨h,λo ho=>?_⟩⟩
 rotate_left
 .obtain⟨e1,_⟩:=S.ok _ (oy h);rw[mj (λz=>S.hx j (ar.mpr ⟨_,oy h,rfl⟩) (m.ad j) (by rw[e1];simp) (by rw[z];exact hd))];exact ho
 exact h.elim (λh=>.inl (by rw[mj (ne a p)];exact h)) λ⟨o,h⟩=>.inr ⟨o,by rw[mj (ne a p)];exact h⟩
theorem SR.ť{K}{H}{m}{s}{d}{xs ys}(S:SR K CB H m s)(hd:d∈m.YW)(hl:H d=Za (.lst xs)):SR K CB (upd H d (.lst ys)) m s:=by
 have e0:Ext0 H m s (upd H d (.lst ys)) m s:=Ext0.ť S hd hl Bj;have nt:∀t us,ZK K H t us->ZK K (upd H d (.lst ys)) t us:=λt us h=>by
  obtain h|h:=h
  .refine .inl (e0.pu _ _ h ?_).1;exact h.elim (λh=>S.Zo h) λ⟨_,h⟩=>S.Č (.inl h)
  .exact .inr h
 refine⟨S.nd,S.lt,λq hq=>?_,S.dj,S.hx,λa ha=>?_,S.tbk (.upd hl Bj)⟩
 .have hn:q.1∈s.cs.map (·.1):=ar.mpr ⟨q,hq,rfl⟩;have kp:∀a∈m.fp q.1,∀o,H a=Za o->upd H d (.lst ys) a=Za o:=λa ha o h=>by rw[mj (λz=>S.hx _ hn a ha (by rw[z];exact hd))];exact h
  have:=S.ok q hq;cases c:q.2 with
  |lst l=>rw[c] at this;obtain⟨a1,vs,a2,a3⟩:=this;exact⟨a1,vs,kp _ (by rw[a1];simp) _ a2,a3.Yu e0.toExtR⟩
  |Yr l=>rw[c] at this;obtain⟨a1,vs,a2,a3⟩:=this;exact⟨a1,vs,kp _ (by rw[a1];simp) _ a2,a3.Yu e0.toExtR⟩
  |Zp l=>rw[c] at this;obtain⟨a1,ob,vs,a2,a3⟩:=this;exact⟨a1,ob,vs,kp _ (by rw[a1];simp) _ a2,a3.Yu e0.toExtR⟩
  |obj C fs=>rw[c] at this;obtain⟨a1,dx,vs,a2,a3,a4⟩:=this;exact⟨a1,dx,vs,kp _ (by rw[a1];simp) _ a2,a3,a4.Yu e0.toExtR⟩
  |Å l=>rw[c] at this;obtain⟨a1,vs,a2,a3,a4⟩:=this;exact⟨a1,vs,kp _ (by rw[a1];simp) _ a2,a3,a4.Yu e0.toExtR⟩
  |book pp L =>
   rw[c] at this;obtain⟨z,L',B,e1,e2⟩:=this;rw[e2] at kp;have kb:=kp;refine⟨z,L',⟨kb _ (by simp[My.Z6]) _ B.ob,kb _ (by simp[My.Z6]) _ B.pp,kb _ (by simp[My.Z6]) _ B.tt,kb _ (by simp[My.Z6]) _ B.mm,kb _ (by simp[My.Z6]) _ B.ll,B.hh.keep (λo h=>kb _ (by simp[My.Z6]) _ h),λq' Sa=>?_,B.nd,B.p6,B.h8⟩,e1,e2⟩;obtain⟨ts,h1,h2,h3⟩:=B.he q' Sa;refine⟨ts,h1,kb _ ?_ _ h2,λy hy=>nt _ _ (h3 y hy)⟩;unfold My.Z6
   grind
 .by_cases e:a=d
  .subst e;rw[mv];exact⟨by simp,λ_ _=>⟨by simp,by simp,by simp,by simp⟩⟩
  .rw[mj e];exact S.hs a ha
def Ext0.show(hm:m.YW=d::l):Ext0 H m s H (m.bare l) s :=
 ⟨⟨al _,λ_ _=>rfl,λa u h p=>⟨h,λz=>p.1 (by rw[hm];exact ae _ z),p.2⟩,λa u h _ _=>h⟩,λj l _ h=>⟨h,λo h=>h⟩⟩
theorem SR.show{K}{H}{m}{s}{d}{l}{u0}(S:SR K CB H m s)(hm:m.YW=d::l)(hu:H d=Za u0)(SU:¬ϫ u0):SR K CB H (m.bare l) s:=by
 have e0:Ext0 H m s H (m.bare l) s:=Ext0.show hm;refine⟨S.nd,S.lt,λq hq=>?_,S.dj,λn hn a ha hb=>S.hx n hn a ha (by rw[hm];exact ae _ hb),λa ha=>S.hs a (by rw[hm];exact ae _ ha),λP q t=>⟨?_,(S.tb P q t).2⟩⟩
 rotate_left
 .obtain⟨h1,ps,h2,_⟩:=S.tb P q t;rw[hm] at h1;obtain z|z:=ao.mp h1
  .rw[z,hu] at h2;cases h2;exact absurd (.inl ⟨_,rfl⟩) SU
  .exact z
 have:=S.ok q hq;cases c:q.2 with
 |lst l=>rw[c] at this;obtain⟨a1,vs,a2,a3⟩:=this;exact⟨a1,vs,a2,a3.Yu e0.toExtR⟩
 |Yr l=>rw[c] at this;obtain⟨a1,vs,a2,a3⟩:=this;exact⟨a1,vs,a2,a3.Yu e0.toExtR⟩
 |Zp l=>rw[c] at this;obtain⟨a1,ob,vs,a2,a3⟩:=this;exact⟨a1,ob,vs,a2,a3.Yu e0.toExtR⟩
 |obj C fs=>rw[c] at this;obtain⟨a1,dx,vs,a2,a3,a4⟩:=this;exact⟨a1,dx,vs,a2,a3,a4.Yu e0.toExtR⟩
 |Å l=>rw[c] at this;obtain⟨a1,vs,a2,a3,a4⟩:=this;exact⟨a1,vs,a2,a3,a4.Yu e0.toExtR⟩
 |book pp L=>rw[c] at this;exact this
theorem ER.Yu{K}{H H'}{m m'}{s s'}{O}{Z}(h:ER K H m s O Z)(e:ExtR H m s H' m' s'):ER K H' m' s' O Z :=
 ⟨h.len,λi p q=>let⟨u,a,b⟩:=h.at_ i p q;⟨u,a,b.Yu e⟩⟩
structure ħ(K:aa)(CB:ag)(D:ag)(H1:Hp)(m1:Mp)(s1:K')(cap:St)(Z:En)(ys:List V)(done:List PV)(H2:Hp)(m2:Mp)(s2:K'):Prop where
 YW:m2.YW=D::m1.YW
 at_:H2 D=Za (.lst ys)
 sr:SR K CB H2 m2 s2
 er:ER K H2 m2 s2 cap Z
 rs:Yd K H2 m2 s2 ys done
 ex:Ext H1 m1 s1 H2 (m2.bare m1.YW) s2
 e0:Ext0 H1 m1 s1 H2 m2 s2
def ħ.start{K}{D}{H1}{m1}{s1}{cap}{Z}(S:SR K CB H1 m1 s1)(er:ER K H1 m1 s1 cap Z)(hD:H1 D=Zb):ħ K CB D H1 m1 s1 cap Z [] [] (upd H1 D (.lst [])) (m1.hide D) s1 :=
 ⟨rfl,mv,S.hide hD,er.Yu (Ext0.hide hD).toExtR,.nil,Ext.same (My.sL hD),Ext0.hide hD⟩
def Ext.into{K}{D}{H1 H2 H5}{m1 m2 m5}{s1 s2 s5}(YW:m2.YW=D::m1.YW)(S2:SR K CB H2 m2 s2)(hD:H1 D=Zb)(a:Ext H1 m1 s1 H2 (m2.bare m1.YW) s2)(b:Ext H2 m2 s2 H5 m5 s5):Ext H1 m1 s1 H5 (m5.bare m1.YW) s5:=by
 have pr:∀c u,Rd H1 c u->ĥ m1 s1 c->Rd H2 c u/\ĥ m2 s2 c:=λc u h p=>by obtain⟨h1,p1⟩:=a.pu c u h p;refine⟨h1,λz=>?_,p1.2⟩;rw[YW] at z;exact(ao.mp z).elim (h.ne hD) p.1
 refine⟨⟨⟨aI a.nx b.nx,λn h=>(b.ad n (ax h a.nx)).trans (a.ad n h),λc u h p=>?_,λc u h n p=>?_⟩,λj l hj h=>?_⟩,rfl,λc hc o h n=>?_⟩
 .obtain⟨h1,p1⟩:=pr c u h p;obtain⟨h2,p2⟩:=b.pu c u h1 p1;exact⟨h2,p.1,p2.2⟩
 .obtain⟨_,p1⟩:=pr c _ (.inl h) p;exact b.el c u (a.el c u h n p) n p1
 .obtain⟨h1,k1⟩:=a.df j l hj h;obtain⟨h2,k2⟩:=b.df j l (ax hj a.nx) h1;have e:m2.ad j=m1.ad j:=a.ad j hj
  simp_all
 .exact b.hk c (by grind) o (a.hk c hc o h n) n
def ħ.step{K}{D}{H1 H2 H5}{m1 m2 m5}{s1 s2 s5}{cap}{Z}{ys}{done}(C:ħ K CB D H1 m1 s1 cap Z ys done H2 m2 s2)(hD:H1 D=Zb)(b:Ext H2 m2 s2 H5 m5 s5)(S5:SR K CB H5 m5 s5):ħ K CB D H1 m1 s1 cap Z ys done H5 m5 s5 :=
 ⟨b.hd.trans C.YW,b.hk D (by rw[C.YW];exact ai) _ C.at_ (by grind),S5,C.er.ext b,C.rs.ext b,Ext.into C.YW C.sr hD C.ex b,C.e0.trans b.toExt0⟩
def ħ.push{K}{D}{H1 H2}{m1 m2}{s1 s2}{cap}{Z}{ys}{done}{v}{q}(C:ħ K CB D H1 m1 s1 cap Z ys done H2 m2 s2)(hD:H1 D=Zb)(r:Rep K H2 m2 s2 v q):ħ K CB D H1 m1 s1 cap Z (ys++[v]) (done++[q]) (upd H2 D (.lst (ys++[v]))) m2 s2:=by
 have hm:D∈m2.YW:=by rw[C.YW];exact ai
 have e0:Ext0 H2 m2 s2 (upd H2 D (.lst (ys++[v]))) m2 s2:=Ext0.ť C.sr hm C.at_ Bj;refine⟨C.YW,mv,C.sr.ť hm C.at_,C.er.Yu e0.toExtR,(C.rs.append (.cons r .nil)).Yu e0.toExtR,⟨⟨⟨C.ex.nx,C.ex.ad,λc u h p=>?_,λc u h n p=>?_⟩,λj l hj h=>⟨(C.ex.df j l hj h).1,λo ho=>?_⟩⟩,rfl,λc hc o h n=>?_⟩,C.e0.trans e0⟩
 .obtain⟨h1,p1⟩:=C.ex.pu c u h p;have ne:=h.ne hD;exact⟨h1.elim (λh=>.inl (by rw[mj ne];exact h)) λ⟨o,h⟩=>.inr ⟨o,by rw[mj ne];exact h⟩,p1⟩
 .rw[mj (mG h hD)];exact C.ex.el c u h n p
 .rw[mj (mG ho hD)];exact(C.ex.df j l hj h).2 o ho
 .rw[mj (mG h hD)];exact C.ex.hk c hc o h n
theorem ħ.done{K}{D}{H1 H2}{m1 m2}{s1 s2}{cap}{Z}{ys}{done}(C:ħ K CB D H1 m1 s1 cap Z ys done H2 m2 s2):SR K CB H2 (m2.bare m1.YW) s2/\(D∉m1.YW->Rep K H2 (m2.bare m1.YW) s2 (.ref D) (.lst done)):=by refine⟨C.sr.show C.YW C.at_ Bj,λhn=>.lst C.at_ ⟨hn,λn hh z=>C.sr.hx n hh D z (by rw[C.YW];exact ai)⟩ (C.rs.Yu (Ext0.show C.YW).toExtR)⟩
def E7{O}{H1}{m1}{s1}{Z}{J:It}{l}{D}{Q}{t}(S1:SR X.K CB H1 m1 s1)(er:ER X.K H1 m1 s1 O Z)(it:ql X.K CB J l H1 m1 s1)(hD:H1 D=Zb)(Re:l.length<=100000)(P:Yw X.K CB (Rep X.K) E ((oi t f (nS ix Z) l s1).bind λvs s2=>.ok (.lst vs) s2) H1 m1 s1 Q):Ę J (ϒ X.K CB E0 t) (Ň X.K CB E0 f) (Zy ix O) D H1 Q:=by
 refine⟨λi k ys H2=>∃done m2 s2,ħ X.K CB D H1 m1 s1 (Zy ix O) (nS ix Z) ys done H2 m2 s2/\i<=l.length/\ys.length<=i/\k=l.length-i/\(oi t f (nS ix Z) l s1).bind (λvs s2=>.ok (PV.lst vs) s2)=(oi t f (nS ix Z) (l.drop i) s2).bind λvs s2=>.ok (.lst (done++vs)) s2,⟨l.length,[],m1.hide D,s1,ħ.start S1 (er.Zy ix) hD,a6 _,a6 _,rfl,?_⟩,?_⟩
 .simp
 rintro i k ys H2 ⟨done,m2,s2,C,hi,hy,rfl,eq⟩
 obtain⟨Uf,Tu⟩:=it i H2 m2 s2 C.e0 C.sr;by_cases Rs:i<l.length
 .right;have hq:=aC Rs;obtain⟨go,yl⟩:=Uf _ hq;refine⟨go,λx H3 Vg=>?_⟩;obtain⟨e3,S3,r3⟩:=yl x H3 Vg;have C3:=C.step hD e3 S3;rw[eJ Rs] at eq;rw[eq] at P;rw[oU] at P eq;refine⟨Za l[i]::nS ix Z,s2,m2,C3.er.cons r3,S3,?_⟩;cases ct:t (Za l[i]::nS ix Z) s2 with
  |bad=>rw[ct] at P;exact P.elim
  |ex c3 s3=>rw[ct] at P;exact P.elim
  |ok bt s3 =>
   rw[ct] at P eq
   rintro b4 H4 m4 e4 S4 rfl
   have C4:=C3.step hD e4 S4;cases b4 with
   |false =>
    exact NH ⟨l.length-(i+1),by omega,done,m4,s3,C4,Rs,by omega,rfl,eq⟩
   |true =>
    refine NG ⟨Za l[i]::nS ix Z,s3,m4,C4.er.cons (r3.ext e4),S4,?_⟩;dsimp only at P eq;cases cf:f (Za l[i]::nS ix Z) s3 with
    |bad=>rw[cf] at P;exact P.elim
    |ex c5 s5=>rw[cf] at P;exact P.elim
    |ok v s5 =>
     rw[cf] at eq;intro w H5 m5 e5 S5 r5;have C5:=C4.step hD e5 S5;refine⟨C5.at_,aZ (aI hy (aI hi Re)) (Zf rfl),l.length-(i+1),by omega,done++[v],m5,s5,C5.push hD r5,Rs,by simp;omega,rfl,?_⟩;rw[eq];dsimp only;cases hh:oi t f (nS ix Z) (l.drop (i+1)) s5 with
     |ok vs s6=>simp[Out.bind]
     |ex c6 s6=>exact absurd hh wV
     |bad=>rfl
 .left;have Si:=fN Rs;rw[fk Si] at eq;rw[eq] at P;obtain⟨VX,rd⟩:=C.done;refine⟨Tu Si,C.at_,P (.ref D) H2 (m2.bare m1.YW) C.ex VX ?_⟩;rw[bY];exact rd λz=>(S1.hs D z).1 hD
def z7{t}(q:Ň X.K CB E (pP fi ix t f) O H Q):Jl (ϖ X.K CB E fi) ix (ϒ X.K CB E0 t) (Ň X.K CB E0 f) O H Q:=by
 obtain⟨Z,s,m,er,S,P⟩:=q;refine⟨Z,s,m,er,S,?_⟩;unfold pP at P;cases c:fi Z s with
 |bad=>rw[c] at P;exact P
 |ex c' s'=>rw[c] at P;exact P
 |ok l s1 =>
  rw[c] at P;dsimp only[Out.bind] at P;split at P
  .rename_i Re;exact λJ H1 m1 e1 S1 it D hD=>E7 S1 (er.ext e1) it hD Re (Yw.shift e1 P)
  .exact P.elim
def vM(hi:DI X CB E (.Name x px) iter fi)(he:∀cl C Rg Rh fp,DE (í X scope cl C (x::fr) Rg Rh fp) CB E0 Rz f)(ht:∀cl C Rg Rh fp,Ş (í X scope cl C (x::fr) Rg Rh fp) CB Ry t:=by exact λ_ _ _ _ _=>sR)(hc:X.calm=true:=by rfl)(S:ZQ X.N X.env.scope scope x fr ix:=by exact O1 ‹N' _ _ _›)(hs:∀v,bL iter X.env v=pure v:=by intro _;rfl):DE X CB E (.ListComp Rz [⟨.Name x px,iter,Ry,0⟩] scope pos) (pP fi ix t f) :=
 ⟨(zu hc S hi.pi (λcl C Rg Rh fp=>(ht cl C Rg Rh fp).Ϗ) (λcl C Rg Rh fp=>(he cl C Rg Rh fp).pe) hs).mono λO H Q q=>z7 q⟩
def tS(hi:DI X CB E (.Name x px) iter fi)(he:∀cl C Rg Rh fp,DE (í X scope cl C (x::fr) Rg Rh fp) CB E0 Rz f)(ht:∀cl C Rg Rh fp,Ş (í X scope cl C (x::fr) Rg Rh fp) CB Ry t:=by exact λ_ _ _ _ _=>sR)(hN:X.N.Nodup:=by exact ‹N' _ _ _›.nd)(TH:X.N[i]?=Za y:=by rfl)(Td:X.env.scope.names.lookup y=Za .local:=by rfl)(hc:X.calm=true:=by rfl)(S:ZQ X.N X.env.scope scope x fr ix:=by exact O1 ‹N' _ _ _›)(Tx:cO (.ListComp Rz [⟨.Name x px,iter,Ry,0⟩] scope pos) (Za (.Name y py)) Ĺ.line X.env=pure true:=by rfl)(hs:∀v,bL iter X.env v=pure v:=by intro _;rfl):DS X CB E (.Assign [.Name y py] (.ListComp Rz [⟨.Name x px,iter,Ry,0⟩] scope pos) Ĺ) (Yh i (pP fi ix t f)) :=
 ⟨(zq hN TH Td hc S hi.pi (λcl C Rg Rh fp=>(ht cl C Rg Rh fp).Ϗ) (λcl C Rg Rh fp=>(he cl C Rg Rh fp).pe) Tx hs).mono λD O H=>oE λZ s m er S P =>
  z7 ⟨Z,s,m,er,S,Yw.so P λv s1 u H1 m1 e1 S1 r1 P1=>P1.next S1 ((er.ext e1).set i r1)⟩⟩
end
abbrev XF:=List PV->K'->Out PV
def Y4(K:aa)(CB:ag)(n:Nat)(D:XF):Sp:=λvs H Q E=>vs.length=n/\∃ps s m,Yd K H m s vs ps/\SR K CB H m s/\Yw K CB (Rep K) E (D ps s) H m s Q
def Yb(n:Nat)(D:XF)(fa:XA)(Z:En)(s:K'):Out PV:=(fa Z s).bind λvs s1=>if vs.length=n then D vs s1 else .bad
noncomputable def ZZ(N:Nat)(g:XS)(vs:List PV)(s:K'):Out PV:=match g (vs.map Za++aQ (N-vs.length) Zb) s with
 |.nx _ s'=>.ok .Ym s'
 |.rt v s'=>.ok v s'
 |.ex c s'=>.ex c s'
 |_=>.bad
section
variable{X:Cx}{CB:ag}{E:XK}{a b c e tg:bc}{es:List bc}{f h:XE}{fa:XA}{p py pos Rc:Pos}{x y:Str}{st:bN}{Sl:List bN}{u v:XS}{scope:dF}{n k:Nat}{D:XF}{ps:List Str}
def mU(F:Fn X.prog X.w X.K X.mg X.base x k ps (Y4 X.K CB n D))(ha:DA X CB E (e::es) fa)(hr:YA jr X.A:=by assumption)(hk:k<=jr:=by first|decide|lia)(hg:Gl X x:=by rfl)(hx:oQ (Y7 X.prog X.w) X E:=by first|exact pR|exact sN)(RP:Ò x:=by decide)(he:ě X e es:=by rfl)(Rp:(bP pos (aq es X.env)).any (·.1)=false:=by rfl):DE X CB E (.Call (.Name x p) (e::es) [] pos) (Yb n D fa) :=
 ⟨(wR F (hr.mono hk) hg hx ha.pa RP he Rp).mono λO H Q=>oE λZ s m er S P=>⟨Z,s,m,er,S,P.bind λv s1 u H1 m1 e1 S1 r1 P1=>by
  split at P1
  .rename_i hl;rw[bY];exact⟨by rw[r1.length];exact hl,v,s1,m1,r1,S1,P1⟩
  .exact P1.elim⟩⟩
def Ĭ(n:Nat)(D:XF)(f:XE)(fa:XA)(Z:En)(s:K'):Out PV:=(f Z s).bind λo s1=>match o with
 |.ref k=>match s1.get k with
  |some (.book _ _)=>(fa Z s1).bind λvs s2=>if vs.length+1=n then D (.ref k::vs) s2 else .bad
  |_=>.bad
 |_=>.bad
def BG(ho:DE X CB E a f)(M:Mt X.prog X.w X.K X.mg X.base CB m k ps (Y4 X.K CB n D))(ha:DA X CB E (e::es) fa)(SU:∀z,(My.bf z).lookup m=none:=by exact λz=>My.vw z)(hr:YA jr X.A:=by assumption)(hk:k<=jr:=by first|decide|lia)(hx:oQ (Y7 X.prog X.w) X E:=by first|exact pR|exact sN)(R8:ě X e es:=by rfl)(Rp:(bP pos (aq es X.env)).any (·.1)=false:=by rfl)(ht:eval (.Call (.Attribute a m Rc) (e::es) [] pos) X.env=(do
   let ov <-eval a X.env
   fY Rc.atName
   let(f,first) <-holding [ov] (fV ov m pl)
   iX pos f first (bP pos (aq (e::es) X.env)) (eO pos (cM [] X.env))):=by rfl):DE X CB E (.Call (.Attribute a m Rc) (e::es) [] pos) (Ĭ n D f fa) :=
 ⟨(vm ho.pe M (hr.mono hk) hx ha.pa R8 Rp ht).mono λO H Q=>oE λZ s m er S P=>⟨Z,s,m,er,S,P.bind λv s1 u H1 m1 e1 S1 r1 P1=>by
  split at P1
  .split at P1
   .rename_i hg;obtain⟨z,L',B,_,_⟩:=S1.get hg;cases r1 with
    |ref hn =>
    refine⟨_,_,_,rfl,B.ob,SU z,Z,s1,m1,er.ext e1,S1,P1.bind λvs s2 us H2 m2 e2 S2 r2 P2=>?_⟩;split at P2
    .rename_i hl;rw[bY];refine⟨by rw[bx,r2.length];exact hl,_,s2,m2,.cons ?_ r2,S2,P2⟩;exact(Rep.ref hn).ext e2
    .exact P2.elim
   .exact P1.elim
  .exact P1.elim⟩⟩
def DZ(ho:DE X CB E a f)(M:Mt X.prog X.w X.K X.mg X.base CB m k ps (Y4 X.K CB n D))(SU:∀z,(My.bf z).lookup m=none:=by exact λz=>My.vw z)(hr:YA jr X.A:=by assumption)(hk:k<=jr:=by first|decide|lia)(hx:oQ (Y7 X.prog X.w) X E:=by first|exact pR|exact sN)(ht:eval (.Call (.Attribute a m Rc) [] [] pos) X.env=(do
   let ov <-eval a X.env
   fY Rc.atName
   let(f,first) <-holding [ov] (fV ov m pl)
   iX pos f first (bP pos (aq [] X.env)) (eO pos (cM [] X.env))):=by rfl):DE X CB E (.Call (.Attribute a m Rc) [] [] pos) (Ĭ n D f J') :=
 ⟨(PN ho.pe M (hr.mono hk) hx ht).mono λO H Q=>oE λZ s m er S P=>⟨Z,s,m,er,S,P.bind λv s1 u H1 m1 e1 S1 r1 P1=>by
  split at P1
  .split at P1
   .rename_i hg;obtain⟨z,L',B,_,_⟩:=S1.get hg;cases r1 with
    |ref hn =>
    refine⟨_,_,_,rfl,B.ob,SU z,?_⟩;simp only[J',Out.bind] at P1;split at P1
    .rename_i hl;exact⟨hl,_,s1,m1,.cons (.ref hn) .nil,S1,P1⟩
    .exact P1.elim
   .exact P1.elim
  .exact P1.elim⟩⟩
def ϛ(_:En)(s:K'):Out PV:=.ok (.ref s.nx) (s.add (.book [] []))
def Lc(K:aa)(C:ag):Sp:=λvs H Q _=>∃(p dx:ag),vs=[.ref p]/\H p=Za (.ins C dx [])/\∀z H',(∀c∈[z.dp,z.dt,z.dm,z.dl,z.dh],H c=Zb)->My.Yx K C H' p z [] []->(∀c o,H c=Za o->c≠p->H' c=Za o)->Q .Ym H'
def Oc(M:MkB X.prog X.w X.K X.mg X.base x CB k ps (Lc X.K CB))(hr:YA jr X.A:=by assumption)(hk:k+1<=jr:=by first|decide|lia)(hg:Gl X x:=by rfl)(hx:oQ (Y7 X.prog X.w) X E:=by first|exact pR|exact sN)(RP:Ò x:=by decide):DE X CB E (.Call (.Name x p) [] [] pos) ϛ :=
 ⟨(PP M (hr.mono hk) hg hx RP).mono λO H Q=>oE λZ s m er S P b dx hb Xu RD=>by
  refine⟨b,dx,rfl,mv,λz H' hz B kp=>⟨rfl,?_⟩⟩;have hk:YQ H H':=λc o h=>by have h1:=mG h hb;have h2:=mG h Xu;exact kp c o (by rw[mj h1,mj h2];exact h) h1
  have hzn:=λc hc=>by
   have h:=hz c hc;have n1:c≠b:=λe=>by rw[e,mv] at h;grind
   have n2:c≠dx:=λe=>by rw[mj n1,e,mv] at h;grind
   rw[mj n1,mj n2] at h;exact h
  obtain⟨S2,e2⟩:=S.add (c:=.book [] []) H' b (My.Z6 b z []) hk (λa ha=>by
   obtain rfl|ha:=ao.mp ha
   .exact hb
   .exact hzn a (by simpa using ha)) λex=>by
    refine⟨z,[],?_,rfl,?_⟩
    .rw[Mp.ů];exact B
    .rw[Mp.ů];show(if s.nx=s.nx then _ else _)=_;rw[Zc rfl]
  exact P _ _ _ e2 S2 .new⟩
def oh{P}{w}{K}{mg}{base}{qual}{fa}{fd}{N}(F:Î K x qual st fa fd)(S:N' N ps (mw st))(hps:ps.length=n)(hb:∀(Rk:af)(A:b8)(outer:List Env)(s:aw)(H:Hp)(E:XK),YA k (A.deeper (ei qual (mw st) s.heap.objs.size fa Rk))->N' N ps (mw st)->ϗ (Du (Y7 P w) P w K mg base N qual (mw st) fa Rk A outer s H E) CB E (oj st) u) :
  YD P w K mg base (Y7 P w) (k+1) fa fd ps (Y4 K CB n (ZZ N.length u)):=by
 refine F.okX S (λvs H Q E h=>by rw[hps];exact h.1) (λRk A outer s H vs Q E hr h=>?_);obtain⟨hl,Ue,s',m,r,S',P'⟩:=h;refine⟨_,(hb Rk A outer s H E hr S).pss,Ue.map Za++aQ (N.length-Ue.length) Zb,s',m,?_,S',?_⟩
 .unfold start;rw[r.length];exact ER.start r _
 .unfold ZZ at P';cases cc:u (Ue.map Za++aQ (N.length-Ue.length) Zb) s' with
  |nx ā s1=>rw[cc] at P';exact λYE H' m' x S1 er=>P' .Ym H' m' x S1 .Ym
  |rt v1 s1=>rw[cc] at P';exact λu' H' m' x S1 r1=>P' u' H' m' x S1 r1
  |ex c1 s1=>rw[cc] at P';exact P'
  |bk=>rw[cc] at P';exact P'.elim
  |ct=>rw[cc] at P';exact P'.elim
  |bad=>rw[cc] at P';exact P'.elim
open Classical in
noncomputable def K'.only(s:K')(n:Nat):K':=⟨s.nx,s.cs.filter λq=>decide (q.1<n)⟩
def ÀH(f:XE)(Z:En)(s:K'):Out PV:=(f Z s).bind λv s1=>.ok v (s1.only s.nx)
def Æ(v:PV)(s:K'):Out PV:=match v with
 |.ref n=>match s.get n with
  |some (.lst l)=>.ok (.lst l) (s.del n)
  |some (.Yr l)=>.ok (.Yr l) (s.del n)
  |_=>.bad
 |_=>.bad
def ć(f:XE)(Z:En)(s:K'):Out PV:=(f Z s).bind Æ
def SR.YZ{K}{H}{m}{s s'}{x}{v w}(S:SR K CB H m s)(r:Rep K H m s x v)(e:Æ v s=.ok w s'):SR K CB H m s'/\Ext H m s H m s'/\Rep K H m s' x w:=by
 unfold Æ at e;split at e
 .rename_i n;have pu:∀c,s.get n=Za c->m.fp n=[m.ad n]->ĥ m (s.del n) (m.ad n):=λc hg e1=>by have RH:n∈s.cs.map (·.1):=ar.mpr ⟨_,oy hg,rfl⟩;refine⟨S.hx n RH _ (by rw[e1];simp),λj hj z=>?_⟩;obtain⟨q,hq,rfl⟩:=ar.mp hj;have RD:=Hy S.nd hq;exact S.dj n RH q.1 (ar.mpr ⟨q,ve hq,rfl⟩) (λz=>RD z.symm) _ (by rw[e1];simp) z
  split at e
  .rename_i l hg;cases e;cases r;obtain⟨e1,vs,h1,h2⟩:=S.get hg;have Ñ:∀l,s.get n≠Za (.Zp l):=λl z=>by rw[hg] at z;grind
   exact⟨(S.del n Ñ).1,(S.del n Ñ).2,.lst h1 (pu _ hg e1) (h2.ext (S.del n Ñ).2)⟩
  .rename_i l hg;cases e;cases r;obtain⟨e1,vs,h1,h2⟩:=S.get hg;have Ñ:∀l,s.get n≠Za (.Zp l):=λl z=>by rw[hg] at z;grind
   exact⟨(S.del n Ñ).1,(S.del n Ñ).2,.Yr (.inl h1) (pu _ hg e1) (h2.ext (S.del n Ñ).2)⟩
  .cases e
 .cases e
def GM(h:DE X CB E e f):DE X CB E e (ć f):=⟨h.pe.mono λO H Q=>oE λZ s m er S P=>⟨Z,s,m,er,S,P.bind λv s1 u H1 m1 e1 S1 r1 P1=>by
 cases cc:Æ v s1 with
 |ok w s2 =>
  rw[cc] at P1;obtain⟨S2,e2,r2⟩:=S1.YZ r1 cc;exact P1 u H1 m1 e2 S2 r2
 |ex c' s' =>
  unfold Æ at cc;split at cc
  .split at cc<;>cases cc
  .cases cc
 |bad=>rw[cc] at P1;exact P1.elim⟩⟩
def M4(h:PE X e tt):PE X e (λO H Q=>∃d Ta,H d=Za (.dK Ta)/\tt O H (λv H'=>∃ob Ra,H' d=Za (.YZ ob (.dK Ra))/\Q v (upd H' d (.dK Ra)))):=by
 intro Q9 s O H Q I ⟨d,Ta,hd,q⟩;have n3:∀o v,X.Ha0 d≠Za (.YZ o v):=λo v z=>by rw[I.base.ZO d o v z] at hd;grind
 refine Yy (h Q9 s O H _ I q) λu s1=>e4 λv H1 I1 r1 ⟨ob,Ra,e1,q1⟩=>?_;exact⟨v,_,I1.Ĉ e1 n3,r1,q1⟩
def ÀK(d:ag)(D:Ends):Ends:={ nx:=λO H'=>∃ob Ra,H' d=Za (.YZ ob (.dK Ra))/\D.nx O (upd H' d (.dK Ra)),rt:=λv H'=>∃ob Ra,H' d=Za (.YZ ob (.dK Ra))/\D.rt v (upd H' d (.dK Ra)),bk:=λO H'=>∃ob Ra,H' d=Za (.YZ ob (.dK Ra))/\D.bk O (upd H' d (.dK Ra)),ct:=λO H'=>∃ob Ra,H' d=Za (.YZ ob (.dK Ra))/\D.ct O (upd H' d (.dK Ra)) }
def MV(h:PS X st tt):PS X st (λD O H=>∃d Ta,H d=Za (.dK Ta)/\tt (ÀK d D) O H):=by
 intro Q9 s O H D I ⟨d,Ta,hd,q⟩;have n3:∀o v,X.Ha0 d≠Za (.YZ o v):=λo v z=>by rw[I.base.ZO d o v z] at hd;grind
 refine Yy (h Q9 s O H _ I q) λfl s1 h1=>?_;cases fl with
 |next=>obtain⟨Š,H1,I1,ob,Ra,e1,q1⟩:=h1;exact⟨Š,_,I1.Ĉ e1 n3,q1⟩
 |brk=>obtain⟨Š,H1,I1,ob,Ra,e1,q1⟩:=h1;exact⟨Š,_,I1.Ĉ e1 n3,q1⟩
 |cont=>obtain⟨Š,H1,I1,ob,Ra,e1,q1⟩:=h1;exact⟨Š,_,I1.Ĉ e1 n3,q1⟩
 |ret u=>obtain⟨v,Š,H1,I1,r1,ob,Ra,e1,q1⟩:=h1;exact⟨v,Š,_,I1.Ĉ e1 n3,r1,q1⟩
def SR.Ŀ{K}{H}{m}{s}{n}{l}(S:SR K CB H m s)(hg:s.get n=Za (.Yr l)):∃vs,H (m.ad n)=Za (.dK vs)/\∀ob,∃m',m'.ad=m.ad/\SR K CB (upd H (m.ad n) (.YZ ob (.dK vs))) m' (s.set n (.Zp l))/\Ext H m s (upd H (m.ad n) (.YZ ob (.dK vs))) m' (s.set n (.Zp l))/\Yf K (upd H (m.ad n) (.YZ ob (.dK vs))) m' (s.set n (.Zp l)) vs l:=by
 obtain⟨e1,vs,h1,r1⟩:=S.get hg;refine⟨vs,h1,λob=>⟨m.ZF n [m.ad n],rfl,?_⟩⟩;have:=S.put (c':=.Zp l) hg (by grind) (upd H (m.ad n) (.YZ ob (.dK vs))) [m.ad n] (λa o h ha=>by rw[e1,ay] at ha;rw[mj ha];exact h) (λa ha=>.inl (by rw[e1];exact ha)) λex=>⟨by show(if n=n then [m.ad n] else m.fp n)=_;rw[Zc rfl];rfl,ob,vs,mv,r1.Yu ex⟩
 exact⟨this.1,this.2,r1.ext this.2⟩
theorem ExtR.trans(a:ExtR H m s H1 m1 s1)(b:ExtR H1 m1 s1 H2 m2 s2):ExtR H m s H2 m2 s2 :=
 ⟨aI a.nx b.nx,λn h=>(b.ad n (ax h a.nx)).trans (a.ad n h),λc u h p=>let⟨h1,p1⟩:=a.pu c u h p;b.pu c u h1 p1,λc x h n p=>b.el c x (a.el c x h n p) n (a.pu c _ (.inl h) p).2⟩
def SR.ϝ{K}{H H1}{m m1}{s s1}{n}{l}(h0:∀l,s.get n≠Za (.Zp l))(hn:n<s.nx)(e:Ext H m s H1 m1 s1)(S:SR K CB H1 m1 s1)(hg:s1.get n=Za (.Zp l)) :
  ∃ob vs,H1 (m.ad n)=Za (.YZ ob (.dK vs))/\∃m2,SR K CB (upd H1 (m.ad n) (.dK vs)) m2 (s1.set n (.Yr l))/\Ext H m s (upd H1 (m.ad n) (.dK vs)) m2 (s1.set n (.Yr l))/\ExtR H1 m1 s1 (upd H1 (m.ad n) (.dK vs)) m2 (s1.set n (.Yr l)):=by
 have ea:=e.ad n hn;have RH:n∈s1.cs.map (·.1):=ar.mpr ⟨_,oy hg,rfl⟩;obtain⟨e1,ob,vs,h1,r1⟩:=S.get hg;rw[ea] at e1 h1;refine⟨ob,vs,h1,m1.ZF n [m.ad n],?_⟩;obtain⟨S2,x2,_⟩:=S.À2 (c':=.Yr l) hg (upd H1 (m.ad n) (.dK vs)) [m.ad n] (λa o h ha=>by rw[e1,ay] at ha;rw[mj ha];exact h) (λa ha=>.inl (by rw[e1];exact ha)) λex=>⟨by show(if n=n then [m.ad n] else m1.fp n)=[m1.ad n];rw[Zc rfl,ea],vs,by show upd H1 (m.ad n) (.dK vs) (m1.ad n)=_;rw[ea];exact mv,r1.Yu ex⟩
 refine⟨S2,⟨⟨e.toExtR.trans x2,λj l' hj h=>?_⟩,e.hd,λa ha o h n0=>?_⟩,x2⟩
 .have Vw:j≠n:=λz=>h0 l' (by rw[<-z];exact h);obtain⟨g1,g2⟩:=e.df j l' hj h;refine⟨(rn Vw).trans g1,λo ho=>?_⟩;obtain⟨e3,_⟩:=S.ok _ (oy g1);have RD:m.ad j≠m.ad n:=λz=>S.dj j (ar.mpr ⟨_,oy g1,rfl⟩) n RH Vw (m1.ad j) (by rw[e3];simp) (by rw[e1,e.ad j hj,z];simp);rw[mj RD];exact g2 o ho
 .have ha':a∈m1.YW:=by rw[e.hd];exact ha
  have RD:a≠m.ad n:=λz=>S.hx n RH a (by rw[e1,z];simp) ha';rw[mj RD];exact e.hk a ha o h n0
def Ϲ(n:Nat)(s:K'):Option K':=match s.get n with
 |some (.Zp l)=>Za (s.set n (.Yr l))
 |_=>Zb
def Db{s:K'}{n:Nat}{c c':Cell}(h:s.get n=Za c):(s.set n c').get n=Za c':=by
 have:∀{l:List (Nat×Cell)},qw l n=Za c->qw (pE n c' l) n=Za c':=by
  intro l;induction l with
  |nil=>rintro⟨⟩
  |cons q r ih =>
   intro h;unfold pE;split
   .unfold qw;rw[Zc rfl]
   .rename_i hk;unfold qw at h ⊢
    simp_all
 exact this h
def Ml{K}{H1}{m1}{s1}{n}{ob}{vs}{l}(S1:SR K CB H1 m1 s1)(hg:s1.get n=Za (.Zp l)){d}(ea:m1.ad n=d)(h1:H1 d=Za (.YZ ob (.dK vs)))(r:Yf K H1 m1 s1 vs l):ql K CB (Itd d ob vs) (l.map λkv=>xn kv.1) H1 m1 s1 :=
 Áw (λH m s ex S=>by have:=(ex.df n l (S1.ÁG hg) hg).2;rw[ea] at this;exact this _ h1) r
def SO.Ĉ(n:Nat):SO->SO
 |.nx Z s=>match Ϲ n s with
  |some s'=>.nx Z s'
  |none=>.bad
 |.rt v s=>match Ϲ n s with
  |some s'=>.rt v s'
  |none=>.bad
 |_=>.bad
def Jf(j:Nat)(y:XG)(body:XS)(Z:En)(s:K'):SO:=match Z[j]? with
 |some (Za (.ref n))=>match s.get n with
  |some (.Yr l)=>(nj (mV y body) (l.map λkv=>xn kv.1) Z (s.set n (.Zp l))).Ĉ n
  |_=>.bad
 |_=>.bad
def NX(j:Nat)(hg:DG X.þ CB tg yy)(hb:ϗ X.þ CB E0 Sl u)(hc:X.calm=true:=by rfl)(hN:X.N[j]?=Za y:=by rfl)(hv:Vis X.env.scope y:=by first|exact eA rfl|exact gJ (eA rfl))(hs:∀x,bL (.Name y py) X.env x=pure x:=by intro _;rfl)(hd:Ò y:=by decide)(R9:(y==("__classdict__":Str))=false:=by decide):DS X CB E (.For tg (.Name y py) Sl [] pos) (Jf j yy u) :=
 ⟨PS.þ ((MV (Gy (X:=X.þ) fD hc (De (DH hN hv hd R9)) hg.pg hb.pss hs)).mono λD O H=>oE λZ s m er S P=>by
  unfold Jf at P;split at P
  .rename_i n İ;split at P
   .rename_i l hg;obtain⟨u0,hu,ru⟩:=er.at_ j _ İ;cases ru with
    |ref hn =>
    obtain⟨vs,h1,hf⟩:=S.Ŀ hg;refine⟨m.ad n,vs,h1,_,hu,m.ad n,vs,rfl,.inl ⟨h1,λob=>?_⟩⟩;obtain⟨m1,ea,S1,e1,r1⟩:=hf ob;have Xo:(s.set n (.Zp l)).get n=Za (.Zp l):=Db hg;have X1:m1.ad n=m.ad n:=by rw[ea]
    have h0:∀l',s.get n≠Za (.Zp l'):=λl' z=>by rw[hg] at z;cases z
    apply Aw S1 (er.ext e1) (Ml S1 Xo X1 mv r1);cases cc:nj (mV yy u) (l.map λkv=>xn kv.1) Z (s.set n (.Zp l)) with
    |nx š s2 =>
     rw[cc] at P;intro Ğ H2 m2 e2 S2 VT;unfold SO.Ĉ Ϲ at P;dsimp only at P;split at P
     .rename_i s3 h3;split at h3<;>cases h3
      rename_i l2 SX;obtain⟨Tt,RM,q1,m3,S3,e3,x3⟩:=SR.ϝ h0 hn (e1.trans e2) S2 SX;exact⟨Tt,RM,q1,P Ğ _ m3 e3 S3 (VT.Yu x3)⟩
     .exact P.elim
    |rt v2 s2 =>
     rw[cc] at P;intro u2 H2 m2 e2 S2 r2;unfold SO.Ĉ Ϲ at P;dsimp only at P;split at P
     .rename_i s3 h3;split at h3<;>cases h3
      rename_i l2 SX;obtain⟨Tt,RM,q1,m3,S3,e3,x3⟩:=SR.ϝ h0 hn (e1.trans e2) S2 SX;exact⟨Tt,RM,q1,P u2 _ m3 e3 S3 (r2.Yu x3)⟩
     .exact P.elim
    |bk=>rw[cc] at P;exact P.elim
    |ct=>rw[cc] at P;exact P.elim
    |ex=>rw[cc] at P;exact P.elim
    |bad=>rw[cc] at P;exact P.elim
   .exact P.elim
  .exact P.elim)⟩
end
def ϰ(H:Hp)(d:ag):Hp:=λb=>if b=d then Zb else H b
def ua(h:a≠d):ϰ H d a=H a:=by unfold ϰ;rw[Zd h]
def E4:ϰ H d d=none:=by unfold ϰ;grind
section
variable{X:Cx}{CB:ag}{E:XK}{a b c e:bc}{f g h:XE}{t:XT}{p px pos:Pos}{x:Str}{u v:XS}{n k:Nat}{ps:List Str}
def SR.ÁE{K}{H}{m}{s}{d}{xs}(S:SR K CB H m s)(hd:H d=Zb):SR K CB (upd H d (.dK xs)) (m.hide d) s:=by
 have k:=My.sL (o:=.dK xs) hd;have S1:=S.same k;have e0:Ext0 H m s (upd H d (.dK xs)) (m.hide d) s:=Ext0.hide hd;have RD:∀n∈s.cs.map (·.1),∀a∈m.fp n,a≠d:=λn hn a ha z=>by
  obtain⟨q,hq,rfl⟩:=ar.mp hn;obtain⟨o,e,_⟩:=(S.ok q hq).kind ha
  grind
 refine⟨S.nd,S.lt,λq hq=>(S.ok q hq).keep S e0.toExtR (λa _ o h=>k a o h) rfl rfl,S.dj,λn hn a ha hb=>(ao.mp hb).elim (RD n hn a ha) (S.hx n hn a ha),λa ha=>?_,λP q t=>⟨ae _ (S1.tb P q t).1,(S1.tb P q t).2⟩⟩;obtain rfl|ha:=ao.mp ha
 .rw[mv];exact⟨by simp,λ_ _=>⟨by simp,by simp,by simp,by simp⟩⟩
 .exact S1.hs a ha
def NI{K}{H H2}{m m2}{s s2}{d}{xs}(S:SR K CB H m s)(hd:H d=Zb)(e:Ext (upd H d (.dK xs)) (m.hide d) s H2 m2 s2)(S2:SR K CB H2 m2 s2) :
  SR K CB (ϰ H2 d) (m2.bare m.YW) s2/\Ext H m s (ϰ H2 d) (m2.bare m.YW) s2/\ExtR H2 m2 s2 (ϰ H2 d) (m2.bare m.YW) s2/\H2 d=Za (.dK xs):=by
 have hh:=e.hd;have RH:d∈m2.YW:=by rw[hh];exact ai
 have hD:=e.hk d ai _ mv (by grind);have tbE:ϱ H2 (ϰ H2 d):=.of λa o h od=>by rw[ua (λz=>by rw[z,hD] at h;cases h;exact Mf od)];exact h
 have x2:ExtR H2 m2 s2 (ϰ H2 d) (m2.bare m.YW) s2:=by have ne:∀a,ĥ m2 s2 a->a≠d:=λa p z=>p.1 (by rw[z];exact RH);refine⟨al _,λ_ _=>rfl,λa u h p=>⟨?_,λz=>p.1 (by rw[hh];exact ae _ z),p.2⟩,λa u h _ p=>by rw[ua (ne a p)];exact h⟩;exact h.elim (λh=>.inl (by rw[ua (ne a p)];exact h)) λ⟨o,h⟩=>.inr ⟨o,by rw[ua (ne a p)];exact h⟩
 have fne:∀n∈s2.cs.map (·.1),∀a∈m2.fp n,a≠d:=λn hn a ha z=>S2.hx n hn a ha (by rw[z];exact RH);have dn:=λz=>(S.hs d z).1 hd;have h2:∀a∈m.YW,a≠d:=λa ha z=>dn (by rw[<-z];exact ha);refine⟨⟨S2.nd,S2.lt,λq hq=>(S2.ok q hq).keep S2 x2 (λa ha o h=>by rw[ua (fne q.1 (ar.mpr ⟨q,hq,rfl⟩) a ha)];exact h) rfl rfl,S2.dj,λn hn a ha hb=>S2.hx n hn a ha (by rw[hh];exact ae _ hb),λa ha=>?_,λP q t=>⟨?_,tbE.2 P q (S2.tb P q t).2⟩⟩,?_,x2,hD⟩
 .rw[ua (h2 a ha)];exact S2.hs a (by rw[hh];exact ae _ ha)
 .obtain⟨h1,ps,h3,_⟩:=S2.tb P q t;rw[hh] at h1;obtain z|z:=ao.mp h1
  .grind
  .exact z
 .have e1:=(Ext0.hide hd).trans e.toExt0;refine⟨⟨e1.toExtR.trans x2,λj l hj h=>⟨(e1.df j l hj h).1,λo ho=>?_⟩⟩,rfl,λa ha o h n0=>?_⟩
  .rw[ua (mG ho hd)];exact(e1.df j l hj h).2 o ho
  .rw[ua (h2 a ha)];exact e.hk a (ae _ ha) o (My.sL hd _ _ h) n0
def ź(f g:XE)(Z:En)(s:K'):Out PV:=match f Z s with
 |.ok v s1=>match g Z s1 with
  |.ok w s2=>match Á v with
   |some k=>.ok (.ref s2.nx) (s2.add (.Yr [(k,w)]))
   |none=>.bad
  |_=>.bad
 |_=>.bad
def Ob(hk:DE X CB E a f)(hv:DE X CB E b g):DE X CB E (.Dict [Za a] [b] pos) (ź f g) :=
 ⟨(Ha (EM hk.pe hv.pe G8) rfl rfl (by simp) (by simp)).mono λO H Q=>oE λZ s m er S P p0 hp=>by
  have e0:Ext0 H m s (upd H p0 (.dK [])) (m.hide p0) s:=Ext0.hide hp;have hm:SR X.K CB (upd H p0 (.dK [])) (m.hide p0) s:=S.ÁE hp;refine⟨Z,s,m.hide p0,er.Yu e0.toExtR,hm,?_⟩;unfold ź at P;cases c1:f Z s with
  |bad=>rw[c1] at P;exact P.elim
  |ex c' s'=>rw[c1] at P;exact P.elim
  |ok v s1 =>
   rw[c1] at P;refine λu1 H1 m1 e1 S1 r1=>⟨Z,s1,m1,(er.Yu e0.toExtR).ext e1,S1,?_⟩;dsimp only at P;cases c2:g Z s1 with
   |bad=>rw[c2] at P;exact P.elim
   |ex c' s'=>rw[c2] at P;exact P.elim
   |ok w s2 =>
    rw[c2] at P;intro u2 H2 m2 e2 S2 r2;dsimp only at P;split at P
    .rename_i k hk;obtain⟨S3,e3,x3,hD⟩:=NI S hp (e1.trans e2) S2;have ek:=qE r1 hk;refine⟨hD,[(k,u2)],by rw[ek];rfl,by simp,?_⟩;have Wi:YQ (ϰ H2 p0) (upd H2 p0 (.dK [(k,u2)])):=λc o h=>by
      have RD:c≠p0:=λz=>by rw[z,E4] at h;cases h
      rw[mj RD];rw[ua RD] at h;exact h
     obtain⟨S4,e4⟩:=S3.newD E4 Wi mv (.cons (r2.Yu x3) .nil);exact P _ _ _ (e3.trans e4) S4 .new
    .exact P.elim⟩
def ġ(t:XT)(f g:XE)(Z:En)(s:K'):Out PV:=(t Z s).bind λb s1=>if b=true then f Z s1 else g Z s1
def GK(hc:DT X CB E c t)(ha:DE X CB E a f)(hb:DE X CB E b g):DE X CB E (.IfExp c a b pos) (ġ t f g) :=
 ⟨(J8 hc.pt ha.pe hb.pe).mono λO H Q=>oE λZ s m er S P=>⟨Z,s,m,er,S,P.bind λv s1 b H1 m1 e1 S1 r1 P1=>by
  cases r1;refine vH (λc=>?_) λc=>?_
  .rw[Zc c] at P1;exact⟨Z,s1,m1,er.ext e1,S1,P1⟩
  .rw[Zd c] at P1;exact⟨Z,s1,m1,er.ext e1,S1,P1⟩⟩⟩
inductive Ty5 where
 |int|bool|str|tuple|list
def Ty5.nm:Ty5->String
 |.int=>"int"|.bool=>"bool"|.str=>"str"|.tuple=>"tuple"|.list=>"list"
inductive Ty7 where
 |int|bool|str|tuple|list|Ym|dict
def Ty7.nm:Ty7->String
 |.int=>"int"|.bool=>"bool"|.str=>"str"|.tuple=>"tuple"|.list=>"list"|.Ym=>"NoneType"|.dict=>"dict"
def Q4:Ty7->Ty5->Bool
 |.int,.int=>true|.bool,.bool=>true|.bool,.int=>true|.str,.str=>true|.tuple,.tuple=>true|.list,.list=>true
 |_,_=>false
def ND(K):∀(t:Ty7)(u:Ty5),aY K (.type t.nm) (.type u.nm)=Za (Q4 t u)
 |.int,.int=>by kernel_rfl
 |.int,.bool=>by kernel_rfl
 |.int,.str=>by kernel_rfl
 |.int,.tuple=>by kernel_rfl
 |.int,.list=>by kernel_rfl
 |.bool,.int=>by kernel_rfl
 |.bool,.bool=>by kernel_rfl
 |.bool,.str=>by kernel_rfl
 |.bool,.tuple=>by kernel_rfl
 |.bool,.list=>by kernel_rfl
 |.str,.int=>by kernel_rfl
 |.str,.bool=>by kernel_rfl
 |.str,.str=>by kernel_rfl
 |.str,.tuple=>by kernel_rfl
 |.str,.list=>by kernel_rfl
 |.tuple,.int=>by kernel_rfl
 |.tuple,.bool=>by kernel_rfl
 |.tuple,.str=>by kernel_rfl
 |.tuple,.tuple=>by kernel_rfl
 |.tuple,.list=>by kernel_rfl
 |.list,.int=>by kernel_rfl
 |.list,.bool=>by kernel_rfl
 |.list,.str=>by kernel_rfl
 |.list,.tuple=>by kernel_rfl
 |.list,.list=>by kernel_rfl
 |.Ym,.int=>by kernel_rfl
 |.Ym,.bool=>by kernel_rfl
 |.Ym,.str=>by kernel_rfl
 |.Ym,.tuple=>by kernel_rfl
 |.Ym,.list=>by kernel_rfl
 |.dict,.int=>by kernel_rfl
 |.dict,.bool=>by kernel_rfl
 |.dict,.str=>by kernel_rfl
 |.dict,.tuple=>by kernel_rfl
 |.dict,.list=>by kernel_rfl
def Á5(s:K'):PV->Option Ty7
 |.int _=>Za .int
 |.bl _=>Za .bool
 |.str _=>Za .str
 |.Ym=>Za .Ym
 |.tup _=>Za .tuple
 |v=>match YI s v with
  |some _=>Za .list
  |none=>Zb
def Ŏ(T:Ty5)(f:XE)(Z:En)(s:K'):Out PV:=(f Z s).bind λv s1=>match Á5 s1 v with
 |some k=>.ok (.bl (Q4 k T)) s1
 |none=>.bad
def Dt(T5:Ty5)(ha:DE X CB E a f)(hx:x=(T5.nm:String):=by rfl)(Vz:Gl X "isinstance":=by rfl)(Vn:X.mg "isinstance"=none:=by exact T.Y6)(hg:Gl X x:=by rfl)(hm:X.mg x=none:=by first|exact T.ϊ|exact T.Ć|exact T.ĵ|exact T.Ė|exact T.Ů)(hv:bu x=Za (.type T5.nm):=by first|exact LV|exact Fe|exact LW|exact Ad|exact Oh)(hn:x≠"__name__":=by decide)(hd:Ò x:=by decide)(hs:aq [a,.Name x px] X.env=(false,eval a X.env)::aq [.Name x px] X.env:=by rfl)(Rp:(bP pos (aq [.Name x px] X.env)).any (·.1)=false:=by rfl):DE X CB E (.Call (.Name "isinstance" p) [a,.Name x px] [] pos) (Ŏ T5 f) :=
 ⟨(oK Fb Vz Vn rP (mI ha.pe (mI (M8 (v:=.ty T5.nm) hg hm hv rfl hn hd) Yi) hs) (Zf rfl) (Zf rfl) hs Rp).mono λO H Q=>oE λZ s m er S P=>⟨Z,s,m,er,S,P.bind λv s1 u H1 m1 e1 S1 r1 P1=>by
  split at P1
  .rename_i k hk;refine⟨u,.ty T5.nm,.type k.nm,Q4 k T5,rfl,.inr ⟨_,rfl⟩,?_,ND _ k T5,P1.here S1 .bl⟩;cases r1 with
   |Ym=>cases hk;exact .inl .Ym
   |bl=>cases hk;exact .inl (.bl _)
   |int=>cases hk;exact .inl (.int _)
   |str=>cases hk;exact .inl (.str _)
   |tup h1 h2=>cases hk;exact .inr (.inr (.inr ⟨_,_,rfl,rfl,h1.elim (λz=>.inl z.1) .inr⟩))
   |lst h1 h2 h3=>cases hk;exact .inr (.inr (.inl ⟨_,_,rfl,rfl,YY.of h1⟩))
   |seq h1 h3=>cases hk;exact .inr (.inr (.inl ⟨_,_,rfl,rfl,h1.elim (λz=>.inl (.inr z.1)) .inr⟩))
   |Yr h1 h2 h3=>cases hk
   |exc h1 h2=>cases hk
   |ŭ h1=>cases hk
   |ref h1 =>
    rename_i n;have hk:(match YI s1 (.ref n) with|some _=>Za Ty7.list|none=>Zb)=Za k:=hk;split at hk<;>cases hk
    rename_i l hl;obtain⟨b,vs,⟨⟩,q,_⟩:=(Rep.ref h1).ls S1 hl;exact .inr (.inr (.inl ⟨_,vs,rfl,rfl,q⟩))
  .exact P1.elim⟩⟩
end
end L2
namespace My
open PySem L2
def top(i:Nat):bN:=PySem.Challenge.pw_wholeowners_k13_ways_through.main.body.getD i (.Pass ⟨0,0,0,0⟩)
structure Yl where
 î:ag
 ė:ag
 ř:ag
 Ã:ag
 Yc:ag
 Yg:ag
 ø:ag
 ï:ag
 Ϭ:ag
 YG:ag
 Ye:ag
 ŗ:ag
 ONE:ag
 YX:ag
 t8:Tok
 t6:Tok
 u8:Tok
 kx:ag->ag->Bool
def ÁY(K:aa)(a:ag)(i j:Int):Prop:=∃(o:Obj)(its:Array af)(n:Nat),K.lookup a=Za o/\o.cls=.type "tuple"/\o.data=.seq its n/\its.size<=aH/\Vals [.int i,.int j] its.toList
structure Txt(K:aa)(mg:Str->Option af)(a:Yl):Prop where
 Zz:mg "len"=Zb
 Àh:mg "range"=Zb
 Ŗ:mg "all"=Zb
 ĵ:mg "int"=Zb
 ú:mg "abs"=Zb
 YU:mg "sorted"=Zb
 Ć:mg "tuple"=Zb
 Ė:mg "list"=Zb
 ϊ:mg "str"=Zb
 Ů:mg "bool"=Zb
 Y6:mg "isinstance"=Zb
 Ài:mg "ValueError"=Zb
 Àn:mg "any"=Zb
 ÂW:mg "set"=Zb
 Àm:mg "max"=Zb
 Ĕ:mg "OwnError"=Za (.ref a.î)
 Ŕ:mg "NoName"=Za (.ref a.ė)
 ſ:mg "Twice"=Za (.ref a.ř)
 õ:mg "TooMany"=Za (.ref a.Ã)
 ĕ:mg "NoHolder"=Za (.ref a.Yc)
 Ĵ:mg "NoHouse"=Za (.ref a.Yg)
 ŕ:mg "NoLoss"=Za (.ref a.ø)
 ĳ:mg "NoShare"=Za (.ref a.ï)
 ϧ:mg "NoText"=Za (.ref a.Ϭ)
 Àg:mg "Whole"=Za (.ref a.YG)
 Ţ:Exc K a.î
 Ϙ:Exc K a.ė
 ϴ:Exc K a.ř
 ĩ:Exc K a.Ã
 ţ:Exc K a.Yc
 ό:Exc K a.Yg
 ϙ:Exc K a.ø
 ϋ:Exc K a.ï
 ē:mg "LONGEST_NAME"=Za (.int 8 a.t8)
 Ē:mg "MOST_PERSONS"=Za (.int 6 a.t6)
 ģ:mg "MOST_HOUSES"=Za (.int 8 a.u8)
 ľ:mg "ZERO"=Za (.ref a.ŗ)
 ÁH:mg "ONE"=Za (.ref a.ONE)
 zero:ÁY K a.ŗ 0 1
 one:ÁY K a.ONE 1 1
 cl:ş K a.Ye
 ZX:Y3 K a.Ye "people"
 ç:Y3 K a.Ye "things_of"
 Đ:Y3 K a.Ye "mark_of"
 đ:Y3 K a.Ye "loss_of"
 Y0:Y3 K a.Ye "held_of"
def Txt.ċ{K}(T:Txt K mg a):RelV (.int 8) (.int 8 a.t8):=⟨_,rfl⟩
def Txt.Ċ{K}(T:Txt K mg a):RelV (.int 6) (.int 6 a.t6):=⟨_,rfl⟩
def Txt.Ģ{K}(T:Txt K mg a):RelV (.int 8) (.int 8 a.u8):=⟨_,rfl⟩
def Txt.ļ{K}(T:Txt K mg a):RelV (.ref a.ŗ) (.ref a.ŗ):=rfl
def Txt.ÀX{K}(T:Txt K mg a):RelV (.ref a.ONE) (.ref a.ONE):=rfl
def ÀF{te:TE}{cap:St}{H:Hp}{Kt:VK}{Kf:Hp->Prop}(h:te cap H Kt):ÀM cap H λb H4=>if b=true then te cap H4 Kt else Kf H4:=by
 show if true=true then te cap H Kt else Kf H
 grind
def BV(c):(!decide ((⟨#[c]⟩:Str).cps.toList<(b7 "a").cps.toList))=decide (97<=c):=by show(!decide ([c]<[97]))=decide (97<=c);rw[ci];simp[k6]
def HX(c):(!decide ((b7 "z").cps.toList<(⟨#[c]⟩:Str).cps.toList))=decide (c<=122):=by show(!decide ([122]<[c]))=decide (c<=122);rw[ci];simp[k6]
def AK{x:Str}{i c:Nat}{g:Nat->V}(hc:x.cps[i]?=Za c):(x.cps.toList.take i).map g++[g c]=(x.cps.toList.take (i+1)).map g:=by
 have hc:x.cps.toList[i]?=Za c:=by simpa using hc
 rw[d6,hc,aA];rfl
section
variable{P:aL}{w:aX}{K:aa}{mg:Str->Option af}{base:bi}{a:Yl}{f:ag}{fd:cj}
abbrev vk:bN:=top 37
def FE:N' ["text"] ["text"] (mw vk):=Zr
noncomputable def low(c:Nat):Bool:=decide (97<=c)&&decide (c<=122)
def yh(x:Str):Bool:=decide (1<=x.length)&&decide (x.length<=8)&&x.cps.toList.all low
def zj:Sp:=λvs H Q _=>∃x,vs=[.str x]/\Nm x/\∀H',YQ H H'->Q (.bl (yh x)) H'
def FN(F:Î K "is_name" "is_name" vk f fd)(T:Txt K mg a):YD P w K mg base (Y7 P w) 1 f fd ["text"] zj:=by
 refine F.okN FE (λvs H Q E h=>?_) (λRk A outer s H vs Q E hr h=>?_)
 .obtain⟨x,rfl,_⟩:=h;rfl
 .obtain⟨x,rfl,nm,k⟩:=h;have hu:=qN hr;refine⟨_,(@mW _ _ _ (@rL _ _ _ _ (@Ll _ _ _ _ _ _ _ (ES OL OL YR (@oK _ _ _ _ _ _ _ _ _ ì rfl T.Zz D2 (@mI _ _ _ _ _ (pv 0) Yi rfl) (Zf rfl) (Zf rfl) rfl rfl) (qB rfl T.ē T.ċ)) (@GA _ _ _ _ _ (@oK _ _ _ _ _ _ _ _ _ Fc rfl T.Ŗ LX (@mI _ _ _ _ _ (zu (fr:=[]) (ix:=[]) rfl ((show ZQ ["text"] (mw vk) _ _ _ _ from⟨rfl,by decide +kernel,rfl,by decide +kernel,by decide +kernel,by decide +kernel,by decide +kernel,by decide +kernel,rfl⟩)) (PD (pv 0)) (λ_ _ _ _ _=>As) (λ_ _ _ _ _=>(ES BZ BZ ñ (pv 0) ñ))) Yi rfl) (Zf rfl) (Zf rfl) rfl rfl))))),?_⟩;have Re:x.length<=aH:=aI nm.1 (Zf rfl);refine⟨_,rfl,_,rfl,Re,_,_,rfl,rfl,_,rfl,vH (λh=>?_) (λh=>?_)⟩
  .have h1:(1:Int)<=(x.length:Int):=Zf h;refine⟨_,_,rfl,rfl,_,rfl,vH (λh=>?_) (λh=>?_)⟩
   .have h2:(x.length:Int)<=8:=Zf h;refine⟨_,rfl,x,rfl,λD hD=>?_⟩;refine HD (J:=Its x) x.cps.size (λi ys H'=>H'=upd H D (.lst ys)/\ys=(x.cps.toList.take i).map λc=>V.bl (low c)) ⟨rfl,rfl⟩ Re (λi ys H' r=>by rw[r.1];exact mv) (λi ys H' hi _=>hi) ?_ ?_
    .rintro i ys H' v H'' hi ⟨rfl,rfl⟩ ⟨rfl,c,hc,rfl⟩ Kt Kf k1 k2
     have Rx:∀b,b=low c->Kt (V.bl b) (upd H D (.lst ((x.cps.toList.take i).map λc=>V.bl (low c)))):=λb hb=>by refine k1 _ _ mv ⟨by rw[wZ],?_⟩;rw[hb,AK hc]
     refine ÀF ⟨_,rfl,_,_,rfl,rfl,_,rfl,vH (λh=>?_) (λh=>?_)⟩
     .refine⟨_,_,rfl,rfl,Rx _ ?_⟩;rw[BV] at h;rw[HX];unfold low;rw[h,iT]
     .apply Rx _;rw[BV] at h;unfold low;rw[gG.mpr h,iE]
    .rintro ys H' hl ⟨rfl,rfl⟩
     have e:List.take x.cps.size x.cps.toList=x.cps.toList:=kL (by simp);rw[e];refine⟨al _,D,x.cps.toList.map low,rfl,YY.of (by rw[mv,aE];rfl),rfl,?_⟩;have e2:(x.cps.toList.map low).all id=yh x:=by
      have h1:1<=x.length:=by lia
      have h2:x.length<=8:=by lia
      unfold yh;rw[Zg h1,Zg h2,List.all_map,iT,iT];rfl
     rw[e2];exact k _ (sL hD)
   .have h2:¬x.length<=8:=λz=>h (Zg (by lia));have e2:false=yh x:=by unfold yh;rw[Zh h2,Bool.and_false,iE]
    show Q (.bl false) H;rw[e2];exact k _ λ_ _ z=>z
  .have h2:¬ 1<=x.length:=λz=>h (Zg (by lia));have e2:false=yh x:=by unfold yh;rw[Zh h2,iE,iE]
   refine⟨_,rfl,NH ?_⟩;show Q (.bl false) H;rw[e2];exact k _ λ_ _ z=>z
abbrev uk:bN:=top 38
def CA:N' ["number"] ["number"] (mw uk):=Zr
def wn(a:Yl):Sp:=λvs H Q E=>∃n,vs=[.int n]/\(n<0->E (.ref a.ø) Zb H)/\(0<=n->Q .Ym H)
def CN(F:Î K "need_loss" "need_loss" uk f fd)(T:Txt K mg a):YD P w K mg base (Y7 P w) 1 f fd ["number"] (wn a):=by
 refine F.okX CA (λvs H Q E h=>?_) (λRk A outer s H vs Q E hr h=>?_)
 .obtain⟨x,rfl,_⟩:=h;rfl
 .obtain⟨n,rfl,k1,k2⟩:=h;refine⟨_,(@mW _ _ _ (@wQ _ _ _ _ _ _ _ _ (@vz _ _ _ _ _ _ _ _ OK (pv 0) YR (vC _)) (@mW _ _ _ (qA T.ϙ rfl T.ŕ rfl ñ zF)) Zv)),?_⟩;refine⟨_,rfl,_,_,rfl,rfl,_,rfl,vH (λh=>?_) (λh=>?_)⟩
  .exact k1 (Zf h)
  .exact k2 (Int.not_lt.mp λz=>h (Zg z))
abbrev uz:bN:=oS (top 39) 0
def CL:N' ["self"] ["self"] (mw uz):=Zr
def JV(dp dt dm dl dh dx):Ze "held_of" (.ref dh) (Ze "loss_of" (.ref dl) (Ze "mark_of" (.ref dm) (Ze "things_of" (.ref dt) (Ze "people" (.ref dp) []))))=bf ⟨dx,dp,dt,dm,dl,dh⟩:=by simp[Ze];rfl
structure ķ(C:ag)(H0 H:Hp)(p dx:ag)(fs:List (Str×V))(ds:List ag):Prop where
 ob:H p=Za (.ins C dx fs)
 dd:∀c∈ds,H c=Za (.dK [])
 fr:∀c∈ds,H0 c=Zb
 nd:(p::ds).Nodup
 kp:∀c o,H0 c=Za o->c≠p->H c=Za o
 len:fs.length<=ds.length
def ķ.at_(I:ķ C H0 H p dx fs ds)(h:H d=Zb):(upd H d (.dK [])) p=Za (.ins C dx fs):=by rw[mj (mG I.ob h)];exact I.ob
def ķ.step{C}{H0 H}{p dx d}{fs}{ds}{f}(I:ķ C H0 H p dx fs ds)(h:H d=Zb) :
  ķ C H0 (upd (upd H d (.dK [])) p (.ins C dx (Ze f (.ref d) fs))) p dx (Ze f (.ref d) fs) (ds++[d]):=by
 have n1:=mG I.ob h;obtain⟨m1,m2⟩:=aM.mp I.nd;have m3:d∉ds:=λz=>by rw[I.dd d z] at h;grind
 refine⟨mv,λc hc=>?_,λc hc=>?_,?_,λc o e hc=>?_,?_⟩
 .obtain hc|hc:=aW.mp hc
  .have c1:c≠p:=λz=>m1 (by grind);have c2:c≠d:=λz=>m3 (by grind);rw[mj c1,mj c2];exact I.dd c hc
  .rw[ay.mp hc,mj n1.symm,mv]
 .obtain hc|hc:=aW.mp hc
  .exact I.fr c hc
  .rw[ay.mp hc];cases q:H0 d with
   |none=>rfl
   |some o=>rw[I.kp d o q n1.symm] at h;grind
 .refine aM.mpr ⟨λz=>?_,zC m2 m3⟩
  grind
 .rw[mj hc,mj (λz=>by rw[z] at e;rw[I.kp d o e (z▸hc)] at h;grind)];exact I.kp c o e hc
 .rw[aT];exact aI (uB _ _ _) (Nat.add_le_add_right I.len 1)
def ME(K:aa)(C:ag):Sp:=λvs H Q _=>∃(p dx:ag),vs=[.ref p]/\H p=Za (.ins C dx [])/\∀z H',(∀c∈[z.dp,z.dt,z.dm,z.dl,z.dh],H c=Zb)->Yx K C H' p z [] []->(∀c o,H c=Za o->c≠p->H' c=Za o)->Q .Ym H'
def Nq(F:Î K "__init__" "Book.__init__" uz f fd)(T:Txt K mg a):YD P w K mg base (Y7 P w) 1 f fd ["self"] (ME K a.Ye):=by
 refine F.okN CL (λvs H Q E h=>?_) (λRk A outer s H vs Q E hr h=>?_)
 .obtain⟨p,dx,rfl,_⟩:=h;rfl
 .obtain⟨p,dx,rfl,hp,k⟩:=h;have hu:=qN hr;refine⟨_,(@mQ _ _ _ _ _ (yH (pv 0) ZU rfl) (@mQ _ _ _ _ _ (yH (pv 0) ZU rfl) (@mQ _ _ _ _ _ (yH (pv 0) ZU rfl) (@mQ _ _ _ _ _ (yH (pv 0) ZU rfl) (@mW _ _ _ (yH (pv 0) ZU rfl)))))),?_⟩;have I0:ķ a.Ye H H p dx [] []:=⟨hp,by simp,by simp,by simp,λc o e _=>e,al _⟩;refine λdp h1=>⟨_,rfl,p,_,dx,_,rfl,I0.at_ h1,T.cl,T.ZX,aZ I0.len (show 0<1000 by decide),?_⟩;have I1:=I0.step (f:="people") h1;refine λdt h2=>⟨_,rfl,p,_,dx,_,rfl,I1.at_ h2,T.cl,T.ç,aZ I1.len (show 1<1000 by decide),?_⟩;have I2:=I1.step (f:="things_of") h2;refine λdm h3=>⟨_,rfl,p,_,dx,_,rfl,I2.at_ h3,T.cl,T.Đ,aZ I2.len (show 2<1000 by decide),?_⟩;have I3:=I2.step (f:="mark_of") h3;refine λdl h4=>⟨_,rfl,p,_,dx,_,rfl,I3.at_ h4,T.cl,T.đ,aZ I3.len (show 3<1000 by decide),?_⟩;have I4:=I3.step (f:="loss_of") h4;refine λdh h5=>⟨_,rfl,p,_,dx,_,rfl,I4.at_ h5,T.cl,T.Y0,aZ I4.len (show 4<1000 by decide),?_⟩;have I5:=I4.step (f:="held_of") h5;refine k ⟨dx,dp,dt,dm,dl,dh⟩ _ (λc hc=>I5.fr c (by simpa using hc)) ⟨?_,I5.dd dp (by simp),I5.dd dt (by simp),I5.dd dm (by simp),I5.dd dl (by simp),⟨[],I5.dd dh (by simp),.nil,iC⟩,λe he=>(by cases he),I5.nd,a6 _,a6 _⟩ I5.kp;rw[<-JV];exact I5.ob
abbrev qy:bN:=oS (top 39) 1
def xf:N' ["self","name"] ["self","name"] (mw qy):=Zr
def uj(K:aa)(C:ag):Sp:=λvs H Q _=>∃b z Rf L x,vs=[.ref b,.str x]/\Yx K C H b z Rf L/\Q (.bl (qL L x)) H
def Ed(F:Î K "is_house" "Book.is_house" qy f fd)(T:Txt K mg a):YD P w K mg base (Y7 P w) 1 f fd ["self","name"] (uj K a.Ye):=by
 refine F.okN xf (λvs H Q E h=>?_) (λRk A outer s H vs Q E hr h=>?_)
 .obtain⟨b,z,Rf,L,x,rfl,_⟩:=h;rfl
 .obtain⟨b,z,Rf,L,x,rfl,B,k⟩:=h;have hu:=qN hr;refine⟨_,(@mW _ _ _ (@rL _ _ _ _ (Lk (Lm hu (pv 1) (qg (pv 0) rfl))))),?_⟩;refine⟨_,rfl,_,rfl,b,_,_,_,_,rfl,B.ob,T.cl,T.Y0,vN z,_,_,rfl,B.hh.ÀC x,?_⟩;rw[rY,dS];exact k
abbrev pX:bN:=oS (top 39) 2
def wj:N' ["self","name"] ["self","name"] (mw pX):=Zr
def sT(K:aa)(C:ag):Sp:=λvs H Q _=>∃b z Rf L x,vs=[.ref b,.str x]/\Yx K C H b z Rf L/\Q (.bl (oJ Rf x||qL L x)) H
def CO(F:Î K "is_holder" "Book.is_holder" pX f fd)(T:Txt K mg a)(RQ:Mt P w K mg base a.Ye "is_house" 1 ["self","name"] (uj K a.Ye)):YD P w K mg base (Y7 P w) 2 f fd ["self","name"] (sT K a.Ye):=by
 refine F.okN wj (λvs H Q E h=>?_) (λRk A outer s H vs Q E hr h=>?_)
 .obtain⟨b,z,Rf,L,x,rfl,_⟩:=h;rfl
 .obtain⟨b,z,Rf,L,x,rfl,B,k⟩:=h;have hu:=qN hr;refine⟨_,(@mW _ _ _ (@rL _ _ _ _ (@À4 _ _ _ _ _ _ _ (Lk (Lm hu (pv 1) (qg (pv 0) rfl))) (@GA _ _ _ _ _ (vm (pv 0) RQ (hr.mono (by grind)) sN (@mI _ _ _ _ _ (pv 1) Yi rfl)))))),?_⟩;refine⟨_,rfl,_,rfl,b,_,_,_,_,rfl,B.ob,T.cl,T.ZX,vv z,_,_,rfl,Zs.k (k:=ap x) B.pp,_,rfl,vH (λh=>?_) (λh=>?_)⟩
  .rw[rY,dS] at h;unfold oJ at k
   simp_all
  .rw[rY,dS] at h;unfold oJ at k;rw[gG.mpr h] at k;exact⟨_,rfl,b,_,_,rfl,B.ob,vw z,_,rfl,b,z,Rf,L,x,rfl,B,k⟩
abbrev pH:bN:=oS (top 39) 3
def vP:N' ["self","name"] ["self","name"] (mw pH):=Zr
def qd(K:aa)(a:Yl):Sp:=λvs H Q E=>∃b z Rf L x,vs=[.ref b,.str x]/\Yx K a.Ye H b z Rf L/\Nm x/\(qL L x=true->Q .Ym H)/\(qL L x=false->E (.ref a.Yg) Zb H)
def Ba(F:Î K "need_house" "Book.need_house" pH f fd)(T:Txt K mg a)(RQ:Mt P w K mg base a.Ye "is_house" 1 ["self","name"] (uj K a.Ye)):YD P w K mg base (Y7 P w) 2 f fd ["self","name"] (qd K a):=by
 refine F.okX vP (λvs H Q E h=>?_) (λRk A outer s H vs Q E hr h=>?_)
 .obtain⟨b,z,Rf,L,x,rfl,_⟩:=h;rfl
 .obtain⟨b,z,Rf,L,x,rfl,B,nm,k1,k2⟩:=h;refine⟨_,(@mW _ _ _ (@wQ _ _ _ _ _ _ _ _ (AX (wz (vm (pv 0) RQ (hr.mono (by grind)) pR (@mI _ _ _ _ _ (pv 1) Yi rfl)))) (@mW _ _ _ (qA T.ό rfl T.Ĵ rfl (FJ (AY (yI (pv 1) AZ))) zF)) Zv)),?_⟩;refine⟨_,rfl,b,_,_,rfl,B.ob,vw z,_,rfl,b,z,Rf,L,x,rfl,B,_,rfl,vH (λh=>?_) (λh=>?_)⟩
  .exact⟨_,rfl,⟨x,rfl,nm⟩,λy=>k2 (nbT h)⟩
  .exact k1 (nbF h)
abbrev o8:bN:=oS (top 39) 4
def uS:N' ["self","name"] ["self","name"] (mw o8):=Zr
def pI(K:aa)(a:Yl):Sp:=λvs H Q E=>∃b z Rf L x,vs=[.ref b,.str x]/\Yx K a.Ye H b z Rf L/\Nm x/\((oJ Rf x||qL L x)=true->Q .Ym H)/\((oJ Rf x||qL L x)=false->E (.ref a.Yc) Zb H)
def yZ(F:Î K "need_holder" "Book.need_holder" o8 f fd)(T:Txt K mg a)(RJ:Mt P w K mg base a.Ye "is_holder" 2 ["self","name"] (sT K a.Ye)):YD P w K mg base (Y7 P w) 3 f fd ["self","name"] (pI K a):=by
 refine F.okX uS (λvs H Q E h=>?_) (λRk A outer s H vs Q E hr h=>?_)
 .obtain⟨b,z,Rf,L,x,rfl,_⟩:=h;rfl
 .obtain⟨b,z,Rf,L,x,rfl,B,nm,k1,k2⟩:=h;refine⟨_,(@mW _ _ _ (@wQ _ _ _ _ _ _ _ _ (AX (wz (vm (pv 0) RJ (hr.mono (by grind)) pR (@mI _ _ _ _ _ (pv 1) Yi rfl)))) (@mW _ _ _ (qA T.ţ rfl T.ĕ rfl (FJ (AY (yI (pv 1) AZ))) zF)) Zv)),?_⟩;refine⟨_,rfl,b,_,_,rfl,B.ob,vw z,_,rfl,b,z,Rf,L,x,rfl,B,_,rfl,vH (λh=>?_) (λh=>?_)⟩
  .exact⟨_,rfl,⟨x,rfl,nm⟩,λy=>k2 (nbT h)⟩
  .exact k1 (nbF h)
abbrev oM:bN:=oS (top 39) 5
def tV:N' ["self","name"] ["self","name"] (mw oM):=Zr
def rM(a:Yl)(Rf:List Str)(L:List (Ent×ag))(x:Str):Option ag:=if yh x=false then Za a.ė else if(oJ Rf x||qL L x)=true then Za a.ř else Zb
def uh(K:aa)(a:Yl):Sp:=λvs H Q E=>∃b z Rf L x,vs=[.ref b,.str x]/\Yx K a.Ye H b z Rf L/\Nm x/\(rM a Rf L x=Zb->∀H',YQ H H'->Q .Ym H')/\(∀c,rM a Rf L x=Za c->∀H',YQ H H'->E (.ref c) Zb H')
def Ec(F:Î K "need_new_name" "Book.need_new_name" oM f fd)(T:Txt K mg a)(SV:Fn P w K mg base "is_name" 1 ["text"] zj)(RJ:Mt P w K mg base a.Ye "is_holder" 2 ["self","name"] (sT K a.Ye)):YD P w K mg base (Y7 P w) 3 f fd ["self","name"] (uh K a):=by
 refine F.okX tV (λvs H Q E h=>?_) (λRk A outer s H vs Q E hr h=>?_)
 .obtain⟨b,z,Rf,L,x,rfl,_⟩:=h;rfl
 .obtain⟨b,z,Rf,L,x,rfl,B,nm,k1,k2⟩:=h;have hu:=qN hr;refine⟨_,(@mQ _ _ _ _ _ (@wQ _ _ _ _ _ _ _ _ (AX (wz (@wR _ _ _ _ _ _ _ _ _ _ _ SV (hr.mono (by first|decide|lia)) rfl pR (@mI _ _ _ _ _ (pv 1) Yi rfl) (Zf rfl) rfl rfl))) (@mW _ _ _ (qA T.Ϙ rfl T.Ŕ rfl (FJ (AY (yI (pv 1) AZ))) zF)) Zv) (@mW _ _ _ (@wQ _ _ _ _ _ _ _ _ (wz (vm (pv 0) RJ (hr.mono (by first|decide|lia)) pR (@mI _ _ _ _ _ (pv 1) Yi rfl))) (@mW _ _ _ (qA T.ϴ rfl T.ſ rfl (FJ (AY (yI (pv 1) AZ))) zF)) Zv))),?_⟩;refine⟨_,rfl,x,rfl,nm,λH1 s1=>⟨_,rfl,vH (λh=>?_) (λh=>?_)⟩⟩
  .refine⟨_,rfl,⟨x,rfl,nm⟩,λy=>k2 _ ?_ H1 s1⟩;have h:=nbT h;unfold rM;rw[Zc h]
  .have h:=nbF h;have B1:=B.same s1;refine⟨_,rfl,b,_,_,rfl,B1.ob,vw z,_,rfl,b,z,Rf,L,x,rfl,B1,_,rfl,vH (λh2=>?_) (λh2=>?_)⟩
   .refine⟨_,rfl,⟨x,rfl,nm⟩,λy=>k2 _ ?_ H1 s1⟩;unfold rM;rw[Zd (by rw[h];decide),Zc h2]
   .refine k1 ?_ H1 s1;unfold rM;rw[Zd (by rw[h];decide),Zd h2]
end
mutual
inductive D where
 |i (n:Int)
 |s (x:Str)
 |l (xs:DL)
 |t (xs:DL)
inductive DL where
 |nil
 |cons (x:D) (xs:DL)
end
mutual
def DAt(K:aa)(H:Hp):D->V->Prop
 |.i n,v=>v=.int n
 |.s x,v=>v=.str x
 |.l xs,v=>∃a vs,v=.ref a/\YY K H a vs/\Ŋ K H xs vs
 |.t xs,v=>∃a vs,v=.ref a/\ZK K H a vs/\Ŋ K H xs vs
def Ŋ(K:aa)(H:Hp):DL->List V->Prop
 |.nil,vs=>vs=[]
 |.cons x xs,vs=>∃v r,vs=v::r/\DAt K H x v/\Ŋ K H xs r
end
def JR{K}(s:YQ H H')(h:YY K H a xs):YY K H' a xs:=YQ.seq s h
def EG{K}(s:YQ H H')(h:ZK K H a xs):ZK K H' a xs:=vy h λc o e _=>s c o e
mutual
theorem DAt.same{K}(s:YQ H H'):∀(d:D)(v:V),DAt K H d v->DAt K H' d v
 |.i n,v,h=>h
 |.s x,v,h=>h
 |.l xs,v,h=>by
  obtain⟨a,vs,e,q,r⟩:=h;exact⟨a,vs,e,JR s q,Ŋ.same s xs vs r⟩
 |.t xs,v,h=>by obtain⟨a,vs,e,q,r⟩:=h;exact⟨a,vs,e,EG s q,Ŋ.same s xs vs r⟩
theorem Ŋ.same{K}(s:YQ H H'):∀(d:DL)(vs:List V),Ŋ K H d vs->Ŋ K H' d vs
 |.nil,vs,h=>h
 |.cons x xs,vs,h=>by obtain⟨v,r,e,h1,h2⟩:=h;exact⟨v,r,e,DAt.same s x v h1,Ŋ.same s xs r h2⟩
end
noncomputable def nc(l:List (Str×Int×Int))(n:Str):Str×Int×Int:=(l.find? λq=>decide (q.1=n)).getD (n,0,1)
def pJ(L:List (Ent×ag))(n:Str):Option (Ent×ag):=L.find? λe=>decide (e.1.nm=n)
def sF(h:pJ L n=Za e):e∈L:=List.mem_of_find?_eq_some h
section
variable{P:aL}{w:aX}{K:aa}{mg:Str->Option af}{base:bi}{a:Yl}{f:ag}{fd:cj}
abbrev rJ:bN:=oS (top 39) 6
def yW:N' ["self","name"] ["self","name"] (mw rJ):=Zr
def vA(a:Yl)(Rf:List Str)(L:List (Ent×ag))(x:Str):Option ag:=match rM a Rf L x with
 |some c=>Za c
 |none=>if 6<=Rf.length then Za a.Ã else Zb
def BS(K:aa)(a:Yl):Sp:=λvs H Q E=>∃b z Rf L x,vs=[.ref b,.str x]/\Yx K a.Ye H b z Rf L/\Nm x /\
 (vA a Rf L x=Zb->∀H',Yx K a.Ye H' b z (Rf++[x]) L->(∀c o,H c=Za o->c≠z.dp->H' c=Za o)->Q .Ym H')/\(∀c,vA a Rf L x=Za c->∀H',YQ H H'->E (.ref c) Zb H')
def yf(h:rM a Rf L x=Zb):yh x=true/\oJ Rf x=false/\qL L x=false:=by
 unfold rM at h
 grind
def Ir(F:Î K "person" "Book.person" rJ f fd)(T:Txt K mg a)(Rt:Mt P w K mg base a.Ye "need_new_name" 3 ["self","name"] (uh K a)):YD P w K mg base (Y7 P w) 4 f fd ["self","name"] (BS K a):=by
 refine F.okX yW (λvs H Q E h=>?_) (λRk A outer s H vs Q E hr h=>?_)
 .obtain⟨b,z,Rf,L,x,rfl,_⟩:=h;rfl
 .obtain⟨b,z,Rf,L,x,rfl,B,nm,k1,k2⟩:=h;have hu:=qN hr;refine⟨_,(@mQ _ _ _ _ _ (@pY _ _ _ _ (vm (pv 0) Rt (hr.mono (by first|decide|lia)) pR (@mI _ _ _ _ _ (pv 1) Yi rfl)) rfl) (@mQ _ _ _ _ _ (@wQ _ _ _ _ _ _ _ _ (@vz _ _ _ _ _ _ _ _ Mc (@oK _ _ _ _ _ _ _ _ _ Cr rfl T.Zz D2 (@mI _ _ _ _ _ (qg (pv 0) rfl) Yi rfl) (Zf rfl) (Zf rfl) rfl rfl) (qB rfl T.Ē T.Ċ) (vC _)) (@mW _ _ _ (qA T.ĩ rfl T.õ rfl ñ zF)) Zv) (@mW _ _ _ (sd hu (qg (pv 0) rfl) (pv 1) Àk rfl)))),?_⟩;refine⟨_,rfl,b,_,_,rfl,B.ob,vw z,_,rfl,b,z,Rf,L,x,rfl,B,nm,λhd H1 s1=>?_,λc hc H1 s1=>?_⟩
  .have B1:=B.same s1;refine⟨_,rfl,b,_,_,_,_,rfl,B1.ob,T.cl,T.ZX,vv z,_,_,rfl,B1.pp,_,_,rfl,rfl,_,rfl,vH (λh=>?_) (λh=>?_)⟩
   .refine k2 _ ?_ H1 s1;unfold vA
    grind
   .have h:¬(6:Int)<=((Rf.map λn=>((ap n:Key),V.bl true)).length:Int):=λz=>h (Zg z);rw[ac] at h;have hl:Rf.length<6:=by lia
    have SU:pB (Rf.map λn=>((ap n:Key),V.bl true)) (ap x)=none:=by rw[rY (key:=λn=>n)];have:=(yf hd).2.1;unfold oJ at this;rw[kl];exact fZ.mp this |> gg.mp
    refine⟨_,rfl,b,_,_,_,_,rfl,B1.ob,T.cl,T.ZX,vv z,_,rfl,_,_,rfl,ß.k (k:=ap x) B1.pp (by rw[ac];exact ax hl (Zf rfl)),?_⟩;have Ux:vA a Rf L x=none:=by unfold vA;rw[hd];exact Zd (by lia)
    refine k1 Ux _ ?_ λc o e hc=>by rw[mj hc];exact s1 c o e
    obtain⟨hb,Vl⟩:=aM.mp B1.nd;obtain⟨hp,hr2⟩:=aM.mp Vl;have ne:∀c,c∈z.dt::z.dm::z.dl::z.dh::L.map (·.2)->c≠z.dp:=λc hc e=>hp (e▸hc);refine⟨?_,?_,?_,?_,?_,?_,λe he=>?_,B1.nd,by rw[aT];simp;lia,B1.h8⟩
    .rw[mj (λe=>hb (by rw[e];simp))];exact B1.ob
    .rw[mv,uU _ SU,aA];rfl
    .rw[mj (ne _ (by simp))];exact B1.tt
    .rw[mj (ne _ (by simp))];exact B1.mm
    .rw[mj (ne _ (by simp))];exact B1.ll
    .exact B1.hh.keep λo h=>by rw[mj (ne _ (by simp))];exact h
    .refine(B1.he e he).keep (λo h=>?_) λc o h x=>?_
     .rw[mj (ne _ (by simp only[ao];right;right;right;right;exact ar.mpr ⟨e,he,rfl⟩))];exact h
     .rw[mj (FQ h B1.pp (by rcases x with⟨xs,rfl|⟨ob,rfl⟩⟩<;>intro z<;>cases z))];exact h
  .refine k2 c ?_ H1 s1;unfold vA;rw[hc]
abbrev tu:bN:=oS (top 39) 7
def AW:N' ["self","name","owner","things","mark","loss"] ["self","name","owner","things","mark","loss"] (mw tu):=Zr
def sP(a:Yl)(Rf:List Str)(L:List (Ent×ag))(x o:Str)(l:Int):Option ag:=match rM a Rf L x with
 |some c=>Za c
 |none=>if(oJ Rf o||qL L o)=false then Za a.Yc else if l<0 then Za a.ø else if 8<=L.length then Za a.Ã else Zb
def ED(K:aa)(a:Yl):Sp:=λvs H Q E=>∃b z Rf L x o t m l,vs=[.ref b,.str x,.str o,.int t,.int m,.int l]/\Yx K a.Ye H b z Rf L/\Nm x/\Nm o /\
 (sP a Rf L x o l=Zb->∀p H',H p=Zb->Yx K a.Ye H' b z Rf (L++[(⟨x,t,m,l,[(o,1,1)]⟩,p)])->(∀c u,H c=Za u->c∉[z.dt,z.dm,z.dl,z.dh]->H' c=Za u)->Q .Ym H')/\(∀c,sP a Rf L x o l=Za c->∀H',YQ H H'->E (.ref c) Zb H')
def qr(v:Ent×ag->V)(h:qL L x=false):pB (L.map λe=>((ap e.1.nm:Key),v e)) (ap x)=none:=by rw[rY];rw[kl];exact fZ.mp h |> gg.mp
def Kc(F:Î K "house" "Book.house" tu f fd)(T:Txt K mg a)(Rt:Mt P w K mg base a.Ye "need_new_name" 3 ["self","name"] (uh K a))(Ro:Mt P w K mg base a.Ye "need_holder" 3 ["self","name"] (pI K a))(Ss:Fn P w K mg base "need_loss" 1 ["number"] (wn a)):YD P w K mg base (Y7 P w) 4 f fd ["self","name","owner","things","mark","loss"] (ED K a):=by
 refine F.okX AW (λvs H Q E h=>?_) (λRk A outer s H vs Q E hr h=>?_)
 .obtain⟨b,z,Rf,L,x,o,t,m,l,rfl,_⟩:=h;rfl
 .obtain⟨b,z,Rf,L,x,o,t,m,l,rfl,B,nm,no,k1,k2⟩:=h;have hu:=qN hr;refine⟨_,(@mQ _ _ _ _ _ (@pY _ _ _ _ (vm (pv 0) Rt (hr.mono (by first|decide|lia)) pR (@mI _ _ _ _ _ (pv 1) Yi (by rfl))) (by rfl)) (@mQ _ _ _ _ _ (@pY _ _ _ _ (vm (pv 0) Ro (hr.mono (by first|decide|lia)) pR (@mI _ _ _ _ _ (pv 2) Yi (by rfl))) (by rfl)) (@mQ _ _ _ _ _ (@pY _ _ _ _ (@wR _ _ _ _ _ _ _ _ _ _ _ Ss (hr.mono (by first|decide|lia)) rfl pR (@mI _ _ _ _ _ (pv 5) Yi (by rfl)) (by decide) (by rfl) (by rfl)) (by rfl)) (@mQ _ _ _ _ _ (@wQ _ _ _ _ _ _ _ _ (@vz _ _ _ _ _ _ _ _ Mc (@oK _ _ _ _ _ _ _ _ _ Cr rfl T.Zz D2 (@mI _ _ _ _ _ (qg (pv 0) rfl) Yi (by rfl)) (by decide) (by decide) (by rfl) (by rfl)) (qB rfl T.ģ T.Ģ) (vC _)) (@mW _ _ _ (qA T.ĩ rfl T.õ rfl ñ zF)) Zv) (@mQ _ _ _ _ _ (sd hu (qg (pv 0) rfl) (pv 1) (pv 3) rfl) (@mQ _ _ _ _ _ (sd hu (qg (pv 0) rfl) (pv 1) (pv 4) rfl) (@mQ _ _ _ _ _ (sd hu (qg (pv 0) rfl) (pv 1) (pv 5) rfl) (@mW _ _ _ (sd hu (qg (pv 0) rfl) (pv 1) (Ha (EM (pv 2) (qB rfl T.ÁH T.ÀX) G8) rfl rfl (by decide) (by decide)) rfl))))))))),?_⟩;refine⟨_,rfl,b,_,_,rfl,B.ob,vw z,_,rfl,b,z,Rf,L,x,rfl,B,nm,λhd H1 s1=>?_,λc hc H1 s1=>?_⟩
  .have B1:=B.same s1;refine⟨_,rfl,b,_,_,rfl,B1.ob,vw z,_,rfl,b,z,Rf,L,o,rfl,B1,no,λho=>?_,λho=>?_⟩
   .refine⟨_,rfl,l,rfl,λhl=>?_,λhl=>?_⟩
    .refine k2 _ ?_ H1 s1;unfold sP;rw[hd];show(if(oJ Rf o||qL L o)=false then Za a.Yc else _)=_;rw[Zd (by rw[ho];decide),Zc hl]
    .obtain⟨Th,eh,ph,nh⟩:=B1.hh;have W2:Th.length=L.length:=by rw[ph.length_eq,ac]
     refine⟨_,rfl,b,_,_,_,_,rfl,B1.ob,T.cl,T.Y0,vN z,_,_,rfl,eh,_,_,rfl,rfl,_,rfl,vH (λh=>?_) (λh=>?_)⟩
     .refine k2 _ ?_ H1 s1;have h:(8:Int)<=(Th.length:Int):=Zf h;rw[W2] at h;unfold sP;rw[hd];show(if(oJ Rf o||qL L o)=false then Za a.Yc else _)=_;rw[Zd (by rw[ho];decide),Zd (by lia),Zc (by lia)]
     .have h:¬(8:Int)<=(Th.length:Int):=λz=>h (Zg z);rw[W2] at h;have Xl:L.length<8:=by lia
      have Ux:sP a Rf L x o l=none:=by unfold sP;rw[hd];show(if(oJ Rf o||qL L o)=false then Za a.Yc else _)=_;rw[Zd (by rw[ho];decide),Zd (by lia),Zd (by lia)]
      have hx:=(yf hd).2.2;have sz:∀{v:Ent×ag->V},(L.map λe=>((ap e.1.nm:Key),v e)).length<aH:=λ{v}=>by rw[ac];exact ax Xl (by decide)
      obtain⟨hb,r1⟩:=aM.mp B1.nd;obtain⟨hp,r2⟩:=aM.mp r1;obtain⟨ht,r3⟩:=aM.mp r2;obtain⟨hm,r4⟩:=aM.mp r3;obtain⟨Wg,r5⟩:=aM.mp r4;obtain⟨hh,r6⟩:=aM.mp r5;refine⟨_,rfl,_,rfl,b,_,_,_,_,rfl,B1.ob,T.cl,T.ç,Jd z,_,rfl,_,_,rfl,ß.k (k:=ap x) B1.tt sz,?_⟩;have Wr:b≠z.dt:=λe=>hb (by rw[e];simp);have X9:b≠z.dm:=λe=>hb (by rw[e];simp);have b_l:b≠z.dl:=λe=>hb (by rw[e];simp);have b_h:b≠z.dh:=λe=>hb (by rw[e];simp);have p_t:z.dp≠z.dt:=λe=>hp (by rw[e];simp);have p_m:z.dp≠z.dm:=λe=>hp (by rw[e];simp);have p_l:z.dp≠z.dl:=λe=>hp (by rw[e];simp);have p_h:z.dp≠z.dh:=λe=>hp (by rw[e];simp);have WE:z.dt≠z.dm:=λe=>ht (by rw[e];simp);have WF:z.dt≠z.dl:=λe=>ht (by rw[e];simp);have t_h:z.dt≠z.dh:=λe=>ht (by rw[e];simp);have WX:z.dm≠z.dl:=λe=>hm (by rw[e];simp);have m_h:z.dm≠z.dh:=λe=>hm (by rw[e];simp);have l_h:z.dl≠z.dh:=λe=>Wg (by rw[e];simp);refine⟨_,rfl,_,rfl,b,_,_,_,_,rfl,(by rw[mj Wr];exact B1.ob),T.cl,T.Đ,Oi z,_,rfl,_,_,rfl,ß.k (k:=ap x) (by rw[mj WE.symm];exact B1.mm) sz,?_⟩;refine⟨_,rfl,_,rfl,b,_,_,_,_,rfl,(by rw[mj X9,mj Wr];exact B1.ob),T.cl,T.đ,Oj z,_,rfl,_,_,rfl,ß.k (k:=ap x) (by rw[mj WX.symm,mj WF.symm];exact B1.ll) sz,?_⟩;intro p SW;have e0:∀c,c≠z.dt->c≠z.dm->c≠z.dl->∀A B C,(upd (upd (upd H1 z.dt A) z.dm B) z.dl C) c=H1 c:=λc c1 c2 c3 A B C=>by rw[mj c3,mj c2,mj c1]
      have V2:p≠z.dt:=λe=>by rw[e,mj WF,mj WE,mv] at SW;cases SW
      have V3:p≠z.dm:=λe=>by rw[e,mj WX,mv] at SW;cases SW
      have V4:p≠z.dl:=λe=>by rw[e,mv] at SW;cases SW
      have SQ:H1 p=none:=by rw[e0 p V2 V3 V4] at SW;exact SW
      have hp0:H p=none:=s1.free SQ;have V5:p≠z.dh:=λe=>by rw[e,eh] at SQ;cases SQ
      have V6:p≠b:=λe=>by rw[e,B1.ob] at SQ;cases SQ
      have q_p:p≠z.dp:=λe=>by rw[e,B1.pp] at SQ;cases SQ
      refine⟨_,rfl,mv,[(ap o,.ref a.ONE)],rfl,(show 1<=15 by decide),_,rfl,b,_,_,_,_,rfl,(by rw[mj V6.symm,mj V6.symm,e0 b Wr X9 b_l];exact B1.ob),T.cl,T.Y0,vN z,_,rfl,_,_,rfl,ß.k (k:=ap x) (by rw[mj V5.symm,mj V5.symm,e0 z.dh t_h.symm m_h.symm l_h.symm];exact eh) (by rw[W2];exact ax Xl (by decide)),?_⟩;have VR:∀c,c≠p->c≠z.dh->c≠z.dt->c≠z.dm->c≠z.dl->∀A B C D E F,(upd (upd (upd (upd (upd (upd H1 z.dt A) z.dm B) z.dl C) p D) p E) z.dh F) c=H1 c:=λc c1 c2 c3 c4 c5 A B C D E F=>by rw[mj c2,mj c1,mj c1,mj c5,mj c4,mj c3]
      refine k1 Ux p _ hp0 ?_ λc u e hc=>?_
      .refine⟨?_,?_,?_,?_,?_,?_,λe he=>?_,?_,B1.p6,by rw[aT];exact Xl⟩
       .rw[VR b V6.symm b_h Wr X9 b_l];exact B1.ob
       .rw[VR z.dp q_p.symm p_h p_t p_m p_l];exact B1.pp
       .rw[mj t_h,mj V2.symm,mj V2.symm,mj WF,mj WE,mv,uU _ (qr _ hx),aA];rfl
       .rw[mj m_h,mj V3.symm,mj V3.symm,mj WX,mv,uU _ (qr _ hx),aA];rfl
       .rw[mj l_h,mj V4.symm,mj V4.symm,mv,uU _ (qr _ hx),aA];rfl
       .have hv:pB Th (ap x)=none:=by rw[Eu ph nh];exact qr _ hx
        refine⟨_,mv,?_,?_⟩
        .rw[uU _ hv,aA];exact ph.append_right _
        .rw[aA,aA,am,cP];refine zC nh λhq=>?_;obtain⟨kv,hkv,ekv⟩:=ar.mp hq;have e1:=(zc (k:=kv.1) (v:=kv.2) nh).mpr hkv;rw[ekv,qr _ hx] at e1;cases e1
       .obtain he|he:=aW.mp he
        .have UP:e.2∈L.map (·.2):=ar.mpr ⟨e,he,rfl⟩;have d1:e.2≠z.dh:=λq=>hh (q▸UP);have d2:e.2≠z.dt:=λq=>ht (by rw[<-q];simp only[ao];right;right;right;exact UP);have d3:e.2≠z.dm:=λq=>hm (by rw[<-q];simp only[ao];right;right;exact UP);have d4:e.2≠z.dl:=λq=>Wg (by rw[<-q];simp only[ao];right;exact UP);have d5:e.2≠p:=λq=>by obtain⟨ts,_,q2,_⟩:=B1.he e he;rw[q,SQ] at q2;cases q2
         refine(B1.he e he).keep (λu h=>?_) λc u h y=>?_
         .rw[VR e.2 d5 d1 d2 d3 d4];exact h
         .have nt:∀{q:ag}{kv:List (Key×V)},H1 q=Za (.dK kv)->c≠q:=λhq=>FQ h hq (by rcases y with⟨xs,rfl|⟨ob,rfl⟩⟩<;>intro z<;>cases z);rw[VR c (mG h SQ) (nt eh) (nt B1.tt) (nt B1.mm) (nt B1.ll)];exact h
        .rw[ay.mp he];refine⟨[a.ONE],rfl,?_,λq hq=>?_⟩
         .rw[mj V5,mv];rfl
         .rw[ay.mp hq];exact .inr T.one
       .have hpL:p∉L.map (·.2):=λhq=>by obtain⟨e,he,rfl⟩:=ar.mp hq;obtain⟨ts,_,q2,_⟩:=B1.he e he;rw[SQ] at q2;cases q2
        have:=zC (k:=p) B1.nd (by
         intro hq;simp only[ao] at hq;obtain e|e|e|e|e|e|e:=hq
         .exact V6 e
         .exact q_p e
         .exact V2 e
         .exact V3 e
         .exact V4 e
         .exact V5 e
         .exact hpL e)
        rw[aA];exact this
      .have e1:=s1 c u e;have c0:c≠p:=mG e1 SQ;simp only[ao,eB,or_false,not_or] at hc;rw[VR c c0 hc.2.2.2 hc.1 hc.2.1 hc.2.2.1];exact e1
   .refine k2 _ ?_ H1 s1;unfold sP;rw[hd];exact Zc ho
  .refine k2 c ?_ H1 s1;unfold sP;rw[hc]
def ZP(K:aa)(H:Hp)(q:Str×Int×Int)(v:V):Prop:=∃t u,v=.ref t/\ZK K H t [.str q.1,.ref u]/\ZK K H u [.int q.2.1,.int q.2.2]
def ZP.keep{K}(h:ZP K H q v)(k:∀c o,H c=Za o->(∃xs,o=.tup xs\/∃ob,o=.YZ ob (.tup xs))->H' c=Za o):ZP K H' q v:=by obtain⟨t,u,e,h1,h2⟩:=h;exact⟨t,u,e,vy h1 k,vy h2 k⟩
def Mv(hp:H p=Za (.lst xs)):∀c o,H c=Za o->(∃xs,o=.tup xs\/∃ob,o=.YZ ob (.tup xs))->(upd H p o') c=Za o:=λc o h x=>by rw[mj (FQ h hp (by grind))];exact h
def JC{l:List (Str×Int×Int)}{ts:List ag}(hl:ts.length=l.length){n:Str}(hn:n∈l.map (·.1)):∃q,(l.zip ts).find? (λq=>decide (q.1.1=n))=Za q/\q∈l.zip ts/\q.1=nc l n/\(nc l n).1=n:=by
 have e:(l.zip ts).map (·.1)=l:=jh (by lia);cases h:(l.zip ts).find? (λq=>decide (q.1.1=n)) with
 |none =>
  grind
 |some q =>
  have e2:l.find? (λq=>decide (q.1=n))=Za q.1:=by
   rw[<-e,gw];show((l.zip ts).find? (λq=>decide (q.1.1=n))).map (·.1)=Za q.1
   simp_all
  have e3:nc l n=q.1:=by unfold nc;rw[e2];rfl
  grind
def zi(K:aa)(C:ag):Sp:=λvs H Q _=>∃b z Rf L,vs=[.ref b]/\Yx K C H b z Rf L/\∀l,H l=Zb->Q (.ref l) (upd H l (.lst ((Yq Rf).map V.str)))
abbrev qU:bN:=oS (top 39) 12
def yz:N' ["self"] ["self"] (mw qU):=Zr
def FM(F:Î K "persons" "Book.persons" qU f fd)(T:Txt K mg a):YD P w K mg base (Y7 P w) 1 f fd ["self"] (zi K a.Ye):=by
 refine F.okN yz (λvs H Q E h=>?_) (λRk A outer s H vs Q E hr h=>?_)
 .obtain⟨b,z,Rf,L,rfl,_⟩:=h;rfl
 .obtain⟨b,z,Rf,L,rfl,B,k⟩:=h;refine⟨_,(@mW _ _ _ (@rL _ _ _ _ (@oK _ _ _ _ _ _ _ _ _ (qO rfl) rfl T.YU vt (@mI _ _ _ _ _ (qg (pv 0) rfl) Yi rfl) (Zf rfl) (Zf rfl) rfl rfl))),?_⟩;exact⟨_,rfl,b,_,_,_,_,rfl,B.ob,T.cl,T.ZX,vv z,_,_,Rf,rfl,.inl B.pp,by rw[aE];rfl,aZ B.p6 (Zf rfl),k⟩
def BU(K:aa)(C:ag):Sp:=λvs H Q _=>∃b z Rf L,vs=[.ref b]/\Yx K C H b z Rf L/\∀l,H l=Zb->Q (.ref l) (upd H l (.lst ((Yq (L.map (·.1.nm))).map V.str)))
abbrev rK:bN:=oS (top 39) 13
def yX:N' ["self"] ["self"] (mw rK):=Zr
def Iv(F:Î K "houses" "Book.houses" rK f fd)(T:Txt K mg a):YD P w K mg base (Y7 P w) 1 f fd ["self"] (BU K a.Ye):=by
 refine F.okN yX (λvs H Q E h=>?_) (λRk A outer s H vs Q E hr h=>?_)
 .obtain⟨b,z,Rf,L,rfl,_⟩:=h;rfl
 .obtain⟨b,z,Rf,L,rfl,B,k⟩:=h;refine⟨_,(@mW _ _ _ (@rL _ _ _ _ (@oK _ _ _ _ _ _ _ _ _ (qO rfl) rfl T.YU vt (@mI _ _ _ _ _ (qg (pv 0) rfl) Yi rfl) (Zf rfl) (Zf rfl) rfl rfl))),?_⟩;obtain⟨Th,ss,eh,ek,ps⟩:=B.hh.keys;rw[<-D5 ps] at k;exact⟨_,rfl,b,_,_,_,_,rfl,B.ob,T.cl,T.Y0,vN z,_,_,ss,rfl,.inl eh,ek,by rw[ps.length_eq,ac];exact aZ B.h8 (Zf rfl),k⟩
def K3(v:Ent×ag->V)(h:pJ L x=Za e):pB (L.map λe=>((ap e.1.nm:Key),v e)) (ap x)=Za (v e):=by rw[rY];unfold pJ at h;rw[h];rfl
abbrev qf:bN:=oS (top 39) 14
def Ë:N' ["self","house","held"] ["self","house"] (mw qf):=Zr
def BR(K:aa)(a:Yl):Sp:=λvs H Q E=>∃b z Rf L x,vs=[.ref b,.str x]/\Yx K a.Ye H b z Rf L/\Nm x /\
 (∀e,pJ L x=Za e->e.1.held.length<64/\∀l ys H',H l=Zb->YQ H H'->H' l=Za (.lst ys)->eU (ZP K H') ((Yq (e.1.held.map (·.1))).map (nc e.1.held)) ys->Q (.ref l) H')/\(pJ L x=Zb->E (.ref a.Yg) Zb H)
def Iq(F:Î K "shares" "Book.shares" qf f fd)(T:Txt K mg a)(RC:Mt P w K mg base a.Ye "need_house" 2 ["self","name"] (qd K a)):YD P w K mg base (Y7 P w) 3 f fd ["self","house"] (BR K a):=by
 refine F.okX Ë (λvs H Q E h=>?_) (λRk A outer s H vs Q E hr h=>?_)
 .obtain⟨b,z,Rf,L,x,rfl,_⟩:=h;rfl
 .obtain⟨b,z,Rf,L,x,rfl,B,nm,k1,k2⟩:=h;have hu:=qN hr;refine⟨_,(@mQ _ _ _ _ _ (@pY _ _ _ _ (vm (pv 0) RC (hr.mono (by first|decide|lia)) pR (@mI _ _ _ _ _ (pv 1) Yi rfl)) rfl) (@mQ _ _ _ _ _ (@sM _ _ (2) _ _ _ _ Ë.nd rfl (gJ rfl) (@xj _ _ _ _ _ _ hu (qg (pv 0) rfl) (pv 1) (λ_ _=>rfl)) rfl (by first|exact .inl rfl|exact .inr rfl|assumption)) (@mW _ _ _ (@rL _ _ _ _ (zu (fr:=["held"]) (ix:=[2]) rfl ((show ZQ ["self","house","held"] (mw qf) _ _ _ _ from⟨rfl,by decide +kernel,rfl,by decide +kernel,by decide +kernel,by decide +kernel,by decide +kernel,by decide +kernel,rfl⟩)) (MY (@oK _ _ _ _ _ _ _ _ _ (qO rfl) rfl T.YU vt (@mI _ _ _ _ _ (pv 2) Yi rfl) (Zf rfl) (Zf rfl) rfl rfl)) (λ_ _ _ _ _=>As) (λ_ _ _ _ _=>(wA (mI (pv 0) (mI (xj hu (pv 1) (pv 0) (λ_ _=>rfl)) Yi))))))))),?_⟩;refine⟨_,rfl,b,_,_,rfl,B.ob,vw z,_,rfl,b,z,Rf,L,x,rfl,B,nm,λh=>?_,λh=>k2 ?_⟩
  .cases he:pJ L x with
   |none=>unfold qL at h;unfold pJ at he;rw[he] at h;cases h
   |some e =>
    obtain⟨T0,k1⟩:=k1 e he;obtain⟨ts,hl,hd,hts⟩:=B.he e (sF he);have Vu:(((e.1.held.zip ts).map λq=>((ap q.1.1:Key),V.ref q.2)).map (·.1))=(e.1.held.map (·.1)).map ap:=by
     rw[aE,aE];have e1:(e.1.held.zip ts).map (·.1)=e.1.held:=jh (by lia)
     conv=>rhs;rw[<-e1,aE]
     rfl
    refine⟨_,rfl,b,_,_,_,_,rfl,B.ob,T.cl,T.Y0,vN z,_,rfl,_,.ref e.2,rfl,?_,_,rfl,e.2,_,e.1.held.map (·.1),rfl,.inl hd,Vu,by rw[ac];exact T0,λl Up=>?_⟩
    .have:=B.hh.ÀC x;rw[K3 _ he] at this;exact this
    .refine⟨l,rfl,⟨_,YY.of mv⟩,λD hD=>?_⟩;have lD:l≠D:=mG mv hD;have XN:H D=none:=by rw[mj lD.symm] at hD;exact hD
     have hDp:e.2≠D:=mG hd XN;refine HD (J:=Itl K l) (Yq (e.1.held.map (·.1))).length (λi ys H'=>YQ H H'/\H' D=Za (.lst ys)/\H' l=Za (.lst ((Yq (e.1.held.map (·.1))).map V.str))/\eU (ZP K H') (((Yq (e.1.held.map (·.1))).take i).map (nc e.1.held)) ys)
      ⟨?_,mv,?_,.nil⟩ ?_ (λi ys H' r=>r.2.1) (λi ys H' hi r=>⟨_,.str ((Yq (e.1.held.map (·.1)))[i]),YY.of r.2.2.1,by simp[hi]⟩) ?_ ?_
     .exact(sL Up).trans (sL hD)
     .rw[mj lD,mv]
     .rw[vV,ac];exact aI (fA T0) (Zf rfl)
     .rintro i ys Hx v H' hi ⟨s1,h1,h2,h3⟩ ⟨rfl,hy⟩ Kt Kf q1 q2
      have hv:=hy _ (YY.of h2);have ev:v=.str ((Yq (e.1.held.map (·.1)))[i]):=by rw[aF,aC hi] at hv;exact(bO hv).symm
      subst ev;have Uo:(Yq (e.1.held.map (·.1)))[i]∈e.1.held.map (·.1):=(mF _).mem_iff.mp (cR hi);obtain⟨q,f1,f2,f3,f4⟩:=JC hl Uo;have Tw:pB ((e.1.held.zip ts).map λq=>((ap q.1.1:Key),V.ref q.2)) (ap ((Yq (e.1.held.map (·.1)))[i]))=Za (.ref q.2):=by rw[rY (key:=λq:(Str×Int×Int)×ag=>q.1.1),f1];rfl
      refine ÀF ⟨_,rfl,_,rfl,_,rfl,e.2,.ref q.2,rfl,?_,(show 2<=aH by decide),λp hp=>?_⟩
      .have:=Zs.k (k:=ap ((Yq (e.1.held.map (·.1)))[i])) (s1 _ _ hd);rw[Tw] at this;exact this
      .have pD:D≠p:=mG h1 hp;have pl:l≠p:=mG h2 hp;refine q1 _ _ (by rw[mj pD];exact h1) ⟨?_,mv,?_,?_⟩
       .intro c o hc;rw[mj (λz=>by rw[z] at hc;rw[XN] at hc;cases hc),mj (mG (s1 c o hc) hp)];exact s1 c o hc
       .rw[mj lD,mj pl];exact h2
       .have kp:∀c o,H' c=Za o->(∃xs,o=.tup xs\/∃ob,o=.YZ ob (.tup xs))->(upd (upd H' p (.tup [.str ((Yq (e.1.held.map (·.1)))[i]),.ref q.2])) D (.lst (ys++[.ref p]))) c=Za o:=λc o hc x=>by rw[Mv (xs:=ys) (by rw[mj pD];exact h1) c o (by rw[mj (mG hc hp)];exact hc) x]
        have e5:((Yq (e.1.held.map (·.1))).take (i+1)).map (nc e.1.held)=((Yq (e.1.held.map (·.1))).take i).map (nc e.1.held)++[nc e.1.held ((Yq (e.1.held.map (·.1)))[i])]:=by rw[d6,aC hi,aA];rfl
        rw[e5];refine kE (eU.Àd h3 λq v hq=>hq.keep kp) ⟨p,q.2,rfl,?_,?_⟩
        .apply ZK.of;rw[mj pD.symm,mv,f4]
        .rw[<-f3];exact vy (hts q f2) λc o hc x=>kp c o (s1 c o hc) x
     .rintro ys H' hy ⟨s1,h1,h2,h3⟩
      refine⟨⟨_,YY.of h2,by rw[ac];exact al _⟩,k1 D ys H' XN s1 h1 ?_⟩;rw[jg] at h3;exact h3
  .unfold qL at h;unfold pJ;exact fZ.mp h |> gg.mp
end
end My
namespace L2
open PySem PySem.Spec PyProof.Rows
section
variable{X:Cx}
def Âr(K:aa):R2:=λx y H Q=>∃p q xs ys,x=.ref p/\y=.ref q/\ZK K H p xs/\ZK K H q ys/\xs.length=ys.length/\xs.all tR=true/\ys.all tR=true/\Q (.bl (NR xs ys)) H
def P4(hu:X.A.units<fb):ZA X (bR .Eq) (Âr X.K):=by
 rintro Q9 s O H x y v u Q I rx ry ⟨p,q,xs,ys,rfl,rfl,hp,hq,hl,fx,fy,k⟩
 cases rx;cases ry;obtain⟨its,r,pl,_⟩:=I.tuple hp;obtain⟨Sg,r2,pl2,_⟩:=I.tuple hq;have e1:=r.length;have e2:=r2.length;refine SeqAt.eq_tupleAt pl pl2 hu (FU r r2 hl fx fy) ⟨.bl _,H,I,rfl,?_⟩;have e3:its.toArray.size=Sg.toArray.size:=by simp;lia
 rw[e3,Nat.min_self,beq_self_eq_true,Bool.and_true,bj,<-e2,<-hl,<-E5 hl];exact k
end
end L2
namespace My
open PySem L2 Fra
def E1(x y)(h:0<y):aJ y (x%y)=aJ x y:=by
 have e:x%y=x-(x/y)*y:=by rw[Int.emod_def,bT]
 rw[e,Int.gcd_comm,Int.gcd_sub_mul_right_left]
def KA(h:0<=x):(aJ x 0:Int)=x:=by rw[Int.gcd_zero_right];lia
structure Sz(q:Int×Int):Prop where
 low:ð q
 bt:Bt 8900 q.1
 bb:Bt 8900 q.2
def Ä(K:aa)(H:Hp)(p:ag)(q:Int×Int):Prop:=ZK K H p [.int q.1,.int q.2]
def Ä.same{K}(h:Ä K H p q)(s:YQ H H'):Ä K H' p q:=EG s h
section
variable{P:aL}{w:aX}{K:aa}{mg:Str->Option af}{base:bi}{a:Yl}{f:ag}{fd:cj}
abbrev pW:bN:=top 18
def YS:N' ["number","other","rest"] ["number","other"] (mw pW):=Zr
def Gs:Sp:=λvs H Q _=>∃n m,vs=[.int n,.int m]/\0<m/\Q (.int (aJ n m)) H
def P8(F:Î K "common_divisor" "common_divisor" pW f fd)(T:Txt K mg a):YD P w K mg base (Y7 P w) 1 f fd ["number","other"] Gs:=by
 refine F.okN YS (λvs H Q E h=>?_) (λRk A outer s H vs Q E hr h=>?_)
 .obtain⟨n,m,rfl,_⟩:=h;rfl
 .obtain⟨n,m,rfl,hm,k⟩:=h;have hu:=qN hr;refine⟨_,(@mQ _ _ _ _ _ (EL fD (@vz _ _ _ _ _ _ _ _ À8 (pv 1) YR (vC _)) (@mQ _ _ _ _ _ (@sM _ _ (2) _ _ _ _ YS.nd rfl (eA rfl) (@t7 _ _ _ _ _ _ _ _ Lo (pv 0) (pv 1)) rfl (by first|exact .inl rfl|exact .inr rfl|assumption)) (@mQ _ _ _ _ _ (@sM _ _ (0) _ _ _ _ YS.nd rfl (eA rfl) (pv 1) rfl (by first|exact .inl rfl|exact .inr rfl|assumption)) (@mW _ _ _ (@sM _ _ (1) _ _ _ _ YS.nd rfl (eA rfl) (pv 2) rfl (by first|exact .inl rfl|exact .inr rfl|assumption)))))) (@mW _ _ _ (@rL _ _ _ _ (pv 0)))),?_⟩;refine⟨λc O H'=>H'=H/\∃x y v,O=[Za (.int x),Za (.int y),v]/\0<=y/\c=y.toNat/\aJ x y=aJ n m/\(y=0->0<=x),⟨_,rfl,n,m,_,rfl,by lia,rfl,rfl,by lia⟩,?_⟩
  rintro c O H' ⟨rfl,x,y,v,rfl,hy,rfl,hg,hx⟩
  refine⟨_,rfl,rfl,_,rfl,vH (λh=>?_) (λh=>?_)⟩
  .have Vh:0<y:=by
    grind
   refine⟨λYE H''=>H''=H'/\∃v',YE=[Za (.int y),Za (.int (x%y)),v'],?_,?_⟩
   .rintro YE H'' ⟨rfl,v',rfl⟩
    have m0:=eT x (show y≠0 by lia);have m1:=dP x Vh;exact⟨(x%y).toNat,by lia,rfl,_,_,_,rfl,m0,rfl,(E1 x y Vh).trans hg,λ_=>hy⟩
   .exact⟨_,rfl,_,rfl,_,_,rfl,rfl,Vh,_,rfl,_,rfl,rfl,_,rfl⟩
  .have Vh:=V.int.inj (Zf (nbF h));subst Vh;refine⟨_,rfl,?_⟩;rw[KA (hx rfl) |>.symm,hg];exact k
abbrev Gu:bN:=top 20
def ă:N' ["first","second","common","top","shared"] ["first","second"] (mw Gu):=Zr
def zh(K:aa):Sp:=λvs H Q _=>∃p1 p2 q1 q2,vs=[.ref p1,.ref p2]/\Ä K H p1 q1/\Ä K H p2 q2/\Sz q1/\Sz q2/\∀x,H x=Zb->Q (.ref x) (upd H x (.tup [.int (oC q1 q2).1,.int (oC q1 q2).2]))
def Np(F:Î K "plus" "plus" Gu f fd)(T:Txt K mg a)(RB:Fn P w K mg base "common_divisor" 1 ["number","other"] Gs):YD P w K mg base (Y7 P w) 2 f fd ["first","second"] (zh K):=by
 refine F.okN ă (λvs H Q E h=>?_) (λRk A outer s H vs Q E hr h=>?_)
 .obtain⟨p1,p2,q1,q2,rfl,_⟩:=h;rfl
 .obtain⟨p1,p2,⟨t1,b1⟩,⟨t2,b2⟩,rfl,h1,h2,s1,s2,k⟩:=h;have hu:=qN hr;refine⟨_,(@mQ _ _ _ _ _ (@sM _ _ (2) _ _ _ _ ă.nd rfl (eA rfl) (@wR _ _ _ _ _ _ _ _ _ _ _ RB (hr.mono (by first|decide|lia)) rfl sN (@mI _ _ _ _ _ (@sx _ _ _ _ _ _ _ Y2 (pv 0) YR (λ_ _=>rfl)) (@mI _ _ _ _ _ (@sx _ _ _ _ _ _ _ Y2 (pv 1) YR (λ_ _=>rfl)) Yi rfl) rfl) (by decide) rfl rfl) rfl (by first|exact .inl rfl|exact .inr rfl|assumption)) (@mQ _ _ _ _ _ (@sM _ _ (3) _ _ _ _ ă.nd rfl (eA rfl) (@t7 _ _ _ _ _ _ _ _ Ϡ (@t7 _ _ _ _ _ _ _ _ Ð (@sx _ _ _ _ _ _ _ Y2 (pv 0) YR (λ_ _=>rfl)) (@t7 _ _ _ _ _ _ _ _ sO (@sx _ _ _ _ _ _ _ Y2 (pv 1) YR (λ_ _=>rfl)) (pv 2))) (@t7 _ _ _ _ _ _ _ _ Ð (@sx _ _ _ _ _ _ _ Y2 (pv 1) YR (λ_ _=>rfl)) (@t7 _ _ _ _ _ _ _ _ sO (@sx _ _ _ _ _ _ _ Y2 (pv 0) YR (λ_ _=>rfl)) (pv 2)))) rfl (by first|exact .inl rfl|exact .inr rfl|assumption)) (@mQ _ _ _ _ _ (@sM _ _ (4) _ _ _ _ ă.nd rfl (eA rfl) (@wR _ _ _ _ _ _ _ _ _ _ _ RB (hr.mono (by first|decide|lia)) rfl sN (@mI _ _ _ _ _ (pv 3) (@mI _ _ _ _ _ (pv 2) Yi rfl) rfl) (by decide) rfl rfl) rfl (by first|exact .inl rfl|exact .inr rfl|assumption)) (@mW _ _ _ (@rL _ _ _ _ (@wA _ _ _ _ _ (@mI _ _ _ _ _ (@t7 _ _ _ _ _ _ _ _ sO (pv 3) (pv 4)) (@mI _ _ _ _ _ (@t7 _ _ _ _ _ _ _ _ Ð (@t7 _ _ _ _ _ _ _ _ sO (@sx _ _ _ _ _ _ _ Y2 (pv 0) YR (λ_ _=>rfl)) (pv 2)) (@t7 _ _ _ _ _ _ _ _ sO (@sx _ _ _ _ _ _ _ Y2 (pv 1) YR (λ_ _=>rfl)) (pv 4))) Yi rfl) rfl))))))),?_⟩;rw[<-Ou s1.low s2.low] at k;have b10:0<b1:=s1.low.1;have b20:0<b2:=s2.low.1;have hd:0<aJ b1 b2:=bA _ (by lia);have VI:(0:Int)<(aJ b1 b2:Int):=by lia
  have bd:Bt 8900 (aJ b1 b2:Int):=s1.bb.dvd (show b1≠0 by lia) (fP ..);have ld:=(bd.mono (by decide)).log VI;refine⟨_,rfl,p1,_,1,_,rfl,rfl,h1,nC rfl,_,rfl,p2,_,1,_,rfl,rfl,h2,nC rfl,b1,b2,rfl,b20,?_⟩;refine⟨_,rfl,p1,_,0,_,rfl,rfl,h1,nC rfl,_,rfl,p2,_,1,_,rfl,rfl,h2,nC rfl,_,rfl,_,_,rfl,rfl,⟨VI,ld⟩,_,_,rfl,rfl,⟨s1.bt.mono (by decide),(s2.bb.div).mono (by decide)⟩,?_⟩;refine⟨_,rfl,p2,_,0,_,rfl,rfl,h2,nC rfl,_,rfl,p1,_,1,_,rfl,rfl,h1,nC rfl,_,rfl,_,_,rfl,rfl,⟨VI,ld⟩,_,_,rfl,rfl,⟨s2.bt.mono (by decide),(s1.bb.div).mono (by decide)⟩,_,_,rfl,rfl,?_⟩;have he:0<aJ (t1*(b2/(aJ b1 b2:Int))+t2*(b1/(aJ b1 b2:Int))) (aJ b1 b2:Int):=bA _ (by lia);have Xt:(0:Int)<(aJ (t1*(b2/(aJ b1 b2:Int))+t2*(b1/(aJ b1 b2:Int))) (aJ b1 b2:Int):Int):=by lia
  have be:Bt 8900 (aJ (t1*(b2/(aJ b1 b2:Int))+t2*(b1/(aJ b1 b2:Int))) (aJ b1 b2:Int):Int):=bd.dvd (by lia) (cq ..);have le:=(be.mono (by decide)).log Xt;refine⟨_,rfl,_,rfl,_,_,rfl,VI,?_⟩;refine⟨_,rfl,_,rfl,_,_,rfl,rfl,⟨Xt,le⟩,_,rfl,p1,_,1,_,rfl,rfl,h1,nC rfl,_,rfl,_,_,rfl,rfl,⟨VI,ld⟩,_,rfl,p2,_,1,_,rfl,rfl,h2,nC rfl,_,rfl,_,_,rfl,rfl,⟨Xt,le⟩,_,_,rfl,rfl,⟨(s1.bb.div).mono (by decide),(s2.bb.div).mono (by decide)⟩,(show 2<=aH by decide),λx hx=>?_⟩;exact k x hx
abbrev Dc:bN:=top 21
def JQ:N' ["first","second"] ["first","second"] (mw Dc):=Zr
def EC(K:aa):Sp:=λvs H Q _=>∃p1 p2 q1 q2,vs=[.ref p1,.ref p2]/\Ä K H p1 q1/\Ä K H p2 q2/\Sz q1/\Sz q2/\∀x H',H x=Zb->YQ H H'->H' x=Za (.tup [.int (oC q1 (-q2.1,q2.2)).1,.int (oC q1 (-q2.1,q2.2)).2])->Q (.ref x) H'
theorem Sz.neg(h:Sz q):Sz (-q.1,q.2):=⟨⟨h.low.1,by have:=h.low.2;unfold Ĝ aJ at *;simp[iK];exact this⟩,h.bt.neg,h.bb⟩
def Kb(F:Î K "minus" "minus" Dc f fd)(T:Txt K mg a)(SG:Fn P w K mg base "plus" 2 ["first","second"] (zh K)):YD P w K mg base (Y7 P w) 3 f fd ["first","second"] (EC K):=by
 refine F.okN JQ (λvs H Q E h=>?_) (λRk A outer s H vs Q E hr h=>?_)
 .obtain⟨p1,p2,q1,q2,rfl,_⟩:=h;rfl
 .obtain⟨p1,p2,⟨t1,b1⟩,⟨t2,b2⟩,rfl,h1,h2,s1,s2,k⟩:=h;refine⟨_,(@mW _ _ _ (@rL _ _ _ _ (@wR _ _ _ _ _ _ _ _ _ _ _ SG (hr.mono (by grind)) rfl sN (@mI _ _ _ _ _ (pv 0) (@mI _ _ _ _ _ (@wA _ _ _ _ _ (@mI _ _ _ _ _ (@OJ _ _ _ _ _ _ K4 (@sx _ _ _ _ _ _ _ Y2 (pv 1) YR (λ_ _=>rfl))) (@mI _ _ _ _ _ (@sx _ _ _ _ _ _ _ Y2 (pv 1) YR (λ_ _=>rfl)) Yi rfl) rfl)) Yi rfl) rfl) (Zf rfl) rfl rfl))),?_⟩;refine⟨_,rfl,_,rfl,p2,_,0,_,rfl,rfl,h2,nC rfl,_,rfl,_,rfl,p2,_,1,_,rfl,rfl,h2,nC rfl,(show 2<=aH by decide),λy hy=>?_⟩;have sy:=sL (o:=.tup [.int (-t2),.int b2]) hy;refine⟨p1,y,(t1,b1),(-t2,b2),rfl,h1.same sy,ZK.of mv,s1,s2.neg,λx hx=>?_⟩;refine k x _ (sy.free hx) (sy.trans (sL hx)) mv
abbrev vW:bN:=top 22
def D7:N' ["first","second"] ["first","second"] (mw vW):=Zr
def EE(K:aa):Sp:=λvs H Q _=>∃p1 p2 q1 q2,vs=[.ref p1,.ref p2]/\Ä K H p1 q1/\Ä K H p2 q2/\Sz q1/\Sz q2/\Q (.bl (decide (q1.1*q2.2>q2.1*q1.2))) H
def Kd(F:Î K "is_above" "is_above" vW f fd)(T:Txt K mg a):YD P w K mg base (Y7 P w) 1 f fd ["first","second"] (EE K):=by
 refine F.okN D7 (λvs H Q E h=>?_) (λRk A outer s H vs Q E hr h=>?_)
 .obtain⟨p1,p2,q1,q2,rfl,_⟩:=h;rfl
 .obtain⟨p1,p2,⟨t1,b1⟩,⟨t2,b2⟩,rfl,h1,h2,s1,s2,k⟩:=h;refine⟨_,(@mW _ _ _ (@rL _ _ _ _ (@Hb _ _ _ _ _ _ _ _ OM (@t7 _ _ _ _ _ _ _ _ Ð (@sx _ _ _ _ _ _ _ Y2 (pv 0) YR (λ_ _=>rfl)) (@sx _ _ _ _ _ _ _ Y2 (pv 1) YR (λ_ _=>rfl))) (@t7 _ _ _ _ _ _ _ _ Ð (@sx _ _ _ _ _ _ _ Y2 (pv 1) YR (λ_ _=>rfl)) (@sx _ _ _ _ _ _ _ Y2 (pv 0) YR (λ_ _=>rfl))) (vC _)))),?_⟩;refine⟨_,rfl,p1,_,0,_,rfl,rfl,h1,nC rfl,_,rfl,p2,_,1,_,rfl,rfl,h2,nC rfl,_,_,rfl,rfl,⟨s1.bt.mono (by decide),s2.bb.mono (by decide)⟩,_,rfl,p2,_,0,_,rfl,rfl,h2,nC rfl,_,rfl,p1,_,1,_,rfl,rfl,h1,nC rfl,_,_,rfl,rfl,⟨s2.bt.mono (by decide),s1.bb.mono (by decide)⟩,_,_,rfl,rfl,?_⟩;exact k
end
structure Two(q1 q2:Int×Int):Prop where
 p1:0<q1.2
 p2:0<q2.2
 t1:Bt 9000 q1.1
 t2:Bt 9000 q2.1
 b1:Bt 9000 q1.2
 b2:Bt 9000 q2.2
 bb:Bt 9000 (q1.2*q2.2)
abbrev Hl:=List (Str×Int×Int)
def mL(l:Hl)(n:Str):Int×Int:=(nc l n).2
noncomputable def oz(l:Hl)(n:Str)(q:Int×Int):Hl:=if(l.any λx=>decide (x.1=n))=true then l.map (λx=>if x.1=n then(n,q) else x) else l++[(n,q)]
noncomputable def nW(l:Hl)(n:Str):Hl:=l.filter λx=>decide (x.1≠n)
def Zq(K:aa)(H:Hp)(p:ag)(l:Hl)(z:List ((Str×Int×Int)×ag)):Prop :=
 z.map (·.1)=l/\H p=Za (.dK (z.map λq=>(ap q.1.1,V.ref q.2)))/\∀q∈z,Ä K H q.2 q.1.2
def HeldAt.toZ{K}(h:HeldAt K H p l):∃z,Zq K H p l z:=by obtain⟨ts,hl,hd,ht⟩:=h;exact⟨l.zip ts,jh (by lia),hd,ht⟩
theorem xA:∀z:List (α×β),(z.map (·.1)).zip (z.map (·.2))=z
 |[]=>rfl
 |x::r=>congrArg (x::·) (xA r)
def Zq.held{K}(h:Zq K H p l z):HeldAt K H p l:=by
 obtain⟨rfl,hd,ht⟩:=h;refine⟨z.map (·.2),by rw[ac,ac],?_,?_⟩
 .rw[xA];exact hd
 .rw[xA];exact ht
def DQ{K}(hp:H p=Za (.dK Ra))(h:Ä K H x q):Ä K (upd H p o) x q :=
 vy h λc u e y=>by rw[mj (FQ e hp (by grind))];exact e
def Zq.val{K}(h:Zq K H p l z)(n) :
  (n∉l.map (·.1)/\pB (z.map λq=>((ap q.1.1:Key),V.ref q.2)) (ap n)=Zb/\mL l n=(0,1))\/(n∈l.map (·.1)/\∃x,pB (z.map λq=>((ap q.1.1:Key),V.ref q.2)) (ap n)=Za (.ref x)/\Ä K H x (mL l n)):=by
 obtain⟨rfl,hd,ht⟩:=h;rw[rY];unfold mL nc;rw[gw];have e:((λq:Str×Int×Int=>decide (q.1=n))∘λx:(Str×Int×Int)×ag=>x.1)=λx=>decide (x.1.1=n):=rfl;rw[e];cases hf:z.find? (λx=>decide (x.1.1=n)) with
 |none =>
  left
  grind
 |some q =>
  right
  grind
def Zq.put{K}(h:Zq K H p l z)(hx:Ä K H x q) :
  ∃z',Zq K (upd H p (.dK (qY (z.map λq=>((ap q.1.1:Key),V.ref q.2)) (ap n) (.ref x)))) p (oz l n q) z':=by
 obtain⟨rfl,hd,ht⟩:=h;refine⟨if(z.any λy=>decide (y.1.1=n))=true then z.map (λy=>if y.1.1=n then((n,q),x) else y) else z++[((n,q),x)],?_,?_,?_⟩
 .unfold oz;rw[gX];by_cases hb:(z.any λy=>decide (y.1.1=n))=true
  .rw[Zc hb,Zc (by exact hb),aE,aE];refine a7 λy _=>?_
   grind
  .rw[Zd hb,Zd (by exact hb),aA];rfl
 .rw[mv];unfold qY;rw[gX];have eb:((λkv:Key×V=>decide (kv.1=ap n))∘λq:(Str×Int×Int)×ag=>((ap q.1.1:Key),V.ref q.2))=λy=>decide (y.1.1=n):=by
   funext y
   show decide ((ap y.1.1:Key)=ap n)=_;rw[Lv]
  rw[eb];by_cases hb:(z.any λy=>decide (y.1.1=n))=true
  .rw[Zc hb,Zc hb,aE,aE]
   congr 2
   refine a7 λy _=>?_
   grind
  .rw[Zd hb,Zd hb,aA];rfl
 .refine λy hy=>DQ hd ?_
  grind
def Zq.drop{K}(h:Zq K H p l z) :
  ∃z',Zq K (upd H p (.dK (yE (z.map λq=>((ap q.1.1:Key),V.ref q.2)) (ap n)))) p (nW l n) z':=by
 obtain⟨rfl,hd,ht⟩:=h;refine⟨z.filter (λy=>decide (y.1.1≠n)),?_,?_,λy hy=>DQ hd (ht y (ba.mp hy).1)⟩
 .unfold nW;rw[dR];rfl
 .rw[mv];unfold yE;rw[dR];have eb:((λkv:Key×V=>decide (kv.1≠ap n))∘λq:(Str×Int×Int)×ag=>((ap q.1.1:Key),V.ref q.2))=λy=>decide (y.1.1≠n):=by
   grind
  rw[eb]
def IM(l)(n):nc l n=(n,mL l n):=by
 unfold mL nc;cases h:l.find? λq=>decide (q.1=n) with
 |none=>rfl
 |some q =>
  grind
def nJ(l)(n m)(q):mL (oz l n q) m=if m=n then q else mL l m:=by
 unfold mL nc oz;by_cases hb:(l.any λx=>decide (x.1=n))=true
 .rw[Zc hb];induction l with
  |nil=>cases hb
  |cons x r ih =>
   rw[am,bX,bX];by_cases e:x.1=n
   .rw[Zc e];by_cases em:m=n
    .subst em;rw[Zc rfl,Zg (show m=m from rfl)];rfl
    .rw[Zd em];have e1:decide ((n,q).1=m)=false:=Zh λz=>em z.symm;have e2:decide (x.1=m)=false:=Zh λz=>em (z.symm.trans e);rw[e1,e2];by_cases hr:(r.any λx=>decide (x.1=n))=true
     .have:=ih hr;rw[Zd em] at this;exact this
     .have er:r.map (λx=>if x.1=n then(n,q) else x)=r:=by
       conv=>rhs;rw[<-iD r]
       refine a7 λy hy=>Zd λz=>hr (fF.mpr ⟨y,hy,Zg z⟩)
      show(Option.getD ((r.map λx=>if x.1=n then(n,q) else x).find? λq=>decide (q.1=m)) (m,0,1)).2=_;rw[er]
   .rw[Zd e];have hr:(r.any λx=>decide (x.1=n))=true:=by rw[dU,Zh e,Bool.false_or] at hb;exact hb
    by_cases em:x.1=m
    .rw[Zg em];have:¬m=n:=λz=>e (em.trans z);rw[Zd this]
    .rw[Zh em];exact ih hr
 .rw[Zd hb,i8];by_cases em:m=n
  .subst em;rw[Zc rfl];have:l.find? (λq=>decide (q.1=m))=none:=by rw[gy];exact λx hx z=>hb (fF.mpr ⟨x,hx,z⟩)
   rw[this,Option.none_or,bX,Zg (show(m,q).1=m from rfl)];rfl
  .rw[Zd em];have:[(n,q)].find? (λq=>decide (q.1=m))=none:=by rw[bX,Zh (show ¬(n,q).1=m from λz=>em z.symm)];rfl
   rw[this,Option.or_none]
def qp(l)(n m):mL (nW l n) m=if m=n then(0,1) else mL l m:=by
 unfold mL nc nW;rw[List.find?_filter];by_cases em:m=n
 .subst em;rw[Zc rfl];have:l.find? (λa=>decide (decide (a.1≠m)=true/\decide (a.1=m)=true))=none:=by
   grind
  rw[this];rfl
 .grind
def nZ(l)(n)(q):(oz l n q).map (·.1)=if n∈l.map (·.1) then l.map (·.1) else l.map (·.1)++[n]:=by
 unfold oz;by_cases hb:(l.any λx=>decide (x.1=n))=true
 .have:n∈l.map (·.1):=by
   grind
  rw[Zc hb,Zc this,aE];refine a7 λx _=>?_
  grind
 .grind
def wB(n)(q)(h:(l.map (·.1)).Nodup):((oz l n q).map (·.1)).Nodup:=by
 rw[nZ];by_cases hn:n∈l.map (·.1)
 .rw[Zc hn];exact h
 .rw[Zd hn];exact zC h hn
def zD(l)(n):(nW l n).map (·.1)=(l.map (·.1)).filter λx=>decide (x≠n):=by rw[dR];rfl
def Dg(n)(h:(l.map (·.1)).Nodup):((nW l n).map (·.1)).Nodup:=by rw[zD];exact h.filter _
def Hg(l)(n)(q):(oz l n q).length<=l.length+1:=by
 have:=congrArg cD (nZ l n q);rw[ac] at this;rw[this];split
 .simp_all
 .simp_all
def EU(l)(n):(nW l n).length<=l.length:=cW _ _
def Z8(l:Hl)(o1 o2:Str)(q:Int×Int):Hl :=
 let r:=oC (mL l o1) (-q.1,q.2);let l1:=if r=(0,1) then nW l o1 else oz l o1 r
 oz l1 o2 (oC (mL l1 o2) q)
def Jp(l:Hl)(o1 o2:Str)(q:Int×Int):Hl :=
 let l1:=oz l o1 (oC (mL l o1) (-q.1,q.2))
 oz l1 o2 (oC (mL l1 o2) q)
noncomputable def BW{β:Type}(L:List (Ent×β))(h:Str)(g:Ent->Ent):List (Ent×β):=L.map λx=>if x.1.nm=h then(g x.1,x.2) else x
def uQ(v:Ent×β->γ)(hv:∀x,v (g x.1,x.2)=v x):(BW L h g).map v=L.map v:=by
 unfold BW;rw[aE];refine a7 λx _=>?_
 grind
def JO(hy:y∈BW L h g):∃x∈L,(x.1.nm=h/\y=(g x.1,x.2))\/(¬x.1.nm=h/\y=x):=by
 unfold BW at hy
 grind
theorem GB:∀{l:List α}{x y:α},(l.map key).Nodup->x∈l->y∈l->key x=key y->x=y
 |[],_,_,_,hx,_,_=>by cases hx
 |z::r,x,y,h,hx,hy,e=>by
  obtain⟨h1,h2⟩:=aM.mp h;obtain ex|Tb:=ao.mp hx
  .grind
  .obtain ey|hy':=ao.mp hy
   .grind
   .exact GB h2 Tb hy' e
def EX(he:pJ L h=Za e):e.1.nm=h:=by
 unfold pJ at he
 grind
def IP(nd:(L.map (·.1.nm)).Nodup)(he:pJ L h=Za e)(hx:x∈L)(hn:x.1.nm=h):x=e :=
 GB nd hx (sF he) (hn.trans (EX he).symm)
def Yx.Àu{K:aa}(B:Yx K C H b z Rf L)(nd:(L.map (·.1.nm)).Nodup)(he:pJ L h=Za e)(hg:∀x,g x={ x with held:=(g x).held })(hH:HeldAt K H' e.2 (g e.1).held)(kp:∀c o,H c=Za o->c≠e.2->H' c=Za o):Yx K C H' b z Rf (BW L h g):=by
 have VC:=sF he;have e2:e.2∈L.map (·.2):=ar.mpr ⟨e,VC,rfl⟩;obtain⟨n1,r1⟩:=aM.mp B.nd;obtain⟨n2,r2⟩:=aM.mp r1;obtain⟨n3,r3⟩:=aM.mp r2;obtain⟨n4,r4⟩:=aM.mp r3;obtain⟨n5,r5⟩:=aM.mp r4;obtain⟨n6,r6⟩:=aM.mp r5;have g1:∀x,(g x).nm=x.nm:=λx=>by rw[hg x]
 have g2:∀x,(g x).th=x.th:=λx=>by rw[hg x]
 have g3:∀x,(g x).mr=x.mr:=λx=>by rw[hg x]
 have g4:∀x,(g x).ls=x.ls:=λx=>by rw[hg x]
 refine⟨kp _ _ B.ob λq=>n1 (q▸by simp only[ao];right;right;right;right;right;exact e2),kp _ _ B.pp λq=>n2 (q▸by simp only[ao];right;right;right;right;exact e2),?_,?_,?_,?_,?_,?_,B.p6,by unfold BW;rw[ac];exact B.h8⟩
 .rw[uQ (v:=λe=>((ap e.1.nm:Key),V.int e.1.th)) λx=>by rw[g1,g2]];exact kp _ _ B.tt λq=>n3 (q▸by simp only[ao];right;right;right;exact e2)
 .rw[uQ (v:=λe=>((ap e.1.nm:Key),V.int e.1.mr)) λx=>by rw[g1,g3]];exact kp _ _ B.mm λq=>n4 (q▸by simp only[ao];right;right;exact e2)
 .rw[uQ (v:=λe=>((ap e.1.nm:Key),V.int e.1.ls)) λx=>by rw[g1,g4]];exact kp _ _ B.ll λq=>n5 (q▸by simp only[ao];right;exact e2)
 .rw[uQ (v:=λe=>((ap e.1.nm:Key),V.ref e.2)) λx=>by rw[g1]];exact B.hh.keep λo h=>kp _ _ h λq=>n6 (q▸e2)
 .intro y hy;obtain⟨x,hx,⟨hn,rfl⟩|⟨hn,rfl⟩⟩:=JO hy
  .rw[IP nd he hx hn];exact hH
  .have hy2:y.2≠e.2:=λq=>hn (by rw[GB (key:=λx:Ent×ag=>x.2) r6 hx VC q];exact EX he);obtain⟨Ra,hk⟩:∃Ra,H e.2=Za (.dK Ra):=by obtain⟨ts,_,q,_⟩:=B.he e VC;exact⟨_,q⟩
   refine(B.he y hx).keep (λo ho=>kp _ _ ho hy2) λc o ho x=>kp c o ho λq=>?_;rw[q,hk] at ho;cases ho;rcases x with⟨xs,z|⟨ob,z⟩⟩<;>cases z
 .rw[uQ (v:=λe=>e.2) λx=>rfl];exact B.nd
def OY(i j):NR [V.int i,V.int j] [V.int 0,V.int 1]=decide ((i,j)=((0:Int),(1:Int))):=by
 show(ū (.int i) (.int 0)&&(ū (.int j) (.int 1)&&true))=_;have e1:∀i j:Int,ū (.int i) (.int j)=decide (i=j):=λi j=>rfl
 grind
def bt0(k):Bt k 0:=cE k
def bt1(h:k≠0):Bt k 1:=Nat.one_lt_two_pow h
def sz0:Sz (0,1):=⟨⟨Zf rfl,(rfl:aJ 0 1=1)⟩,bt0 _,bt1 (Zf rfl)⟩
theorem Zq.same{K}(h:Zq K H p l z)(s:YQ H H'):Zq K H' p l z :=
 ⟨h.1,s _ _ h.2.1,λq hq=>(h.2.2 q hq).same s⟩
def Zq.get{K}(h:Zq K H p l z)(ho:Ä K H o (0,1))(n) :
  ∃x,(pB (z.map λq=>((ap q.1.1:Key),V.ref q.2)) (ap n)).getD (.ref o)=.ref x/\Ä K H x (mL l n):=by
 rcases h.val n with⟨_,hv,hg⟩|⟨_,x,hv,hx⟩
 .simp_all
 .simp_all
def pC(l:Hl)(o:Str)(q:Int×Int):Prop:=¬ 0<q.1\/q.1*(mL l o).2>(mL l o).1*q.2
instance (l:Hl) (o:Str) (q:Int×Int):Decidable (pC l o q):=by unfold pC;infer_instance
section
variable{P:aL}{w:aX}{K:aa}{mg:Str->Option af}{base:bi}{a:Yl}{f:ag}{fd:cj}
abbrev uy:bN:=oS (top 39) 8
def Z':N' ["self","house","one","other","share","held","rest"] ["self","house","one","other","share"] (mw uy):=Zr
structure ň(l:Hl)(o1:Str)(q:Int×Int):Prop where
 len:l.length<1000
 sz:∀n,Sz (mL l n)
 rs:¬pC l o1 q->Sz (oC (mL l o1) (-q.1,q.2))
def GV(K:aa)(a:Yl):Sp:=λvs H Q E=>∃b z Rf L h o1 o2 sp q,vs=[.ref b,.str h,.str o1,.str o2,.ref sp]/\Yx K a.Ye H b z Rf L/\(L.map (·.1.nm)).Nodup/\Nm h/\Nm o1/\Nm o2/\Ä K H sp q/\Sz q /\
 (∀e,pJ L h=Za e->ň e.1.held o1 q) /\
 (qL L h=false->E (.ref a.Yg) Zb H) /\
 (qL L h=true->(oJ Rf o1||qL L o1)=false->E (.ref a.Yc) Zb H) /\
 (qL L h=true->(oJ Rf o1||qL L o1)=true->(oJ Rf o2||qL L o2)=false->E (.ref a.Yc) Zb H) /\
 (∀e,pJ L h=Za e->(oJ Rf o1||qL L o1)=true->(oJ Rf o2||qL L o2)=true->pC e.1.held o1 q->E (.ref a.ï) Zb H) /\
 (∀e,pJ L h=Za e->(oJ Rf o1||qL L o1)=true->(oJ Rf o2||qL L o2)=true->¬pC e.1.held o1 q->∀H',Yx K a.Ye H' b z Rf (BW L h λx=>{ x with held:=Z8 x.held o1 o2 q })->(∀c o,H c=Za o->c≠e.2->H' c=Za o)->Q .Ym H')
def No(F:Î K "sale" "Book.sale" uy f fd)(T:Txt K mg a)(RC:Mt P w K mg base a.Ye "need_house" 2 ["self","name"] (qd K a))(Ro:Mt P w K mg base a.Ye "need_holder" 3 ["self","name"] (pI K a))(R6:Fn P w K mg base "is_above" 1 ["first","second"] (EE K))(TM:Fn P w K mg base "minus" 3 ["first","second"] (EC K))(SG:Fn P w K mg base "plus" 2 ["first","second"] (zh K)) :
  YD P w K mg base (Y7 P w) 4 f fd ["self","house","one","other","share"] (GV K a):=by
 refine F.okX Z' (λvs H Q E h=>?_) (λRk A outer s H vs Q E hr h=>?_)
 .obtain⟨b,z,Rf,L,h,o1,o2,sp,q,rfl,_⟩:=h;rfl
 .obtain⟨b,z,Rf,L,h,o1,o2,sp,q,rfl,B,nd,nh,n1,n2,hq,sq,Yn,k1,k2,k3,k4,k5⟩:=h;have hu:=qN hr;refine⟨_,(@mQ _ _ _ _ _ (@pY _ _ _ _ (vm (pv 0) RC (hr.mono (by first|decide|lia)) pR (@mI _ _ _ _ _ (pv 1) Yi (by rfl))) (by rfl)) (@mQ _ _ _ _ _ (@pY _ _ _ _ (vm (pv 0) Ro (hr.mono (by first|decide|lia)) pR (@mI _ _ _ _ _ (pv 2) Yi (by rfl))) (by rfl)) (@mQ _ _ _ _ _ (@pY _ _ _ _ (vm (pv 0) Ro (hr.mono (by first|decide|lia)) pR (@mI _ _ _ _ _ (pv 3) Yi (by rfl))) (by rfl)) (@mQ _ _ _ _ _ (@sM _ _ (5) _ _ _ _ Z'.nd rfl (eA rfl) (@xj _ _ _ _ _ _ hu (qg (pv 0) rfl) (pv 1) (λ_ _=>rfl)) (by rfl) (by first|exact .inl rfl|exact .inr rfl|assumption)) (@mQ _ _ _ _ _ (@wQ _ _ _ _ _ _ _ _ (PW.pt (OH (AX (wz (@wR _ _ _ _ _ _ _ _ _ _ _ R6 (hr.mono (by first|decide|lia)) rfl pR (@mI _ _ _ _ _ (pv 4) (@mI _ _ _ _ _ (qB rfl T.ľ T.ļ) Yi (by rfl)) (by rfl)) (by decide) (by rfl) (by rfl)))) (Lh (wz (@wR _ _ _ _ _ _ _ _ _ _ _ R6 (hr.mono (by first|decide|lia)) rfl pR (@mI _ _ _ _ _ (pv 4) (@mI _ _ _ _ _ (@At _ _ _ _ _ _ _ _ _ hu (pv 5) (pv 2) (qB rfl T.ľ T.ļ) ⟨rfl,rfl,rfl,rfl⟩) Yi (by rfl)) (by rfl)) (by decide) (by rfl) (by rfl)))))) (@mW _ _ _ (qA T.ϋ rfl T.ĳ rfl (FJ (yI (pv 2) (AY (yI (pv 1) AZ)))) zF)) Zv) (@mQ _ _ _ _ _ (@sM _ _ (6) _ _ _ _ Z'.nd rfl (eA rfl) (@wR _ _ _ _ _ _ _ _ _ _ _ TM (hr.mono (by first|decide|lia)) rfl pR (@mI _ _ _ _ _ (@xj _ _ _ _ _ _ hu (pv 5) (pv 2) (λ_ _=>rfl)) (@mI _ _ _ _ _ (pv 4) Yi (by rfl)) (by rfl)) (by decide) (by rfl) (by rfl)) (by rfl) (by first|exact .inl rfl|exact .inr rfl|assumption)) (@mQ _ _ _ _ _ (@wQ _ _ _ _ _ _ _ _ (@vz _ _ _ _ _ _ _ _ (P4 (Nat.lt_of_succ_lt hu)) (pv 6) (qB rfl T.ľ T.ļ) (vC _)) (@mW _ _ _ (@pY _ _ _ _ (EQ (pv 5) (pv 2) ⟨rfl,rfl,rfl,rfl⟩) (by rfl))) (@mW _ _ _ (sd hu (pv 5) (pv 2) (pv 6) rfl))) (@mW _ _ _ (sd hu (pv 5) (pv 3) (@wR _ _ _ _ _ _ _ _ _ _ _ SG (hr.mono (by first|decide|lia)) rfl pR (@mI _ _ _ _ _ (@At _ _ _ _ _ _ _ _ _ hu (pv 5) (pv 3) (qB rfl T.ľ T.ļ) ⟨rfl,rfl,rfl,rfl⟩) (@mI _ _ _ _ _ (pv 4) Yi (by rfl)) (by rfl)) (by decide) (by rfl) (by rfl)) rfl))))))))),?_⟩;have bn:∀{m:Str},¬m="people"->¬m="things_of"->¬m="mark_of"->¬m="loss_of"->¬m="held_of"->(bf z).lookup m=none:=λa b c d e=>vw z a b c d e;refine⟨_,rfl,b,_,_,rfl,B.ob,vw z,_,rfl,b,z,Rf,L,h,rfl,B,nh,λhh=>?_,λhh=>k1 hh⟩;refine⟨_,rfl,b,_,_,rfl,B.ob,vw z,_,rfl,b,z,Rf,L,o1,rfl,B,n1,λh1=>?_,λh1=>k2 hh h1⟩;refine⟨_,rfl,b,_,_,rfl,B.ob,vw z,_,rfl,b,z,Rf,L,o2,rfl,B,n2,λh2=>?_,λh2=>k3 hh h1 h2⟩;cases he:pJ L h with
  |none=>unfold qL at hh;unfold pJ at he;rw[he] at hh;cases hh
  |some e =>
  have VC:=sF he;have ok:=Yn e he;obtain⟨zz,Zj⟩:=(B.he e VC).toZ;have Tw:=B.hh.ÀC h;rw[K3 _ he] at Tw;have Sw:∀H,Ä K H a.ŗ (0,1):=λH=>.inr T.zero;refine⟨_,rfl,b,_,_,_,_,rfl,B.ob,T.cl,T.Y0,vN z,_,rfl,_,_,rfl,Tw,?_⟩;refine⟨_,rfl,sp,a.ŗ,q,(0,1),rfl,hq,Sw H,sq,sz0,_,rfl,vH (λh3=>?_) (λh3=>?_)⟩
  .have h3:=of_decide_eq_false (nbT h3);exact NG ⟨_,rfl,⟨o1,rfl,n1⟩,_,rfl,⟨h,rfl,nh⟩,λy=>k4 e he h1 h2 (.inl (by simp only at h3;lia))⟩
  have q0:0<q.1:=by have:=Zf (nbF h3);simp only at this;lia
  obtain⟨x0,Vi,fx0⟩:=Zj.get (Sw H) o1;refine⟨_,rfl,_,rfl,e.2,rfl,.inl ⟨_,.inl Zj.2.1⟩,_,rfl,_,Zs.k (k:=ap o1) Zj.2.1,?_⟩;rw[Vi];refine⟨sp,x0,q,_,rfl,hq,fx0,sq,ok.sz o1,_,rfl,vH (λh4=>?_) (λh4=>?_)⟩
  .have h4:=Zf h4;exact⟨_,rfl,⟨o1,rfl,n1⟩,_,rfl,⟨h,rfl,nh⟩,λy=>k4 e he h1 h2 (.inr h4)⟩
  have h4:¬q.1*(mL e.1.held o1).2>(mL e.1.held o1).1*q.2:=λz=>h4 (Zg z);have ntm:¬pC e.1.held o1 q:=λz=>z.elim (λy=>y q0) h4;rcases Zj.val o1 with⟨_,_,hg⟩|⟨hn,x,hv,hx⟩
  .exfalso;rw[hg] at h4;simp only at h4;lia
  have Ut:Zs H e.2 (.str o1) (Za (.ref x)):=by have:=Zs.k (k:=ap o1) Zj.2.1;rw[hv] at this;exact this
  refine⟨_,rfl,_,rfl,e.2,_,rfl,Ut,_,rfl,x,sp,_,_,rfl,hx,hq,ok.sz o1,sq,λr H1 hr0 s1 Vl=>?_⟩;have Z1:=Zj.same s1;have Rx:∀H2 l1 z2,Zq K H2 e.2 l1 z2->Z8 e.1.held o1 o2 q=oz l1 o2 (oC (mL l1 o2) q)->(∀c o,H c=Za o->c≠e.2->H2 c=Za o)->Sz (mL l1 o2)->l1.length<=e.1.held.length->Ä K H2 sp q ->
    OC (Jz 5) (Jz 3) (Fv (zh K) [] E (L5 (K8 (Jz 5) (Jz 3) (tC (V.ref a.ŗ))) (L5 (Jz 4) K7))) { nx:=λx H'=>Q V.Ym H',rt:=Q } [Za (V.ref b),Za (V.str h),Za (V.str o1),Za (V.str o2),Za (V.ref sp),Za (V.ref e.2),Za (V.ref r)] H2:=by
   intro H2 l1 z2 Z2 es kp szl len fq;obtain⟨y,hy,fy⟩:=Z2.get (Sw H2) o2;refine⟨_,rfl,e.2,rfl,.inl ⟨_,.inl Z2.2.1⟩,_,rfl,_,Zs.k (k:=ap o2) Z2.2.1,?_⟩;rw[hy];refine⟨_,rfl,y,sp,_,_,rfl,fy,fq,szl,sq,λt ht=>?_⟩;have st:=sL (o:=.tup [.int (oC (mL l1 o2) q).1,.int (oC (mL l1 o2) q).2]) ht;have Z3:=Z2.same st;refine⟨_,rfl,_,rfl,e.2,_,rfl,ß.k (k:=ap o2) Z3.2.1 ?_,?_⟩
   .rw[ac,<-ac (f:=(·.1)),Z2.1];exact aZ len (g8 ok.len (by decide))
   .obtain⟨z4,Z4⟩:=Z3.put (n:=o2) (x:=t) (q:=oC (mL l1 o2) q) (ZK.of mv);have kp':∀c o,H c=Za o->c≠e.2->(upd (upd H2 t (.tup [.int (oC (mL l1 o2) q).1,.int (oC (mL l1 o2) q).2])) e.2 (.dK (qY (z2.map λq=>((ap q.1.1:Key),V.ref q.2)) (ap o2) (.ref t)))) c=Za o:=λc o hc hn=>by rw[mj hn];exact st c o (kp c o hc hn)
    refine k5 e he h1 h2 ntm _ (B.Àu nd he (λx=>rfl) ?_ kp') kp';show HeldAt K _ e.2 (Z8 e.1.held o1 o2 q);rw[es];exact Z4.held
  refine⟨_,rfl,r,a.ŗ,_,_,rfl,rfl,ZK.of Vl,.inr T.zero,rfl,rfl,rfl,_,rfl,vH (λh5=>?_) (λh5=>?_)⟩
  .rw[OY] at h5;have h5:oC (mL e.1.held o1) (-q.1,q.2)=(0,1):=Zf h5;refine⟨_,rfl,e.2,rfl,.inl ⟨_,.inl Z1.2.1⟩,_,rfl,_,ap o1,.ref x,Z1.2.1,rfl,hv,?_⟩;obtain⟨z2,Z2⟩:=Z1.drop (n:=o1);refine Rx _ _ z2 Z2 ?_ (λc o hc hn=>by rw[mj hn];exact s1 c o hc) ?_ (EU _ _) (DQ Z1.2.1 (hq.same s1))
   .unfold Z8;simp[h5,if_true]
   .rw[qp];by_cases e2:o2=o1
    .rw[Zc e2];exact sz0
    .rw[Zd e2];exact ok.sz o2
  .rw[OY] at h5;have h5:¬oC (mL e.1.held o1) (-q.1,q.2)=(0,1):=λz=>h5 (Zg z);refine⟨_,rfl,_,rfl,_,rfl,e.2,_,rfl,ß.k (k:=ap o1) Z1.2.1 ?_,?_⟩
   .rw[ac,<-ac (f:=(·.1)),Zj.1];exact g8 ok.len (by decide)
   .obtain⟨z2,Z2⟩:=Z1.put (n:=o1) (x:=r) (q:=oC (mL e.1.held o1) (-q.1,q.2)) (ZK.of Vl);refine Rx _ _ z2 Z2 ?_ (λc o hc hn=>by rw[mj hn];exact s1 c o hc) ?_ ?_ (DQ Z1.2.1 (hq.same s1))
    .unfold Z8;simp[h5,if_false]
    .rw[nJ];by_cases e2:o2=o1
     .rw[Zc e2];exact ok.rs ntm
     .rw[Zd e2];exact ok.sz o2
    .have:=congrArg cD (nZ e.1.held o1 (oC (mL e.1.held o1) (-q.1,q.2)));rw[Zc hn,ac,ac] at this;exact jf this
end
noncomputable def oo(L:List Ent)(n:Str):Option Ent:=L.find? λe=>decide (e.nm=n)
def mR(L:List Ent)(n:Str):Bool:=(oo L n).isSome
noncomputable def FC(L:List Ent)(h:Str)(g:Ent->Ent):List Ent:=L.map λx=>if x.nm=h then g x else x
def Ce(L)(n):(pJ L n).map (·.1)=oo (L.map (·.1)) n:=by unfold pJ oo;rw[gw];rfl
def pS(L)(n):qL L n=mR (L.map (·.1)) n:=by unfold mR;rw[<-Ce];unfold qL pJ;grind
def JP(L:List (Ent×ag))(h:Str)(g:Ent->Ent):(BW L h g).map (·.1)=FC (L.map (·.1)) h g:=by
 unfold BW FC;rw[aE,aE];refine a7 λx _=>?_
 grind
def se(a:Yl)(pp:List Str)(L:List Ent)(x:Str):Option ag:=if yh x=false then Za a.ė else if(oJ pp x||mR L x)=true then Za a.ř else Zb
def xh(a:Yl)(pp:List Str)(L:List Ent)(x:Str):Option ag:=match se a pp L x with
 |some c=>Za c
 |none=>if 6<=pp.length then Za a.Ã else Zb
def xp(a:Yl)(pp:List Str)(L:List Ent)(x o:Str)(l:Int):Option ag:=match se a pp L x with
 |some c=>Za c
 |none=>if(oJ pp o||mR L o)=false then Za a.Yc else if l<0 then Za a.ø else if 8<=L.length then Za a.Ã else Zb
def zB(a)(pp)(L)(x):rM a pp L x=se a pp (L.map (·.1)) x:=by unfold rM se;rw[pS]
def zt(a)(pp)(L)(x):vA a pp L x=xh a pp (L.map (·.1)) x:=by unfold vA xh;rw[zB];try (cases se a pp (L.map (·.1)) x<;>rfl)
def zP(a)(pp)(L)(x o)(l):sP a pp L x o l=xp a pp (L.map (·.1)) x o l:=by unfold sP xp;rw[zB,pS,ac];try (cases se a pp (L.map (·.1)) x<;>rfl)
noncomputable instance (x:Str):Decidable (Nm x):=du _
def nV(vs:List PV)(s:K')(k:Nat->List Str->List Ent->List PV->Out PV):Out PV:=match vs with
 |.ref n::r=>match s.get n with
  |some (.book pp L)=>k n pp L r
  |_=>.bad
 |_=>.bad
def vg(a:Yl)(vs:List PV)(s:K'):Out PV:=nV vs s λn pp L r=>match r with
 |[.str x]=>if Nm x then(match xh a pp L x with
  |none=>.ok .Ym (s.set n (.book (pp++[x]) L))
  |some c=>.ex c s) else .bad
 |_=>.bad
def xz(a:Yl)(vs:List PV)(s:K'):Out PV:=nV vs s λn pp L r=>match r with
 |[.str x,.str o,.int t,.int m,.int l]=>if Nm x/\Nm o then(match xp a pp L x o l with
  |none=>.ok .Ym (s.set n (.book pp (L++[⟨x,t,m,l,[(o,1,1)]⟩])))
  |some c=>.ex c s) else .bad
 |_=>.bad
def sH(_:Yl)(vs:List PV)(s:K'):Out PV:=nV vs s λ_ pp _ r=>match r with
 |[]=>.ok (.lst ((Yq pp).map .str)) s
 |_=>.bad
def pU(_:Yl)(vs:List PV)(s:K'):Out PV:=nV vs s λ_ _ L r=>match r with
 |[]=>.ok (.lst ((Yq (L.map (·.nm))).map .str)) s
 |_=>.bad
noncomputable def ZJ(q:Int×Int):PV:=.tup [.int q.1,.int q.2]
def t9(q:Str×Int×Int):PV:=.tup [.str q.1,ZJ q.2]
def qX(l:List (Str×Int×Int)):PV:=.lst ((Yq (l.map (·.1))).map λn=>t9 (nc l n))
def oY(a:Yl)(vs:List PV)(s:K'):Out PV:=nV vs s λ_ _ L r=>match r with
 |[.str x]=>if Nm x then(match oo L x with
  |none=>.ex a.Yg s
  |some e=>if e.held.length<64 then .ok (qX e.held) s else .bad) else .bad
 |_=>.bad
def oB(a:Yl)(vs:List PV)(s:K'):Out PV:=nV vs s λ_ _ L r=>match r with
 |[.str x]=>if Nm x then(if mR L x=true then .ok .Ym s else .ex a.Yg s) else .bad
 |_=>.bad
def ny(a:Yl)(vs:List PV)(s:K'):Out PV:=nV vs s λ_ pp L r=>match r with
 |[.str x]=>if Nm x then(if(oJ pp x||mR L x)=true then .ok .Ym s else .ex a.Yc s) else .bad
 |_=>.bad
structure Ϫ(L:List Ent)(h o1 o2:Str)(q:Int×Int):Prop where
 nd:(L.map (·.nm)).Nodup
 nm:Nm h/\Nm o1/\Nm o2
 sz:Sz q
 ok:∀e,oo L h=Za e->ň e.held o1 q
noncomputable instance (L:List Ent) (h o1 o2:Str) (q:Int×Int):Decidable (Ϫ L h o1 o2 q):=du _
def wI(a:Yl)(vs:List PV)(s:K'):Out PV:=nV vs s λn pp L r=>match r with
 |[.str h,.str o1,.str o2,.tup [.int t,.int b]]=>if Ϫ L h o1 o2 (t,b) then(match oo L h with
  |none=>.ex a.Yg s
  |some e=>if(oJ pp o1||mR L o1)=false then .ex a.Yc s else if(oJ pp o2||mR L o2)=false then .ex a.Yc s
   else if pC e.held o1 (t,b) then .ex a.ï s else .ok .Ym (s.set n (.book pp (FC L h λx=>{ x with held:=Z8 x.held o1 o2 (t,b) })))) else .bad
 |_=>.bad
section
variable{K:aa}{H:Hp}{m:Mp}{s:K'}{a:Yl}
def Q2(S:SR K CB H m s)(hg:s.get n=Za (.book pp L))(eF:m.fp n=Z6 (m.ad n) z L')(B':Yx K CB H' (m.ad n) z pp' L2)(k:∀a o,H a=Za o->a∉Z6 (m.ad n) z L'->H' a=Za o)(Sb:∀a∈Z6 (m.ad n) z L2,a∈Z6 (m.ad n) z L'\/H a=Zb) :
  SR K CB H' (m.ZF n (Z6 (m.ad n) z L2)) (s.set n (.book pp' (L2.map (·.1))))/\Ext H m s H' (m.ZF n (Z6 (m.ad n) z L2)) (s.set n (.book pp' (L2.map (·.1)))) :=
 S.put hg (by grind) H' _ (by rw[eF];exact k) (by rw[eF];exact Sb) λ_=>⟨z,L2,B',rfl,by show(if n=n then _ else _)=_;rw[Zc rfl];rfl⟩
def onB(S:SR K CB H m s)(r:Yd K H m s xs vs)(P:Yw K CB (Rep K) E (nV vs s k) H m s Q) :
  ∃n pp L z L' us ys,s.get n=Za (.book pp L)/\Yx K CB H (m.ad n) z pp L'/\L'.map (·.1)=L/\m.fp n=Z6 (m.ad n) z L'/\xs=.ref (m.ad n)::us/\Yd K H m s us ys/\Yw K CB (Rep K) E (k n pp L ys) H m s Q:=by
 unfold nV at P;split at P
 .rename_i n r';split at P
  .rename_i pp L hg;obtain⟨z,L',B,e1,e2⟩:=S.get hg;cases r with
   |cons r1 r2 =>
    cases r1;exact⟨n,pp,L,z,L',_,_,hg,B,e1,e2,rfl,r2,P⟩
  .exact P.elim
 .exact P.elim
def NJ(h:e∈L):e.2∈Z6 b z L:=by
 unfold Z6
 grind
def JN(L:List (Ent×ag))(h:Str)(g:Ent->Ent):(BW L h g).map (·.2)=L.map (·.2):=by
 unfold BW;rw[aE];refine a7 λx _=>?_
 grind
def MJ(b)(z)(L)(h)(g):Z6 b z (BW L h g)=Z6 b z L:=by unfold Z6;rw[JN]
def zw(r:Yd K H m s us [.str x]):us=[.str x]:=by
 cases r with
 |cons a b=>cases a;cases b;rfl
def Fx(vs)(H)(Q)(E)(h:Y4 K a.Ye 2 (vg a) vs H Q E):BS K a vs H Q E:=by
 obtain⟨_,ps,s,m,r,S,P⟩:=h;obtain⟨n,pp,L,z,L',us,ys,hg,B,e1,e2,rfl,r',P⟩:=onB S r P;split at P
 .split at P
  .rename_i x hx;cases zw r';refine⟨_,z,pp,L',x,rfl,B,hx,λhd H' B' k=>?_,λc hd H' k=>?_⟩
   .rw[zt,e1] at hd;rw[hd] at P;obtain⟨S2,x2⟩:=Q2 S hg e2 B' (λc o h hc=>k c o h λz=>hc (by rw[z];simp[Z6])) (λc hc=>.inl hc);rw[e1] at S2 x2;exact P _ _ _ x2 S2 .Ym
   .rw[zt,e1] at hd;rw[hd] at P;exact P _ m (.same k) (S.same k)
  .exact P.elim
 .exact P.elim
def HV(vs)(H)(Q)(E)(h:Y4 K a.Ye 6 (xz a) vs H Q E):ED K a vs H Q E:=by
 obtain⟨_,ps,s,m,r,S,P⟩:=h;obtain⟨n,pp,L,z,L',us,ys,hg,B,e1,e2,rfl,r',P⟩:=onB S r P;split at P
 .split at P
  .rename_i x o t mm l hx;cases r' with
   |cons q1 r'=>cases r' with
    |cons q2 r'=>cases r' with
     |cons q3 r'=>cases r' with
      |cons q4 r'=>cases r' with
       |cons q5 r' =>
        cases r';cases q1;cases q2;cases q3;cases q4;cases q5;refine⟨_,z,pp,L',x,o,t,mm,l,rfl,B,hx.1,hx.2,λhd p H' hp B' k=>?_,λc hd H' k=>?_⟩
        .rw[zP,e1] at hd;rw[hd] at P;obtain⟨S2,x2⟩:=Q2 S hg e2 B' (λc o h hc=>k c o h λz=>hc (by unfold Z6;simp only[ao,eB,or_false] at z ⊢;obtain z|z|z|z:=z<;>simp[z])) (λc hc=>by
          unfold Z6 at hc ⊢;rw[aA] at hc;simp[ao,aW,am,cP,eB,or_false] at hc ⊢;obtain h|h|h|h|h|h|h|h:=hc
          .exact .inl (.inl h)
          .exact .inl (.inr (.inl h))
          .simp_all
          .simp_all
          .simp_all
          .simp_all
          .simp_all
          .rw[h];exact .inr hp)
         rw[aA,e1] at S2 x2;exact P _ _ _ x2 S2 .Ym
        .rw[zP,e1] at hd;rw[hd] at P;exact P _ m (.same k) (S.same k)
  .exact P.elim
 .exact P.elim
def D6(vs)(H)(Q)(E)(h:Y4 K a.Ye 1 (sH a) vs H Q E):zi K a.Ye vs H Q E:=by
 obtain⟨_,ps,s,m,r,S,P⟩:=h;obtain⟨n,pp,L,z,L',us,ys,hg,B,e1,e2,rfl,r',P⟩:=onB S r P;split at P
 .cases r';exact⟨_,z,pp,L',rfl,B,λl hl=>P.new S hl λex S'=>.lst mv (S.YM hl) (.ofStrs _)⟩
 .exact P.elim
def Fy(vs)(H)(Q)(E)(h:Y4 K a.Ye 1 (pU a) vs H Q E):BU K a.Ye vs H Q E:=by
 obtain⟨_,ps,s,m,r,S,P⟩:=h;obtain⟨n,pp,L,z,L',us,ys,hg,B,e1,e2,rfl,r',P⟩:=onB S r P;split at P
 .cases r';refine⟨_,z,pp,L',rfl,B,λl hl=>P.new S hl λex S'=>.lst mv (S.YM hl) ?_⟩;rw[<-e1,aE];exact .ofStrs _
 .exact P.elim
def zT(e:L'.map (·.1)=L):(∀q,pJ L' x=Za q->oo L x=Za q.1)/\(pJ L' x=Zb->oo L x=Zb):=by
 have:=Ce L' x
 grind
theorem BY:∀{l:List (Str×Int×Int)}{vs:List V}{m:Mp}{s:K'}{CB:ag}{H:Hp},SR K CB H m s->eU (ZP K H) l vs->Yd K H m s vs (l.map t9)
 |_,_,_,_,_,_,_,.nil=>.nil
 |_,_,m,s,CB,H,S,.cons r t=>by obtain⟨p,q,rfl,h1,h2⟩:=r;have tp:∀{c:ag}{xs:List V},ZK K H c xs->(Rd H c (.tup xs)/\ĥ m s c\/KT' K c xs):=λh=>h.elim (λz=>.inl ⟨z,z.elim (λz=>S.Zo z) λ⟨_,z⟩=>S.Č (.inl z)⟩) .inr;exact .cons (.tup (tp h1) (.cons .str (.cons (.tup (tp h2) (.cons .int (.cons .int .nil))) .nil))) (BY S t)
def Fw(vs)(H)(Q)(E)(h:Y4 K a.Ye 2 (oY a) vs H Q E):BR K a vs H Q E:=by
 obtain⟨_,ps,s,m,r,S,P⟩:=h;obtain⟨n,pp,L,z,L',us,ys,hg,B,e1,e2,rfl,r',P⟩:=onB S r P;split at P
 .split at P
  .rename_i x hx;cases zw r';obtain⟨f1,f2⟩:=zT e1;refine⟨_,z,pp,L',x,rfl,B,hx,λe he=>?_,λhe=>?_⟩
   .rw[f1 e he] at P;dsimp only at P;split at P
    .rename_i T0;refine⟨T0,λl UY H' hl k h' pr=>?_⟩;have S':=S.same k;refine P _ H' m (.same k) S' (.lst h' ?_ ?_)
     .have:=S.YM hl;exact this
     .have:=BY S' pr;rw[aE] at this;exact this
    .exact P.elim
   .rw[f2 he] at P;exact P H m .refl S
  .exact P.elim
 .exact P.elim
def yS(vs)(H)(Q)(E)(h:Y4 K a.Ye 2 (oB a) vs H Q E):qd K a vs H Q E:=by
 obtain⟨_,ps,s,m,r,S,P⟩:=h;obtain⟨n,pp,L,z,L',us,ys,hg,B,e1,e2,rfl,r',P⟩:=onB S r P;split at P
 .split at P
  .rename_i x hx;cases zw r';refine⟨_,z,pp,L',x,rfl,B,hx,λh=>?_,λh=>?_⟩
   .rw[pS,e1] at h;rw[Zc h] at P;exact P.here S .Ym
   .rw[pS,e1] at h;rw[Zd (by grind)] at P;exact P H m .refl S
  .exact P.elim
 .exact P.elim
def yv(vs)(H)(Q)(E)(h:Y4 K a.Ye 2 (ny a) vs H Q E):pI K a vs H Q E:=by
 obtain⟨_,ps,s,m,r,S,P⟩:=h;obtain⟨n,pp,L,z,L',us,ys,hg,B,e1,e2,rfl,r',P⟩:=onB S r P;split at P
 .split at P
  .rename_i x hx;cases zw r';refine⟨_,z,pp,L',x,rfl,B,hx,λh=>?_,λh=>?_⟩
   .rw[pS,e1] at h;rw[Zc h] at P;exact P.here S .Ym
   .rw[pS,e1] at h;rw[Zd (by rw[h];decide)] at P;exact P H m .refl S
  .exact P.elim
 .exact P.elim
def JK(vs)(H)(Q)(E)(h:Y4 K a.Ye 5 (wI a) vs H Q E):GV K a vs H Q E:=by
 obtain⟨_,ps,s,m,r,S,P⟩:=h;obtain⟨n,pp,L,z,L',us,ys,hg,B,e1,e2,rfl,r',P⟩:=onB S r P;split at P
 .split at P
  .rename_i h o1 o2 t b hs;cases r' with
   |cons q1 r'=>cases r' with
    |cons q2 r'=>cases r' with
     |cons q3 r'=>cases r' with
      |cons q4 r' =>
       cases r';cases q1;cases q2;cases q3;obtain⟨p,ws,rfl,ht,RR⟩:=q4.tp;cases RR with
       |cons w1 w2=>cases w2 with
        |cons w2 w3 =>
         cases w3;cases w1;cases w2;obtain⟨f1,f2⟩:=zT e1;have hh:qL L' h=(oo L h).isSome:=by rw[pS,e1];rfl
         have h1:(oJ pp o1||qL L' o1)=(oJ pp o1||mR L o1):=by rw[pS,e1]
         have h2:(oJ pp o2||qL L' o2)=(oJ pp o2||mR L o2):=by rw[pS,e1]
         refine⟨_,z,pp,L',h,o1,o2,p,(t,b),rfl,B,by rw[show L'.map (λx=>x.1.nm)=L.map (·.nm) by rw[<-e1,aE];rfl];exact hs.nd,hs.nm.1,hs.nm.2.1,hs.nm.2.2,ht,hs.sz,λe he=>hs.ok _ (f1 e he),λq=>?_,λq g1=>?_,λq g1 g2=>?_,λe he g1 g2 g3=>?_,λe he g1 g2 g3 H' B' k=>?_⟩
         .rw[hh] at q;cases c:oo L h with
          |none=>rw[c] at P;exact P H m .refl S
          |some e=>rw[c] at q;cases q
         .rw[hh] at q;cases c:oo L h with
          |none=>rw[c] at q;cases q
          |some e=>rw[c] at P;dsimp only at P;rw[Zc (by rw[<-h1];exact g1)] at P;exact P H m .refl S
         .rw[hh] at q;cases c:oo L h with
          |none=>rw[c] at q;cases q
          |some e=>rw[c] at P;dsimp only at P;rw[Zd (by rw[<-h1,g1];decide),Zc (by rw[<-h2];exact g2)] at P;exact P H m .refl S
         .rw[f1 e he] at P;dsimp only at P;rw[Zd (by rw[<-h1,g1];decide),Zd (by rw[<-h2,g2];decide),Zc g3] at P;exact P H m .refl S
         .rw[f1 e he] at P;dsimp only at P;rw[Zd (by rw[<-h1,g1];decide),Zd (by rw[<-h2,g2];decide),Zd g3] at P;obtain⟨S2,x2⟩:=Q2 S hg e2 B' (λc o hc hn=>k c o hc λz=>hn (by rw[z];exact NJ (sF he))) (λc hc=>.inl (by rw[MJ] at hc;exact hc));rw[JP,e1] at S2 x2;exact P _ _ _ x2 S2 .Ym
  .exact P.elim
 .exact P.elim
theorem Mt.imp(M:Mt P w K mg base C mm k ps sp)(h:∀vs H Q E,UF vs H Q E->sp vs H Q E):Mt P w K mg base C mm k ps UF :=
 let⟨f,fd,F,b⟩:=M;⟨f,fd,F.imp h,b⟩
theorem Fn.imp(M:Fn P w K mg base x k ps sp)(h:∀vs H Q E,UF vs H Q E->sp vs H Q E):Fn P w K mg base x k ps UF :=
 let⟨f,fd,F,b⟩:=M;⟨f,fd,F.imp h,b⟩
noncomputable instance (q:Int×Int):Decidable (Sz q):=du _
end
end My
namespace L2
open PySem PySem.Spec PyProof.Rows
def NOw(u:HO):Prop:=∀o x,u≠.YZ o (.own x)
section
variable{K:aa}{H H':Hp}{m:Mp}{s:K'}
mutual
theorem Rep.now(k:∀a u,H a=Za u->NOw u->H' a=Za u):∀{v:V}{p:PV},Rep K H m s v p->Rep K H' m s v p
 |_,_,.Ym=>.Ym
 |_,_,.bl=>.bl
 |_,_,.int=>.int
 |_,_,.str=>.str
 |_,_,.tup h r=>.tup (h.imp (λz=>⟨z.1.imp (λh=>k _ _ h (by intro _ _ z;cases z)) λ⟨o,h⟩=>⟨o,k _ _ h (by intro _ _ z;cases z)⟩,z.2⟩) λz=>z) (Yd.now k r)
 |_,_,.lst h p r=>.lst (k _ _ h (by intro _ _ z;cases z)) p (Yd.now k r)
 |_,_,.seq h r=>.seq (h.imp (λ⟨⟨o,z⟩,p⟩=>⟨⟨o,k _ _ z (by intro _ _ z;cases z)⟩,p⟩) λz=>z) (Yd.now k r)
 |_,_,.Yr h p r=>.Yr (h.imp (λh=>k _ _ h (by intro _ _ z;cases z)) λ⟨o,h⟩=>⟨o,k _ _ h (by intro _ _ z;cases z)⟩) p (Yf.now k r)
 |_,_,.ref h=>.ref h
 |_,_,.exc h p=>.exc (k _ _ h (by intro _ _ z;cases z)) p
 |_,_,.ŭ r=>.ŭ (Yd.now k r)
theorem Yd.now(k:∀a u,H a=Za u->NOw u->H' a=Za u):∀{v:List V}{p:List PV},Yd K H m s v p->Yd K H' m s v p
 |_,_,.nil=>.nil
 |_,_,.cons a b=>.cons (Rep.now k a) (Yd.now k b)
theorem Yf.now(k:∀a u,H a=Za u->NOw u->H' a=Za u):∀{v:List (Key×V)}{p:List (Key×PV)},Yf K H m s v p->Yf K H' m s v p
 |_,_,.nil=>.nil
 |_,_,.cons a b=>.cons (Rep.now k a) (Yf.now k b)
end
end
def Fro(H H':Hp):Prop:=∀a o u,H a=Za (.YZ o u)->H' a=Za (.YZ o u)
structure Â4(P:aL)(w:aX)(K:aa)(mg:Str->Option af)(base:bi)(k:Nat)(CB f:ag)(vs:List V)(H:Hp)(dr:List PV->PV->K'->Out PV):Prop where
 ex:∃of fd0 fd ps sp,H f=Za (fzO of)/\of.data=.func fd0/\YD P w K mg base (Y7 P w) k f fd ps sp/\Binds K fd ps [] /\
  ∀H' m s v p l Q,Fro H H'->SR K CB H' m s->Yd K H' m s vs l->Rep K H' m s v p->Yw K CB (Rep K) E0 (dr l p s) H' m s Q->sp [v] H' Q E0
open Classical in
open Classical in
def yG(fi:XA)(ix:List Nat)(c:XT)(e:XE)(Z:En)(s:K'):Out PV:=(fi Z s).bind λl s1=>if l.length<=100000 then(oi c e (nS ix Z) l s1).bind λvs s2=>.ok (.ref s2.nx) (s2.add (.lst vs)) else .bad
section
variable{X:Cx}{CB:ag}{E:XK}{a c e Rz iter:bc}{Ry:List bc}{f h:XE}{fi:XA}{t:XT}{p px pos:Pos}{x:Str}{u v:XS}{scope:dF}{fr:List Str}{ix:List Nat}
def ħ.cell{K}{D}{H1 H2}{m1 m2}{s1 s2}{cap}{Z}{ys}{done}(C:ħ K CB D H1 m1 s1 cap Z ys done H2 m2 s2)(hD:H1 D=Zb)(hn:D∉m1.YW) :
  SR K CB H2 ((m2.bare m1.YW).add s2.nx D [D]) (s2.add (.lst done))/\Ext H1 m1 s1 H2 ((m2.bare m1.YW).add s2.nx D [D]) (s2.add (.lst done)):=by
 have S:=C.sr;have RH:D∈m2.YW:=by rw[C.YW];exact ai
 have Rs:=λj hj=>az (S.lt j hj);have SK:∀j∈s2.cs.map (·.1),((m2.bare m1.YW).add s2.nx D [D]).fp j=m2.fp j:=λj hj=>Zd (Rs j hj);have Tg:((m2.bare m1.YW).add s2.nx D [D]).fp s2.nx=[D]:=Zc rfl;have had:((m2.bare m1.YW).add s2.nx D [D]).ad s2.nx=D:=Zc rfl;have nD:=λj hj z=>S.hx j hj D z RH;have hk:=λ{j} hj=>ao.mp (show j∈s2.nx::s2.cs.map (·.1) from hj);have Uh:∀a,a∈m1.YW->a∈m2.YW:=λa ha=>by rw[C.YW];exact ae _ ha
 have pur:∀a,a≠D->a∉m1.YW->(∀n∈s2.cs.map (·.1),a∉m2.fp n)->ĥ ((m2.bare m1.YW).add s2.nx D [D]) (s2.add (.lst done)) a:=λa h1 h2 h3=>⟨h2,λj hj ha=>by
  obtain rfl|hj:=hk hj
  .grind
  .rw[SK j hj] at ha;exact h3 j hj ha⟩
 have x:ExtR H2 m2 s2 H2 ((m2.bare m1.YW).add s2.nx D [D]) (s2.add (.lst done)):=⟨eX _,λj hj=>Zd (az hj),λa u h p=>⟨h,pur a (λz=>p.1 (z▸RH)) (λz=>p.1 (Uh a z)) p.2⟩,λa u h _ _=>h⟩;have e1:=C.ex.nx;refine⟨⟨?_,?_,λq hq=>?_,λj hj i hi RD a ha hb=>?_,λj hj a ha hb=>?_,λa ha=>S.hs a (Uh a ha),λP q t=>⟨?_,(S.tb P q t).2⟩⟩,⟨⟨⟨Nat.le_succ_of_le e1,λn hn=>?_,λa u h p=>?_,C.ex.el⟩,λn l hn h=>?_⟩,rfl,C.ex.hk⟩⟩
 .exact aM.mpr ⟨λz=>Rs _ z rfl,S.nd⟩
 .intro j hj;obtain rfl|hj:=hk hj
  .exact cA _
  .exact cm (S.lt j hj)
 .obtain rfl|hq:=ao.mp (hq)
  .exact⟨by rw[Tg,had],ys,by rw[had];exact C.at_,C.rs.Yu x⟩
  .have Vm:q.1∈s2.cs.map (·.1):=ar.mpr ⟨q,hq,rfl⟩;exact(S.ok q hq).keep S x (λa _ o h=>h) (x.ad _ (S.lt _ Vm)) (SK _ Vm)
 .obtain e|hj:=hk hj<;>obtain e'|hi:=hk hi
  .grind
  .rw[e,Tg,ay] at ha;rw[SK i hi,ha] at hb;exact nD i hi hb
  .rw[e',Tg,ay] at hb;rw[SK j hj,hb] at ha;exact nD j hj ha
  .rw[SK j hj] at ha;rw[SK i hi] at hb;exact S.dj j hj i hi RD a ha hb
 .have hb:a∈m1.YW:=hb;obtain e|hj:=hk hj
  .grind
  .rw[SK j hj] at ha;exact S.hx j hj a ha (Uh a hb)
 .obtain⟨h1,ps,h2,_⟩:=S.tb P q t;rw[C.YW] at h1;obtain z|z:=ao.mp h1
  .rw[z,C.at_] at h2;cases h2
  .exact z
 .have:=az (ax hn e1);exact(Zd this).trans (C.ex.ad n hn)
 .obtain⟨h1,p1⟩:=C.ex.pu a u h p;exact⟨h1,pur a (h.ne hD) p1.1 p1.2⟩
 .obtain⟨h1,h2⟩:=C.ex.df n l hn h;refine⟨?_,h2⟩;show qw ((s2.nx,Cell.lst done)::s2.cs) n=_;unfold qw;rw[Zd (λz=>az (ax hn e1) z.symm)];exact h1
def IV{t}(S1:SR X.K CB H1 m1 s1)(er:ER X.K H1 m1 s1 O Z)(it:ql X.K CB J l H1 m1 s1)(hD:H1 D=Zb)(Re:l.length<=100000)(P:Yw X.K CB (Rep X.K) E ((oi t f (nS ix Z) l s1).bind λvs s2=>.ok (.ref s2.nx) (s2.add (.lst vs))) H1 m1 s1 Q):Ę J (ϒ X.K CB E0 t) (Ň X.K CB E0 f) (Zy ix O) D H1 Q:=by
 refine⟨λi k ys H2=>∃done m2 s2,ħ X.K CB D H1 m1 s1 (Zy ix O) (nS ix Z) ys done H2 m2 s2/\i<=l.length/\ys.length<=i/\k=l.length-i/\(oi t f (nS ix Z) l s1).bind (λvs s2=>.ok (PV.ref s2.nx) (s2.add (.lst vs)))=(oi t f (nS ix Z) (l.drop i) s2).bind λvs s2=>.ok (.ref s2.nx) (s2.add (.lst (done++vs))),⟨l.length,[],m1.hide D,s1,ħ.start S1 (er.Zy ix) hD,a6 _,a6 _,rfl,?_⟩,?_⟩
 .simp
 rintro i k ys H2 ⟨done,m2,s2,C,hi,hy,rfl,eq⟩
 obtain⟨Uf,Tu⟩:=it i H2 m2 s2 C.e0 C.sr;by_cases Rs:i<l.length
 .right;have hq:=aC Rs;obtain⟨go,yl⟩:=Uf _ hq;refine⟨go,λx H3 Vg=>?_⟩;obtain⟨e3,S3,r3⟩:=yl x H3 Vg;have C3:=C.step hD e3 S3;rw[eJ Rs] at eq;rw[eq] at P;rw[oU] at P eq;refine⟨Za l[i]::nS ix Z,s2,m2,C3.er.cons r3,S3,?_⟩;cases ct:t (Za l[i]::nS ix Z) s2 with
  |bad=>rw[ct] at P;exact P.elim
  |ex c3 s3=>rw[ct] at P;exact P.elim
  |ok bt s3 =>
   rw[ct] at P eq
   rintro b4 H4 m4 e4 S4 rfl
   have C4:=C3.step hD e4 S4;cases b4 with
   |false =>
    exact NH ⟨l.length-(i+1),by omega,done,m4,s3,C4,Rs,by omega,rfl,eq⟩
   |true =>
    refine NG ⟨Za l[i]::nS ix Z,s3,m4,C4.er.cons (r3.ext e4),S4,?_⟩;dsimp only at P eq;cases cf:f (Za l[i]::nS ix Z) s3 with
    |bad=>rw[cf] at P;exact P.elim
    |ex c5 s5=>rw[cf] at P;exact P.elim
    |ok v s5 =>
     rw[cf] at eq;intro w H5 m5 e5 S5 r5;have C5:=C4.step hD e5 S5;refine⟨C5.at_,aZ (aI hy (aI hi Re)) (Zf rfl),l.length-(i+1),by omega,done++[v],m5,s5,C5.push hD r5,Rs,by simp;omega,rfl,?_⟩;rw[eq];dsimp only;cases hh:oi t f (nS ix Z) (l.drop (i+1)) s5 with
     |ok vs s6=>simp[Out.bind]
     |ex c6 s6=>exact absurd hh wV
     |bad=>rfl
 .left;have Si:=fN Rs;rw[fk Si] at eq;rw[eq] at P;obtain⟨VX,RZ⟩:=C.cell hD λz=>(S1.hs D z).1 hD;have P:Yw X.K CB (Rep X.K) E (.ok (.ref s2.nx) (s2.add (.lst (done++[])))) H1 m1 s1 Q:=P;rw[bY] at P;refine⟨Tu Si,C.at_,?_⟩;have P:=P (.ref D) H2 ((m2.bare m1.YW).add s2.nx D [D]) RZ VX;have e0:((m2.bare m1.YW).add s2.nx D [D]).ad s2.nx=D:=Zc rfl;apply P;have r:=Rep.ref (K:=X.K) (H:=H2) (m:=(m2.bare m1.YW).add s2.nx D [D]) (s:=s2.add (.lst done)) (cA _);rw[e0] at r;exact r
def Eo{t}(q:Ň X.K CB E (yG fi ix t f) O H Q):Jl (ϖ X.K CB E fi) ix (ϒ X.K CB E0 t) (Ň X.K CB E0 f) O H Q:=by
 obtain⟨Z,s,m,er,S,P⟩:=q;refine⟨Z,s,m,er,S,?_⟩;unfold yG at P;cases c:fi Z s with
 |bad=>rw[c] at P;exact P
 |ex c' s'=>rw[c] at P;exact P
 |ok l s1 =>
  rw[c] at P;dsimp only[Out.bind] at P;split at P
  .rename_i Re;exact λJ H1 m1 e1 S1 it D hD=>IV S1 (er.ext e1) it hD Re (Yw.shift e1 P)
  .exact P.elim
def Em(hi:DI X CB E (.Name x px) iter fi)(he:∀cl C Rg Rh fp,DE (í X scope cl C (x::fr) Rg Rh fp) CB E0 Rz f)(ht:∀cl C Rg Rh fp,Ş (í X scope cl C (x::fr) Rg Rh fp) CB Ry t:=by exact λ_ _ _ _ _=>sR)(hN:X.N.Nodup:=by exact ‹N' _ _ _›.nd)(TH:X.N[i]?=Za y:=by rfl)(Td:X.env.scope.names.lookup y=Za .local:=by rfl)(hc:X.calm=true:=by rfl)(S:ZQ X.N X.env.scope scope x fr ix:=by exact O1 ‹N' _ _ _›)(Tx:cO (.ListComp Rz [⟨.Name x px,iter,Ry,0⟩] scope pos) (Za (.Name y py)) Ĺ.line X.env=pure true:=by rfl)(hs:∀v,bL iter X.env v=pure v:=by intro _;rfl):DS X CB E (.Assign [.Name y py] (.ListComp Rz [⟨.Name x px,iter,Ry,0⟩] scope pos) Ĺ) (Yh i (yG fi ix t f)) :=
 ⟨(zq hN TH Td hc S hi.pi (λcl C Rg Rh fp=>(ht cl C Rg Rh fp).Ϗ) (λcl C Rg Rh fp=>(he cl C Rg Rh fp).pe) Tx hs).mono λD O H=>oE λZ s m er S P =>
  Eo ⟨Z,s,m,er,S,Yw.so P λv s1 u H1 m1 e1 S1 r1 P1=>P1.next S1 ((er.ext e1).set i r1)⟩⟩
end
section
variable{X:Cx}{Rz iter tg:bc}{Ry:List bc}{pos:Pos}{scope:dF}{wi:TI}{tc:TT}{te:TE}{gt:TG}{xs fr:List Str}{ix:List Nat}
def J9(hc:X.calm=true)(S:Ó X.N X.env.scope scope xs fr ix)(hi:PI X tg iter wi)(hg:∀cl C Rg Rh fp,PG (í X scope cl C (xs++fr) Rg Rh fp) tg gt)(ht:∀cl C Rg Rh fp,Gh (í X scope cl C (xs++fr) Rg Rh fp) Ry tc)(he:∀cl C Rg Rh fp,PE (í X scope cl C (xs++fr) Rg Rh fp) Rz te)(hs:∀v,bL iter X.env v=pure v:=by intro _;rfl):PE X (.ListComp Rz [⟨tg,iter,Ry,0⟩] scope pos) (Gp wi ix gt xs.length tc te):=by
 intro Q9 s O H Q I h;have Rj:∀y∈scope.names,y.2=.free->∃c,X.env.cells.lookup y.1=Za c:=λy hy hf=>I.ok.has y.1 (.inl (S.free y hy hf));refine eZ rfl hs (qj Rj) S.kind S.nm (Yy (hi Q9 s O H _ I h) λv s1 h1=>Yy h1 λUL s2 h2=>?_);obtain⟨it,fp,tn,J,H2,rfl,I2,T,R7,f2,q2⟩:=h2;refine wb hc S hg ht he Rj I2 T R7 f2 q2 λD C H' s' I' UC ⟨b1,b2,b3,b4⟩ SS q'=>?_;obtain⟨m',Sh⟩:=SS;refine⟨m',Sh,λh' Uj=>⟨.ref D,H',?_,rfl,q'⟩⟩;exact I'.turned (λb o hb e=>Uj.extBut b o hb e) UC b1 (.inr b2) b3 b4
def Ea(hN:X.N.Nodup)(TH:X.N[i]?=Za y)(Td:X.env.scope.names.lookup y=Za .local)(hc:X.calm=true)(S:Ó X.N X.env.scope scope xs fr ix)(hi:PI X tg iter wi)(hg:∀cl C Rg Rh fp,PG (í X scope cl C (xs++fr) Rg Rh fp) tg gt)(ht:∀cl C Rg Rh fp,Gh (í X scope cl C (xs++fr) Rg Rh fp) Ry tc)(he:∀cl C Rg Rh fp,PE (í X scope cl C (xs++fr) Rg Rh fp) Rz te)(Tx:cO (.ListComp Rz [⟨tg,iter,Ry,0⟩] scope pos) (Za (.Name y py)) Ĺ.line X.env=pure true:=by rfl)(hs:∀v,bL iter X.env v=pure v:=by intro _;rfl):PS X (.Assign [.Name y py] (.ListComp Rz [⟨tg,iter,Ry,0⟩] scope pos) Ĺ) (OB (Gp wi ix gt xs.length tc te) (F6 i)):=by
 intro Q9 s O H D0 I h;have Rj:∀y∈scope.names,y.2=.free->∃c,X.env.cells.lookup y.1=Za c:=λy hy hf=>I.ok.has y.1 (.inl (S.free y hy hf));rw[exec_Assign_Name_used _ _ _ _ Tx];refine ah (eg (ah ?_));refine ah (bw (eZ rfl hs (qj Rj) S.kind S.nm
  (Yy (hi Q9 s O H _ I h) λv s1 h1=>Yy h1 λUL s2 h2=>?_)) (λ_ s' hq=>aG (aG hq)) λ_ _ e=>e)
 obtain⟨it,fp,tn,J,H2,rfl,I2,T,R7,f2,q2⟩:=h2;refine wb hc S hg ht he Rj I2 T R7 f2 q2 λD C H' s' I' UC ⟨b1,b2,b3,b4⟩ SS q'=>?_;obtain⟨m',Sh⟩:=SS;refine jA (xG (v:=.ref D) I' hN TH (.inl Td) rfl (λs5 I5 sb=>?_) (.inr Td));obtain⟨a5,sb,XD⟩:=sb;have XQ:C≠a5:=by
  obtain z|z:=XD
  .rw[z];exact b1
  .exact(b3 _ _ z).symm
 refine⟨m',Sh.sameBut sb XQ,λh' Uj=>⟨_,H',?_,q'⟩⟩;exact I5.turned (λb o hb e=>Uj.extBut b o hb e) UC b1 (.inr b2) b3 b4
end
noncomputable def DJ(q:PV)(s:K'):Option (PV×PV):=match q with
 |.tup [p1,p2]=>Za (p1,p2)
 |_=>Zb
def y2:XG:=Zk 2 (Yj (V' 0) (Yj (V' 1) Zl))
def ÀG(h:DJ q s=Za (p1,p2)):y2 q (Zb::Zb::cap) s=Za (Za p1::Za p2::cap):=by
 unfold DJ at h;split at h
 .cases h;rfl
 .cases h
noncomputable def nG(c:XT)(e:XE)(cap:En):List PV->K'->Out (List PV)
 |[],s=>.ok [] s
 |q::l,s=>match DJ q s with
  |none=>.bad
  |some p=>match c (Za p.1::Za p.2::cap) s with
   |.ok true s1=>match e (Za p.1::Za p.2::cap) s1 with
    |.ok v s2=>match nG c e cap l s2 with
     |.ok vs s3=>.ok (v::vs) s3
     |_=>.bad
    |_=>.bad
   |.ok false s1=>nG c e cap l s1
   |_=>.bad
def yt:nG c e cap (q::l) s=match DJ q s with
  |none=>.bad
  |some p=>match c (Za p.1::Za p.2::cap) s with
   |.ok true s1=>match e (Za p.1::Za p.2::cap) s1 with
    |.ok v s2=>match nG c e cap l s2 with
     |.ok vs s3=>.ok (v::vs) s3
     |_=>.bad
    |_=>.bad
   |.ok false s1=>nG c e cap l s1
   |_=>.bad:=rfl
theorem Co:∀{l:List PV}{s s':K'}{k:ag},nG c e cap l s≠.ex k s'
 |[],_,_,_,h=>by cases h
 |q::l,s,s',k,h=>by
  unfold nG at h;split at h
  .cases h
  .split at h
   .split at h
    .split at h<;>cases h
    .cases h
   .exact Co h
   .cases h
def pN(fi:XA)(ix:List Nat)(c:XT)(e:XE)(Z:En)(s:K'):Out PV:=(fi Z s).bind λl s1=>if l.length<=100000 then(nG c e (nS ix Z) l s1).bind λvs s2=>.ok (.lst vs) s2 else .bad
section
variable{X:Cx}{CB:ag}{E:XK}{Rz iter:bc}{Ry:List bc}{f:XE}{fi:XA}{t:XT}{pos:Pos}{scope:dF}{fr:List Str}{ix:List Nat}
def ER.Àj{K}{H}{m}{s}{O}{p1 p2}{cap}(h:ER K H m s O (Za p1::Za p2::cap)):ER K H m s O (Zb::Zb::cap) :=
 ⟨h.len,λi p q=>by
  match i,q with
  |0,q=>cases q
  |1,q=>cases q
  |i+2,q=>exact h.at_ (i+2) p q⟩
def ER.Ám{K}{H}{m}{s}{O}{cap}(h:ER K H m s O cap):ER K H m s (aQ 2 Zb++O) (Zb::Zb::cap) :=
 ⟨by have:=h.len;simp at this ⊢;omega,λi p q=>by
  match i,q with
  |0,q=>cases q
  |1,q=>cases q
  |i+2,q=>exact h.at_ i p q⟩
def ħ.env{K}{D}{H1 H2}{m1 m2}{s1 s2}{cap cap'}{Z Yp}{ys}{done}(C:ħ K CB D H1 m1 s1 cap Z ys done H2 m2 s2)(er:ER K H2 m2 s2 cap' Yp):ħ K CB D H1 m1 s1 cap' Yp ys done H2 m2 s2:=⟨C.YW,C.at_,C.sr,er,C.rs,C.ex,C.e0⟩
def IW{O}{H1}{m1}{s1}{Z}{J:It}{l}{D}{Q}{t}(S1:SR X.K CB H1 m1 s1)(er:ER X.K H1 m1 s1 O Z)(it:ql X.K CB J l H1 m1 s1)(hD:H1 D=Zb)(Re:l.length<=100000)(P:Yw X.K CB (Rep X.K) E ((nG t f (nS ix Z) l s1).bind λvs s2=>.ok (.lst vs) s2) H1 m1 s1 Q):D3 J (TDG X.K CB y2) 2 (ϒ X.K CB E0 t) (Ň X.K CB E0 f) (Zy ix O) D H1 Q:=by
 refine⟨λi k ys Ğ H2=>∃done m2 s2,ħ X.K CB D H1 m1 s1 Ğ (Zb::Zb::nS ix Z) ys done H2 m2 s2/\i<=l.length/\ys.length<=i/\k=l.length-i/\(nG t f (nS ix Z) l s1).bind (λvs s2=>.ok (PV.lst vs) s2)=(nG t f (nS ix Z) (l.drop i) s2).bind λvs s2=>.ok (.lst (done++vs)) s2,⟨l.length,[],m1.hide D,s1,(ħ.start S1 (er.Zy ix) hD).env ((er.Zy ix).Ám.Yu (Ext0.hide hD).toExtR),a6 _,a6 _,rfl,?_⟩,?_⟩
 .simp
 rintro i k ys Ğ H2 ⟨done,m2,s2,C,hi,hy,rfl,eq⟩
 obtain⟨Uf,Tu⟩:=it i H2 m2 s2 C.e0 C.sr;by_cases Rs:i<l.length
 .right;have hq:=aC Rs;obtain⟨go,yl⟩:=Uf _ hq;refine⟨go,λx H3 Vg=>?_⟩;obtain⟨e3,S3,r3⟩:=yl x H3 Vg;have C3:=C.step hD e3 S3;rw[eJ Rs] at eq;rw[eq] at P;rw[yt] at P eq;cases hp:DJ l[i] s2 with
  |none=>rw[hp] at P;exact P.elim
  |some pq =>
   obtain⟨p1,p2⟩:=pq;rw[hp] at P eq;dsimp only at P eq;refine⟨_,s2,m2,l[i],_,C3.er,S3,r3,ÀG hp,λĝ Tq=>?_⟩;have C3:=C3.env Tq;refine⟨_,s2,m2,Tq,S3,?_⟩;cases ct:t (Za p1::Za p2::nS ix Z) s2 with
   |bad=>rw[ct] at P;exact P.elim
   |ex c3 s3=>rw[ct] at P;exact P.elim
   |ok bt s3 =>
    rw[ct] at P eq
    rintro b4 H4 m4 e4 S4 rfl
    have C4:=C3.step hD e4 S4;cases b4 with
    |false =>
     exact NH ⟨l.length-(i+1),by omega,done,m4,s3,C4.env C4.er.Àj,Rs,by omega,rfl,eq⟩
    |true =>
     refine NG ⟨_,s3,m4,C4.er,S4,?_⟩;dsimp only at P eq;cases cf:f (Za p1::Za p2::nS ix Z) s3 with
     |bad=>rw[cf] at P;exact P.elim
     |ex c5 s5=>rw[cf] at P;exact P.elim
     |ok v s5 =>
      rw[cf] at eq;intro w H5 m5 e5 S5 r5;have C5:=C4.step hD e5 S5;refine⟨C5.at_,aZ (aI hy (aI hi Re)) (Zf rfl),l.length-(i+1),by omega,done++[v],m5,s5,(C5.push hD r5).env (C5.push hD r5).er.Àj,Rs,by simp;omega,rfl,?_⟩;rw[eq];dsimp only;cases hh:nG t f (nS ix Z) (l.drop (i+1)) s5 with
      |ok vs s6=>simp[Out.bind]
      |ex c6 s6=>exact absurd hh Co
      |bad=>rfl
 .left;have Si:=fN Rs;rw[fk Si] at eq;rw[eq] at P;obtain⟨VX,rd⟩:=C.done;refine⟨Tu Si,C.at_,P (.ref D) H2 (m2.bare m1.YW) C.ex VX ?_⟩;rw[bY];exact rd λz=>(S1.hs D z).1 hD
def yu{t}(q:Ň X.K CB E (pN fi ix t f) O H Q):Gp (ϖ X.K CB E fi) ix (TDG X.K CB y2) 2 (ϒ X.K CB E0 t) (Ň X.K CB E0 f) O H Q:=by
 obtain⟨Z,s,m,er,S,P⟩:=q;refine⟨Z,s,m,er,S,?_⟩;unfold pN at P;cases c:fi Z s with
 |bad=>rw[c] at P;exact P
 |ex c' s'=>rw[c] at P;exact P
 |ok l s1 =>
  rw[c] at P;dsimp only[Out.bind] at P;split at P
  .rename_i Re;exact λJ H1 m1 e1 S1 it D hD=>IW S1 (er.ext e1) it hD Re (Yw.shift e1 P)
  .exact P.elim
variable{R1 RZ:Str}{q1 q2 q3:Pos}{kt:Nat}
def Hw(hN:([R1,RZ]++fr).Nodup)(h1:scope.names.lookup R1=Za .local)(h2:scope.names.lookup RZ=Za .local):DG (í X scope cl C ([R1,RZ]++fr) Rg Rh fp) CB (.Tuple [.Name R1 q1,.Name RZ q2] kt q3) y2 :=
 sS (nr (mT 0 hN rfl (.inl (dD h1)) (.inr (dD h1))) (nr (mT 1 hN rfl (.inl (dD h2)) (.inr (dD h2))) qF))
def AB(hi:DI X CB E (.Tuple [.Name R1 q1,.Name RZ q2] kt q3) iter fi)(he:∀cl C Rg Rh fp,DE (í X scope cl C ([R1,RZ]++fr) Rg Rh fp) CB E0 Rz f)(ht:∀cl C Rg Rh fp,Ş (í X scope cl C ([R1,RZ]++fr) Rg Rh fp) CB Ry t:=by exact λ_ _ _ _ _=>sR)(hc:X.calm=true:=by rfl)(S:Ó X.N X.env.scope scope [R1,RZ] fr ix:=by exact ÁS ‹N' _ _ _›)(h1:scope.names.lookup R1=Za .local:=by rfl)(h2:scope.names.lookup RZ=Za .local:=by rfl)(hs:∀v,bL iter X.env v=pure v:=by intro _;rfl):DE X CB E (.ListComp Rz [⟨.Tuple [.Name R1 q1,.Name RZ q2] kt q3,iter,Ry,0⟩] scope pos) (pN fi ix t f) :=
 ⟨(J9 hc S hi.pi (λcl C Rg Rh fp=>(Hw S.nd h1 h2).pg) (λcl C Rg Rh fp=>(ht cl C Rg Rh fp).Ϗ) (λcl C Rg Rh fp=>(he cl C Rg Rh fp).pe) hs).mono λO H Q q=>yu q⟩
def yp(hi:DI X CB E (.Tuple [.Name R1 q1,.Name RZ q2] kt q3) iter fi)(he:∀cl C Rg Rh fp,DE (í X scope cl C ([R1,RZ]++fr) Rg Rh fp) CB E0 Rz f)(ht:∀cl C Rg Rh fp,Ş (í X scope cl C ([R1,RZ]++fr) Rg Rh fp) CB Ry t:=by exact λ_ _ _ _ _=>sR)(hN:X.N.Nodup:=by exact ‹N' _ _ _›.nd)(TH:X.N[i]?=Za y:=by rfl)(Td:X.env.scope.names.lookup y=Za .local:=by rfl)(hc:X.calm=true:=by rfl)(S:Ó X.N X.env.scope scope [R1,RZ] fr ix:=by exact ÁS ‹N' _ _ _›)(h1:scope.names.lookup R1=Za .local:=by rfl)(h2:scope.names.lookup RZ=Za .local:=by rfl)(Tx:cO (.ListComp Rz [⟨.Tuple [.Name R1 q1,.Name RZ q2] kt q3,iter,Ry,0⟩] scope pos) (Za (.Name y py)) Ĺ.line X.env=pure true:=by rfl)(hs:∀v,bL iter X.env v=pure v:=by intro _;rfl):DS X CB E (.Assign [.Name y py] (.ListComp Rz [⟨.Tuple [.Name R1 q1,.Name RZ q2] kt q3,iter,Ry,0⟩] scope pos) Ĺ) (Yh i (pN fi ix t f)) :=
 ⟨(Ea hN TH Td hc S hi.pi (λcl C Rg Rh fp=>(Hw S.nd h1 h2).pg) (λcl C Rg Rh fp=>(ht cl C Rg Rh fp).Ϗ) (λcl C Rg Rh fp=>(he cl C Rg Rh fp).pe) Tx hs).mono λD O H=>oE λZ s m er S P =>
  yu ⟨Z,s,m,er,S,Yw.so P λv s1 u H1 m1 e1 S1 r1 P1=>P1.next S1 ((er.ext e1).set i r1)⟩⟩
end
noncomputable def Ál(i:Int):Str:=b7 (toString i)
section
variable{X:Cx}{CB:ag}{E:XK}
def IZ:YV X (.type "str") (λxs H Q=>(∃i,xs=[.int i]/\i.natAbs.log2<1920/\Q (.str (Ál i)) H)\/∃x,xs=[.str x]/\Q (.str x) H):=by
 intro Q9 s O H xs us Q I r h;rcases h with⟨i,rfl,hz,q⟩|⟨x,rfl,q⟩
 .obtain⟨u,rfl,t,rfl⟩:=rh r;exact PySem.P.str_of_int hz ⟨.str _,H,I.tok _,⟨_,rfl⟩,q⟩
 .obtain⟨u,rfl,t,rfl⟩:=rh r;exact PySem.P.str_of_str ⟨.str _,H,I,⟨_,rfl⟩,q⟩
def ÁL(vs:List PV)(s:K'):Out PV:=match vs with
 |[.int i]=>if i.natAbs.log2<1920 then .ok (.str (Ál i)) s else .bad
 |[.str x]=>.ok (.str x) s
 |_=>.bad
def ϊ:Ĩ X CB E (.type "str") ÁL:=⟨_,IZ,by
 intro H m s v x Q S rx P;unfold ÁL at P;split at P
 .split at P
  .rename_i hz;cases rx with
   |cons r n=>cases n;cases r;exact .inl ⟨_,rfl,hz,P.here S .str⟩
  .exact P.elim
 .cases rx with
  |cons r n=>cases n;cases r;exact .inr ⟨_,rfl,P.here S .str⟩
 .exact P.elim⟩
end
structure DEx(X:Cx)(CB:ag)(e:bc)(f:XE):Prop where
 pex:PEx X e (λE=>Ň X.K CB E f)
structure DSx(X:Cx)(CB:ag)(st:bN)(u:XS):Prop where
 psx:PSx X st (λE=>TDS X.K CB E u)
def AJ(n:Nat)(D:XF)(fa:XA)(Z:En)(s:K'):Out PV:=match fa Z s with
 |.ok vs s1=>if vs.length=n then D vs s1 else .bad
 |_=>.bad
section
variable{X:Cx}{CB:ag}{E:XK}{a c e:bc}{es:List bc}{f h:XE}{fa:XA}{t:XT}{p pos Rc Rb np hp:Pos}{x y:Str}{st UW:bN}{bs:List bN}{u v:XS}{n k:Nat}{D:XF}{ps:List Str}
def PEx.mono{t t'}(h:PEx X e t)(k:∀E O H Q,t' E O H Q->t E O H Q):PEx X e t':=λQ9 s O H Q E I q=>h Q9 s O H Q E I (k E O H Q q)
def PSx.mono{t t'}(h:PSx X st t)(k:∀E D O H,t' E D O H->t E D O H):PSx X st t':=λQ9 s O H D E I q=>h Q9 s O H D E I (k E D O H q)
def QH(F:Fn X.prog X.w X.K X.mg X.base x k ps (Y4 X.K CB n D))(ha:DA X.þ CB E0 (e::es) fa){jr}(hr:YA jr X.A:=by assumption)(hk:k<=jr:=by first|decide|lia)(hg:Gl X x:=by rfl)(RP:Ò x:=by decide)(he:ě X e es:=by rfl)(Rp:(bP pos (aq es X.env)).any (·.1)=false:=by rfl):DEx X CB (.Call (.Name x p) (e::es) [] pos) (AJ n D fa) :=
 ⟨(PL F (hr.mono hk) hg ha.pa RP he Rp).mono λE O H Q=>oE λZ s m er S P=>⟨Z,s,m,er,S,by
  unfold AJ at P;cases cc:fa Z s with
  |bad=>rw[cc] at P;exact P
  |ex c s1=>rw[cc] at P;exact P.elim
  |ok vs s1 =>
   rw[cc] at P;dsimp only at P;split at P
   .rename_i hl;intro us H1 m1 e1 S1 r1;rw[bY];exact⟨by rw[r1.length];exact hl,vs,s1,m1,r1,S1,Yw.shift e1 P⟩
   .exact P.elim⟩⟩
def JZ(he:PEx X e te)(hs:cO e Zb pos.line X.env=pure false:=by rfl):PSx X (.Expr e pos) (λE=>OA (te E)):=by exact λQ9 s O H D E I h=>wpAny_Expr_any (Yy (he Q9 s O H _ E I h) λv s1=>e4 λx H1 I1 r1 q1=>⟨O,H1,I1,q1⟩) I.quiet hs
def QC(he:DEx X CB e f)(hs:cO e Zb pos.line X.env=pure false:=by rfl):DSx X CB (.Expr e pos) (ī f) :=
 ⟨(JZ he.pex hs).mono λE D O H=>oE λZ s m er S P=>⟨Z,s,m,er,S,Yw.so P λv s1 u H1 m1 e1 S1 r1 P1=>P1.next S1 (er.ext e1)⟩⟩
open Classical in
noncomputable def Jx(i:Nat)(cl:List ag)(u h:XS)(Z:En)(s:K'):SO:=match u Z s with
 |.ex c s1=>if c∈cl then(match h (Z.set i (Za (.exc c))) s1 with
  |.nx Yp s'=>.nx (Yp.set i Zb) s'
  |.rt v s'=>.rt v s'
  |_=>.bad) else .bad
 |o=>o
def ER.put{K}{H}{m}{s}{O}{Z}(h:ER K H m s O Z)(i):ER K H m s (O.set i Zb) (Z.set i Zb) :=
 ⟨by rw[ju,ju];exact h.len,λj p q=>by
  by_cases z:i=j
  .subst z;rw[gE] at q
   grind
  .rw[fR z] at q ⊢;exact h.at_ j p q⟩
def QD(hc:X.calm=true)(R8:X.stack=X.env::X.outer)(hf:X.env.frame=Za X.env.locals)(Uv:X.ex=[])(hb:DSx X CB st u)(hg:Gl X x)(hm:X.mg x=Za (.ref D0))(ZD:Exc X.K D0)(Su:∀c∈cl,Exw X.K c/\bF X.K c (.ref D0)=Za true)(hN:X.N.Nodup)(hi:X.N[i]?=Za nm)(hl:X.env.scope.names.lookup nm=Za .local)(hh:∀a,ϗ (Ñ X a) CB E0 (UW::bs) v)(hd:Ò x:=by decide) :
  DS X CB E (.Try [st] [.ExceptHandler (Za (.Name x np)) (Za nm) (UW::bs) hp] [] [] pos) (Jx i cl u v) :=
 ⟨(Px (th:=TDS X.K CB E0 v) hc R8 hf Uv (JY hb.psx) hg hm ZD hN hi hl (λa=>(hh a).pss) hd).mono λD O H=>oE λZ s m er S P=>by
  refine⟨Z,s,m,er,S,?_⟩;unfold Jx at P;cases cc:u Z s with
  |nx=>rw[cc] at P;exact P
  |rt=>rw[cc] at P;exact P
  |bk=>rw[cc] at P;exact P
  |ct=>rw[cc] at P;exact P
  |bad=>rw[cc] at P;exact P
  |ex c s1 =>
   rw[cc] at P;dsimp only at P;split at P
   .rename_i RH;refine λH' m' e1 S1=>⟨c,rfl,(Su c RH).1,(Su c RH).2,λad hn=>?_⟩;have k:=My.sL (o:=F8 c ad) hn;have e2:Ext H' m' s1 (upd H' ad (F8 c ad)) m' s1:=.same k;have r2:Rep X.K (upd H' ad (F8 c ad)) m' s1 (.ref ad) (.exc c):=.exc mv (S1.YM hn);refine⟨Z.set i (Za (.exc c)),s1,m',((er.ext e1).ext e2).set i r2,S1.same k,?_⟩;have P:=YL.shift (e1.trans e2) P;cases ch:v (Z.set i (Za (.exc c))) s1 with
    |nx Yp s'=>rw[ch] at P;exact λYE H2 m2 x2 S2 VT=>P _ H2 m2 x2 S2 (VT.put i)
    |rt w s'=>rw[ch] at P;exact P
    |bk=>rw[ch] at P;exact P.elim
    |ct=>rw[ch] at P;exact P.elim
    |ex=>rw[ch] at P;exact P.elim
    |bad=>rw[ch] at P;exact P.elim
   .exact P.elim⟩
def AI(f:XE)(fa:XA)(Z:En)(s:K'):Out PV:=(f Z s).bind λv s1=>match v with
 |.lst l=>(fa Z s1).bind λvs s2=>match vs with
  |[.str y]=>match t5 l with
   |some ss=>match ss.findIdx? λz=>decide (z=y) with
    |some j=>if ss.length<1000 then .ok (.int (j:Nat)) s2 else .bad
    |none=>.bad
   |none=>.bad
  |_=>.bad
 |_=>.bad
def KM(ho:DE X CB E a f)(ha:DA X CB E (e::es) fa)(RI:cL a "index" X.env (eval a X.env)=eval a X.env:=by rfl)(SD:((bP Rb (aq (e::es) X.env)).all (λx=>!x.1)&&(eO Rb (cM [] X.env)).all (λx=>x.1.isSome)
   && decide ((e::es).length+([]:List fK).length+(if([]:List fK).isEmpty then 0 else 1)<30))=true:=by rfl)(RG:(Rc.endLine==Rb.line)=true:=by rfl)(hs:ě X e es:=by rfl)(RO:(bP Rb (aq es X.env)).any (·.1)=false:=by rfl) :
  DE X CB E (.Call (.Attribute a "index" Rc) (e::es) [] Rb) (AI f fa) :=
 ⟨(Mb jM jL PySem.F.type_list_index Kk ho.pe ha.pa RI SD RG hs RO).mono λO H Q=>oE λZ s m er S P=>⟨Z,s,m,er,S,P.bind λv s1 u H1 m1 e1 S1 r1 P1=>by
  split at P1
  .rename_i l;cases r1 with
   |@lst ad S6 _ h0 pu q0 =>
   refine⟨.inl ⟨rfl,S6,YY.of h0⟩,Z,s1,m1,er.ext e1,S1,P1.bind λvs s2 us H2 m2 e2 S2 r2 P2=>?_⟩;split at P2
   .rename_i y;split at P2
    .rename_i ss hss;split at P2
     .rename_i j hj;split at P2
      .rename_i hl;cases r2 with
       |cons r n' =>
        cases n';cases r;have ev:S6=ss.map V.str:=by have e9:=vj hss;rw[e9] at q0;exact q0.strs
        obtain⟨Rs,hp,SU⟩:=iY.mp hj;refine⟨ad,ss,y,j,rfl,rfl,?_,?_,λi hi z=>?_,hl,P2.here S2 .int⟩
        .rw[<-ev];exact e2.el ad _ h0 (by grind) pu
        .grind
        .grind
      .exact P2.elim
     .exact P2.elim
    .exact P2.elim
   .exact P2.elim
  .exact P1.elim⟩⟩
open Classical in
def vS(cl:List ag)(tb:ag->Bool)(f:XE)(Z:En)(s:K'):Out PV:=(f Z s).bind λv s1=>match v with
 |.exc c=>if c∈cl then .ok (.bl (tb c)) s1 else .bad
 |.Ym=>.ok (.bl false) s1
 |_=>.bad
def FV{cl:List ag}{tb:ag->Bool}{cv:V}{tC':TE}(hcv:(∃a,cv=.ref a)\/∃n,cv=.ty n)(hk:∀c∈cl,Exw X.K c/\aY X.K (.ref c) (O2 cv)=Za (tb c))(hn:aY X.K (.type "NoneType") (O2 cv)=Za false){O:St}{H:Hp}{Q:VK}(q:Ň X.K CB E (vS cl tb f) O H Q):Ň X.K CB E f O H λu H1=>À0 X.K [u,cv] H1 Q:=by
 obtain⟨Z,s,m,er,S,P⟩:=q;refine⟨Z,s,m,er,S,P.bind λv s1 u H1 m1 e1 S1 r1 P1=>?_⟩;split at P1
 .rename_i c;split at P1
  .rename_i hc;cases r1 with
   |exc h1 h2=>exact⟨_,cv,.ref c,tb c,rfl,hcv,.inr (.inl ⟨_,c,rfl,rfl,h1,(hk c hc).1⟩),(hk c hc).2,P1.here S1 .bl⟩
  .exact P1.elim
 .cases r1;exact⟨_,cv,.type "NoneType",false,rfl,hcv,.inl .Ym,hn,P1.here S1 .bl⟩
 .exact P1.elim
def Ds{cl:List ag}{tb:ag->Bool}{C:ag}{px:Pos}(Vz:Gl X "isinstance")(Vn:X.mg "isinstance"=Zb)(ha:DE X CB E a f)(hg:Gl X x)(hm:X.mg x=Za (.ref C))(hk:∀c∈cl,Exw X.K c/\aY X.K (.ref c) (.ref C)=Za (tb c))(hn:aY X.K (.type "NoneType") (.ref C)=Za false)(hd:Ò x)(hs:aq [a,.Name x px] X.env=(false,eval a X.env)::aq [.Name x px] X.env:=by rfl)(Rp:(bP pos (aq [.Name x px] X.env)).any (·.1)=false:=by rfl):DE X CB E (.Call (.Name "isinstance" p) [a,.Name x px] [] pos) (vS cl tb f) :=
 ⟨(oK Fb Vz Vn rP (mI ha.pe (mI (qB (v:=.ref C) hg hm rfl hd) Yi) hs) (Zf rfl) (Zf rfl) hs Rp).mono λO H Q q=>FV (tC':=λ_ _ _=>True) (.inl ⟨_,rfl⟩) hk hn q⟩
end
open PySem.Builtin.Str
def Da{x y:Str}(h:x.cps.toList=y.cps.toList):x=y:=by
 obtain⟨⟨l⟩⟩:=x;obtain⟨⟨k⟩⟩:=y
 grind
open PySem.NumText PySem.W in
section
def Ņ:bu "dict"=Za (.type "dict"):=by decide +kernel
end
def į:=aj @ZZ.eq_1 <|aj @W'.eq_1 <|aj @Yh.eq_1 <|aj @YF.eq_1 <|aj @Ÿ.eq_1 <|aj @ī.eq_1 <|aj @Ø.eq_1 <|aj @Y9.eq_1 <|aj @ü.eq_1 <|aj @Ào.eq_1 <|aj @ã.eq_1 <|aj @x1.eq_1 <|aj @x2.eq_1 <|aj @j'.eq_1 <|aj @xC.eq_1 <|aj @xB.eq_1 <|aj @Yb.eq_1 <|aj @Ĭ.eq_1 <|aj @F'.eq_1 <|aj @J'.eq_1 <|aj @ZT.eq_1 <|aj @ZL.eq_1 <|aj @á.eq_1 <|aj @YO.eq_1 <|aj @ğ.eq_1 <|aj @Ť.eq_1 <|aj @xOr.eq_1 <|aj @ĭ.eq_1 <|aj @Á3.eq_1 <|aj @Ϛ.eq_1 <|aj @Ϯ.eq_1 <|aj @Ġ.eq_1 <|aj @Ö.eq_1 <|aj @YK.eq_1 <|aj @Zn.eq_1 <|aj @Àp.eq_1 <|aj @Àq.eq_1 <|aj @Z7.eq_1 <|aj @ć.eq_1 <|aj @Æ.eq_1 <|aj @Æ.eq_2 <|aj @Zu.eq_1 <|aj @â.eq_1 <|aj @Ī.eq_1 <|aj @Ź.eq_1 <|aj @ź.eq_1 <|aj @Ŏ.eq_1 <|aj @ġ.eq_1 <|aj @Àr.eq_1 <|aj @ϛ.eq_1 <|aj @Out.bind.eq_1 <|aj @Out.bind.eq_2 <|aj @Out.bind.eq_3 <|aj @Out.so.eq_1 <|aj @Out.so.eq_2 <|aj @Out.so.eq_3 <|aj @SO.ZV.eq_1 <|aj @SO.ZV.eq_2 <|aj @YH.eq_1 <|aj @YH.eq_2 <|aj @YH.eq_3 <|aj @Ü.eq_1 <|aj @Ü.eq_2 <|aj @YC.eq_1 <|aj @YC.eq_2 <|aj @YC.eq_3 <|aj @Í.eq_1 <|aj @Í.eq_2 <|aj @Â.eq_1 <|aj @Â.eq_2 <|aj @ë.eq_1 <|aj @ë.eq_2 <|aj @Ū.eq_1 <|aj @Ū.eq_2 <|aj @Z0.eq_1 <|aj @fIs.eq_1 <|aj @fIs.eq_2 <|aj @ı.eq_1 <|aj @ı.eq_2 <|aj @Yo.eq_1 <|aj @Yo.eq_2 <|aj @Yo.eq_3 <|aj @Yo.eq_4 <|aj @Yo.eq_5 <|aj @œ.eq_1 <|aj @œ.eq_2 <|aj @fSl.eq_1 <|aj @fSl.eq_2 <|aj @Zw.eq_1 <|aj @Zw.eq_2 <|aj @Zw.eq_3 <|aj @Zw.eq_4 <|aj @Ĥ.eq_1 <|aj @Ĥ.eq_2 <|aj @ÿ.eq_1 <|aj @ÿ.eq_2 <|aj @ÿ.eq_3 <|aj @Ł.eq_1 <|aj @Ł.eq_2 <|aj @ϣ.eq_1 <|aj @ϣ.eq_2 <|aj @ϣ.eq_3 <|aj @Ϥ.eq_1 <|aj @Ϥ.eq_2 <|aj @YI.eq_1 <|aj @YI.eq_2 <|aj @YI.eq_3 <|aj @YI.eq_4 <|aj @ZG.eq_1 <|aj @ZG.eq_2 <|aj @ZG.eq_3 <|aj @Á.eq_1 <|aj @Á.eq_2 <|aj @Á.eq_3 <|aj @toV.eq_1 <|aj @toV.eq_2 <|aj @toV.eq_3 <|aj @toV.eq_4 <|aj @toV.eq_5 <|aj @toVs.eq_1 <|aj @toVs.eq_2 <|aj @V'.eq_1 <|aj @Zl.eq_1 <|aj @Zl.eq_2 <|aj @Yj.eq_1 <|aj @Yj.eq_2 <|aj @Zk.eq_1 <|aj @Zk.eq_2 <|@ÀH.eq_1
section
variable{P:aL}{w:aX}{K:aa}{mg:Str->Option af}{base h:bi}{x q:Str}{st:bN}{f C:ag}{fd:cj}{ps:List Str}{sp:Sp}{k:Nat}{oc kV dc pm cd ct:af}{od an:Option ag}{sl:Array (Option af)}
def Bd(x q:Str)(st:bN)(ps:List Str):Prop:=∀(kV dc pm:af)(an:Option ag)(cd ct:af)(us:List af),us.length=ps.length->f9 (bZ x q (oT st) (oj st) (mw st) .none kV dc pm an cd ct) ⟨us,[]⟩=pure (ps.zip us)
def uZ:∀{us:List af},us.length=n+1->∃v r,us=v::r/\r.length=n
 |v::r,h=>⟨v,r,rfl,jO h⟩
def bd0(e:ps.length=0:=by rfl)(h:∀kV dc pm an cd ct,f9 (bZ x q (oT st) (oj st) (mw st) .none kV dc pm an cd ct) ⟨[],[]⟩=pure (ps.zip []):=by intros;rfl):Bd x q st ps:=λ_ _ _ _ _ _ us hl=>by have l0:=hl.trans e;cases List.eq_nil_of_length_eq_zero l0;exact h _ _ _ _ _ _
def bd1(e:ps.length=1:=by rfl)(h:∀kV dc pm an cd ct (v0:af),f9 (bZ x q (oT st) (oj st) (mw st) .none kV dc pm an cd ct) ⟨[v0],[]⟩=pure (ps.zip [v0]):=by intros;rfl):Bd x q st ps:=λ_ _ _ _ _ _ us hl=>by
 have l0:=hl.trans e;obtain⟨_,us,rfl,l1⟩:=uZ l0
 grind
def bd2(e:ps.length=2:=by rfl)(h:∀kV dc pm an cd ct (v0 v1:af),f9 (bZ x q (oT st) (oj st) (mw st) .none kV dc pm an cd ct) ⟨[v0,v1],[]⟩=pure (ps.zip [v0,v1]):=by intros;rfl):Bd x q st ps:=λ_ _ _ _ _ _ us hl=>by
 have l0:=hl.trans e;obtain⟨_,us,rfl,l1⟩:=uZ l0;obtain⟨_,us,rfl,l2⟩:=uZ l1
 grind
def bd3(e:ps.length=3:=by rfl)(h:∀kV dc pm an cd ct (v0 v1 v2:af),f9 (bZ x q (oT st) (oj st) (mw st) .none kV dc pm an cd ct) ⟨[v0,v1,v2],[]⟩=pure (ps.zip [v0,v1,v2]):=by intros;rfl):Bd x q st ps:=λ_ _ _ _ _ _ us hl=>by
 have l0:=hl.trans e;obtain⟨_,us,rfl,l1⟩:=uZ l0;obtain⟨_,us,rfl,l2⟩:=uZ l1;obtain⟨_,us,rfl,l3⟩:=uZ l2
 grind
def bd4(e:ps.length=4:=by rfl)(h:∀kV dc pm an cd ct (v0 v1 v2 v3:af),f9 (bZ x q (oT st) (oj st) (mw st) .none kV dc pm an cd ct) ⟨[v0,v1,v2,v3],[]⟩=pure (ps.zip [v0,v1,v2,v3]):=by intros;rfl):Bd x q st ps:=λ_ _ _ _ _ _ us hl=>by
 have l0:=hl.trans e;obtain⟨_,us,rfl,l1⟩:=uZ l0;obtain⟨_,us,rfl,l2⟩:=uZ l1;obtain⟨_,us,rfl,l3⟩:=uZ l2;obtain⟨_,us,rfl,l4⟩:=uZ l3
 grind
def bd5(e:ps.length=5:=by rfl)(h:∀kV dc pm an cd ct (v0 v1 v2 v3 v4:af),f9 (bZ x q (oT st) (oj st) (mw st) .none kV dc pm an cd ct) ⟨[v0,v1,v2,v3,v4],[]⟩=pure (ps.zip [v0,v1,v2,v3,v4]):=by intros;rfl):Bd x q st ps:=λ_ _ _ _ _ _ us hl=>by
 have l0:=hl.trans e;obtain⟨_,us,rfl,l1⟩:=uZ l0;obtain⟨_,us,rfl,l2⟩:=uZ l1;obtain⟨_,us,rfl,l3⟩:=uZ l2;obtain⟨_,us,rfl,l4⟩:=uZ l3;obtain⟨_,us,rfl,l5⟩:=uZ l4
 grind
def bd6(e:ps.length=6:=by rfl)(h:∀kV dc pm an cd ct (v0 v1 v2 v3 v4 v5:af),f9 (bZ x q (oT st) (oj st) (mw st) .none kV dc pm an cd ct) ⟨[v0,v1,v2,v3,v4,v5],[]⟩=pure (ps.zip [v0,v1,v2,v3,v4,v5]):=by intros;rfl):Bd x q st ps:=λ_ _ _ _ _ _ us hl=>by
 have l0:=hl.trans e;obtain⟨_,us,rfl,l1⟩:=uZ l0;obtain⟨_,us,rfl,l2⟩:=uZ l1;obtain⟨_,us,rfl,l3⟩:=uZ l2;obtain⟨_,us,rfl,l4⟩:=uZ l3;obtain⟨_,us,rfl,l5⟩:=uZ l4;obtain⟨_,us,rfl,l6⟩:=uZ l5
 grind
structure Gx(K:aa)(x:Str):Prop where
 ex:∃X,bI K aV x=Za (Za (.ref X))/\Exc K X
def gx(n:bI K aV x=Za (Za (.ref X)))(a:fC K X ϑ "ValueError.__new__"=true)(b:aK K (.ref X) "__getattribute__"=Za (Za (.builtin "BaseException.__getattribute__")))(c:aK K (.ref X) "__getattr__"=Za Zb)(d:aK K (.ref X) "__class__"=Za (Za (.builtin "object.__class__")))(e:cI K (.builtin "object.__class__") "__get__"=Za (Za (.builtin "getset_descriptor.__get__")))(f:fI K (.builtin "object.__class__")=Za true)(g:bF K X (.type "object")=Za true)(h:bF K X (.type "BaseException")=Za true):Gx K x:=⟨X,n,⟨ÁM a,b,c,d,e,f,g,h⟩,a⟩
structure Gb(K:aa)(C:ag):Prop where
 n:bI K aV "Book"=Za (Za (.ref C))
 p:ed K C cx=true
 h:cZ K C=true
 o:gc K C=true
 s:aK K (.ref C) "__setattr__"=Za (Za (.builtin "object.__setattr__"))
 m:fJ K C=true
 k:bW K (.ref C)=true
 a:aK K (.ref C) "people"=Za Zb
 b:aK K (.ref C) "things_of"=Za Zb
 c:aK K (.ref C) "mark_of"=Za Zb
 d:aK K (.ref C) "loss_of"=Za Zb
 e:aK K (.ref C) "held_of"=Za Zb
structure Gt(K:aa)(x:Str)(u v:Int):Prop where
 ex:∃(f:ag)(od:Option ag)(a b:Tok)(n:Nat)(sl:Array (Option af)),bI K aV x=Za (Za (.ref f))/\K.lookup f=Za ⟨.type "tuple",od,.seq #[.int u a,.int v b] n,sl⟩
def gt(h:bI K aV x=Za (Za (.ref f)))(l:K.lookup f=Za ⟨.type "tuple",od,.seq #[.int u a,.int v b] n,sl⟩):Gt K x u v:=⟨f,od,a,b,n,sl,h,l⟩
structure Gi(K:aa)(x:Str)(u:Int):Prop where
 ex:∃t,bI K aV x=Za (Za (.int u t))
def gi(h:bI K aV x=Za (Za (.int u t))):Gi K x u:=⟨t,h⟩
structure Gz(K:aa)(x:Str):Prop where
 z:bI K aV x=Za Zb
def Gz.at_(c:Gz K x)(X:K.In h)(G:h.Ns aV mg):mg x=none:=PySem.W.mg_none_of X G c.z
structure Gf(K:aa)(x:Str)(st:bN):Prop where
 ex:∃f fd,bI K aV x=Za (Za (.ref f))/\Î K x x st f fd
structure Gm(K:aa)(C:ag)(x q:Str)(st:bN):Prop where
 ex:∃f fd,aK K (.ref C) x=Za (Za (.ref f))/\gI K (.ref f)=true/\Î K x q st f fd
def gf(h:bI K aV x=Za (Za (.ref f)))(l:K.lookup f=Za ⟨oc,od,.func (bZ x x (oT st) (oj st) (mw st) .none kV dc pm an cd ct),sl⟩)(c:fW K cd x=true)(k:bW K (.ref f)=true):Gf K x st:=⟨f,_,h,LD l c k⟩
def gm(h:aK K (.ref C) x=Za (Za (.ref f)))(i:gI K (.ref f)=true)(l:K.lookup f=Za ⟨oc,od,.func (bZ x q (oT st) (oj st) (mw st) .none kV dc pm an cd ct),sl⟩)(c:fW K cd q=true)(k:bW K (.ref f)=true):Gm K C x q st:=⟨f,_,h,i,LD l c k⟩
def Gf.fn(X:K.In h)(G:h.Ns aV mg)(c:Gf K x st)(o:∀{f:ag}{fd:cj},Î K x x st f fd->YD P w K mg base (Y7 P w) k f fd ps sp)(b:Bd x x st ps:=by first|exact bd1|exact bd2|exact bd3|exact bd4|exact bd5|exact bd6|exact bd0):Fn P w K mg base x k ps sp :=
 let⟨f,fd,n,U⟩:=c.ex;⟨f,fd,o U,jD X G n,U.kp,U.binds b⟩
def Gm.mt(cl:ş K C)(c:Gm K C x q st)(o:∀{f:ag}{fd:cj},Î K x q st f fd->YD P w K mg base (Y7 P w) k f fd ps sp)(b:Bd x q st ps:=by first|exact bd1|exact bd2|exact bd3|exact bd4|exact bd5|exact bd6|exact bd0):Mt P w K mg base C x k ps sp :=
 let⟨f,fd,n,i,U⟩:=c.ex;⟨f,fd,o U,⟨n,i,U.kp⟩,cl,U.binds b⟩
def Gm.bk(c:Gm K C "__init__" q st)(X:K.In h)(G:h.Ns aV mg)(g:Gb K C)(o:∀{f:ag}{fd:cj},Î K "__init__" q st f fd->YD P w K mg base (Y7 P w) k f fd ["self"] sp)(b:Bd "__init__" q st ["self"]:=by exact bd1):MkB P w K mg base "Book" C k ["self"] sp :=
 let⟨f,fd,n,i,U⟩:=c.ex;⟨f,fd,o U,jD X G g.n,⟨g.m,n,i,g.k⟩,U.binds b⟩
end
section
variable{X:Cx}{CB:ag}{E:XK}{a b:bc}{f g:XE}{pos Rc Rb:Pos}
def Nf:ZA X (dE .Mult) (rI jE λi j=>.int (i*j)):=opI λ_ _ _ _ _ _ _ hc q=>mul_int q hc
open Classical in
def F7(v w:PV)(s:K'):Out PV:=match v,w with
 |.int i,.int j=>if jE i j then .ok (.int (i*j)) s else .bad
 |_,_=>.bad
def Qb:ō X.K CB E (rI jE λi j=>V.int (i*j)) F7:=by
 intro H m s v w x y Q S rx ry P;unfold F7 at P;split at P
 .cases rx;cases ry;split at P
  .rename_i h;exact⟨_,_,rfl,rfl,h,P.here S .int⟩
  .exact P.elim
 .exact P.elim
def N7(ha:DE X CB E a f)(hb:DE X CB E b g):DE X CB E (.BinOp a .Mult b pos) (x2 f g F7):=z3 Nf Qb ha hb
noncomputable def zU(v w:PV)(s:K'):Out PV:=match v,w with
 |.str x,.int n=>if n=0 then .ok (.str cx) s else if n=1 then .ok (.str x) s else .bad
 |_,_=>.bad
def Nc:ZA X (dE .Mult) (λx y H Q=>∃z n,x=.str z/\y=.int n/\((n=0/\Q (.str cx) H)\/(n=1/\Q (.str z) H))):=by
 rintro Q9 s O H x y v u Q I rx ry ⟨z,n,rfl,rfl,h⟩
 obtain⟨t,rfl⟩:=rx;obtain⟨t',rfl⟩:=ry;rcases h with⟨rfl,q⟩|⟨rfl,q⟩
 .exact PySem.P.mul_str_none (Zf rfl) (Zf rfl) ⟨.str cx,H,I.tok _,⟨_,rfl⟩,q⟩
 .refine PySem.P.mul_str (Zf rfl) (λ_ z=>absurd z (by simp)) (λ_ z=>absurd z (by simp)) ?_;exact⟨.str z,H,I,⟨_,rfl⟩,q⟩
def Qa:ō X.K CB E (λx y H Q=>∃z n,x=.str z/\y=.int n/\((n=0/\Q (.str cx) H)\/(n=1/\Q (.str z) H))) zU:=by
 intro H m s v w x y Q S rx ry P;unfold zU at P;split at P
 .cases rx;cases ry;split at P
  .rename_i h;exact⟨_,_,rfl,rfl,.inl ⟨h,P.here S .str⟩⟩
  .split at P
   .rename_i h;exact⟨_,_,rfl,rfl,.inr ⟨h,P.here S .str⟩⟩
   .exact P.elim
 .exact P.elim
def N5(ha:DE X CB E a f)(hb:DE X CB E b g):DE X CB E (.BinOp a .Mult b pos) (x2 f g zU):=z3 Nc Qa ha hb
def DV(l:List (Key×PV))(k:Key):List (Key×PV):=l.filter λkv=>decide (kv.1≠k)
theorem Yf.drop{K:aa}{H:Hp}{m:Mp}{s:K'}{k:Key}:∀{vs:List (Key×V)}{l:List (Key×PV)},Yf K H m s vs l->Yf K H m s (yE vs k) (DV l k)
 |_,_,.nil=>.nil
 |_,_,.cons (k:=k') r rs=>by
  unfold yE DV;rw[gP,gP];by_cases h:k'=k
  .rw[Zd (by simp[h]),Zd (by simp[h])];exact rs.drop
  .rw[Zc (by simp[h]),Zc (by simp[h])];exact .cons r rs.drop
def Fo(f g:XE)(Z:En)(s:K'):Out PV:=(f Z s).bind λv s1=>match v with
 |.ref n=>match s1.get n with
  |some (.Yr _)=>(g Z s1).bind λw s2=>match s2.get n with
   |some (.Yr l)=>match Á w with
    |some k=>match p4 l k with
     |some p=>.ok p (s2.set n (.Yr (DV l k)))
     |none=>.bad
    |none=>.bad
   |_=>.bad
  |_=>.bad
 |_=>.bad
def Oa(ho:DE X CB E a f)(he:DE X CB E b g)(mm:M1 X a "pop" Rc b Rb:=by exact⟨rfl,rfl,rfl,rfl⟩):DE X CB E (.Call (.Attribute a "pop" Rc) [b] [] Rb) (Fo f g) :=
 ⟨(EQ ho.pe he.pe mm).mono λO H Q=>oE λZ s m er S P=>⟨Z,s,m,er,S,P.bind λv s1 u H1 m1 e1 S1 r1 P1=>by
  split at P1
  .split at P1
   .rename_i n _ l0 hg;obtain⟨_,S6,h0,r0⟩:=S1.get hg;cases r1 with
    |ref hn =>
    refine⟨_,rfl,.inl ⟨S6,.inl h0⟩,Z,s1,m1,er.ext e1,S1,P1.bind λw s2 u2 H2 m2 e2 S2 r2 P2=>?_⟩;split at P2
    .rename_i l SX;split at P2
     .rename_i k hk;split at P2
      .rename_i p hv;obtain⟨_,vs,h1,r⟩:=S2.get SX;obtain⟨u,eu,ru⟩:=(r.val k).1 p hv;obtain⟨S3,e3⟩:=S2.putD SX (r.drop);rw[<-e2.ad _ hn];exact⟨vs,k,u,h1,qE r2 hk,eu,P2 _ _ _ e3 S3 (ru.ext e3)⟩
      .exact P2.elim
     .exact P2.elim
    .exact P2.elim
   .exact P1.elim
  .exact P1.elim⟩⟩
def Ite(K:aa)(a:ag):It :=
 ⟨λi H=>∃xs x,YY K H a xs/\xs[i]?=Za x,λi H x H'=>∃p,H p=Zb/\x=.ref p/\∀xs,YY K H a xs->∃y,xs[i]?=Za y/\H'=upd H p (.tup [.int i,y]),λi H=>∃xs,YY K H a xs/\xs.length<=i⟩
def Inv.ϸ(I:Inv X Q9 O H s)(k:∀b o,b≠e->b≠it->s.heap.get? b=Za o->h'.get? b=Za o)(fe:Ai X Q9 H e)(fi:Ai X Q9 H it)(hn:s.heap.objs.size<=n)(new:YJ X.prog X.w (upd H n (.tup xs)) h' n (.tup xs)):Inv X Q9 O (upd H n (.tup xs)) { s with heap:=h',toks:=t' }:=by
 have nH:=I.Yn.fresh hn;have nn:∀b u,H b=Za u->b≠n:=λb u q z=>by rw[z,nH] at q;grind
 have WU:∀b u,H b=Za u->b≠e/\b≠it:=λb u q=>⟨λz=>(by rw[z,fe.1] at q;grind),λz=>(by rw[z,fi.1] at q;grind)⟩;have k':∀b o,b∉[e,it]->s.heap.get? b=Za o->h'.get? b=Za o:=λb o hc q=>k b o (λz=>hc (by simp[z])) (λz=>hc (by simp[z])) q;refine I.step (λb hb=>?_) (λb o _ _ hc e _=>k' b o hc e) (λb o _ _ hc e _=>⟨o.slots,k' b o hc e⟩) (λb o _ q z=>?_)
  (λb o hc e=>⟨o,k' b o hc e⟩) (λb _ q=>?_) (λb _ _ q=>?_) (λb ps q=>⟨#[],?_⟩) (λm hm=>?_) (λb u q=>?_) I.bare
 .obtain z|z:=ao.mp hb
  .subst z;exact⟨fe.2.2.2.1,fe.2.1,fe.2.2.2.2.1,fe.2.2.2.2.2⟩
  .have z:=ay.mp z;subst z;exact⟨fi.2.2.2.1,fi.2.1,fi.2.2.2.2.1,fi.2.2.2.2.2⟩
 .rw[mj (az (ax (au q) hn))];exact z
 .rw[mj (nn b _ q)];exact q
 .rw[mj (nn b _ q)];exact q
 .rw[mj (nn b _ q),q];simp
 .obtain⟨o,es,ep,ho,r⟩:=hm;exact⟨o,es,ep,k _ o (bH fe.2.1) (bH fi.2.1) ho,r⟩
 .by_cases hb:b=n
  .subst hb;rw[mv] at q;grind
  .rw[mj hb] at q;refine(I.Yn b u q).Û (λc v hc w=>?_) (λc w=>by rw[mj (nn c _ w)];exact w) λc xs w=>by rw[mj (nn c _ w)];exact w
   grind
def HP{P:aL}{w:aX}{K:aa}{es:List bc}{x1:_}{px:Pos}(a e it:ag)(RD:e≠it):Turn P w K (.Tuple es x1 px) (Ite K a) [e,it] e (λi h=>(∃old,IsEnum h e it i old)/\h.IsListIter it a i) where
 mem:=by simp
 obj:=λi h st b hb=>by
  obtain⟨⟨old,he⟩,o,e1,c,d⟩:=st
  grind
 keep:=λi h h' st k=>⟨let⟨old,he⟩:=st.1;⟨old,k e (by simp) _ he⟩,st.2.at λo e=>k it (by simp) o e⟩
 item:=by
  intro X hP hw hK hc i Q9 s O H E I hf st hg;subst hP hw hK;obtain⟨xs,x,hq,hx⟩:=hg;obtain⟨its,rv,p,hz⟩:=I.list hq;obtain⟨u,hu,ru⟩:=rv.get hx;obtain⟨⟨old,he⟩,st⟩:=st;refine wpAny_pyNext_enum_item he st p.isList (by simpa using hu) RD λh' eo SB ht hs kp=>⟨_,rfl,?_⟩;refine wpAny_letOwnedTupleGo_enum eo λh2 e2 sb=>?_;have hel:=au he;have Vj:=(sb.2 _ (fz hel)).trans ht;have W3:=λb o b1 b2 q=>(sb.2 b b1).trans (kp b o b1 b2 q);have I1:Inv X Q9 O (upd H s.heap.objs.size (.tup [.int i,x])) { s with heap:=h2,toks:=s.toks+1 } :=
   I.ϸ W3 (hf e (by simp)) (hf it (by simp)) (al _) ⟨(show 2<=aH by decide),[.int i s.toks,u],.cons ⟨_,rfl⟩ (.cons ru .nil),_,Vj,rfl,0,rfl⟩
  refine⟨.ref s.heap.objs.size,_,I1,rfl,⟨_,I.fresh,rfl,λys hy=>⟨x,by rw[I.è hy hq];exact hx,rfl⟩⟩,⟨⟨u,by simpa using e2⟩,SB.at λo q=>(sb.2 it (bH RD)).trans q⟩,λb hb=>?_⟩;have Rs:b≠s.heap.objs.size:=by
   obtain z|z:=ao.mp hb
   .rw[z];exact az hel
   .rw[ay.mp z];obtain⟨o,q,_⟩:=st;exact az (au q)
  rw[mj Rs];exact(hf b hb).1
 done:=by intro X hP hw hK hc i Q9 s O H E I hf st hg;subst hP hw hK;obtain⟨xs,hq,hx⟩:=hg;obtain⟨its,rv,p,hz⟩:=I.list hq;obtain⟨f0,f1,f2,f3,f4,f5⟩:=hf it (by simp);obtain⟨⟨old,he⟩,st⟩:=st;have hl:=rv.length;exact wpAny_pyNext_enum_end (I.ok.hd hc) he st p.isList (by simp;lia) λh' eb=>⟨rfl,I.turned (λb o hb e=>eb b o hb e) f0 f1 f3 f4 f5⟩
 self:=λ_ _ _ _ _ st h=>let⟨_,he⟩:=st.1;wpAny_pyIter_enum he h
def sA(k:Nat):List PV->List PV
 |[]=>[]
 |p::r=>.tup [.int k,p]::sA (k+1) r
theorem xS:∀(l:List PV)(k i:Nat),(sA k l)[i]?=(l[i]?).map λp=>PV.tup [.int (k+i:Nat),p]
 |[],_,_=>rfl
 |p::r,k,0=>rfl
 |p::r,k,i+1=>by have:=xS r (k+1) i;rw[show k+1+i=k+(i+1) by lia] at this;exact this
theorem sG:∀(l:List PV)(k:Nat),(sA k l).length=l.length
 |[],_=>rfl
 |p::r,k=>congrArg (·+1) (sG r (k+1))
def wJ(fa:XA)(Z:En)(s:K'):Out (List PV):=(fa Z s).bind λvs s1=>match vs with
 |[.lst l]=>.ok (sA 0 l) s1
 |_=>.bad
def C7:bu "enumerate"=Za (.type "enumerate"):=by decide +kernel
def ÁA(K:aa)(ta:TA):TI:=λO H R=>ta O H λxs H1=>∃a ys,xs=[.ref a]/\YY K H1 a ys/\R (Ite K a) H1
def MZ{es:List bc}{x1:_}{px p:Pos}{ta:TA}(hg:Gl X "enumerate")(hm:X.mg "enumerate"=Zb)(ha:PA X [a] ta)(hs:aq [a] X.env=[(false,eval a X.env)]:=by rfl):PI X (.Tuple es x1 px) (.Call (.Name "enumerate" p) [a] [] pos) (ÁA X.K ta):=by
 refine λQ9 s O H R I h=>Call_ (yK I hg hm C7 (dJ (Yy (ha pos Q9 s O H _ I h) λus s1=>e4 λvs H1 I1 r1 q1=>?_) hs rfl));obtain⟨b,ys,rfl,hq,q⟩:=q1;cases r1 with
 |cons r rr =>
  cases rr;cases r;obtain⟨its,rv,pl,hz⟩:=I1.list hq;refine call_enumerate_list pl.isList λh' he hi hsz kp=>?_;refine wpAny_pyIter_enum he ⟨s1.heap.objs.size+1,[s1.heap.objs.size+1,s1.heap.objs.size],_,_,H1,rfl,I1.kept kp,HP b (s1.heap.objs.size+1) s1.heap.objs.size (Nat.succ_ne_self _),⟨⟨_,he⟩,hi⟩,λc hc=>?_,q⟩;have TJ:s1.heap.objs.size<=c:=by
   grind
  exact I1.ŀ TJ (I1.Yn.fresh TJ)
def Áv{K:aa}{H0:Hp}{m0:Mp}{s0:K'}{b:ag}{l:List PV}(r:Rep K H0 m0 s0 (.ref b) (.lst l)):ql K CB (Ite K b) (sA 0 l) H0 m0 s0:=by
 intro i H m s ex S;obtain⟨b',vs,⟨⟩,hq,rs⟩:=(r.Yu ex.toExtR).ls S (rfl);refine⟨λq' Sa=>?_,λhi=>⟨vs,hq,by rw[rs.length,<-sG l 0];exact hi⟩⟩;rw[xS] at Sa;cases cl:l[i]? with
 |none=>rw[cl] at Sa;cases Sa
 |some q0 =>
  rw[cl] at Sa;cases Sa;obtain⟨u,hu,ru⟩:=rs.get cl;refine⟨⟨vs,u,hq,hu⟩,λx H' ⟨p,hp,e1,e2⟩=>?_⟩;obtain⟨y,hy,e3⟩:=e2 vs hq;subst e1 e3;rw[hu] at hy;cases hy;have k:=My.sL (o:=.tup [.int i,u]) hp;have S':=S.same k;exact⟨.same k,S',.tup (.inl ⟨.inl mv,S'.Zo mv⟩) (by rw[fu];exact .cons .int (.cons (ru.ext (.same k)) .nil))⟩
def Dq{es:List bc}{x1:_}{px p:Pos}{fa:XA}(ha:DA X CB E [a] fa)(hg:Gl X "enumerate":=by rfl)(hm:X.mg "enumerate"=none:=by assumption)(hs:aq [a] X.env=[(false,eval a X.env)]:=by rfl):DI X CB E (.Tuple es x1 px) (.Call (.Name "enumerate" p) [a] [] pos) (wJ fa) :=
 ⟨(MZ hg hm ha.pa hs).mono λO H R q=>ϖ.Ϩ q λv s1 u H1 m1 S1 r1 P=>by
  split at P
  .rename_i l s' hF;split at hF
   .cases hF;cases r1 with
    |cons r n =>
     cases n;cases r with
     |lst h1 h2 h3=>exact⟨_,_,rfl,YY.of h1,P _ _ _ .refl S1 (Áv (.lst h1 h2 h3))⟩
   .cases hF
  .rename_i hF;split at hF<;>cases hF
  .exact P.elim⟩
def ÀZ(K:aa):List V->Hp->VK->Prop:=λxs H Q=>∃(x:V)(p:ag)(Cs:List ag)(t:af)(b:Bool),xs=[x,.ref p]/\H p=Za (.tup (Cs.map V.ref))/\((x=.Ym/\t=.type "NoneType")\/∃a C,x=.ref a/\t=.ref C/\H a=Za (F8 C a)/\Exw K C)/\cQ K t (Cs.map aR)=Za b/\Q (.bl b) H
theorem BM:∀{Cs:List ag}{us:List af},Vals (Cs.map V.ref) us->us=Cs.map aR
 |[],_,h=>by cases h;rfl
 |C::r,_,h=>by
  cases h with
  |cons a b =>
   cases a;rw[BM b];rfl
def Jb:YV X (.builtin "isinstance") (ÀZ X.K):=by
 rintro Q9 s O H xs us Q I r ⟨x,p,Cs,t,b,rfl,hp,ty,e,q⟩
 obtain⟨u,v,rfl,ru,rfl⟩:=Jh r;have Rx:∀tk,EP X Q9 O Q (.bool b) { s with toks:=tk }:=λtk=>⟨.bl b,H,I.tok tk,rfl,q⟩;obtain⟨its,r',⟨⟨oc,od,dt,sl⟩,ho,hc,n,hd⟩,_⟩:=I.tuple (.inl (.inl hp));subst hc hd;have e2:=BM r';subst e2;rcases ty with⟨rfl,rfl⟩|⟨a,C,rfl,rfl,ha,Zj⟩
 .cases(ru);exact lQ k9 I.ZI cF ho e (λz=>nomatch z) Rx
 .cases(ru);obtain⟨p,_⟩:=I.Yn a _ ha;exact lQ (EV Zj) I.ZI p ho e (λz=>nomatch z) Rx
def Ji(Cs:List ag):TA:=λ_ H Q=>Q (Cs.map V.ref) H
def Eb:PA X [] (Ji []):=Yi
def vB(hm:X.mg x=Za (.ref C))(h:PA X es (Ji Cs))(hg:Gl X x:=by rfl)(hd:Ò x:=by decide)(hs:aq (.Name x p::es) X.env=(false,eval (.Name x p) X.env)::aq es X.env:=by rfl):PA X (.Name x p::es) (Ji (C::Cs)) :=
 mI (qB (v:=.ref C) hg hm rfl hd) h hs
def KJ{cl Cs:List ag}{tb:ag->Bool}{es:List bc}{x1:_}{px p:Pos}(ha:DE X CB E a f)(hes:PA X es (Ji Cs))(hk:∀c∈cl,Exw X.K c/\cQ X.K (.ref c) (Cs.map aR)=Za (tb c))(hn:cQ X.K (.type "NoneType") (Cs.map aR)=Za false)(hl:Cs.length<=100:=by simp)(Vz:Gl X "isinstance":=by rfl)(Vn:X.mg "isinstance"=none:=by exact T.Y6)(hs:aq [a,.Tuple es x1 px] X.env=(false,eval a X.env)::aq [.Tuple es x1 px] X.env:=by rfl)(Tz:aq [.Tuple es x1 px] X.env=(false,eval (.Tuple es x1 px) X.env)::aq [] X.env:=by rfl)(Rp:(bP pos (aq [.Tuple es x1 px] X.env)).any (·.1)=false:=by rfl):DE X CB E (.Call (.Name "isinstance" p) [a,.Tuple es x1 px] [] pos) (vS cl tb f) :=
 ⟨(oK Jb Vz Vn rP (mI ha.pe (mI (wA hes) Yi Tz) hs) (Zf rfl) (Zf rfl) hs Rp).mono λO H Q=>oE λZ s m er S P=>⟨Z,s,m,er,S,P.bind λv s1 u H1 m1 e1 S1 r1 P1=>by
  have hz:(Cs.map V.ref).length<=aH:=by rw[ac];exact aI hl (Zf rfl)
  refine⟨hz,λq hq=>?_⟩;have k:=My.sL (o:=.tup (Cs.map V.ref)) hq;split at P1
  .rename_i c;split at P1
   .rename_i hc;cases r1 with
    |exc h1 h2=>exact⟨_,q,Cs,.ref c,tb c,rfl,mv,.inr ⟨_,c,rfl,rfl,k _ _ h1,(hk c hc).1⟩,(hk c hc).2,P1 _ _ _ (.same k) (S1.same k) .bl⟩
   .exact P1.elim
  .cases r1;exact⟨_,q,Cs,.type "NoneType",false,rfl,mv,.inl ⟨rfl,rfl⟩,hn,P1 _ _ _ (.same k) (S1.same k) .bl⟩
  .exact P1.elim⟩⟩
def Q6(v:PV)(s:K'):Out PV:=match v with
 |.lst l=>.ok (.lst l) s
 |v=>Æ v s
def Fm(f:XE)(Z:En)(s:K'):Out PV:=(f Z s).bind Q6
def N9(h:DE X CB E a f):DE X CB E a (Fm f):=⟨h.pe.mono λO H Q=>oE λZ s m er S P=>⟨Z,s,m,er,S,P.bind λv s1 u H1 m1 e1 S1 r1 P1=>by
 unfold Q6 at P1;split at P1
 .exact P1.here S1 r1
 .cases c:Æ v s1 with
  |ok w s2 =>
   rw[c] at P1;obtain⟨S2,e2,r2⟩:=S1.YZ r1 c;exact P1 u H1 m1 e2 S2 r2
  |ex c' s' =>
   unfold Æ at c
   repeat' split at c
   all_goals cases c
  |bad=>rw[c] at P1;exact P1.elim⟩⟩
end
end L2
namespace Att
open PySem PySem.W PySem.Calls PyProof.Rows
def Ř(ns:List Int):Prop:=∀n∈ns,cy n<=1048576
theorem K0:∀{ns:List Int},gU (ns.map iy)<=2^20->Ř ns
 |[],_,_,h=>nomatch h
 |m::r,h,n,hn=>by
  have e:gU ((m::r).map iy)=cy m+1+gU (r.map iy):=rfl;rw[e] at h;obtain z|z:=ao.mp hn
  .rw[z];lia
  .exact K0 (show gU (r.map iy)<=2^20 by lia) n z
def ņ{l:gH}{n:Nat}{q:aL}{Sc:List Str}{XP:(Str->Option af)->bi->Prop}{YP:aX->bi->Prop}{d:DefRec}(hn:l.most=Za n)(VF:d.params.defaults=[])(call:∀(w:aX)(Y' Rr:aw)(mg mb:Str->Option af)(fa:ag)(o:Obj)(pm cd Sj:af)(a:ag)(vs:List af)(ns:List Int),
   Ground q Sc [] XP w Y' mg mb Rr.heap->YP w Rr.heap ->
   Rr.heap.get? fa=Za o->o.data=.func (docDef d.name d.params d.body d.scope pm cd Sj)->Rr.heap.CodeRec cd d.name->mg d.name=Za (.ref fa) ->
   Rr.heap.get? a=Za { cls:=.type "list",data:=.seq vs.toArray }->IntsAre vs ns->ns.length<=n->Ř ns->Rr.gens=#[] ->
   fj (model l.prog w) jB (.call (.ref fa) ⟨[.ref a],[]⟩) (λr s'=>r=.ok (.ret (.bool true))/\OldK Rr.heap s'.heap/\s'.os=Rr.os/\gW s'.gens) Rr) :
  lA q Sc XP YP l.row.toRowW d [] (λf vs=>lv f vs):=by
 intro w Y' Rr mg mb G Y fa o pm cd Sj dV kV ho hd R9 hD Vo hg args T9 as TB Xk hrd W7 hlo;obtain rfl:dV=.none:=Dflts.none hD VF;obtain rfl:kV=.none:=Dflts.noKw hD;obtain⟨a,vs,ns,rfl,rfl,Um,Tf,Re⟩:=HZ hn TB W7;have hw:Ř ns:=by have h1:=(dH.mp Xk) _ ai;simp[WData.layable,dI,decide_eq_true_eq] at h1;exact K0 h1.2
 refine enter_call (fH (call w Y' Rr mg mb fa o pm cd Sj a vs ns G Y ho (fd_plain hd) R9 Vo Um Tf Re hw hg) λr s' hq=>?_);obtain⟨rfl,h2,h3,h4⟩:=hq;exact⟨.inl ⟨.bool true,.bool true,[],rfl,λ_=>rfl,.bool true,Ih l _,λ_=>⟨List.Pairwise.nil,λ_ hm=>(nomatch hm)⟩⟩,h2,h3,h4⟩
end Att
namespace L2
open PySem PySem.Spec PyProof.Rows
def Ϝ{l:gH}{n k:Nat}{q:aL}{Sc:List Str}{XP:(Str->Option af)->bi->Prop}{YP:aX->bi->Prop}{d:DefRec}{K:Params->aa}{CX:aX->Ŷ}{sp:aX->Sp}{x:Str}(hn:l.most=Za n)(Wf:n<=aH)(VF:d.params.defaults=[])(hr:YA k jB)(hY:∀(w:aX)(h:bi),YP w h->(K w.params).In h)(F:∀(w:aX)(mg:Str->Option af)(fa:ag)(h:bi),(K w.params).In h->h.Ns aV mg->mg d.name=Za (.ref fa) ->
   ∃fd:cj,(∀(s:aw)(u:af),jI s fd ⟨[u],[]⟩ [(x,u)]) /\
    ∀base:bi,(K w.params).In base->base.Ns aV mg->YD l.prog w (K w.params) mg base (CX w) k fa fd [x] (sp w))(Tn:∀(w:aX)(H:Hp)(a:ag)(ns:List Int),ns.length<=n->Att.Ř ns->Ow H->YY (K w.params) H a (ns.map V.int)->sp w [.ref a] H (λv _=>v=.bl true) λ_ _ _=>False)(XR:∀(w:aX)(H:Hp)(s:aw)(e:af)(s':aw),CX w [] H s (λ_ _ _=>False) e s'->False) :
  lA q Sc XP YP l.row.toRowW d [] (λf vs=>lv f vs):=by
 refine Att.ņ hn VF λw Y' Rr mg mb fa o pm cd Sj a vs ns G Y ho hd R9 Vo Um Tf Re hw hg=>?_;have KX:=hY w _ Y;obtain⟨fd,hb,hF⟩:=F w mg fa _ KX G.T.g Vo;exact Ks KX G.T.g G.T.b G.T.builtins G.T.nolimit hg Um Tf (aI Re Wf) hr hF hb (λH hO hS=>Tn w H a ns Re hw hO hS) λH e s'=>XR w H Rr e s'
def Qh(hi:cy i<=33554432)(hj:cy j<=33554432):jE i j:=by intro h;simp only[dI,Builtin.Int.intTooBig] at h;have:=h.2;unfold bitsLine at this;lia
section
variable{X:Cx}{CB:ag}{E:XK}{a b c e:bc}{f h:XE}{fa:XA}{pos:Pos}
noncomputable def vI:List PV->Option (List Int)
 |[]=>Za []
 |.int i::l=>(vI l).map (i::·)
 |_=>Zb
theorem zN:∀l:List Int,vI (l.map PV.int)=Za l
 |[]=>rfl
 |x::r=>by rw[am];unfold vI;rw[zN r];rfl
theorem yi{K:aa}{H:Hp}{m:Mp}{s:K'}:∀{l:List PV}{vs:List V}{is:List Int},Yd K H m s vs l->vI l=Za is->vs=is.map V.int
 |[],_,is,.nil,h=>by cases h;rfl
 |p::l,_,is,.cons r rs,h=>by
  cases p with
  |int i =>
   have h:(vI l).map (i::·)=Za is:=h;cases c:vI l with
   |none=>grind
   |some js =>
    rw[c] at h;cases h;cases r;rw[yi rs c];rfl
  |_=>cases h
def QQ:bu "sum"=Za (.builtin "sum"):=by decide +kernel
def Itz(K:aa)(a b:ag):It :=
 ⟨λi H=>∃xs ys x y,YY K H a xs/\YY K H b ys/\xs[i]?=Za x/\ys[i]?=Za y,λi H x H'=>∃p,H p=Zb/\x=.ref p/\∀xs ys,YY K H a xs->YY K H b ys->∃u v,xs[i]?=Za u/\ys[i]?=Za v/\H'=upd H p (.tup [u,v]),λi H=>∃xs ys,YY K H a xs/\YY K H b ys/\(xs.length<=i\/ys.length<=i)⟩
def Inv.ϵ{Q9:List (ag×Obj)}{O:St}{H:Hp}{s:aw}{h':bi}{t':Nat}{ch:List ag}{n:ag}{xs:List V}(I:Inv X Q9 O H s)(k:∀b o,b∉ch->s.heap.get? b=Za o->h'.get? b=Za o)(fe:∀b∈ch,Ai X Q9 H b)(hn:s.heap.objs.size<=n)(new:YJ X.prog X.w (upd H n (.tup xs)) h' n (.tup xs)):Inv X Q9 O (upd H n (.tup xs)) { s with heap:=h',toks:=t' }:=by
 have nH:=I.Yn.fresh hn;have nn:∀b u,H b=Za u->b≠n:=λb u q z=>by grind
 have WU:∀b u,H b=Za u->b∉ch:=λb u q z=>by rw[(fe b z).1] at q;grind
 refine I.step (λb hb=>⟨(fe b hb).2.2.2.1,(fe b hb).2.1,(fe b hb).2.2.2.2.1,(fe b hb).2.2.2.2.2⟩) (λb o _ _ hc e _=>k b o hc e) (λb o _ _ hc e _=>⟨o.slots,k b o hc e⟩) (λb o _ q z=>?_)
  (λb o hc e=>⟨o,k b o hc e⟩) (λb _ q=>?_) (λb _ _ q=>?_) (λb ps q=>⟨#[],?_⟩) (λm hm=>?_) (λb u q=>?_) I.bare
 .rw[mj (az (ax (au q) hn))];exact z
 .rw[mj (nn b _ q)];exact q
 .rw[mj (nn b _ q)];exact q
 .rw[mj (nn b _ q),q];simp
 .obtain⟨o,es,ep,ho,r⟩:=hm;exact⟨o,es,ep,k _ o (λz=>(fe _ z).2.1 rfl) ho,r⟩
 .by_cases hb:b=n
  .subst hb;rw[mv] at q;grind
  .rw[mj hb] at q;refine(I.Yn b u q).Û (λc v hc w=>?_) (λc w=>by rw[mj (nn c _ w)];exact w) λc xs w=>by rw[mj (nn c _ w)];exact w
   grind
def Inv.Ϸ{Q9:List (ag×Obj)}{O:St}{H:Hp}{s:aw}{h':bi}{t':Nat}{ch:List ag}(I:Inv X Q9 O H s)(k:∀b o,b∉ch->s.heap.get? b=Za o->h'.get? b=Za o)(fe:∀b∈ch,Ai X Q9 H b):Inv X Q9 O H { s with heap:=h',toks:=t' }:=by
 have WU:∀b u,H b=Za u->b∉ch:=λb u q z=>by rw[(fe b z).1] at q;grind
 refine I.step (λb hb=>⟨(fe b hb).2.2.2.1,(fe b hb).2.1,(fe b hb).2.2.2.2.1,(fe b hb).2.2.2.2.2⟩) (λb o _ _ hc e _=>k b o hc e) (λb o _ _ hc e _=>⟨o.slots,k b o hc e⟩) (λb o _ q z=>z)
  (λb o hc e=>⟨o,k b o hc e⟩) (λb _ q=>q) (λb _ _ q=>q) (λb ps q=>⟨#[],by simpa using q⟩) (λm hm=>?_) (λb u q=>?_) I.bare
 .obtain⟨o,es,ep,ho,r⟩:=hm;exact⟨o,es,ep,k _ o (λz=>(fe _ z).2.1 rfl) ho,r⟩
 .refine(I.Yn b u q).Û (λc v hc w=>?_) (λc w=>w) λc xs w=>w
  grind
def JF{P:aL}{w:aX}{K:aa}{es:List bc}{x1:_}{px:Pos}(a b z TI TO i1 i2:ag)(D:ZipApart z TI TO i1 i2 a b):Turn P w K (.Tuple es x1 px) (Itz K a b) [z,TI,TO,i1,i2] z (λi h=>IsZip h z TI TO .none/\IsPair h TI (.ref i1) (.ref i2)/\(∃u v,IsPair h TO u v)/\h.IsListIter i1 a i/\h.IsListIter i2 b i) where
 mem:=by simp
 obj:=λi h st c hc=>by
  obtain⟨hz,TZ,⟨u,v,UA⟩,⟨o1,g1,c1,d1⟩,⟨o2,g2,c2,d2⟩⟩:=st
  grind
 keep:=λi h h' st k=>⟨k z (by simp) _ st.1,k TI (by simp) _ st.2.1,(let⟨u,v,q⟩:=st.2.2.1;⟨u,v,k TO (by simp) _ q⟩),st.2.2.2.1.at λo e=>k i1 (by simp) o e,st.2.2.2.2.at λo e=>k i2 (by simp) o e⟩
 item:=by
  intro X hP hw hK hc i Q9 s O H E I hf st hg;subst hP hw hK;obtain⟨xs,ys,x,y,UM,Sq,hx,hy⟩:=hg;obtain⟨Vd,V0,p1,hz1⟩:=I.list UM;obtain⟨Sg,UH,p2,Vf⟩:=I.list Sq;obtain⟨u1,hu1,ru1⟩:=V0.get hx;obtain⟨u2,hu2,ru2⟩:=UH.get hy;obtain⟨hz,TZ,⟨u,v,UA⟩,st1,R7⟩:=st;refine wpAny_pyNext_zip_item D hz TZ UA st1 R7 p1.isList p2.isList (x:=u1) (y:=u2) (by simpa using hu1) (by simpa using hu2) λh' W6 XH WL WJ ht hs kp=>⟨_,rfl,?_⟩;refine wpAny_letOwnedTupleGo_zip W6 λh2 hz3 sb=>?_;have hzl:z<s.heap.objs.size:=au hz;have Vj:IsPair h2 s.heap.objs.size u1 u2:=(sb.2 _ (fz hzl)).trans ht;have W3:∀c o,c∉[z,TI,TO,i1,i2]->s.heap.get? c=Za o->h2.get? c=Za o:=λc o hc q=>by simp[ao,eB,or_false,not_or] at hc;exact(sb.2 c hc.1).trans (kp c o hc.1 hc.2.2.1 hc.2.2.2.1 hc.2.2.2.2 q)
  have I1:Inv X Q9 O (upd H s.heap.objs.size (.tup [x,y])) { s with heap:=h2,toks:=s.toks } :=
   I.ϵ W3 hf (al _) ⟨(show 2<=aH by decide),[u1,u2],.cons ru1 (.cons ru2 .nil),_,Vj,rfl,0,rfl⟩
  have XI:IsPair h2 TI (.ref i1) (.ref i2):=(sb.2 TI D.TIz).trans (kp TI _ D.TIz D.TITO D.TIi1 D.TIi2 TZ);refine⟨.ref s.heap.objs.size,_,I1,rfl,⟨_,I.fresh,rfl,λxs' UY h1 h2=>⟨x,y,by rw[I.è h1 UM];exact hx,by rw[I.è h2 Sq];exact hy,rfl⟩⟩,⟨hz3,XI,⟨_,_,(sb.2 TO D.TOz).trans XH⟩,WL.at λo q=>(sb.2 i1 D.i1z).trans q,WJ.at λo q=>(sb.2 i2 D.i2z).trans q⟩,λc hc=>?_⟩;have Rs:c≠s.heap.objs.size:=by
   simp[ao,eB,or_false] at hc;obtain⟨o1,g1,_⟩:=st1;obtain⟨o2,g2,_⟩:=R7;obtain q|q|q|q|q:=hc
   .rw[q];exact az hzl
   .rw[q];exact az (au TZ)
   .rw[q];exact az (au UA)
   .rw[q];exact az (au g1)
   .rw[q];exact az (au g2)
  rw[mj Rs];exact(hf c hc).1
 done:=by
  intro X hP hw hK hc i Q9 s O H E I hf st hg;subst hP hw hK;obtain⟨xs,ys,UM,Sq,hx⟩:=hg;obtain⟨Vd,V0,p1,hz1⟩:=I.list UM;obtain⟨Sg,UH,p2,Vf⟩:=I.list Sq;obtain⟨hz,TZ,⟨u,v,UA⟩,st1,R7⟩:=st;have TW:=V0.length;have Vr:=UH.length;refine wpAny_pyNext_zip_end (I.ok.hd hc) D hz TZ UA st1 R7 p1.isList p2.isList (hx.imp (λz=>by simp;lia) λz=>by simp;lia) λh' eb=>⟨rfl,?_⟩;refine I.Ϸ (t':=s.toks) (ch:=[z,TI,TO,i1,i2]) (λc o hc q=>?_) hf
  grind
 self:=λ_ _ _ _ _ st h=>wpAny_pyIter_zip st.1 h
noncomputable def uN:List PV->List PV->List PV
 |x::r,y::q=>.tup [x,y]::uN r q
 |_,_=>[]
theorem Es:∀(l k:List PV)(i:Nat),(uN l k)[i]?=match l[i]?,k[i]? with|some x,Za y=>Za (.tup [x,y])|_,_=>Zb
 |[],_,_=>by simp[uN]
 |_::_,[],i=>by simp[uN]
 |x::r,y::q,0=>rfl
 |x::r,y::q,i+1=>by simp only[uN,gO];exact Es r q i
theorem Aj:∀(l k:List PV),(uN l k).length=min l.length k.length
 |[],_=>by simp[uN]
 |_::_,[]=>by simp[uN]
 |x::r,y::q=>by simp only[uN,bx,Aj r q];lia
def GN(fa:XA)(Z:En)(s:K'):Out (List PV):=(fa Z s).bind λvs s1=>match vs with
 |[.lst l,.lst k]=>.ok (uN l k) s1
 |_=>.bad
def QP:bu "zip"=Za (.type "zip"):=by decide +kernel
def ÂG(K:aa)(ta:TA):TI:=λO H R=>ta O H λxs H1=>∃a b ys zs,xs=[.ref a,.ref b]/\YY K H1 a ys/\YY K H1 b zs/\R (Itz K a b) H1
def zap(n l1 l2)(h1:l1<n)(h2:l2<n):ZipApart (n+4:Nat) (n+2:Nat) (n+3:Nat) n (n+1:Nat) l1 l2:=by constructor<;>(apply(λh=>h) ;lia)
def PB{es:List bc}{x1:_}{px p:Pos}{ta:TA}(hg:Gl X "zip")(hm:X.mg "zip"=Zb)(ha:PA X [a,b] ta)(hs:aq [a,b] X.env=(false,eval a X.env)::aq [b] X.env:=by rfl)(Rp:(bP pos (aq [b] X.env)).any (·.1)=false:=by rfl):PI X (.Tuple es x1 px) (.Call (.Name "zip" p) [a,b] [] pos) (ÂG X.K ta):=by
 refine λQ9 s O H R I h=>Call_ (yK I hg hm QP (dJ (Yy (ha pos Q9 s O H _ I h) λus s1=>e4 λvs H1 I1 r1 q1=>?_) hs Rp));obtain⟨l1,l2,ys,zs,rfl,UM,Sq,q⟩:=q1;obtain⟨u1,u2,rfl,r1,r2⟩:=Jh r1;cases r1;cases r2;obtain⟨Vd,V0,p1,hz1⟩:=I1.list UM;obtain⟨Sg,UH,p2,Vf⟩:=I1.list Sq;have t1:l1<s1.heap.objs.size:=by obtain⟨o,ho,_⟩:=p1.isList;exact au ho
 have t2:l2<s1.heap.objs.size:=by obtain⟨o,ho,_⟩:=p2.isList;exact au ho
 refine call_zip_2 p1.isList p2.isList λh' hz TZ UA Xn hi2 hsz kp=>?_;have D:=zap _ _ _ t1 t2;refine wpAny_pyIter_zip hz ⟨s1.heap.objs.size+4,[s1.heap.objs.size+4,s1.heap.objs.size+2,s1.heap.objs.size+3,s1.heap.objs.size,s1.heap.objs.size+1],_,_,H1,rfl,I1.kept kp,JF l1 l2 _ _ _ _ _ D,⟨hz,TZ,⟨_,_,UA⟩,Xn,hi2⟩,λc hc=>?_,q⟩;have TJ:s1.heap.objs.size<=c:=by simp[ao,eB,or_false] at hc;obtain z|z|z|z|z:=hc<;>rw[z]<;>lia
 exact I1.ŀ TJ (I1.Yn.fresh TJ)
def Ás{K:aa}{H0:Hp}{m0:Mp}{s0:K'}{b c:ag}{l k:List PV}(r:Rep K H0 m0 s0 (.ref b) (.lst l))(r':Rep K H0 m0 s0 (.ref c) (.lst k)):ql K CB (Itz K b c) (uN l k) H0 m0 s0:=by
 intro i H m s ex S;obtain⟨b',vs,⟨⟩,hq,rs⟩:=(r.Yu ex.toExtR).ls S (rfl);obtain⟨c',ws,⟨⟩,Sa,rs'⟩:=(r'.Yu ex.toExtR).ls S (rfl);refine⟨λq' hz=>?_,λhi=>⟨vs,ws,hq,Sa,?_⟩⟩
 .rw[Es] at hz;cases cl:l[i]? with
  |none=>rw[cl] at hz;cases hz
  |some q0 =>
   cases ck:k[i]? with
   |none=>rw[cl,ck] at hz;cases hz
   |some q1 =>
    rw[cl,ck] at hz;cases hz;obtain⟨u,hu,ru⟩:=rs.get cl;obtain⟨v,hv,rv⟩:=rs'.get ck;refine⟨⟨vs,ws,u,v,hq,Sa,hu,hv⟩,λx H' ⟨p,hp,e1,e2⟩=>?_⟩;obtain⟨y,z,hy,hz,e3⟩:=e2 vs ws hq Sa;subst e1 e3;rw[hu] at hy;rw[hv] at hz;cases hy;cases hz;have kk:=My.sL (o:=.tup [u,v]) hp;have S':=S.same kk;exact⟨.same kk,S',.tup (.inl ⟨.inl mv,S'.Zo mv⟩) (.cons (ru.ext (.same kk)) (.cons (rv.ext (.same kk)) .nil))⟩
 .rw[Aj] at hi;rw[rs.length,rs'.length];lia
def GI{es:List bc}{x1:_}{px p:Pos}{fa:XA}(ha:DA X CB E [a,b] fa)(hg:Gl X "zip":=by rfl)(hm:X.mg "zip"=none:=by assumption)(hs:aq [a,b] X.env=(false,eval a X.env)::aq [b] X.env:=by rfl)(Rp:(bP pos (aq [b] X.env)).any (·.1)=false:=by rfl):DI X CB E (.Tuple es x1 px) (.Call (.Name "zip" p) [a,b] [] pos) (GN fa) :=
 ⟨(PB hg hm ha.pa hs Rp).mono λO H R q=>ϖ.Ϩ q λv s1 u H1 m1 S1 r1 P=>by
  split at P
  .rename_i l s' hF;split at hF
   .cases hF;cases r1 with
    |cons r n =>
     cases n with
     |cons r' n =>
      cases n;cases r with
      |lst h1 h2 h3 =>
       cases r' with
       |lst k1 k2 k3=>exact⟨_,_,_,_,rfl,YY.of h1,YY.of k1,P _ _ _ .refl S1 (Ás (.lst h1 h2 h3) (.lst k1 k2 k3))⟩
   .cases hF
  .rename_i hF;split at hF<;>cases hF
  .exact P.elim⟩
def Oz(i:Nat)(f:XE)(Z:En)(s:K'):SO:=match Z[i]? with
 |some (Za (.int x))=>(f Z s).so λv s1=>match v with
  |.int y=>.nx (Z.set i (Za (.int (x+y)))) s1
  |_=>.bad
 |_=>.bad
def QF(i)(he:DE X CB E e f)(hN:X.N.Nodup:=by exact ‹N' _ _ _›.nd)(hi:X.N[i]?=Za x:=by rfl)(hx:Loc X.env.scope x:=by first|exact eA rfl|exact gJ rfl)(hf:X.fn x=true\/X.env.scope.names.lookup x=Za .local:=by first|exact .inl rfl|exact .inr rfl|assumption):DS X CB E (.AugAssign (.Name x Rl) .Add e pos) (Oz i f) :=
 ⟨(Pz hN hi hx he.pe Lx hf).mono λD O H=>oE λZ s m er S P=>by
  unfold Oz at P;split at P
  .rename_i a İ;obtain⟨u0,hu,⟨⟩⟩:=er.at_ i _ İ;refine⟨_,hu,Z,s,m,er,S,Yw.so P λv s1 u H1 m1 e1 S1 r1 P1=>?_⟩;split at P1
   .cases r1;exact⟨_,_,rfl,rfl,P1.next S1 ((er.ext e1).set i .int)⟩
   .exact P1.elim
  .exact P.elim⟩
end
section
variable{κ:Type}[DecidableEq κ]{K:aa}{H:Hp}{m:Mp}{s:K'}
def YN(K:aa)(H:Hp)(m:Mp)(s:K')(vs:List (κ×V))(l:List (κ×PV)):Prop:=vs.map (·.1)=l.map (·.1)/\Yd K H m s (vs.map (·.2)) (l.map (·.2))
theorem YN.nil:YN K H m s ([]:List (κ×V)) []:=⟨rfl,.nil⟩
def YN.cons_inv:∀{vs:List (κ×V)},YN K H m s vs (q::l)->∃w r,vs=(q.1,w)::r/\Rep K H m s w q.2/\YN K H m s r l
 |[],h=>nomatch h.1
 |(k,w)::r,h=>by
  obtain⟨e1,e2⟩:=ij h.1;cases h.2 with
  |cons a b =>
   subst e1;exact⟨w,r,rfl,a,e2,b⟩
theorem YN.cons{q:κ×PV}{l}{w}{vs}(a:Rep K H m s w q.2)(h:YN K H m s vs l):YN K H m s ((q.1,w)::vs) (q::l):=⟨by rw[am,am,h.1],.cons a h.2⟩
theorem YN.length(h:YN K H m s vs l):vs.length=l.length:=by
 have:=congrArg cD h.1
 grind
def wm(l:List (κ×PV))(k:κ):Option PV:=(l.find? λkv=>decide (kv.1=k)).map (·.2)
noncomputable def Dd(l:List (κ×PV))(k:κ)(p:PV):List (κ×PV) :=
 if(l.any λkv=>decide (kv.1=k))=true then l.map (λkv=>if kv.1=k then(kv.1,p) else kv) else l++[(k,p)]
theorem YN.val:∀{l:List (κ×PV)}{vs:List (κ×V)},YN K H m s vs l->wm l k=Za p->∃w,pB vs k=Za w/\Rep K H m s w p
 |[],_,_,e=>nomatch e
 |q::l,vs,h,e=>by
  obtain⟨w,r,rfl,a,b⟩:=h.cons_inv;unfold wm at e;unfold pB;rw[bX] at e ⊢;by_cases c:q.1=k
  .grind
  .rw[Zh c] at e;obtain⟨w',h1,h2⟩:=b.val e;refine⟨w',?_,h2⟩;rw[Zh c];exact h1
theorem YN.any:∀{l:List (κ×PV)}{vs:List (κ×V)},YN K H m s vs l->(vs.any λkv=>decide (kv.1=k))=l.any λkv=>decide (kv.1=k)
 |[],vs,h=>by
  have:=h.length
  grind
 |q::l,vs,h=>by obtain⟨w,r,rfl,a,b⟩:=h.cons_inv;rw[dU,dU,b.any]
theorem YN.map(rv:Rep K H m s v p):∀{l:List (κ×PV)}{vs:List (κ×V)},YN K H m s vs l->YN K H m s (vs.map λkv=>if kv.1=k then(kv.1,v) else kv) (l.map λkv=>if kv.1=k then(kv.1,p) else kv)
 |[],vs,h=>by
  have:=h.length
  simp_all
 |q::l,vs,h=>by
  obtain⟨w,r,rfl,a,b⟩:=h.cons_inv;rw[am,am];by_cases c:q.1=k
  .rw[Zc c,Zc c];exact YN.cons (q:=(q.1,p)) rv (b.map rv)
  .rw[Zd c,Zd c];exact YN.cons a (b.map rv)
def YN.snoc(rv:Rep K H m s v p)(h:YN K H m s vs l):YN K H m s (vs++[(k,v)]) (l++[(k,p)]) :=
 ⟨by rw[aA,aA,h.1];rfl,by rw[aA,aA];exact h.2.append (.cons rv .nil)⟩
def YN.put{k:κ}{v:V}{p:PV}(rv:Rep K H m s v p){l:List (κ×PV)}{vs:List (κ×V)}(h:YN K H m s vs l):YN K H m s (qY vs k v) (Dd l k p):=by
 unfold qY Dd;rw[h.any];split
 .exact h.map rv
 .exact h.snoc rv
theorem B9{κ:Type}[DecidableEq κ][BEq κ][LawfulBEq κ](k:κ):∀fs:List (κ×V),fs.lookup k=pB fs k
 |[]=>rfl
 |(g,x)::r=>by
  rw[cz];unfold pB;rw[bX];by_cases c:g=k
  .subst c;simp
  .have h1:(k==g)=false:=by simpa using bH c
   rw[h1];simp[c];exact B9 k r
noncomputable def BB(f:Str)(v:PV):List (Str×PV)->List (Str×PV)
 |[]=>[(f,v)]
 |(g,x)::r=>if g=f then(g,v)::r else(g,x)::BB f v r
theorem YN.Ze(rv:Rep K H m s v p):∀{l:List (Str×PV)}{vs:List (Str×V)},YN K H m s vs l->YN K H m s (Ze f v vs) (BB f p l)
 |[],vs,h=>by
  have:=h.length;rw[gK.mp this];exact YN.cons (q:=(f,p)) rv .nil
 |(g,x)::l,vs,h=>by
  obtain⟨w,r,rfl,a,b⟩:=h.cons_inv;show YN K H m s (if g=f then(g,v)::r else(g,w)::L2.Ze f v r) (if g=f then(g,p)::l else(g,x)::BB f p l);split
  .exact YN.cons (q:=(g,p)) rv b
  .exact YN.cons a (b.Ze rv)
end
section
variable{X:Cx}{CB:ag}{E:XK}{a b c e:bc}{es:List bc}{f g h:XE}{fa:XA}{pos p Rl RL:Pos}{C:ag}{k n:Nat}{ps:List Str}{D:XF}{x:Str}
def SR.Ât{K:aa}{H:Hp}{m:Mp}{s:K'}{n:Nat}{dx:ag}{l l':List (Str×PV)}{RM:List (Str×V)}(S:SR K CB H m s)(hn:s.get n=Za (.obj C l))(r:YN K H m s RM l') :
  SR K CB (upd H (m.ad n) (.ins C dx RM)) (m.ZF n [m.ad n]) (s.set n (.obj C l'))/\Ext H m s (upd H (m.ad n) (.ins C dx RM)) (m.ZF n [m.ad n]) (s.set n (.obj C l')):=by
 obtain⟨e1,dx',vs,h1,_⟩:=S.get hn;refine S.put hn (by grind) _ _ (λa o h ha=>?_) (λa ha=>.inl (by rw[e1];exact ha)) λex=>⟨by show(if n=n then [m.ad n] else m.fp n)=_;rw[Zc rfl];rfl,dx,RM,mv,r.1,r.2.Yu ex⟩;rw[e1,ay] at ha;rw[mj ha];exact h
def SR.Âs{K:aa}{H:Hp}{m:Mp}{s:K'}{n:Nat}{l l':List (List Key×PV)}{RM:List (List Key×V)}(S:SR K CB H m s)(hn:s.get n=Za (.Å l))(r:YN K H m s RM l') :
  SR K CB (upd H (m.ad n) (.dT RM)) (m.ZF n [m.ad n]) (s.set n (.Å l'))/\Ext H m s (upd H (m.ad n) (.dT RM)) (m.ZF n [m.ad n]) (s.set n (.Å l')):=by
 obtain⟨e1,vs,h1,_⟩:=S.get hn;refine S.put hn (by grind) _ _ (λa o h ha=>?_) (λa ha=>.inl (by rw[e1];exact ha)) λex=>⟨by show(if n=n then [m.ad n] else m.fp n)=_;rw[Zc rfl];rfl,RM,mv,r.1,r.2.Yu ex⟩;rw[e1,ay] at ha;rw[mj ha];exact h
def Jy(C:ag)(nm:Str)(f:XE)(Z:En)(s:K'):Out PV:=(f Z s).bind λv s1=>match v with
 |.ref n=>match s1.get n with
  |some (.obj C' fs)=>if C'=C then(match wm fs nm with
   |some p=>.ok p s1
   |none=>.bad) else .bad
  |_=>.bad
 |_=>.bad
def DY(ho:DE X CB E a f)(hC:ş X.K C)(hn:Y3 X.K C nm)(hb:cL a nm X.env (eval a X.env)=eval a X.env:=by rfl):DE X CB E (.Attribute a nm pos) (Jy C nm f) :=
 ⟨(qg ho.pe hb).mono λO H Q=>oE λZ s m er S P=>⟨Z,s,m,er,S,P.bind λv s1 u H1 m1 e1 S1 r1 P1=>by
  split at P1
  .split at P1
   .rename_i hg;split at P1
    .rename_i hc;subst hc;split at P1
     .rename_i hv;obtain⟨_,dx,Sv,h1,rf⟩:=S1.get hg;cases r1 with
      |ref hl =>
       obtain⟨w,hw,RR⟩:=YN.val rf hv;exact⟨_,_,dx,Sv,w,rfl,h1,hC,hn,(B9 nm Sv).trans hw,P1.here S1 RR⟩
     .exact P1.elim
    .exact P1.elim
   .exact P1.elim
  .exact P1.elim⟩⟩
def Fl(C:ag)(nm:Str)(f g:XE)(Z:En)(s:K'):SO:=(g Z s).so λp s1=>(f Z s1).so λv s2=>match v with
 |.ref n=>match s2.get n with
  |some (.obj C' fs)=>if C'=C/\fs.length<1000 then .nx Z (s2.set n (.obj C (BB nm p fs))) else .bad
  |_=>.bad
 |_=>.bad
def LK{nm:Str}(ho:DE X CB E a f)(hv:DE X CB E e g)(hC:ş X.K C)(hn:Y3 X.K C nm)(hs:cO e (Za (.Attribute a nm Rl)) pos.line X.env=pure false:=by rfl):DS X CB E (.Assign [.Attribute a nm Rl] e pos) (Fl C nm f g) :=
 ⟨(yH ho.pe hv.pe hs).mono λD O H=>oE λZ s m er S P=>⟨Z,s,m,er,S,Yw.so P λp s1 u H1 m1 e1 S1 r1 P1=>⟨Z,s1,m1,er.ext e1,S1,Yw.so P1 λv s2 u2 H2 m2 e2 S2 r2 P2=>by
  split at P2
  .split at P2
   .rename_i hg;split at P2
    .rename_i hc;obtain⟨hc,hl⟩:=hc;subst hc;obtain⟨_,dx,Sv,h1,rf⟩:=S2.get hg;cases r2 with
     |ref Rs =>
      have rz:YN X.K H2 m2 s2 Sv _:=rf;obtain⟨S3,e3⟩:=S2.Ât hg (rz.Ze (r1.ext e2));exact⟨_,_,dx,Sv,rfl,h1,hC,hn,by rw[rz.length];exact hl,P2 _ _ _ e3 S3 (((er.ext e1).ext e2).ext e3)⟩
    .exact P2.elim
   .exact P2.elim
  .exact P2.elim⟩⟩⟩
def Ox(_:En)(s:K'):Out PV:=.ok (.ref s.nx) (s.add (.Å []))
def N6:DE X CB E (.Dict [] [] pos) Ox:=⟨ϟ.mono λO H Q=>oE λZ s m er S P p hp=>by
 obtain⟨S2,e2⟩:=S.add (c:=.Å []) _ p [p] (My.sL hp) (λa ha=>by rw[ay.mp ha];exact hp) λex=>by
  have e1:(m.add s.nx p [p]).ad s.nx=p:=by show(if s.nx=s.nx then p else _)=_;rw[Zc rfl]
  have e2:(m.add s.nx p [p]).fp s.nx=[p]:=by show(if s.nx=s.nx then [p] else _)=_;rw[Zc rfl]
  exact⟨by rw[e1,e2],[],by rw[e1];exact mv,rfl,.nil⟩
 exact P _ _ _ e2 S2 .new⟩
noncomputable def BC:List PV->Option (List Key)
 |[]=>Za []
 |p::l=>match Á p,BC l with
  |some k,Za ks=>Za (k::ks)
  |_,_=>Zb
theorem v6{K:aa}{H:Hp}{m:Mp}{s:K'}:∀{l:List PV}{vs:List V}{ks:List Key},Yd K H m s vs l->BC l=Za ks->vs=ks.map kV
 |[],_,ks,.nil,h=>by cases h;rfl
 |p::l,_,ks,.cons r rs,h=>by
  unfold BC at h;split at h
  .rename_i k ks' h1 h2;cases h;rw[qE r h1,v6 rs h2];rfl
  .cases h
def Oy(f:XE)(fa:XA)(Z:En)(s:K'):Out PV:=(f Z s).bind λv s1=>(fa Z s1).bind λvs s2=>match v with
 |.ref n=>match s2.get n,BC vs with
  |some (.Å l),Za ks=>if vs.length<=100000 then(match wm l ks with
   |some p=>.ok p s2
   |none=>.bad) else .bad
  |_,_=>.bad
 |_=>.bad
def QL{x1}(ho:DE X CB E a f)(hi:DA X CB E es fa){jr:Nat}(hr:YA jr X.A:=by assumption)(hs:Q8 (.Tuple es x1 RL):=by exact λ_ _=>rfl):DE X CB E (.Subscript a (.Tuple es x1 RL) pos) (Oy f fa) :=
 ⟨(xj (qN hr) ho.pe (wA hi.pa) hs).mono λO H Q=>oE λZ s m er S P=>⟨Z,s,m,er,S,P.bind λv s1 u H1 m1 e1 S1 r1 P1=>⟨Z,s1,m1,er.ext e1,S1,P1.bind λvs s2 us H2 m2 e2 S2 r2 P2=>by
  split at P2
  .split at P2
   .rename_i l ks hg hk;split at P2
    .rename_i hl;split at P2
     .rename_i hv;refine⟨by rw[r2.length];exact ϯ hl,λp hp=>?_⟩;obtain⟨_,RM,h1,rf⟩:=S2.get hg;have rz:YN X.K H2 m2 s2 RM l:=rf;obtain⟨w,hw,RR⟩:=rz.val hv;have WP:=r1.ext e2;cases WP with
      |ref Rs =>
       have SW:p≠m2.ad _:=λz=>by rw[z,h1] at hp;grind
       have ek:=v6 r2 hk;subst ek;exact⟨_,w,rfl,hw▸Zs.t (by rw[mj (bH SW)];exact h1) mv,P2.new S2 hp λex S'=>RR.ext ex⟩
     .exact P2.elim
    .exact P2.elim
   .exact P2.elim
  .exact P2.elim⟩⟩⟩
def YN.same{κ:Type}{K:aa}{H H':Hp}{m m':Mp}{s s':K'}{vs:List (κ×V)}{l:List (κ×PV)}(h:YN K H m s vs l)(e:Ext H m s H' m' s'):YN K H' m' s' vs l:=⟨h.1,h.2.ext e⟩
def Je(f:XE)(fa:XA)(h:XE)(Z:En)(s:K'):SO:=(h Z s).so λq s1=>(f Z s1).so λv s2=>(fa Z s2).so λvs s3=>match v with
 |.ref n=>match s3.get n,BC vs with
  |some (.Å l),Za ks=>if vs.length<=100000/\l.length<100000 then .nx Z (s3.set n (.Å (Dd l ks q))) else .bad
  |_,_=>.bad
 |_=>.bad
def NW{x1}(ho:DE X CB E a f)(hi:DA X CB E es fa)(hv:DE X CB E e h)(hr:YA jr X.A:=by assumption)(hs:cO e (Za (.Subscript a (.Tuple es x1 RL) Rl)) pos.line X.env=pure false:=by rfl):DS X CB E (.Assign [.Subscript a (.Tuple es x1 RL) Rl] e pos) (Je f fa h) :=
 ⟨(sd (qN hr) ho.pe (wA hi.pa) hv.pe hs).mono λD O H=>oE λZ s m er S P=>⟨Z,s,m,er,S,Yw.so P λq s1 u H1 m1 e1 S1 r1 P1=>⟨Z,s1,m1,er.ext e1,S1,Yw.so P1 λv s2 u2 H2 m2 e2 S2 r2 P2=>⟨Z,s2,m2,(er.ext e1).ext e2,S2,Yw.so P2 λvs s3 us H3 m3 e3 S3 r3 P3=>by
  split at P3
  .split at P3
   .rename_i l ks hg hk;split at P3
    .rename_i hl;refine⟨by rw[r3.length];exact ϯ hl.1,λp hp=>?_⟩;obtain⟨_,RM,h1,rf⟩:=S3.get hg;have rz:YN X.K H3 m3 s3 RM l:=rf;have r2':=r2.ext e3;cases r2' with
     |ref Rs =>
      have SW:p≠m3.ad _:=λz=>by rw[z,h1] at hp;grind
      have ek:=v6 r3 hk;subst ek;have kk:=My.sL (o:=.tup (ks.map kV)) hp;have S4:=S3.same kk;have e4:Ext H3 m3 s3 _ m3 s3:=.same kk;have rq:=((r1.ext e2).ext e3).ext e4;obtain⟨S5,e5⟩:=S4.Âs hg ((rz.same e4).put rq);exact⟨_,_,rfl,ß.t (by rw[mj (bH SW)];exact h1) mv (by rw[rz.length];exact sz6 hl.2),P3 _ _ _ (e4.trans e5) S5 (((((er.ext e1).ext e2).ext e3).ext e4).ext e5)⟩
    .exact P3.elim
   .exact P3.elim
  .exact P3.elim⟩⟩⟩⟩
def xMk(C:ag)(n:Nat)(D:XF)(fa:XA)(Z:En)(s:K'):Out PV:=(fa Z s).bind λvs s1=>if vs.length+1=n then(D (.ref s1.nx::vs) (s1.add (.obj C []))).bind (λv s2=>match v with
 |.Ym=>.ok (.ref s1.nx) s2
 |_=>.bad) else .bad
def À5(M:MkB X.prog X.w X.K X.mg X.base x C k ps sp)(hr:YA (k+1) X.A)(hg:Gl X x)(hx:oQ (Y7 X.prog X.w) X E)(ha:PA X (e::es) t)(RP:Ò x:=by decide)(he:ě X e es:=by rfl)(Rp:(bP pos (aq es X.env)).any (·.1)=false:=by rfl):PE X (.Call (.Name x p) (e::es) [] pos) (Jk C sp [] E t):=by
 obtain⟨f,fd,F,hm,mk,hb⟩:=M;exact M6 mk F hr hg hm hb .nil hx ha RP he Rp
def ÁP(M:MkB X.prog X.w X.K X.mg X.base x C k ps (Y4 X.K CB n D))(ha:DA X CB E (e::es) fa)(hr:YA jr X.A:=by assumption)(hk:k+1<=jr:=by first|decide|omega)(hg:Gl X x:=by rfl)(hx:oQ (Y7 X.prog X.w) X E:=by first|exact pR|exact sN)(RP:Ò x:=by decide)(he:ě X e es:=by rfl)(Rp:(bP pos (aq es X.env)).any (·.1)=false:=by rfl):DE X CB E (.Call (.Name x p) (e::es) [] pos) (xMk C n D fa) :=
 ⟨(À5 M (hr.mono hk) hg hx ha.pa RP he Rp).mono λO H Q=>oE λZ s m er S P=>⟨Z,s,m,er,S,P.bind λvs s1 us H1 m1 e1 S1 r1 P1=>by
  split at P1
  .rename_i hl;intro b dx hb Xu RD;rw[bY];have kk:YQ H1 (upd (upd H1 dx (.own b)) b (.ins C dx [])):=λc o h=>by rw[mj (mG h hb),mj (mG h Xu)];exact h
   obtain⟨S2,e2⟩:=S1.add (c:=.obj C []) (upd (upd H1 dx (.own b)) b (.ins C dx [])) b [b] kk (λa ha=>by rw[ay.mp ha];exact hb) λex=>by
    have q1:(m1.add s1.nx b [b]).ad s1.nx=b:=by show(if s1.nx=s1.nx then b else _)=_;rw[Zc rfl]
    have q2:(m1.add s1.nx b [b]).fp s1.nx=[b]:=by show(if s1.nx=s1.nx then [b] else _)=_;rw[Zc rfl]
    exact⟨by rw[q1,q2],dx,[],by rw[q1];exact mv,rfl,.nil⟩
   refine⟨by rw[bx,r1.length];exact hl,_,_,_,.cons .new (r1.ext e2),S2,(Yw.shift e2 P1).bind λv s3 u H3 m3 e3 S3 r3 P3=>?_⟩;split at P3
   .cases r3;exact⟨rfl,P3 _ _ _ .refl S3 (Rep.new.ext e3)⟩
   .exact P3.elim
  .exact P1.elim⟩⟩
def ÀY(K:aa):R2:=λx y H Q=>∃(p:ag)(xs:List V)(j:Nat)(v:V),x=.ref p/\y=.int (j:Int)/\YY K H p xs/\xs[j]?=Za v/\Q v H
def Ky:Á1 X (ÀY X.K):=by
 rintro Q9 s O H x y v u Q I rx ry ⟨p,xs,j,z,rfl,rfl,hq,he,q⟩
 cases rx;obtain⟨t,rfl⟩:=ry;obtain⟨its,r,pl,hz⟩:=I.list hq;obtain⟨w,ew,RR⟩:=r.get he;have hl:=r.length;have hn:=wC;have hj:=(aS.mp ew).1;exact wpAny_getItem_list pl.isList (by lia) (by lia) (by simpa using ew) ⟨z,H,I,RR,q⟩
def Jg(f g h:XE)(Z:En)(s:K'):SO:=(f Z s).so λo s1=>(g Z s1).so λi s2=>match o,i with
 |.ref n,.int k=>if 0<=k then(match s2.get n with
  |some (.lst l)=>(match l[k.toNat]? with
   |some (.int x)=>(h Z s2).so λv s3=>match v with
    |.int y=>(match s3.get n with
     |some (.lst l')=>if k.toNat<l'.length then .nx Z (s3.set n (.lst (l'.set k.toNat (.int (x+y))))) else .bad
     |_=>.bad)
    |_=>.bad
   |_=>.bad)
  |_=>.bad) else .bad
 |_,_=>.bad
def NY(ho:DE X CB E a f)(hi:DE X CB E b g)(he:DE X CB E e h)(ha:∀ov iv new,augStore b ov iv new=(do holding [new,ov,iv] (kB ov iv new);release [new,ov,iv] [];pure .next):=by intros;rfl):DS X CB E (.AugAssign (.Subscript a b RL) .Add e pos) (Jg f g h) :=
 ⟨(MW ho.pe hi.pe Ky he.pe Lx set_list ha).mono λD O H=>oE λZ s m er S P=>⟨Z,s,m,er,S,Yw.so P λo s1 uo H1 m1 e1 S1 r1 P1=>⟨Z,s1,m1,er.ext e1,S1,Yw.so P1 λi s2 ui H2 m2 e2 S2 r2 P2=>by
  split at P2
  .rename_i n k;split at P2
   .rename_i hk;split at P2
    .rename_i l hg;split at P2
     .rename_i x hx;obtain⟨_,vs,h1,q1⟩:=S2.get hg;obtain⟨u0,hu0,⟨⟩⟩:=q1.get hx;have WP:=r1.ext e2;cases WP with
      |ref Rs =>
      cases r2;have ek:k=(k.toNat:Int):=by lia
      refine⟨_,vs,k.toNat,_,rfl,by rw[<-ek],YY.of h1,hu0,Z,s2,m2,(er.ext e1).ext e2,S2,Yw.so P2 λv s3 uv H3 m3 e3 S3 r3 P3=>?_⟩;split at P3
      .split at P3
       .rename_i l' hg';split at P3
        .rename_i hl;cases r3;obtain⟨_,RM,US,q1'⟩:=S3.get hg';have hn:=Rs;have ead:=e3.ad n hn;obtain⟨S4,e4⟩:=S3.putL hg' (q1'.set k.toNat (.int));rw[ead] at US S4 e4;refine⟨_,_,rfl,rfl,_,RM,_,k.toNat,rfl,rfl,US,?_,P3 _ _ _ e4 S4 ((((er.ext e1).ext e2).ext e3).ext e4)⟩;rw[q1'.length];unfold ũ
         grind
        .exact P3.elim
       .exact P3.elim
      .exact P3.elim
     .exact P2.elim
    .exact P2.elim
   .exact P2.elim
  .exact P2.elim⟩⟩⟩
end
end L2
namespace PySem
open Sem (wp)
def CZ:ji (.type "list") "keys"=pure none:=by kernel_rfl
def y9(hx:s.heap.get? a=Za o)(hc:o.cls=.type "list")(Ti:o.data=.seq xs k)(hd:o.dict=Zb)(hA:A.handled=Zb)(h:∀h' tk,(∀b o,s.heap.get? b=Za o->h'.get? b=Za o)->Q Zb { s with heap:=h',toks:=tk }) :
  aP (model prog w) A (getAttr? (.ref a) "keys") Q E s:=by
 obtain⟨c,Yr,dat,sl⟩:=o;simp only at hc Ti hd;subst hc Ti hd;obtain⟨y1,y2,y3,y4,y5⟩:=s;have ty:∀z,(⟨y1,y2,y3,z,y5⟩:aw).TypeIs (.ref a) "list":=λ_=>⟨_,hx,rfl⟩;have f1:=sub_AttributeError;have f3:=gR.lookup;have f4:=gR.bind (.ref a);have f5:=am_list_getattr_none;unfold getAttr? getAttrBy? getAttrBy
 repeat (any_goals (first|assumption|exact ty _|((with_reducible show aP _ _ (call (jT "list.__getattribute__") _ _) _ _ _);refine jj gR (ty _) am_entry_list_getattribute (F.args_list_getattribute_2 _ _) (meets_getattribute_miss_list a xs k sl "keys" _ CZ (by decide +kernel) (Zf rfl)) ⟨hx,hA,λh' tk' e Tb=>?_⟩)|wp_step))
 obtain⟨t',u',he⟩:=Tb.there;unfold getattributeRaised
 repeat any_goals first|assumption|wp_step
 exact h _ _ Tb.keeps
namespace F
def Ï:plainId "dict.update.loop"=true:=by decide +kernel
def Ĳ:entryFor table "dict.update.loop"=Za Builtin.«dict.update.loop»:=entryFor_of_tree (by kernel_rfl)
end F
section
variable{prog:aL}{w:aX}{K:Type}[DecidableEq K]{knd:KeyKind prog w K}{A:b8}{R:jU->aw->Prop}{D it l:ag}
structure ZP(knd:KeyKind prog w K)(h:bi)(p:ag×K×af×af):Prop where
 at_:∃o n,h.get? p.1=Za o/\o.cls=.type "tuple"/\o.data=.seq #[p.2.2.1,p.2.2.2] n
 is:knd.is p.2.1 p.2.2.1=true
def w4(Ra:List (K×af)):List (ag×K×af×af)->List (K×af)
 |[]=>Ra
 |p::ps=>w4 (stored Ra p.2.1 p.2.2.2) ps
theorem E8(hh:A.handled=Zb)(Wn:D≠it)(hDl:D≠l)(hil:it≠l):∀(ps:List (ag×K×af×af))(i:Nat)(pre:List af)(s:aw)(Ra:List (K×af)),pre.length=i->s.heap.IsListIter it l i ->
  s.heap.IsList l (pre++ps.map λp=>aR p.1).toArray->(∀p∈ps,ZP knd s.heap p/\p.1≠it/\p.1≠D)->s.heap.DictOf knd D Ra->Ra.length+ps.length<=aH ->
  (∀h' tk,h'.DictOf knd D (w4 Ra ps)->(∀b o,b≠it->b≠D->s.heap.get? b=Za o->h'.get? b=Za o)->R (.ok (.ret .none)) { s with heap:=h',toks:=tk }) ->
  fj (model prog w) A (.builtin "dict.update.loop" ⟨[.ref D,.ref it,rawInt i,.none],[]⟩) R s
 |[],i,pre,s,Ra,hi,Ur,hl,hp,hd,hz,hR=>by
  refine ko F.Ĳ ?_;rw[kI F.Ï _];show aP _ A.in1 (pyNext (.ref it) >>= _) _ _ s;refine ah (wpAny_pyNext_list_end (A:=A.in1) hh Ur hl (by simp[hi]) λh' sb=>?_);exact ah (aG (aG (hR h' s.toks (hd.extBut sb Wn) λb o hb _ e=>sb b o hb e)))
 |p::ps,i,pre,s,Ra,hi,Ur,hl,hp,hd,hz,hR=>by
  obtain⟨⟨⟨o,n,hT,hc,VE⟩,hk⟩,ni,nD⟩:=hp p ai;apply ko F.Ĳ;rw[kI F.Ï _];refine ah (wpAny_pyNext_list_item (x:=.ref p.1) Ur hl (by simp[<-hi]) λh' Xm sb=>?_);have hT':=(sb.2 _ ni).trans hT;have W8:(⟨h',s.gens,s.drawn,s.toks,s.os⟩:aw).TypeIs (.ref p.1) "tuple":=⟨_,hT',hc⟩;refine ah (cX (ah (wpAny_tryCatch ?_)));refine ah (wpAny_typeOf W8 ?_);rw[Zc (Zf rfl)];refine ah (wpAny_seqItems hT' VE (aG ?_));have Wl:=hd.sameBut sb Wn;refine cX (wpAny_dictSet_pairs (hsz:=by rw[bx] at hz;lia) hk Wl λh2 VG sb2=>?_);refine aG ⟨plainId_quiet F.Ï _,?_⟩;have kp:=λb h1 h2=>(sb2.2 b h2).trans (sb.2 b h1);have:=E8 hh Wn hDl hil ps (i+1) (pre++[.ref p.1]) { s with heap:=h2,toks:=s.toks+1 } (stored Ra p.2.1 p.2.2.2) (by simp[hi])
   (Xm.at λo e=>(sb2.2 it (bH Wn)).trans e) (by
    have e:(pre++[aR p.1]++ps.map λp=>aR p.1)=pre++(p::ps).map λp=>aR p.1:=by simp
    rw[e];exact hl.at λo e=>(kp l (bH hil) (bH hDl)).trans e) (λq hq=>by
    obtain⟨⟨⟨o,n,g,g2⟩,k⟩,a1,a2⟩:=hp q (ae _ hq);exact⟨⟨⟨o,n,(kp _ a1 a2).trans g,g2⟩,k⟩,a1,a2⟩) VG (by
    have:=stored_length_le Ra p.2.1 p.2.2.2;rw[bx] at hz;lia) λh3 tk hd3 k3=>?_
  .exact this
  .exact hR h3 tk hd3 λb o h1 h2 e=>k3 b o h1 h2 ((kp b h1 h2).trans e)
end
open Sem (wp)
section
variable{prog:aL}{w:aX}{K:Type}[DecidableEq K]{knd:KeyKind prog w K}{E:af->aw->Prop}{A:b8}{s:aw}
def yF(hh:A.handled=Zb)(hx:s.heap.get? l=Za ol)(Su:ol.cls=.type "list")(Xv:ol.dict=Zb)(Wk:ol.data=.seq (ps.map λp=>aR p.1).toArray n)(hp:∀p∈ps,ZP knd s.heap p)(hz:ps.length<=aH)(h:∀h' tk,h'.DictOf knd s.heap.objs.size (w4 [] ps)->(∀b o,s.heap.get? b=Za o->h'.get? b=Za o)->Q (.ref s.heap.objs.size) { s with heap:=h',toks:=tk }) :
  aP (model prog w) A (call (.type "dict") [.ref l]) Q E s:=by
 refine callType_codes (Q₁:=λob s0=>ob=.ref s.heap.objs.size/\s0={ s with heap:=s.heap.push { cls:=.type "dict",data:=.dict #[] } }) F.kt_called_dict (F.kt_typeCall_dict_1 _) F.entry_dict_init (kt_code_dict_new _ ⟨rfl,rfl⟩) ?_
 rintro _ _ ⟨rfl,rfl⟩
 have nw:(s.heap.push { cls:=.type "dict",data:=.dict #[] }).DictOf knd s.heap.objs.size []:=kH s.heap;have Tb:(s.heap.push { cls:=.type "dict",data:=.dict #[] }).get? l=Za ol:=ak _ hx;have hTl:({ s with heap:=s.heap.push { cls:=.type "dict",data:=.dict #[] } }:aw).TypeIs (.ref l) "list":=⟨_,Tb,Su⟩;have Wg:=au hx;refine⟨nw.typeIs,F.args_dict_init_2 _ _,?_⟩;apply ah;refine ah (wpAny_notOrdered_dict nw.typeIs ?_);apply aG;show aP _ _ (Builtin.Dict.updateFrom "dict.__init__" s.heap.objs.size (.ref l) [] .none) _ _ _;refine ah (wpAny_typeOf hTl ?_);rw[Zc (Zf rfl)];refine ah (y9 Tb Su Wk Xv hh λh1 tk kp=>?_);rw[Zc (show Zb.isNone=true from rfl)];refine ah (wpAny_rule ?_);have TW:h1.IsList l (ps.map λp=>aR p.1).toArray:=⟨_,kp _ _ Tb,Su,_,Wk⟩;refine ah (gT TW ?_);obtain⟨od,es,ep,hod,rd⟩:=nw;have hD1:=kp _ _ hod;have VH:h1.DictOf knd s.heap.objs.size []:=⟨od,es,ep,hD1,rd⟩;have l1:=au (kp _ _ Tb);have lD:=au hD1;have Tu:(h1.push { cls:=.type "list_iterator",data:=.fields #[.ref l,.int 0 0] }).IsListIter h1.objs.size l 0:=⟨_,aN _ rfl,rfl,rfl⟩;refine aG ⟨plainId_quiet F.Ï _,E8 (A:=A.in1) hh (az lD) (fz Wg) (fz l1) ps 0 [] _ [] rfl Tu (TW.push _) (λp q=>?_) (VH.push _) (by simpa using hz) λh2 tk2 VG k2=>⟨rfl,h h2 tk2 VG λb o e=>?_⟩⟩
 .obtain⟨⟨o,n,g,g2⟩,k⟩:=hp p q;have g1:=kp _ _ (ak { cls:=.type "dict",data:=.dict #[] } g);exact⟨⟨⟨o,n,ak _ g1,g2⟩,k⟩,az (au g1),az (au g)⟩
 .have g1:=kp _ _ (ak { cls:=.type "dict",data:=.dict #[] } e);exact k2 b o (az (au g1)) (az (au e)) (ak _ g1)
end
end PySem
namespace L2
open PySem PySem.Spec PyProof.Rows
section
variable{X:Cx}{CB:ag}{E:XK}{a b e:bc}{f h:XE}{p pos Rc Rb:Pos}
def putAll(Ra:List (Key×V)):List (Key×V)->List (Key×V)
 |[]=>Ra
 |p::ps=>putAll (qY Ra p.1 p.2) ps
def rDP(K:aa):List V->Hp->VK->Prop:=λxs H Q=>∃(l:ag)(ts:List (ag×Key×V)),xs=[.ref l]/\YY K H l (ts.map λt=>V.ref t.1)/\(∀t∈ts,ZK K H t.1 [kV t.2.1,t.2.2])/\∀p,H p=Zb->Q (.ref p) (upd H p (.dK (putAll [] (ts.map (·.2)))))
theorem vF:∀(ps Ra:List (Key×V)),(putAll Ra ps).length<=Ra.length+ps.length
 |[],Ra=>al _
 |p::ps,Ra=>by have h1:=vF ps (qY Ra p.1 p.2);have h2:=rm Ra p.1 p.2;show(putAll (qY Ra p.1 p.2) ps).length<=Ra.length+(ps.length+1);lia
theorem KV.putAll:∀{ts:List (ag×Key×V)}{ps:List (ag×Key×af×af)}{Ra:List (Key×V)}{vs:List (Key×af)},KV Ra vs->eU (λ(t:ag×Key×V)(p:ag×Key×af×af)=>t.1=p.1/\t.2.1=p.2.1/\RelV t.2.2 p.2.2.2) ts ps->KV (L2.putAll Ra (ts.map (·.2))) (w4 vs ps)
 |[],_,_,_,r,.nil=>r
 |t::ts,p::ps,Ra,vs,r,.cons h hs=>by obtain⟨_,h2,h3⟩:=h;show KV (L2.putAll (qY Ra t.2.1 t.2.2) (ts.map (·.2))) (w4 (stored vs p.2.1 p.2.2.2) ps);rw[<-h2];exact KV.putAll (r.put t.2.1 h3) hs
def Og(hc:X.calm=true):YV X (.type "dict") (rDP X.K):=by
 rintro Q9 s O H xs us Q I r ⟨l,ts,rfl,hl,ht,q⟩
 obtain⟨u,rfl,rfl⟩:=rh r;obtain⟨its,rv,pl,hz⟩:=I.list hl;have WO:∀{ts:List (ag×Key×V)}{its:List af},Vals (ts.map λt=>V.ref t.1) its->its=ts.map λt=>aR t.1:=by
  intro ts;induction ts with
  |nil=>rintro its ⟨⟩;rfl
  |cons t ts ih =>
   intro its rv;cases rv with
   |cons r rs =>
    cases r;rw[ih rs];rfl
 have U6:∀(ts:List (ag×Key×V)),(∀t∈ts,ZK X.K H t.1 [kV t.2.1,t.2.2])->∃ps:List (ag×Key×af×af),(∀p∈ps,ZP (nI X.prog X.w) s.heap p)/\eU (λt p=>t.1=p.1/\t.2.1=p.2.1/\RelV t.2.2 p.2.2.2) ts ps:=by
  intro ts;induction ts with
  |nil=>exact λ_=>⟨[],(λ_ z=>nomatch z),.nil⟩
  |cons t ts ih =>
   intro h;obtain⟨ps,h1,h2⟩:=ih λt' z=>h t' (ae _ z);obtain⟨Sg,UH,⟨o,ho,Su,n,hd⟩,_⟩:=I.tuple (h t ai);obtain⟨u1,u2,rfl,r1,r2⟩:=Jh UH;refine⟨(t.1,t.2.1,u1,u2)::ps,λp z=>?_,.cons ⟨rfl,rfl,r2⟩ h2⟩;obtain z|z:=ao.mp z
   .rw[z];exact⟨⟨o,n,ho,Su,hd⟩,yC r1⟩
   .exact h1 p z
 obtain⟨ps,h1,h2⟩:=U6 ts ht;have eps:∀{ts:List (ag×Key×V)}{ps:List (ag×Key×af×af)},eU (λt p=>t.1=p.1/\t.2.1=p.2.1/\RelV t.2.2 p.2.2.2) ts ps->(ts.map λt=>aR t.1)=ps.map λp=>aR p.1:=by
  intro ts;induction ts with
  |nil=>rintro ps ⟨⟩;rfl
  |cons t ts ih =>
   intro ps h;cases h with
   |cons a b=>rw[am,am,ih b,a.1]
 rw[WO rv,eps h2] at pl;obtain⟨o,n,ho,Su,Xv,Wk⟩:=pl;rw[ac] at hz;have Re:=(iJ h2).symm;refine yF (I.ok.hd hc) ho Su Xv Wk h1 (by rw[Re];exact hz) λh' tk dd kp=>?_;refine⟨.ref s.heap.objs.size,_,I.laid (λb o e=>kp b o e) (al _) (DX ?_ (beq_eq_false_iff_ne.mpr (bH (az I.big))) (KV.putAll .nil h2) dd),rfl,q _ (I.Yn.fresh (al _))⟩;have:=vF (ts.map (·.2)) [];rw[ac] at this;simp[jv,fu] at this;exact aI this hz
noncomputable def BE:List (Key×PV)->List PV->Option (List (Key×PV))
 |Ra,[]=>Za Ra
 |Ra,.tup [k,p]::l=>match Á k with
  |some key=>BE (x9 Ra key p) l
  |none=>Zb
 |_,_=>Zb
def DU(vs:List PV)(s:K'):Out PV:=match vs with
 |[v]=>match YI s v with
  |some l=>match BE [] l with
   |some d=>.ok (.Yr d) s
   |none=>.bad
  |none=>.bad
 |_=>.bad
theorem zZ{K:aa}{H:Hp}{m:Mp}{s:K'}:∀{l:List PV}{vs:List V}{Ra:List (Key×V)}{q d:List (Key×PV)},Yd K H m s vs l->Yf K H m s Ra q->BE q l=Za d->∃ts:List (ag×Key×V),vs=(ts.map λt=>V.ref t.1)/\(∀t∈ts,ZK K H t.1 [kV t.2.1,t.2.2])/\Yf K H m s (putAll Ra (ts.map (·.2))) d
 |[],_,Ra,q,d,.nil,rq,h=>by cases h;exact⟨[],rfl,(λ_ z=>nomatch z),rq⟩
 |p::l,_,Ra,q,d,.cons r rs,rq,h=>by
  unfold BE at h;split at h
  .rename_i z;cases z
  .rename_i k p' l' heq;cases heq;split at h
   .rename_i key hk;obtain⟨a,RM,rfl,sq,rr⟩:=r.tp;cases rr with
    |cons r1 rr =>
     cases rr with
     |cons r2 rr =>
      cases rr;obtain⟨ts,e1,e2,e3⟩:=zZ rs (rq.put key r2) h;have ek:=qE r1 hk;refine⟨(a,key,_)::ts,by rw[e1];rfl,λt z=>?_,e3⟩
      grind
   .cases h
  .cases h
def LZ(hc:X.calm=true):Ĩ X CB E (.type "dict") DU:=⟨_,Og hc,by
 intro H m s v x Q S rx P;unfold DU at P;split at P
 .cases rx with
  |cons r n =>
   cases n;split at P
   .rename_i l hl;split at P
    .rename_i d hd;obtain⟨a,vs,rfl,q,r⟩:=r.ls S hl;obtain⟨ts,rfl,e2,e3⟩:=zZ r .nil hd;exact⟨a,ts,rfl,q,e2,λp hp=>P.new S hp λex S'=>.Yr (.inl mv) (S.YM hp) (e3.ext ex)⟩
    .exact P.elim
   .exact P.elim
 .exact P.elim⟩
def DB(d:ag):Obj:={ cls:=.type "dict_values",data:=.fields #[.ref d] }
def ÀN(td:TE):TE:=λO H Q=>td O H λx H1=>∃(d:ag)(Ra:List (Key×V)),x=.ref d/\Rd H1 d (.dK Ra)/\∀v,H1 v=Zb->Q (.ref v) (upd H1 v (fzO (DB d)))
def M0(ho:PE X a td)(RI:cL a "values" X.env (eval a X.env)=eval a X.env:=by rfl)(RG:(Rc.endLine==Rb.line)=true:=by rfl):PE X (.Call (.Attribute a "values" Rc) [] [] Rb) (ÀN td):=by refine λQ9 s O H Q I h=>wpAny_Call_method0_late RI RG (Yy (ho Q9 s O H _ I h) λv s1=>e4 λx H1 I1 r1 ⟨d,Ra,ex,hd,q⟩=>?_);subst ex;obtain rfl:v=aR d:=r1;obtain⟨t1,t2,_⟩:=GE I1 (.inl ⟨Ra,hd⟩);refine⟨"dict","dict.values",gB,jG,PySem.F.type_dict_values,t1,t2,fc rfl (PySem.evalArgs_none ?_)⟩;obtain⟨z,hs,vs,rel,dd⟩:=vp I1.Yn hd;refine jC jG dd.typeIs PySem.F.entry_dict_values (PySem.F.args_dict_values_1 _) (meets_dict_values (nI X.prog X.w) d hs) ⟨⟨vs,dd⟩,?_⟩;have e0:(s1.heap.push (DB d)).get? s1.heap.objs.size=Za (DB d):=aN _ rfl;exact⟨.ref s1.heap.objs.size,_,I1.laid (o:=fzO (DB d)) (λb o e=>ak _ e) (al _) ⟨e0,_,e0⟩,rfl,q _ (I1.Yn.fresh (al _))⟩
def IY(hc:X.calm=true):YV X (.builtin "sum") (λxs H Q=>∃(v d:ag)(Ra:List (Key×V))(is:List Int),xs=[.ref v]/\H v=Za (fzO (DB d))/\Rd H d (.dK Ra)/\Ra.map (·.2)=is.map V.int/\Q (.int is.sum) H):=by
 rintro Q9 s O H xs us Q I r ⟨v,d,Ra,is,rfl,hv,hd,hi,q⟩
 obtain⟨u,rfl,rfl⟩:=rh r;obtain⟨z,hs,vs,rel,dd⟩:=vp I.Yn hd;obtain⟨hov,_⟩:=(I.Yn v _ hv);obtain⟨ep,RY⟩:=dd.dictAt;have Ya:∀{is:List Int}{Ra:List (Key×V)}{vs:List (Key×af)},KV Ra vs->Ra.map (·.2)=is.map V.int->∀(i:Nat) k w,vs[i]?=Za (k,w)->∃t,w=Value.int ((is[i]?).getD 0) t:=by
  intro is;induction is with
  |nil =>
   intro Ra vs rel e i k w hw;have:=List.map_eq_nil_iff.mp e;subst this;cases rel;cases hw
  |cons x is ih =>
   intro Ra vs rel e i k w hw;cases rel with
   |nil=>cases e
   |cons a b =>
    rw[am,am] at e;obtain⟨e1,e2⟩:=ij e;cases i with
    |zero =>
     cases hw;have:=a.2;rw[e1] at this;obtain⟨t,rfl⟩:=this;exact⟨t,rfl⟩
    |succ i=>exact ih b e2 i k w hw
 have Re:vs.length=is.length:=by
  have h1:=rel.length;have h2:=congrArg cD hi
  grind
 have TY:d<s.heap.objs.size:=by obtain⟨o,_,_,ho,_⟩:=dd;exact au ho
 refine call_sum_walkG (wpAny_pyIter_values ⟨_,hov,rfl,rfl⟩ RY ?_);refine⟨s.heap.objs.size,_,_,vs.length,_,_,λi=>(is[i]?).getD 0,rfl,Walks.dictValues (show X.A.in1.handled=Zb from I.ok.hd hc) s.heap.objs.size d (az TY) vs ep,⟨⟨_,aN _ rfl,rfl,rfl⟩,RY.push _⟩,λb hb=>?_,λi w ⟨k,hk⟩=>Ya rel hi i k w hk,λh' tk t' hk=>?_⟩
 .rw[iz]
  grind
 .have ps:∀(is:List Int) n,preSum (λi=>(is[i]?).getD 0) n=(is.take n).sum:=by
   intro is n;induction n with
   |zero=>rfl
   |succ n ih =>
    show preSum _ n+(is[n]?).getD 0=_;rw[ih,d6,List.sum_append];cases is[n]?<;>simp
  rw[ps,Re,jg];refine⟨.int _,H,I.kept λb o e=>hk b o ?_ (ak _ e),⟨_,rfl⟩,q⟩;simp[ay];exact az (au e)
def Fk(f:XE)(Z:En)(s:K'):Out PV:=(f Z s).bind λv s1=>match ZG s1 v with
 |some l=>match vI (l.map (·.2)) with
  |some is=>.ok (.int is.sum) s1
  |none=>.bad
 |none=>.bad
theorem zn{K:aa}{H:Hp}{m:Mp}{s:K'}:∀{vs:List (Key×V)}{l:List (Key×PV)},Yf K H m s vs l->Yd K H m s (vs.map (·.2)) (l.map (·.2))
 |_,_,.nil=>.nil
 |_,_,.cons a b=>.cons a (zn b)
def N4(ho:DE X CB E a f)(hc:X.calm=true:=by rfl)(hg:Gl X "sum":=by rfl)(hm:X.mg "sum"=none:=by assumption)(RI:cL a "values" X.env (eval a X.env)=eval a X.env:=by rfl)(RG:(Rc.endLine==Rb.line)=true:=by rfl)(hs:aq [Expr.Call (.Attribute a "values" Rc) [] [] Rb] X.env=(false,eval (Expr.Call (.Attribute a "values" Rc) [] [] Rb) X.env)::aq [] X.env:=by rfl)(Rp:(bP pos (aq [] X.env)).any (·.1)=false:=by rfl):DE X CB E (.Call (.Name "sum" p) [.Call (.Attribute a "values" Rc) [] [] Rb] [] pos) (Fk f) :=
 ⟨(oK (IY hc) hg hm QQ (mI (M0 ho.pe RI RG) Yi hs) (Zf rfl) (Zf rfl) hs Rp).mono λO H Q=>oE λZ s m er S P=>⟨Z,s,m,er,S,P.bind λv s1 u H1 m1 e1 S1 r1 P1=>by
  split at P1
  .rename_i l hl;split at P1
   .rename_i is hi;obtain⟨d,vs,rfl,hd,rr⟩:=r1.dc S1 hl;have e:=yi (zn rr) hi;refine⟨d,vs,rfl,hd,λw hw=>?_⟩;have kk:=My.sL (o:=fzO (DB d)) hw;exact⟨w,d,vs,is,rfl,mv,hd.same kk,e,P1 _ _ _ (.same kk) (S1.same kk) .int⟩
   .exact P1.elim
  .exact P1.elim⟩⟩
end
def Jr(K:aa)(C:ag):Bool:=match K.lookup C with
 |some ⟨.type "type",_,.cls cd,sl⟩=>(match cd.mro,sl.toList with
  |.ref C'::bm,[_,_,_,_,Za (.builtin n),_]=>C'==C&&n=="ValueError.__new__"&&!cd.hasDel&&jm K ϑ bm&&cd.hasDict
  |_,_=>false)
 |_=>false
structure Ew(K:aa)(C Zi f:ag):Prop where
 ex:Jr K C=true
 init:aK K (.ref C) "__init__"=Za (Za (.ref f))
 fn:PySem.W.typeIn K (.ref f)=Za (.type "function")
 me:bF K C (.ref C)=Za true
 mo:(PySem.W.clsIn K C).map (·.mro)=Za (.ref C::.ref Zi::ϑ)
 hd:cZ K C=true
 sa:aK K (.ref C) "__setattr__"=Za (Za (.builtin "object.__setattr__"))
 gr:aK K (.ref C) "group"=Za Zb
 ga:cI K (.ref Zi) "__getattribute__"=Za (Za (.builtin "type.__getattribute__"))
 rd:lP K Zi (.type "type")=true
 kw:bW K (.ref C)=true
 fi:lR K (.ref Zi) (.type "type") "__init__"=Za (.val (.builtin "ValueError.__init__"))
def Ew.ob{K:aa}{C Zi f:ag}(Zj:Ew K C Zi f):∃dd cd sl,K.lookup C=Za ⟨.type "type",dd,.cls cd,sl⟩:=by
 have z:=Zj.ex;unfold Jr at z;split at z
 .exact⟨_,_,_,‹_›⟩
 .cases z
def Ew.obj{K:aa}{C Zi f:ag}{h:bi}(Zj:Ew K C Zi f)(X:K.In h):∃bm N nm q bs sn sub ab col dd k0 k1 k2 k3 k5,
  h.get? C=Za (excClassObj nm q C N bs bm true sn sub ab col dd k0 k1 k2 k3 k5 "ValueError.__new__")/\OwnTail h ϑ bm:=by
 have z:=Zj.ex;unfold Jr at z;split at z
 case h_2=>cases z
 case h_1 ddv Rk slv lk =>
  split at z
  case h_2=>cases z
  case h_1 D bm a0 a1 a2 a3 nw a5 em es =>
   have z':((((D=C/\nw="ValueError.__new__")/\Rk.hasDel=false)/\jm K ϑ bm=true)/\Rk.hasDict=true):=by
    simp_all
   obtain⟨⟨⟨⟨eD,eN⟩,TY⟩,tl⟩,hd⟩:=z';rcases Rk with⟨c1,c2,c3,c4,c5,c6,c7,c8,c9,X8,c11⟩;subst em TY eD eN hd;have XY:slv=#[a0,a1,a2,a3,Za (.builtin "ValueError.__new__"),a5]:=by
    rcases slv with⟨l⟩
    grind
   subst XY;exact⟨bm,c4,c1,c5,c2,c7,c8,c9,X8,ddv,a0,a1,a2,a3,a5,X _ _ lk,kS X tl⟩
abbrev Ex(vs:List af):Obj:={ cls:=.type "tuple",data:=.seq vs.toArray }
abbrev yR(C t:ag):Obj:={ cls:=.ref C,data:=.fields #[.ref t,.none,.none,.none,.bool false,.none] }
section
variable{prog:aL}{w:aX}{A:b8}{E:af->aw->Prop}{h:bi}{g:Array jF}{d:Drawn}{t:Nat}{os:OsState}
variable{nm q:Str}{C N f:ag}{bs bm:List af}{sn:List Str}{sub:List af}{ab:Bool}{col:Option Bool}{dd:Option ag}{k0 k1 k2 k3 k5:Option af}
def KD{rest:List af}{Q:Fin->aw->Prop}(T:OwnTail h ϑ bm)(hC:h.get? C=Za (excClassObj nm q C N bs bm true sn sub ab col dd k0 k1 k2 k3 k5 "ValueError.__new__"))(hi:en (model prog w) h (ji (.ref C) "__init__") (Za (.ref f)))(hb:∀self,en (model prog w) h (bindSpecial (.ref f) self) (.ref f,[self]))(hq:fj (model prog w) A (.call (.ref f) ⟨.ref (h.objs.size+1)::rest,[]⟩) (λr s'=>match r with|.ok (.ret v)=>v=.none/\Q (.done (.ret (.ref (h.objs.size+1)))) s'|.ok _=>False|.error e=>E e s')
   ⟨(h.push (Ex rest)).push (yR C h.objs.size),g,d,t,os⟩)(TR:rest.length<=aH) :
  aP (model prog w) A (Builtin.«type.__call__» ⟨.ref C::rest,[]⟩) Q E ⟨h,g,d,t,os⟩:=by
 have F:=cB
 repeat (first|with_reducible refine dC hC ?_|with_reducible refine wpAny_madeBy_exc hC ?_|wp_step)
 refine codeAny_call_builtin_code (iV _ F.quiet) (wpAny_check_new_subT F T hC ?_);refine codeAny_exc_new_subT F T hC ?_ TR;show aP _ _ _ _ _ _;have k:∀b o,h.get? b=Za o->((h.push (Ex rest)).push (yR C h.objs.size)).get? b=Za o:=λb o e=>ak _ (ak _ e);have hC1:=k _ _ hC;have Ut:((h.push (Ex rest)).push (yR C h.objs.size)).get? (h.objs.size+1)=Za (yR C h.objs.size):=by heap_get
 have hcC:(aR C::bm).contains (.ref C)=true:=by simp
 have Xn:=hi.keeps k;have VM:=(hb (.ref (h.objs.size+1))).keeps k;unfold kR
 repeat (first|with_reducible refine dC Ut ?_|(with_reducible refine jc hC1 ?_;rw[hcC])|wp_step)
 show aP _ _ (ji (.ref C) _) _ _ _;refine Xn _ _ _ _ (λ_ _ e=>e) ?_;refine cX (ah (VM _ _ _ _ (λ_ _ e=>e) ?_));refine ah (iG (fH hq λr s' z=>?_));obtain e|(v|_|_|_):=r<;>first|exact z|exact z.elim|skip
 obtain⟨rfl,z⟩:=z
 wp_walk
 exact z
end
section
variable{prog:aL}{w:aX}{A:b8}{E:af->aw->Prop}{s:aw}{K:aa}{C Zi f x:ag}{ox:Obj}{v:af}
def NO(Zj:Ew K C Zi f)(X:K.In s.heap)(hx:s.heap.get? x=Za ox)(hc:ox.cls=.ref C)(hf:ox.data=.fields vs)(hd:ox.dict=Zb)(h:∀h' tk,h'.get? x=Za { ox with dict:=Za s.heap.objs.size }->h'.Ns1 s.heap.objs.size (λy=>if y="group" then Za v else Zb)->(∀b o,b≠x->s.heap.get? b=Za o->h'.get? b=Za o)->Q () { s with heap:=h',toks:=tk }) :
  aP (model prog w) A (setAttr (.ref x) "group" v) Q E s:=by
 have J:PySem.W.InstAt s.heap x ox C none:=⟨hx,hc,by obtain⟨a,b,c,d⟩:=ox;cases hf;rfl,by rw[hd];trivial⟩;obtain⟨cd,R9,hm⟩:=kj.mp Zj.mo;have SF:=PySem.F.store_object;have sub:en (model prog w) s.heap (kR (.ref x) (.type "object")) true:=J.type.andThen (ig X (by unfold bF;rw[R9,Option.bind_some,hm];rfl));have Xh:en (model prog w) s.heap (mroOf (.ref C)) (.ref C::.ref Zi::ϑ):=hm▸(ip X R9).andThen .now;refine k8 X J Zj.sa (f8 SF.slot.plain SF.entry (@PySem.W.check_slot (model prog w) _ _ _ "object.__setattr__" "object" "__setattr__" (.ref x) [.str "group" s.toks,v] [] _ SF.kind SF.split sub (SF.args (.ref x) (.str "group" s.toks) v) ?_));rw[PySem.W.osa_eq,refuse_eq];refine ah (ah (J.type.here (s:={ s with toks:=s.toks+1 }) (ah (Xh.here (s:={ s with toks:=s.toks+1 }) ?_))));rw[refuseLoop_ref,refuseLoop_ref,PySem.F.store_ValueError.passes];refine aG (ah (J.type.here (s:={ s with toks:=s.toks+1 }) (ah ((eI X Zj.gr).here (s:={ s with toks:=s.toks+1 }) (ah (aG ?_))))));refine ah (aG ?_);rw[Zd (show ¬(aR C==Value.type "module")=true by intro z;cases z)];apply ah;show aP _ _ (instanceDict x true) _ _ _;refine ah (kQ (hx) ?_);dsimp only;obtain⟨cd',hc1,TJ⟩:=lz Zj.hd;rw[hc,hd,hf];refine ah ((ip X hc1).here (s:={ s with toks:=s.toks+1 }) ?_);rw[TJ,Zd (Zf rfl),Zd (by simp[typeHasDict])];refine ah (wpAny_alloc ?_);refine ah (wpAny_update (ak _ hx) ?_);have hxs:=az (au hx);apply aG;have gx:((s.heap.push bU).update x λo=>{ o with dict:=Za s.heap.objs.size }).get? x=Za { ox with dict:=Za s.heap.objs.size }:=dW _ (ak _ hx) (by obtain⟨a,b,c,d⟩:=ox;cases hf;rfl);have gd:((s.heap.push bU).update x λo=>{ o with dict:=Za s.heap.objs.size }).get? s.heap.objs.size=Za bU:=(dG _ _ _ _ (bH hxs)).trans (aN _ rfl);have nd:((s.heap.push bU).update x λo=>{ o with dict:=Za s.heap.objs.size }).Ns s.heap.objs.size (λ_=>Zb):=⟨_,#[],_,gd,rfl,λe he=>absurd he (by simp),λ_=>rfl⟩;refine ah (aG (ah (wpAny_nsSet1 (kW nd) λh' Sh hs=>?_)));obtain⟨oD,esD,epD,Xe,Xw,Xy⟩:=Sh.count (lw "group" v Within.nil);refine ah (wpAny_lookBehind Xe (by rw[Xw];exact pastItsLine_dict (aI Xy (by rw[bx,jv,kf];decide))) ?_);refine aG (h h' _ ((hs.2 x hxs).trans gx) Sh λb o hb e=>?_);exact(hs.2 b (az (au e))).trans ((dG _ _ _ _ hb).trans (ak _ e))
end
def Cg(C e:ag):HO:=.ext λh=>∃t,h.get? e=Za (yR C t)
def Hr(C e dx:ag):HO:=.ext λh=>∃t,h.get? e=Za { yR C t with dict:=Za dx }
def Hs(x:h.get? e=Za (yR C t)):YJ P w H h e (Cg C e):=⟨⟨t,x⟩,⟨_,x⟩,λ_ _ ⟨t,q⟩ k=>⟨t,k _ q⟩⟩
def NQ(x:h.get? e=Za { yR C t with dict:=Za dx }):YJ P w H h e (Hr C e dx):=⟨⟨t,x⟩,⟨_,x⟩,λ_ _ ⟨t,q⟩ k=>⟨t,k _ q⟩⟩
section
variable{X:Cx}{C Zi f:ag}{x:Str}{np Rc pos Rl:Pos}{e1 e2 o Ri:bc}{ta:TA}{ts tv:TE}
def MB(C:ag)(t:TA):TE:=λO H Q=>t O H λvs H1=>∃e y,vs=[.ref e,y]/\H1 e=Za (Cg C e)/\∀H2:Hp,(∀a u,H1 a=Za u->H2 a=Za u)->Q .Ym H2
def Ik(Zj:Ew X.K C Zi f)(hg:Gl X x)(hm:X.mg x=Za (.ref Zi))(ha:PA X [e1,e2] ta)(hd:Ò x:=by decide)(R8:aq [e1,e2] X.env=(false,eval e1 X.env)::aq [e2] X.env:=by rfl)(Rp:(bP pos (aq [e2] X.env)).any (·.1)=false:=by rfl)(ht:eval (.Call (.Attribute (.Name x np) "__init__" Rc) [e1,e2] [] pos) X.env=(do
   let ov <-eval (.Name x np) X.env
   fY Rc.atName
   let(f,first) <-holding [ov] (fV ov "__init__" pl)
   iX pos f first (bP pos (aq [e1,e2] X.env)) (eO pos (cM [] X.env))):=by rfl) :
  PE X (.Call (.Attribute (.Name x np) "__init__" Rc) [e1,e2] [] pos) (MB C ta):=by
 refine λQ9 s O H Q I h=>gQ (pl:=pl) (qZ I hg hm ?_ hd) ht;refine PySem.W.method_cls I.ZI Zj.ga (PySem.W.cls_value I.ZI Zj.rd Zj.fi rfl ?_);refine iB (Yy (ha pos Q9 _ O H _ (I.tok _) h) λus s2=>e4 λvs H1 I1 r ⟨e,y,ev,he,q⟩=>?_) R8 Rp;subst ev;obtain⟨bm,N,nm,qn,bs,sn,sub,ab,col,dd,k0,k1,k2,k3,k5,hC,T⟩:=Zj.obj I1.ZI;cases r with
 |cons r1 r=>cases r with
  |cons r2 r =>
   cases r;obtain rfl:=(show _=aR e from r1);rename_i u2;obtain⟨⟨t,hx⟩,-⟩:=I1.Yn e _ he;have F:=cB;obtain⟨hh,g,d,tk,os⟩:=s2;refine iG (f8 F.init.plain F.initEntry (wpAny_check_init_subT F T hC hx rfl ?_));unfold Builtin.«BaseException.__init__»;dsimp only;rw[Zd (by simp)];unfold newTuple lG;have Wc:=ak (h:=hh) (Ex [u2]) hx;have nf:∀b u,hh.get? b=Za u->(hh.push (Ex [u2])).get? b=Za u:=λb u q=>ak _ q;have U9:e≠hh.objs.size:=az (au hx);refine ah (dB (ah (ah (ke (x:=.ref t) Wc rfl rfl (ah (wpAny_setField Wc rfl (show 0<6 by decide) ?_))))) (by show 1<=aH;decide));refine wpAny_letGo (aG ⟨.Ym,upd (upd H1 hh.objs.size (.tup [y])) e (Cg C e),?_,rfl,q _ ?_⟩)
   .have I2:=I1.laid (a:=hh.objs.size) (o:=.tup [y]) (h':=hh.push (Ex [u2])) (t':=tk) nf (al _) ⟨by show 1<=aH;decide,[u2],.cons r2 .nil,_,aN _ rfl,rfl,_,rfl⟩;have UP:upd H1 hh.objs.size (.tup [y]) e=Za (Cg C e):=by rw[mj U9];exact he
    refine I2.write (x:=e) (e:=e) (o:=Cg C e) (t':=tk) (by rw[UP];trivial) (.inl rfl) (λb u hb q=>(dG _ _ _ _ hb).trans q) ⟨_,dW _ Wc rfl⟩ ?_;exact Hs (t:=hh.objs.size) (dW _ Wc rfl)
   .intro a u q;by_cases h1:a=e
    .subst h1;rw[mv];rw[he] at q;exact q
    .rw[mj h1,mj (λz=>by subst z;rw[I1.fresh] at q;cases q)];exact q
def Po(C:ag)(tv ts:TE):TS:=λD O H=>tv O H λy H1=>ts O H1 λx H2=>∃e,x=.ref e/\H2 e=Za (Cg C e) /\
 ∀(dx:ag)(H3:Hp),H2 dx=Zb->(∀a u,a≠e->H2 a=Za u->H3 a=Za u)->H3 e=Za (Hr C e dx)->H3 dx=Za (.xd [("group",y)])->D.nx O H3
def J0(Zj:Ew X.K C Zi f)(ha:PE X o ts)(hv:PE X Ri tv)(hs:cO Ri (Za (.Attribute o "group" Rl)) pos.line X.env=pure false:=by rfl):PS X (.Assign [.Attribute o "group" Rl] Ri pos) (Po C tv ts):=by
 refine λQ9 s O H D I h=>jK (Yy (hv Q9 s O H _ I h) λu s1=>e4 λy H1 I1 ry q=>Yy (ha Q9 s1 O H1 _ I1 q) λov s2=>e4 λx H2 I2 rx ⟨e,ex,he,q2⟩=>?_) hs;subst ex;obtain rfl:ov=aR e:=rx;obtain⟨⟨t,hx⟩,_⟩:=I2.Yn e _ he;have U9:=az (au hx);refine NO Zj I2.ZI hx rfl rfl rfl λh' tk g1 g2 k=>?_;have gm:(h'.update e λ_=>yR C t).get? e=Za (yR C t):=dW _ g1 rfl;have I3:=I2.laid (o:=.xd [("group",y)]) (h':=h'.update e λ_=>yR C t) (t':=tk) (λb u q=>by
  by_cases hb:b=e
  .grind
  .exact(dG _ _ _ _ hb).trans (k b u hb q)) (al _) ⟨_,g2.at λo q=>(dG _ _ _ _ (bH U9)).trans q,λf=>by
  rw[cz];by_cases hf:f="group"
  .subst hf;rw[Zc rfl];simp[BEq.rfl];exact ry
  .rw[Zd hf,show(f=="group")=false from by simpa using hf];trivial⟩
 have he3:upd H2 s2.heap.objs.size (.xd [("group",y)]) e=Za (Cg C e):=by rw[mj U9];exact he
 have I4:=I3.write (t':=tk) (by rw[he3];trivial) (.inl rfl) (λb u hb q=>by have q:=q;rw[dG _ _ _ _ hb] at q;exact q) ⟨_,g1⟩ (NQ g1)
 refine⟨O,_,I4,q2 s2.heap.objs.size _ I2.fresh (λa u hae q=>?_) mv ?_⟩
 .rw[mj hae,mj (λz=>by subst z;rw[I2.fresh] at q;grind)];exact q
 .rw[mj (bH U9),mv]
end
section
variable{X:Cx}{C Zi f:ag}{k:Nat}{fd:cj}{ps:List Str}{sp:Sp}{x:Str}{np Rb pos:Pos}{e:bc}{t:TA}{E:XK}
def Ie{Q9:List (ag×Obj)}{O:St}{H:Hp}{s:aw}{Q:ag->Hp->Prop}{us:List af}{vs:List V}(Zj:Ew X.K C Zi f)(F:YD X.prog X.w X.K X.mg X.base (Y7 X.prog X.w) k f fd ps sp)(hr:YA (k+1) X.A)(hb:Binds X.K fd ps [])(I:Inv X Q9 O H s)(r:Vals vs us)(hz:us.length<=aH)(h:∀a b,H a=Zb->H b=Zb->a≠b->sp (.ref a::vs) (upd (upd H b (.tup vs)) a (Cg C a)) (λv H2=>v=.Ym/\Q a H2) E0) :
  aP (model X.prog X.w) X.A (call (.ref C) us) (λv s'=>∃a H2,v=.ref a/\(∀b o,s.heap.get? b=Za o->b≠a)/\Inv X Q9 O H2 s'/\Q a H2) X.xe s:=by
 have n1:H (s.heap.objs.size+1)=none:=I.Yn.fresh (eX _);have hq:=h (s.heap.objs.size+1) s.heap.objs.size n1 I.fresh (fz (cA _));obtain⟨bm,N,nm,qn,bs,sn,sub,ab,col,dd,k0,k1,k2,k3,k5,hC,T⟩:=Zj.obj I.ZI;have e2:((s.heap.push (Ex us)).push (yR C s.heap.objs.size)).get? (s.heap.objs.size+1)=Za (yR C s.heap.objs.size):=by have:=aN (s.heap.push (Ex us)) (o:=yR C s.heap.objs.size) rfl;rwa[iz] at this
 have I1:=I.laid (a:=s.heap.objs.size) (o:=.tup vs) (h':=s.heap.push (Ex us)) (t':=s.toks) (λb u q=>ak _ q) (al _) ⟨by rw[r.length];exact hz,us,r,_,aN _ rfl,rfl,_,rfl⟩;have I2:=I1.laid (a:=s.heap.objs.size+1) (o:=Cg C (s.heap.objs.size+1)) (h':=(s.heap.push (Ex us)).push (yR C s.heap.objs.size)) (t':=s.toks) (λb u q=>ak _ q) (jf (iz _ _)) (Hs e2);have r2:Vals (V.ref (s.heap.objs.size+1)::vs) (aR (s.heap.objs.size+1)::us):=.cons rfl r;have hl:(aR (s.heap.objs.size+1)::us++[]).length=ps.length:=by have e:=r2.length;rw[F.len _ _ _ _ hq] at e;rw[bY];exact e.symm
 have f1:=tc_lookup;have f2:=tc_bind (.ref C);have old:∀b o,s.heap.get? b=Za o->b≠s.heap.objs.size+1:=λb o e=>az (cm (au e));have hi:=eI (M:=model X.prog X.w) I.ZI Zj.init;have hbf:=λself=>lS (M:=model X.prog X.w) I.ZI self Zj.fn;have run:=F.run _ X.stack _ _ ⟨aR (s.heap.objs.size+1)::us,[]⟩ (aR (s.heap.objs.size+1)::us) _ _ E0 (hr.make C us []) (I2.Àf.make C us []) (by have:=hb _ (aR (s.heap.objs.size+1)::us) I2.ZI hl;rwa[bY] at this) r2 hq;obtain⟨hh,g,d,tk,os⟩:=s;have hT:(⟨hh,g,d,tk,os⟩:aw).TypeIs (.ref C) "type":=⟨_,hC,rfl⟩;refine iG (codeAny_of_tree ?_);show aP _ _ (callAny (.ref C) _) _ _ _
 repeat (any_goals (first|assumption|with_reducible refine dC hC ?_|wp_step))
 refine⟨rfl,?_⟩;refine codeAny_call_builtin_at (iV _ (by decide +kernel)) entry_typeCall (wpAny_check_type_call_sub hC (KD T hC hi hbf (fH run λr s' z=>?_) hz));cases r with
 |error e=>exact sN Q9 O _ _ e s' I2 z
 |ok fl =>
  cases fl with
  |ret u =>
   obtain⟨v,H',I3,rv,rfl,q3⟩:=I2.after z;exact⟨rv,⟨_,H',rfl,old,I3,q3⟩⟩
  |next=>exact bo z
  |brk=>exact bo z
  |cont=>exact bo z
def Dy(X:Cx)(E:XK):Prop:=∀(Q9:List (ag×Obj))(O:St)(H:Hp)(s:aw)(a C dx:ag),Inv X Q9 O H s->H a=Za (Hr C a dx)->(∀b o,X.Y'.heap.get? b=Za o->b≠a)->E (.ref C) Zb (λb=>if b=a then Zb else H b)->X.xe (.ref a) s
def Mx(C:ag)(sp:Sp)(E:XK)(t:TA):TS:=λ_ O H=>t O H λvs H1=>vs.length=1/\∀a b,H1 a=Zb->H1 b=Zb->a≠b ->
 sp (.ref a::vs) (upd (upd H1 b (.tup vs)) a (Cg C a)) (λv H2=>v=.Ym/\∃dx,H2 a=Za (Hr C a dx)/\E (.ref C) Zb (λb=>if b=a then Zb else H2 b)) E0
def Ig(Zj:Ew X.K C Zi f)(F:YD X.prog X.w X.K X.mg X.base (Y7 X.prog X.w) k f fd ps sp)(hb:Binds X.K fd ps [])(hr:YA (k+1) X.A)(hg:Gl X x)(hm:X.mg x=Za (.ref C))(hc:X.calm=true)(Uv:X.ex=[])(hp:Dy X E)(ha:PA X [e] t)(hd:Ò x:=by decide)(he:aq [e] X.env=(false,eval e X.env)::aq [] X.env:=by rfl)(Rp:(bP Rb (aq [] X.env)).any (·.1)=false:=by rfl) :
  PS X (.Raise (Za (.Call (.Name x np) [e] [] Rb)) Zb pos) (Mx C sp E t):=by
 intro Q9 s O H D I h;rw[arm_exec_Raise];refine ah (eg ?_);show aP _ _ (raiseStmt X.env (Za (do let v <-eval (.Call (.Name x np) [e] [] Rb) X.env;fY pos;pure v)) Zb) _ _ _;unfold raiseStmt;have ev:aP (model X.prog X.w) X.A (eval (.Call (.Name x np) [e] [] Rb) X.env) (λv s'=>∃a H2,v=.ref a/\(∀b o,X.Y'.heap.get? b=Za o->b≠a)/\Inv X Q9 O H2 s'/\∃dx,H2 a=Za (Hr C a dx)/\E (.ref C) Zb (λb=>if b=a then Zb else H2 b)) X.xe s:=by
  refine de (qZ I hg hm ?_ hd);refine eP (h₀:=X.base) I.ok.mod.kin Zj.kw (Yy (ha Rb Q9 s O H _ I h) λus s1=>e4 λvs H1 I1 r ⟨hl,q⟩=>⟨I1.ZI,?_⟩) he Rp;refine Yy (Ie (Q:=λa H2=>∃dx,H2 a=Za (Hr C a dx)/\E (.ref C) Zb (λb=>if b=a then Zb else H2 b)) Zj F hr hb I1 r ?_ q) λv s2 ⟨a,H2,e1,e2,I2,q2⟩=>⟨a,H2,e1,λb o eb=>?_,I2,q2⟩
  .rw[dg,<-r.length,hl];decide
  .obtain⟨o',e'⟩:=I1.base.there b o eb (by rw[Uv];simp);exact e2 b o' e'
 refine ah (ah (bw ev (λv s1 h1=>ah (eg (aG ?_))) λ_ _ z=>z));obtain⟨a,H2,rfl,old,I2,dx,ha2,hE⟩:=h1;have xx:=hp Q9 O H2 s1 a C dx I2 ha2 old hE;obtain⟨bm,N,nm,qn,bs,sn,sub,ab,col,dd,k0,k1,k2,k3,k5,hC,T⟩:=Zj.obj I2.ZI;obtain⟨⟨t',hx⟩,-⟩:=I2.Yn a _ ha2;have Xz:(aR C::bm).contains (.type "BaseException")=true:=by rw[lZ,T.hasType cB.hasBase,Bool.or_true]
 have hh:=I2.ok.hd hc;obtain⟨SQ,g,d,tk,os⟩:=s1
 repeat (first|with_reducible refine dC hx ?_|with_reducible refine dC hC ?_|(with_reducible refine jc hC ?_;rw[Xz])|wp_step)
 exact wpAny_raiseNew_none hh xx
end
section
variable{P:aL}{w:aX}{K:aa}{mg:Str->Option af}{base:bi}{N:List Str}{qual:Str}{scope:dF}{f:ag}{cd:af}{A:b8}{outer:List Env}{Y':aw}{Ha0:Hp}{E:XK}
def Áq:Dy (Du (Y7 P w) P w K mg base N qual scope f cd A outer Y' Ha0 E) E:=by
 intro Q9 O H s a C dx I ha Áb hE;have ő:s.heap.FunFrames base (ei qual scope Y'.heap.objs.size f cd::outer):=I.stack;let l:List ag:=a::ZE (ei qual scope Y'.heap.objs.size f cd::outer);have RH:∀env∈(ei qual scope Y'.heap.objs.size f cd::outer),∀b,env.frame=Za b->b∈l:=λenv he b hb=>ae _ (gu.mpr ⟨env,he,hb⟩);have U2:∀b o,s.heap.get? b=Za o->b∉l->(dM s.heap l).get? b=Za o:=λb o e n=>iq l e n;have ub:Un (ZE outer) [] Ha0 H Y'.heap s.heap:=I.base;obtain⟨⟨t,hx⟩,-⟩:=I.Yn a _ ha;have Uc:∀b u,H b=Za u->b≠a->b∉l:=λb u e nb z=>by
  obtain z|z:=ao.mp z
  .exact nb z
  .rw[I.Ă b z] at e;cases e
 have ZH:∀b o,Y'.heap.get? b=Za o->b∉ZE outer->b∉l:=λb o e n z=>by
  obtain z|z:=ao.mp z
  .exact Áb b o e z
  .obtain z|z:=He (L:=Y'.heap.objs.size) rfl z
   .exact az (au e) z
   .exact n z
 have aB:(dM s.heap l).get? a=none:=kr l ai;refine wpAny_leaving_firstW (L:=Y'.heap.objs.size) (base:=dM s.heap l) (a0:=.ref t) (I.ok.frames) (jR ő RH) rfl hx (λb o e=>iI l e) aB rfl rfl rfl λh' hL=>?_;obtain⟨k1,⟨_,_,k2⟩,k3,up⟩:=hL;have RV:∀b o,s.heap.get? b=Za o->b∉l->h'.get? b=Za o:=λb o e n=>k1 b o (U2 b o e n);have frame:∀b o,s.heap.get? b=Za o->b∈ZE (ei qual scope Y'.heap.objs.size f cd::outer)->∃sl,h'.get? b=Za { o with slots:=sl }:=λb o e hb=>by obtain⟨_,o3,e3,Tc⟩:=ő.mem hb;rw[e] at e3;cases e3;exact up b o e Tc
 refine⟨a,C,.ref t,dM s.heap l,λb=>if b=a then Zb else H b,rfl,I.os,I.bare,⟨λb o e n hb _=>?_,λb o e n hb _=>?_,λb o e n _=>?_,λb o e _=>?_,λb xs e=>?_,λb o u e=>?_,λb ps e=>?_⟩,λb u e=>?_,⟨k1,aB,k2,k3⟩,λb u o e q=>?_,λb o e n=>?_,hE⟩
 .exact RV b o (ub.keep b o e n hb (by simp)) (ZH b o e hb)
 .obtain⟨sl,e1⟩:=ub.slot b o e n hb (by simp);obtain⟨U4,e2⟩:=frame b _ e1 (zS rfl hb);exact⟨U4,e2⟩
 .show(if b=a then Zb else H b)=Zb;split
  .rfl
  .exact ub.free b o e n (by simp)
 .obtain⟨o1,e1⟩:=ub.there b o e (by simp);by_cases hb:b∈ZE (ei qual scope Y'.heap.objs.size f cd::outer)
  .obtain⟨U4,e2⟩:=frame b _ e1 hb;exact⟨_,e2⟩
  .exact⟨o1,RV b o1 e1 λz=>(ao.mp z).elim (Áb b o e) hb⟩
 .have:=ub.É b xs e;show(if b=a then Zb else H b)=_;rw[Zd (λz=>by rw[z,ha] at this;cases this)];exact this
 .have:=ub.ZO b o u e;show(if b=a then Zb else H b)=_;rw[Zd (λz=>by rw[z,ha] at this;cases this)];exact this
 .obtain⟨m,this⟩:=ub.Ú b ps e;refine⟨m,?_⟩;show(if b=a then Zb else H b)=_;rw[Zd (λz=>by rw[z,ha] at this;cases this)];exact this
 .have e:(if b=a then Zb else H b)=Za u:=e;by_cases hb:b=a
  .rw[Zc hb] at e;cases e
  .rw[Zd hb] at e;have ne:∀c v,H c=Za v->v≠Hr C a dx->c≠a:=λc v q n z=>by rw[z,ha] at q;exact n (bO q).symm
   refine(I.Yn b u e).Û (λc v hc q=>?_) (λc q=>?_) λc xs q=>?_
   .obtain z|z:=hc
    .subst z;exact RV _ v q (Uc _ u e hb)
    .exact RV c v q (Uc c _ z (ne c _ z (by intro z;cases z)))
   .show(if c=a then Zb else H c)=_;rw[Zd (ne c _ q (by intro z;cases z))];exact q
   .show(if c=a then Zb else H c)=_;rw[Zd (ne c _ q (by intro z;cases z))];exact q
 .have e:(if b=a then Zb else H b)=Za u:=e;by_cases hb:b=a
  .rw[Zc hb] at e;cases e
  .rw[Zd hb] at e;obtain⟨o1,q1⟩:=(I.Yn b u e).there
   grind
 .obtain⟨o1,e1⟩:=ub.there b o e (by simp);exact⟨o1,RV b o1 e1 (ZH b o e n),U2 b o1 e1 (ZH b o e n)⟩
end
def spW(K:aa)(C:ag):Sp:=λvs H Q _=>∃a g xs,vs=[.ref a,.ref g]/\H a=Za (Cg C a)/\YY K H g xs /\
 ∀(dx l:ag)(H':Hp),H l=Zb->H' a=Za (Hr C a dx)->H' dx=Za (.xd [("group",.ref l)])->H' l=Za (.lst xs)->(∀b u,b≠a->H b=Za u->H' b=Za u)->Q .Ym H'
structure Wh(P:aL)(w:aX)(K:aa)(mg:Str->Option af)(base:bi)(x:Str)(C:ag)(k:Nat):Prop where
 ex:∃Zi f fd,Ew K C Zi f/\YD P w K mg base (Y7 P w) k f fd ["self","group"] (spW K C)/\Binds K fd ["self","group"] []
 g:mg x=Za (.ref C)
def GO(C:ag)(f:XE)(Z:En)(s:K'):SO:=(f Z s).so λv s1=>match YI s1 v with
 |some _=>.ex C s1
 |none=>.bad
section
variable{X:Cx}{CB:ag}{E:XK}{e:bc}{f:XE}{np Rb pos:Pos}{x:Str}{C:ag}{k:Nat}
def IU(A:Wh X.prog X.w X.K X.mg X.base x C k)(he:DE X CB E e f)(hr:YA jr X.A:=by assumption)(hk:k+1<=jr:=by first|decide|lia)(hg:Gl X x:=by rfl)(hc:X.calm=true:=by rfl)(Uv:X.ex=[]:=by rfl)(hp:Dy X E:=by exact Áq)(hd:Ò x:=by decide)(R8:aq [e] X.env=(false,eval e X.env)::aq [] X.env:=by rfl)(Rp:(bP Rb (aq [] X.env)).any (·.1)=false:=by rfl) :
  DS X CB E (.Raise (Za (.Call (.Name x np) [e] [] Rb)) Zb pos) (GO C f):=by
 obtain⟨Zi,fa,fd,Zj,F,hb⟩:=A.ex;exact⟨(Ig Zj F hb (hr.mono hk) hg A.g hc Uv hp (mI he.pe Yi R8) hd R8 Rp).mono λD O H=>oE λZ s m er S P=>⟨Z,s,m,er,S,Yw.so P λv s1 u H1 m1 e1 S1 r1 P1=>by
  split at P1
  .rename_i l hl;refine⟨rfl,λa b na nb ne=>?_⟩;obtain⟨g,xs,rfl,sq,_⟩:=r1.ls S1 hl;have kk:YQ H1 (upd (upd H1 b (.tup [.ref g])) a (Cg C a)):=λc o h=>by rw[mj (mG h na),mj (mG h nb)];exact h
   refine⟨a,g,xs,rfl,mv,sq.imp (λz=>z.same kk) id,λdx l' H' nl h1 h2 h3 k=>⟨rfl,dx,h1,?_⟩⟩;have k2:YQ H1 (λc=>if c=a then Zb else H' c):=λc o h=>by show(if c=a then Zb else H' c)=_;rw[Zd (mG h na)];exact k c o (mG h na) (kk c o h)
   exact P1 _ m1 (.same k2) (S1.same k2)
  .exact P1.elim⟩⟩
end
section
variable{X:Cx}{CB:ag}{E:XK}{iter Rz:bc}{Ry:List bc}{scope:dF}{pos px:Pos}{x:Str}{fr:List Str}{ix:List Nat}{g f:XE}{t:XT}
def wx(g:XE)(ix:List Nat)(c:XT)(e:XE)(Z:En)(s:K'):Out PV:=match g Z s with
 |.ok (.ref n) s1=>match s.get n with
  |some (.Yr _)=>match s1.get n with
   |some (.Yr l)=>if l.length<=100000 then(oi c e (nS ix Z) (l.map λkv=>xn kv.1) (s1.set n (.Zp l))).bind λvs s2=>match Ϲ n s2 with
    |some s3=>.ok (.lst vs) s3
    |none=>.bad else .bad
   |_=>.bad
  |_=>.bad
 |_=>.bad
def KN(hg:DE X CB E0 iter g)(he:∀cl C Rg Rh fp,DE (í X scope cl C (x::fr) Rg Rh fp) CB E0 Rz f)(ht:∀cl C Rg Rh fp,Ş (í X scope cl C (x::fr) Rg Rh fp) CB Ry t:=by exact λ_ _ _ _ _=>sR)(hc:X.calm=true:=by rfl)(S:ZQ X.N X.env.scope scope x fr ix:=by exact O1 ‹N' _ _ _›)(hs:∀v,bL iter X.env v=pure v:=by intro _;rfl):DE X CB E (.ListComp Rz [⟨.Name x px,iter,Ry,0⟩] scope pos) (wx g ix t f) :=
 ⟨(M4 (zu hc S (De hg.pe) (λcl C Rg Rh fp=>(ht cl C Rg Rh fp).Ϗ) (λcl C Rg Rh fp=>(he cl C Rg Rh fp).pe) hs)).mono λO H Q=>oE λZ s m er S P=>by
  unfold wx at P;split at P
  .rename_i n s1 hf;split at P
   .rename_i l0 Xp;split at P
    .rename_i l hg;split at P
     .rename_i Re;obtain⟨S6,VP,_⟩:=S.Ŀ Xp;have hn:=S.lt n (ar.mpr ⟨_,oy Xp,rfl⟩);have h0:∀l',s.get n≠Za (.Zp l'):=λl' z=>by rw[Xp] at z;cases z
      refine⟨m.ad n,S6,VP,Z,s,m,er,S,?_⟩;rw[hf];intro u0 H1 m1 e1 S1 r1;have ea1:=e1.ad n hn;cases r1 with
      |ref Xg =>
      obtain⟨vs,h1,hfz⟩:=S1.Ŀ hg;rw[ea1] at h1 hfz ⊢;refine⟨m.ad n,vs,rfl,.inl ⟨h1,λob D hD=>?_⟩⟩;obtain⟨m2,ea,S2,e2,r2⟩:=hfz ob;have Xo:(s1.set n (.Zp l)).get n=Za (.Zp l):=Db hg;have X1:m2.ad n=m.ad n:=by rw[ea];exact ea1
      apply E7 (E:=E0) (t:=t) (f:=f) S2 ((er.ext e1).ext e2) (Ml S2 Xo X1 mv r2) hD (by simpa using Re);cases cc:oi t f (nS ix Z) (l.map λkv=>xn kv.1) (s1.set n (.Zp l)) with
      |bad=>rw[cc] at P;exact P.elim
      |ex c' s'=>exact absurd cc wV
      |ok vs2 s2 =>
       rw[cc] at P;intro u2 H3 m3 e3 S3 r3;simp[Out.bind] at P;unfold Ϲ at P;split at P
       .rename_i s3 h3;split at h3<;>cases h3
        rename_i l2 SX;obtain⟨Tt,RM,q1,m4,S4,e4,x4⟩:=SR.ϝ h0 hn ((e1.trans e2).trans e3) S3 SX;exact⟨Tt,RM,q1,P u2 _ m4 e4 S4 (r3.Yu x4)⟩
       .exact P.elim
     .exact P.elim
    .exact P.elim
   .exact P.elim
  .exact P.elim⟩
end
section
variable{X:Cx}{CB:ag}{E:XK}{tg:bc}{Sl:List bN}{u:XS}{y:Str}{py pos:Pos}
def Bz(j:Nat)(y:XG)(body:XS)(Z:En)(s:K'):SO:=match Z[j]? with
 |some (Za (.ref n))=>match s.get n with
  |some (.Zp l)=>(nj (mV y body) (l.map λkv=>xn kv.1) Z s).ZV
  |_=>.bad
 |_=>.bad
def Do(j)(hg:DG X.þ CB tg yy)(hb:ϗ X.þ CB E0 Sl u)(hc:X.calm=true:=by rfl)(hN:X.N[j]?=Za y:=by rfl)(hv:Vis X.env.scope y:=by first|exact eA rfl|exact gJ (eA rfl))(hs:∀x,bL (.Name y py) X.env x=pure x:=by intro _;rfl)(hd:Ò y:=by decide)(R9:(y==("__classdict__":Str))=false:=by decide):DS X CB E (.For tg (.Name y py) Sl [] pos) (Bz j yy u) :=
 ⟨PS.þ ((Gy (X:=X.þ) fD hc (De (DH hN hv hd R9)) hg.pg hb.pss hs).mono λD O H=>oE λZ s m er S P=>by
  unfold Bz at P;split at P
  .rename_i n İ;split at P
   .rename_i l hg;have P:=YL.ZV P;obtain⟨u0,hu,ru⟩:=er.at_ j _ İ;cases ru with
    |ref hn =>
    obtain⟨e1,ob,vs,h1,r⟩:=S.get hg;exact⟨_,hu,m.ad n,vs,rfl,.inr ⟨ob,h1,Aw S er (Ml S hg rfl h1 r) P⟩⟩
   .exact P.elim
  .exact P.elim)⟩
end
end L2
namespace My
open PySem L2 Fra
section
variable{P:aL}{w:aX}{K:aa}{mg:Str->Option af}{base:bi}{a:Yl}{f:ag}{fd:cj}
abbrev tj:bN:=oS (top 14) 0
def AV:N' ["self","group"] ["self","group"] (mw tj):=Zr
def A9(Zj:Ew K a.YG a.î f)(F:Î K "__init__" "Whole.__init__" tj f fd)(T:Txt K mg a):YD P w K mg base (Y7 P w) 2 f fd ["self","group"] (spW K a.YG):=by
 refine F.okN AV (λvs H Q E h=>?_) (λRk A outer s H vs Q E hr h=>?_)
 .obtain⟨b,z,xs,rfl,_⟩:=h;rfl
 .obtain⟨e,g,xs,rfl,he,sq,q⟩:=h;refine⟨_,(mQ (pY (Ik Zj rfl T.Ĕ (mI (pv 0) (mI (xM ww rfl T.Ė Ad (mI (pv 1) Yi)) Yi)))) (mW (J0 Zj (pv 0) (xM ww rfl T.Ė Ad (mI (pv 1) Yi))))),?_⟩;refine⟨_,rfl,_,rfl,g,xs,rfl,.inl sq,λl1 n1=>⟨e,_,rfl,by rw[mj (mG he n1)];exact he,λH2 k2=>?_⟩⟩;have k3:=λb u h=>k2 b u (by rw[mj (mG h n1)];exact h);refine⟨_,rfl,g,xs,rfl,.inl (sq.imp (λz=>z.same k3) id),λl2 n2=>⟨_,rfl,e,rfl,by rw[mj (mG (k3 _ _ he) n2)];exact k3 _ _ he,λdx H3 nd k4 h5 h6=>?_⟩⟩;refine q dx l2 H3 ?_ h5 h6 (k4 l2 _ (λz=>by rw[z,k3 _ _ he] at n2;cases n2) mv) λb u hb hu=>k4 b u hb (by rw[mj (mG (k3 b u hu) n2)];exact k3 b u hu);cases hl:H l2 with
  |none=>rfl
  |some u=>grind
end
def Yl.cl(a:Yl):List ag:=[a.YG,a.Yc,a.Yg]
def Yl.others(a:Yl):List ag:=[a.ø,a.ė,a.ï,a.Ϭ,a.Ã,a.ř]
structure T2z(K:aa)(a:Yl):Prop where
 tr:∀c∈a.cl,Exw K c/\bF K c (.ref a.î)=Za true
 ka:∀c∈a.cl,Exw K c/\cQ K (.ref c) (a.others.map aR)=Za false
 na:cQ K (.type "NoneType") (a.others.map aR)=Za false
 k_Whole:∀c∈a.cl,Exw K c/\aY K (.ref c) (.ref a.YG)=Za (decide (c=a.YG))
 Ą:aY K (.type "NoneType") (.ref a.YG)=Za false
 k_NoHolder:∀c∈a.cl,Exw K c/\aY K (.ref c) (.ref a.Yc)=Za (decide (c=a.Yc))
 ŧ:aY K (.type "NoneType") (.ref a.Yc)=Za false
 k_NoHouse:∀c∈a.cl,Exw K c/\aY K (.ref c) (.ref a.Yg)=Za (decide (c=a.Yg))
 ϐ:aY K (.type "NoneType") (.ref a.Yg)=Za false
section
variable{P:aL}{w:aX}{K:aa}{mg:Str->Option af}{base:bi}{a:Yl}{f:ag}{fd:cj}
noncomputable def nM(a:Yl)(vs:List PV)(s:K'):Out PV:=match vs with
 |[.int n,.int m]=>if 0<m then .ok (.int (aJ n m)) s else .bad
 |_=>.bad
def MD(vs)(H)(Q)(E)(h:Y4 K a.Ye 2 (nM a) vs H Q E):Gs vs H Q E:=by
 obtain⟨_,ps,s,m,r,S,P⟩:=h;unfold nM at P;split at P
 .split at P
  .rename_i hz;cases r with
   |cons r1 r=>cases r with
    |cons r2 r =>
     cases r;cases r1;cases r2;exact⟨_,_,rfl,hz,P.here S .int⟩
  .exact P.elim
 .exact P.elim
structure Yz(K:aa)(mg:Str->Option af)(a:Yl):Prop where
 T:Txt K mg a
 h:∃h:bi,K.In h/\h.Ns aV mg
def à{x}{st}{k}{ps}{sp:Sp}(c:Gf K x st)(Y:Yz K mg a)(o:∀{f:ag}{fd:cj},Txt K mg a->Î K x x st f fd->YD P w K mg base (Y7 P w) k f fd ps sp)(b:Bd x x st ps:=by first|exact bd1|exact bd2|exact bd3|exact bd4|exact bd5|exact bd6|exact bd0):Fn P w K mg base x k ps sp :=
 let⟨_,X,G⟩:=Y.h;c.fn X G (o Y.T) b
variable (P w K mg base a) in abbrev Bx:=Mt P w K mg base a.Ye "person" 4 ["self","name"] (Y4 K a.Ye 2 (vg a))
variable (P w K mg base a) in abbrev C8:=Mt P w K mg base a.Ye "house" 4 ["self","name","owner","things","mark","loss"] (Y4 K a.Ye 6 (xz a))
variable (P w K mg base a) in abbrev Ep:=Mt P w K mg base a.Ye "sale" 4 ["self","house","one","other","share"] (Y4 K a.Ye 5 (wI a))
variable (P w K mg base a) in abbrev za:=Mt P w K mg base a.Ye "persons" 1 ["self"] (Y4 K a.Ye 1 (sH a))
variable (P w K mg base a) in abbrev rW:=Mt P w K mg base a.Ye "houses" 1 ["self"] (Y4 K a.Ye 1 (pU a))
variable (P w K mg base a) in abbrev vO:=Mt P w K mg base a.Ye "shares" 3 ["self","house"] (Y4 K a.Ye 2 (oY a))
variable (P w K mg base a) in abbrev wl:=Mt P w K mg base a.Ye "need_house" 2 ["self","name"] (Y4 K a.Ye 2 (oB a))
variable (P w K mg base a) in abbrev vR:=Mt P w K mg base a.Ye "need_holder" 3 ["self","name"] (Y4 K a.Ye 2 (ny a))
variable (P w K mg base a) in abbrev Er:=MkB P w K mg base "Book" a.Ye 1 ["self"] (Lc K a.Ye)
variable (P w K mg base a) in abbrev su:=Fn P w K mg base "common_divisor" 1 ["number","other"] (Y4 K a.Ye 2 (nM a))
abbrev sY:bN:=top 41
def AS:N' ["_law_cell","_law_k","_law_number_here"] ["_law_cell","_law_k"] (mw sY):=Zr
def wu(a:Yl):XS:=(W' (Yh 2 (x2 (x2 (x2 (x2 (x2 (x2 (j' 0) (j' 0) F7) (x2 (xC (.int 3)) (j' 0) YC) YH) (x2 (xC (.int 7919)) (j' 1) YC) YH) (xC (.int 1)) YH) (xC (.int 48271)) YC) (xC (.int 2147483629)) Â)) (YF (x2 (x2 (x2 (j' 2) (j' 2) YC) (xC (.int 7)) YH) (xC (.int 2147483587)) Â)))
def qQ(a:Yl):XF:=(ZZ 3 (wu a))
variable (P w K mg base a) in abbrev tJ:=Fn P w K mg base "_law_mixed" 1 ["_law_cell","_law_k"] (Y4 K a.Ye 2 (qQ a))
def Bg(Y:Yz K mg a)(c:Gf K "_law_mixed" sY):tJ P w K mg base a :=
 à c Y λT F=>oh F AS rfl λ_ _ _ _ _ _ hr S=>(mh (mO 2 (wF (nL (n9 (n9 (n9 (N7 (l9 0) (l9 0)) (nL mB (l9 0))) (nL mB (l9 1))) mB) mB) mB)) (mE (mY (wF (n9 (nL (l9 2) (l9 2)) mB) mB))))
abbrev sW:bN:=top 42
def AQ:N' ["_law_script","_law_cells","_law_number_here","_law_k"] ["_law_script"] (mw sW):=Zr
def qV(a:Yl) :XS:=(Yh 2 (x2 (x2 (j' 2) (xC (.int 2147483587)) YC) (Yb 2 (qQ a) (F' (x2 (j' 1) (x2 (j' 3) (xB (F' (j' 1) J') Zw) Â) Yo) (F' (j' 3) J'))) YH))
def tw(a:Yl):XS:=(W' (Yh 1 (x2 (Ϯ (j' 0) Ġ (Ö (xC (.int 63)))) (ZL (F' (xC (.int 0)) J')) YH)) (W' (Yh 2 (xC (.int 1))) (W' (Z7 (Zn (F' (xC (.int 64)) J')) (V' 3) (qV a)) (W' (Ø (YO (x2 (xB (F' (x2 (j' 1) (xC (.int 0)) Yo) J') Ĥ) (x2 (xC (.int 10)) (xC (.int 18)) ë) fGe)) (YF (á (F' (xB (F' (x2 (j' 1) (xC (.int 0)) Yo) J') Ĥ) (F' (j' 2) J')))) Y9) (YF (á (F' (j' 2) (F' (j' 2) J'))))))))
def oX(a:Yl):XF:=(ZZ 4 (tw a))
variable (P w K mg base a) in abbrev tH:=Fn P w K mg base "_law_purse" 2 ["_law_script"] (Y4 K a.Ye 1 (oX a))
def Be(Y:Yz K mg a)(c:Gf K "_law_purse" sW)(A0:tJ P w K mg base a):tH P w K mg base a :=
 à c Y λT F=>oh F AQ rfl λ_ _ _ _ _ _ hr S=>(mh (mO 1 (n9 (Ju (l9 0) zW (zV mB)) (qK (ms mB)))) (mh (mO 2 mB) (mh (qI (pG (ms mB)) (mT 3) (mE (mO 2 (n9 (nL (l9 2) mB) (mU A0 (mq (mP (l9 1) (wF (l9 3) (nu Zz (ms (l9 1))))) (ms (l9 3)))))))) (mh (pT (oP ÁU (nu ú (ms (mP (l9 1) mB))) (Bs mB mB)) (mE (mY (xr (mq (nu ú (ms (mP (l9 1) mB))) (ms (l9 2)))))) nK) (mE (mY (xr (mq (l9 2) (ms (l9 2))))))))))
abbrev uw:bN:=top 43
def CJ:N' ["_law_purse_here","_law_out_of","_law_drawn"] ["_law_purse_here","_law_out_of"] (mw uw):=Zr
def uE(a:Yl):XS:=(W' (Ø (YO (x2 (x2 (j' 0) (xC (.int 0)) Yo) (xC (.int 0)) Ý)) (ü (j' 0) (xC (.int 0)) (x2 (j' 0) (xC (.int 1)) Yo)) Y9) (W' (Yh 2 (x2 (x2 (j' 0) (xC (.int 0)) Yo) (j' 1) Â)) (W' (ü (j' 0) (xC (.int 0)) (x2 (x2 (j' 0) (xC (.int 0)) Yo) (j' 1) Í)) (YF (j' 2)))))
def mH(a:Yl):XF:=(ZZ 3 (uE a))
variable (P w K mg base a) in abbrev oA:=Fn P w K mg base "_law_draw" 1 ["_law_purse_here","_law_out_of"] (Y4 K a.Ye 2 (mH a))
def CW(Y:Yz K mg a)(c:Gf K "_law_draw" uw):oA P w K mg base a :=
 à c Y λT F=>oh F CJ rfl λ_ _ _ _ _ _ hr S=>(mh (pT (oP Ct (mP (l9 0) mB) mB) (mE (yO (l9 0) mB (mP (l9 0) mB))) nK) (mh (mO 2 (wF (mP (l9 0) mB) (l9 1))) (mh (yO (l9 0) mB (ud (mP (l9 0) mB) (l9 1))) (mE (mY (l9 2))))))
abbrev qT:bN:=top 44
def yx:N' ["_law_one","_law_other"] ["_law_one","_law_other"] (mw qT):=Zr
def oV(a:Yl) :XS:=(Ào 0 1 (F' (j' 1) (F' (x2 (j' 0) (j' 1) Â) J')))
def ue(a:Yl):XS:=(W' (Yh 0 (xB (F' (j' 0) J') Ĥ)) (W' (Yh 1 (xB (F' (j' 1) J') Ĥ)) (W' (tZ (YO (x2 (j' 1) (xC (.int 0)) fGt)) (oV a)) (YF (j' 0)))))
def om(a:Yl):XF:=(ZZ 2 (ue a))
variable (P w K mg base a) in abbrev pM:=Fn P w K mg base "_law_divisor" 1 ["_law_one","_law_other"] (Y4 K a.Ye 2 (om a))
def yA(Y:Yz K mg a)(c:Gf K "_law_divisor" qT):pM P w K mg base a :=
 à c Y λT F=>oh F yx rfl λ_ _ _ _ _ _ hr S=>(mh (mO 0 (nu ú (ms (l9 0)))) (mh (mO 1 (nu ú (ms (l9 1)))) (mh (Az (oP O3 (l9 1) mB) (mE (QE rfl S.nd rfl rfl (Zf rfl) rfl rfl (mq (l9 1) (ms (wF (l9 0) (l9 1)))) rfl))) (mE (mY (l9 0))))))
abbrev ur:bN:=top 45
def CG:N' ["_law_top","_law_bottom","_law_by"] ["_law_top","_law_bottom"] (mw ur):=Zr
def yk(a:Yl):XS:=(W' (Yh 2 (Yb 2 (om a) (F' (j' 0) (F' (j' 1) J')))) (W' (Ø (YO (x2 (j' 1) (xC (.int 0)) fLt)) (Yh 2 (x2 (xC (.int 0)) (j' 2) Ü)) Y9) (YF (ZT (F' (x2 (j' 0) (j' 2) Í) (F' (x2 (j' 1) (j' 2) Í) J'))))))
def nv(a:Yl):XF:=(ZZ 3 (yk a))
variable (P w K mg base a) in abbrev pA:=Fn P w K mg base "_law_made" 2 ["_law_top","_law_bottom"] (Y4 K a.Ye 2 (nv a))
def CT(Y:Yz K mg a)(c:Gf K "_law_made" ur)(A0:pM P w K mg base a):pA P w K mg base a :=
 à c Y λT F=>oh F CG rfl λ_ _ _ _ _ _ hr S=>(mh (mO 2 (mU A0 (mq (l9 0) (ms (l9 1))))) (mh (pT (oP ÂP (l9 1) mB) (mE (mO 2 (yP mB (l9 2)))) nK) (mE (mY (qJ (mq (ud (l9 0) (l9 2)) (ms (ud (l9 1) (l9 2)))))))))
abbrev sX:bN:=top 47
def AR:N' ["_law_purse_here","_law_many","_law_letters","_law_long","_law_stem","_law_at","_law_found","_law_k","_law_spots"] ["_law_purse_here","_law_many"] (mw sX):=Zr
def oR(a:Yl) :XS:=(W' (Yh 8 (pP (Zn (F' (j' 3) J')) [4,7,5] nQ (x2 (x2 (j' 1) (j' 0) Yo) (x2 (x2 (xC (.int 5)) (j' 2) YC) (xB (F' (x2 (j' 0) (j' 3) Ý) J') ÿ) YC) YH))) (ī (Zu (j' 6) (F' (Ī (xC (.str "")) (F' (pP (YK (j' 8)) [2] nQ (x2 (j' 1) (x2 (j' 0) (xC (.int 26)) Â) Yo)) J')) J'))))
def tD(a:Yl):XS:=(W' (Yh 2 (xC (.str "abcdefghijklmnopqrstuvwxyz"))) (W' (Yh 3 (x2 (xC (.int 1)) (Yb 2 (mH a) (F' (j' 0) (F' (xC (.int 7)) J'))) YH)) (W' (Yh 4 (pP (Zn (F' (j' 3) J')) [0] nQ (Yb 2 (mH a) (F' (j' 1) (F' (xC (.int 26)) J'))))) (W' (Yh 5 (Yb 2 (mH a) (F' (j' 0) (F' (j' 3) J')))) (W' (Yh 6 (á J')) (W' (Z7 (Zn (F' (j' 1) J')) (V' 7) (oR a)) (W' (Ø (YO (x2 (Yb 2 (mH a) (F' (j' 0) (F' (xC (.int 4)) J'))) (xC (.int 0)) Ý)) (Yh 6 (pN (wJ (F' (ć (j' 6)) J')) [] nQ (x2 (j' 1) (x2 (xC (.str "x")) (x2 (j' 0) (xC (.int 2)) Â) zU) YH))) Y9) (YF (Fm (j' 6))))))))))
def tN(a:Yl):XF:=(ZZ 9 (tD a))
variable (P w K mg base a) in abbrev tI:=Fn P w K mg base "_law_names" 2 ["_law_purse_here","_law_many"] (Y4 K a.Ye 2 (tN a))
def Bf(Y:Yz K mg a)(c:Gf K "_law_names" sX)(EN:mg "enumerate"=Zb)(A0:oA P w K mg base a):tI P w K mg base a :=
 à c Y λT F=>oh F AR rfl λ_ _ _ _ _ _ hr S=>(mh (mO 2 Br) (mh (mO 3 (n9 mB (mU A0 (mq (l9 0) (ms mB))))) (mh (mO 4 (vM (fr:=["_law_purse_here"]) (pG (ms (l9 3))) (λ_ _ _ _ _=>(mU A0 (mq (l9 1) (ms mB)))))) (mh (mO 5 (mU A0 (mq (l9 0) (ms (l9 3))))) (mh (mO 6 (xr wG)) (mh (qI (pG (ms (l9 1))) (mT 7) (mh (tS (fr:=["_law_stem","_law_k","_law_at"]) (pG (ms (l9 3))) (λ_ _ _ _ _=>(n9 (mP (l9 1) (l9 0)) (nL (nL mB (l9 2)) (vq ĵ (ms (BF Ct (l9 0) (l9 3)))))))) (mE (wU (xT (l9 6) (ms (N8 Br (ms (vM (fr:=["_law_letters"]) (sB (l9 8)) (λ_ _ _ _ _=>(mP (l9 1) (wF (l9 0) mB)))))))))))) (mh (pT (oP Ct (mU A0 (mq (l9 0) (ms mB))) mB) (mE (yp (fr:=[]) (Dq (ms (GM (l9 6))) rfl EN) (λ_ _ _ _ _=>(n9 (l9 1) (N5 Br (wF (l9 0) mB)))))) nK) (mE (mY (N9 (l9 6)))))))))))
abbrev rG:bN:=top 48
def yU:N' ["_law_purse_here","_law_most"] ["_law_purse_here"] (mw rG):=Zr
def vK(a:Yl):XS:=(W' (Yh 1 (x2 (ZL (F' (xC (.int 10)) (F' (xC (.int 10)) (F' (xC (.int 100)) (F' (xC (.int 3)) (F' (x2 (xC (.int 10)) (xC (.int 6)) ë) (F' (x2 (xC (.int 10)) (xC (.int 20)) ë) J'))))))) (Yb 2 (mH a) (F' (j' 0) (F' (xC (.int 6)) J'))) Yo)) (YF (x2 (Yb 2 (mH a) (F' (j' 0) (F' (x2 (xC (.int 2)) (j' 1) YC) J'))) (x2 (j' 1) (xC (.int 3)) Í) Ü)))
def oa(a:Yl):XF:=(ZZ 2 (vK a))
variable (P w K mg base a) in abbrev rT:=Fn P w K mg base "_law_number" 2 ["_law_purse_here"] (Y4 K a.Ye 1 (oa a))
def y7(Y:Yz K mg a)(c:Gf K "_law_number" rG)(A0:oA P w K mg base a):rT P w K mg base a :=
 à c Y λT F=>oh F yU rfl λ_ _ _ _ _ _ hr S=>(mh (mO 1 (mP (qK (mq mB (mq mB (mq mB (mq mB (mq (Bs mB mB) (ms (Bs mB mB)))))))) (mU A0 (mq (l9 0) (ms mB))))) (mE (mY (yP (mU A0 (mq (l9 0) (ms (nL mB (l9 1))))) (ud (l9 1) mB)))))
abbrev uq:bN:=top 49
def CF:N' ["_law_purse_here","_law_share","_law_kind","_law_low"] ["_law_purse_here","_law_share"] (mw uq):=Zr
def uD(a:Yl):XS:=(W' (Yh 2 (Yb 2 (mH a) (F' (j' 0) (F' (xC (.int 5)) J')))) (W' (Ø (YO (x2 (j' 2) (xC (.int 0)) Ý)) (YF (j' 1)) Y9) (W' (Yh 3 (x2 (ZL (F' (xC (.int 2)) (F' (xC (.int 3)) (F' (xC (.int 7)) (F' (x2 (xC (.int 10)) (xC (.int 6)) ë) J'))))) (x2 (j' 2) (xC (.int 1)) Ü) Yo)) (YF (Yb 2 (nv a) (F' (x2 (x2 (j' 1) (xC (.int 0)) Yo) (x2 (xC (.int 1)) (Yb 2 (mH a) (F' (j' 0) (F' (x2 (j' 3) (xC (.int 1)) Ü) J'))) YH) YC) (F' (x2 (x2 (j' 1) (xC (.int 1)) Yo) (j' 3) YC) J')))))))
def qx(a:Yl):XF:=(ZZ 4 (uD a))
variable (P w K mg base a) in abbrev uI:=Fn P w K mg base "_law_part" 3 ["_law_purse_here","_law_share"] (Y4 K a.Ye 2 (qx a))
def CS(Y:Yz K mg a)(c:Gf K "_law_part" uq)(A0:oA P w K mg base a)(A1:pA P w K mg base a):uI P w K mg base a :=
 à c Y λT F=>oh F CF rfl λ_ _ _ _ _ _ hr S=>(mh (mO 2 (mU A0 (mq (l9 0) (ms mB)))) (mh (pT (oP Ct (l9 2) mB) (mE (mY (l9 1))) nK) (mh (mO 3 (mP (qK (mq mB (mq mB (mq mB (ms (Bs mB mB)))))) (yP (l9 2) mB))) (mE (mY (mU A1 (mq (nL (mP (l9 1) mB) (n9 mB (mU A0 (mq (l9 0) (ms (yP (l9 3) mB)))))) (ms (nL (mP (l9 1) mB) (l9 3))))))))))
abbrev um:bN:=top 50
def CD:N' ["_law_purse_here","_law_model","_law_holders","_law_book","_law_houses","_law_house","_law_shares","_law_owners","_law_one","_law_other","_law_part_here","_law_top","_law_low","_law_rest"] ["_law_purse_here","_law_model","_law_holders","_law_book"] (mw um):=Zr
def uC(a:Yl):XS:=(W' (Yh 4 (xB (F' (j' 1) J') m6)) (W' (Yh 5 (x2 (j' 4) (Yb 2 (mH a) (F' (j' 0) (F' (xB (F' (j' 4) J') Zw) J'))) Yo)) (W' (Yh 6 (x2 (x2 (j' 1) (j' 5) Yo) (xC (.int 0)) Yo)) (W' (Yh 7 (xB (F' (j' 6) J') m6)) (W' (Yh 8 (x2 (j' 7) (Yb 2 (mH a) (F' (j' 0) (F' (xB (F' (j' 7) J') Zw) J'))) Yo)) (W' (Yh 9 (x2 (j' 2) (Yb 2 (mH a) (F' (j' 0) (F' (xB (F' (j' 2) J') Zw) J'))) Yo)) (W' (Yh 10 (Yb 2 (qx a) (F' (j' 0) (F' (x2 (j' 6) (j' 8) Yo) J')))) (W' (Ø (YO (x2 (x2 (j' 10) (xC (.int 1)) Yo) (x2 (xC (.int 10)) (xC (.int 29)) ë) fGe)) Ÿ Y9) (W' (ī (Ĭ 5 (wI a) (j' 3) (F' (j' 5) (F' (j' 8) (F' (j' 9) (F' (j' 10) J')))))) (W' (ã (Fo (j' 6) (j' 8)) (Zk 2 (Yj (V' 11) (Yj (V' 12) Zl)))) (W' (Yh 13 (Yb 2 (nv a) (F' (x2 (x2 (j' 11) (x2 (j' 10) (xC (.int 1)) Yo) YC) (x2 (x2 (j' 10) (xC (.int 0)) Yo) (j' 12) YC) Ü) (F' (x2 (j' 12) (x2 (j' 10) (xC (.int 1)) Yo) YC) J')))) (W' (Ø (YO (x2 (x2 (j' 13) (xC (.int 0)) Yo) (xC (.int 0)) fGt)) (ü (j' 6) (j' 8) (j' 13)) Y9) (W' (ã (â (j' 6) (j' 9) (ZT (F' (xC (.int 0)) (F' (xC (.int 1)) J')))) (Zk 2 (Yj (V' 11) (Yj (V' 12) Zl)))) (ü (j' 6) (j' 9) (Yb 2 (nv a) (F' (x2 (x2 (j' 11) (x2 (j' 10) (xC (.int 1)) Yo) YC) (x2 (x2 (j' 10) (xC (.int 0)) Yo) (j' 12) YC) YH) (F' (x2 (j' 12) (x2 (j' 10) (xC (.int 1)) Yo) YC) J')))))))))))))))))
def rB(a:Yl):XF:=(ZZ 14 (uC a))
variable (P w K mg base a) in abbrev uH:=Fn P w K mg base "_law_sold" 5 ["_law_purse_here","_law_model","_law_holders","_law_book"] (Y4 K a.Ye 4 (rB a))
def CQ(Y:Yz K mg a)(c:Gf K "_law_sold" um)(A0:uI P w K mg base a)(A1:Ep P w K mg base a)(A2:pA P w K mg base a)(A3:oA P w K mg base a):uH P w K mg base a :=
 à c Y λT F=>oh F CD rfl λ_ _ _ _ _ _ hr S=>(mh (mO 4 (nu (YU rfl) (ms (l9 1)))) (mh (mO 5 (mP (l9 4) (mU A3 (mq (l9 0) (ms (nu Zz (ms (l9 4)))))))) (mh (mO 6 (mP (mP (l9 1) (l9 5)) mB)) (mh (mO 7 (nu (YU rfl) (ms (l9 6)))) (mh (mO 8 (mP (l9 7) (mU A3 (mq (l9 0) (ms (nu Zz (ms (l9 7)))))))) (mh (mO 9 (mP (l9 2) (mU A3 (mq (l9 0) (ms (nu Zz (ms (l9 2)))))))) (mh (mO 10 (mU A0 (mq (l9 0) (ms (mP (l9 6) (l9 8)))))) (mh (pT (oP ÁU (mP (l9 10) mB) (Bs mB mB)) (mE NV) nK) (mh (wU (BG (l9 3) A1 (mq (l9 5) (mq (l9 8) (mq (l9 9) (ms (l9 10))))))) (mh (Bp (Oa (l9 6) (l9 8)) (sS (nr (mT 11) (nr (mT 12) qF)))) (mh (mO 13 (mU A2 (mq (yP (nL (l9 11) (mP (l9 10) mB)) (nL (mP (l9 10) mB) (l9 12))) (ms (nL (l9 12) (mP (l9 10) mB)))))) (mh (pT (oP O3 (mP (l9 13) mB) mB) (mE (yO (l9 6) (l9 8) (l9 13))) nK) (mh (Bp (GL (l9 6) (l9 9) (qJ (mq mB (ms mB)))) (sS (nr (mT 11) (nr (mT 12) qF)))) (mE (yO (l9 6) (l9 9) (mU A2 (mq (n9 (nL (l9 11) (mP (l9 10) mB)) (nL (mP (l9 10) mB) (l9 12))) (ms (nL (l9 12) (mP (l9 10) mB))))))))))))))))))))
abbrev tf:bN:=top 51
def AU:N' ["_law_purse_here","_law_most","_law_many","_law_count","_law_names_here","_law_book","_law_model","_law_name","_law_k","_law_owner","_law_three"] ["_law_purse_here","_law_most"] (mw tf):=Zr
def uf(a:Yl) :XS:=(ī (Ĭ 2 (vg a) (j' 5) (F' (j' 7) J')))
def pL(a:Yl) :XS:=(W' (Yh 9 (x2 (j' 4) (Yb 2 (mH a) (F' (j' 0) (F' (x2 (j' 2) (j' 8) YH) J'))) Yo)) (W' (Yh 10 (ZT (F' (Yb 1 (oa a) (F' (j' 0) J')) (F' (Yb 1 (oa a) (F' (j' 0) J')) (F' (xB (F' (Yb 1 (oa a) (F' (j' 0) J')) J') Ĥ) J'))))) (W' (ī (Ĭ 6 (xz a) (j' 5) (F' (x2 (j' 4) (x2 (j' 2) (j' 8) YH) Yo) (F' (j' 9) (F' (x2 (j' 10) (xC (.int 0)) Yo) (F' (x2 (j' 10) (xC (.int 1)) Yo) (F' (x2 (j' 10) (xC (.int 2)) Yo) J'))))))) (ü (j' 6) (x2 (j' 4) (x2 (j' 2) (j' 8) YH) Yo) (ZL (F' (ź (j' 9) (ZT (F' (xC (.int 1)) (F' (xC (.int 1)) J')))) (F' (j' 10) J')))))))
def pK(a:Yl) :XS:=(ī (Yb 4 (rB a) (F' (j' 0) (F' (j' 6) (F' (j' 4) (F' (j' 5) J'))))))
def wv(a:Yl):XS:=(W' (Yh 2 (x2 (xC (.int 1)) (Yb 2 (mH a) (F' (j' 0) (F' (xC (.int 3)) J'))) YH)) (W' (Yh 3 (Yb 2 (mH a) (F' (j' 0) (F' (x2 (j' 1) (xC (.int 1)) YH) J')))) (W' (Yh 4 (Yb 2 (tN a) (F' (j' 0) (F' (x2 (j' 2) (j' 3) YH) J')))) (W' (Yh 5 ϛ) (W' (Yh 6 Ź) (W' (Z7 (YK (Ϯ (j' 4) Ġ (Ö (j' 2)))) (V' 7) (uf a)) (W' (Z7 (Zn (F' (j' 3) J')) (V' 8) (pL a)) (W' (Ø (YO (x2 (j' 3) (xC (.int 0)) fGt)) (Z7 (Zn (F' (Yb 2 (mH a) (F' (j' 0) (F' (x2 (x2 (xC (.int 4)) (j' 3) YC) (xC (.int 1)) YH) J'))) J')) (V' 8) (pK a)) Y9) (YF (ZT (F' (j' 5) (F' (xB (F' (Ϯ (j' 4) Ġ (Ö (j' 2))) J') m6) (F' (j' 6) J')))))))))))))
def qS(a:Yl):XF:=(ZZ 11 (wv a))
variable (P w K mg base a) in abbrev tL:=Fn P w K mg base "_law_built" 6 ["_law_purse_here","_law_most"] (Y4 K a.Ye 2 (qS a))
def Bi(Y:Yz K mg a)(c:Gf K "_law_built" tf)(A0:oA P w K mg base a)(A1:tI P w K mg base a)(A2:Er P w K mg base a)(A3:Bx P w K mg base a)(A4:C8 P w K mg base a)(A5:rT P w K mg base a)(A6:uH P w K mg base a):tL P w K mg base a :=
 à c Y λT F=>oh F AU rfl λ_ _ _ _ _ _ hr S=>(mh (mO 2 (n9 mB (mU A0 (mq (l9 0) (ms mB))))) (mh (mO 3 (mU A0 (mq (l9 0) (ms (n9 (l9 1) mB))))) (mh (mO 4 (mU A1 (mq (l9 0) (ms (n9 (l9 2) (l9 3)))))) (mh (mO 5 (Oc A2)) (mh (mO 6 HA) (mh (qI (sB (Ju (l9 4) zW (zV (l9 2)))) (mT 7) (mE (wU (BG (l9 5) A3 (ms (l9 7)))))) (mh (qI (pG (ms (l9 3))) (mT 8) (mh (mO 9 (mP (l9 4) (mU A0 (mq (l9 0) (ms (n9 (l9 2) (l9 8))))))) (mh (mO 10 (qJ (mq (mU A5 (ms (l9 0))) (mq (mU A5 (ms (l9 0))) (ms (nu ú (ms (mU A5 (ms (l9 0)))))))))) (mh (wU (BG (l9 5) A4 (mq (mP (l9 4) (n9 (l9 2) (l9 8))) (mq (l9 9) (mq (mP (l9 10) mB) (mq (mP (l9 10) mB) (ms (mP (l9 10) mB)))))))) (mE (yO (l9 6) (mP (l9 4) (n9 (l9 2) (l9 8))) (qK (mq (Ob (l9 9) (qJ (mq mB (ms mB)))) (ms (l9 10)))))))))) (mh (pT (oP O3 (l9 3) mB) (mE (qI (pG (ms (mU A0 (mq (l9 0) (ms (n9 (nL mB (l9 3)) mB)))))) (mT 8) (mE (wU (mU A6 (mq (l9 0) (mq (l9 6) (mq (l9 4) (ms (l9 5)))))))))) nK) (mE (mY (qJ (mq (l9 5) (mq (nu (YU rfl) (ms (Ju (l9 4) zW (zV (l9 2))))) (ms (l9 6)))))))))))))))
structure Wy(K:aa)(mg:Str->Option af)(a:Yl):Prop where
 c:ş K a.YX
 ď:Y3 K a.YX "bottom"
 Ď:Y3 K a.YX "top_of"
 g:mg "Ways"=Za (.ref a.YX)
 m:fJ K a.YX=true
 k:bW K (.ref a.YX)=true
def gok(c:Gm K a.YX "__init__" q st)(Y:Yz K mg a)(W:Wy K mg a)(o:∀{f:ag}{fd:cj},Txt K mg a->Î K "__init__" q st f fd->YD P w K mg base (Y7 P w) k f fd ps sp)(b:Bd "__init__" q st ps:=by first|exact bd1|exact bd2|exact bd3|exact bd4|exact bd5|exact bd6|exact bd0):MkB P w K mg base "Ways" a.YX k ps sp :=
 let⟨f,fd,n,i,U⟩:=c.ex;⟨f,fd,o Y.T U,W.g,⟨W.m,n,i,W.k⟩,U.binds b⟩
abbrev Ar:bN:=top 19
def Ic:N' ["top","bottom","common"] ["top","bottom"] (mw Ar):=Zr
def KC(a:Yl):XS:=(W' (Yh 2 (Yb 2 (nM a) (F' (j' 0) (F' (j' 1) J')))) (YF (ZT (F' (x2 (j' 0) (j' 2) Í) (F' (x2 (j' 1) (j' 2) Í) J')))))
def AH(a:Yl):XF:=(ZZ 3 (KC a))
variable (P w K mg base a) in abbrev AF:=Fn P w K mg base "lowest" 2 ["top","bottom"] (Y4 K a.Ye 2 (AH a))
def Iu(Y:Yz K mg a)(c:Gf K "lowest" Ar)(A0:su P w K mg base a):AF P w K mg base a :=
 à c Y λT F=>oh F Ic rfl λ_ _ _ _ _ _ hr S=>(mh (mO 2 (mU A0 (mq (l9 0) (ms (l9 1))))) (mE (mY (qJ (mq (ud (l9 0) (l9 2)) (ms (ud (l9 1) (l9 2))))))))
abbrev xJ:bN:=top 2
def FF:N' ["row","by","turn","former"] ["row","by","turn","former"] (mw xJ):=Zr
def IR(a:Yl):XS:=(YF (pN (GN (F' (j' 0) (F' (j' 1) J'))) [3,1,2,0] nQ (x2 (x2 (x2 (x2 (j' 3) (j' 4) Yo) (j' 0) YC) (x2 (x2 (j' 5) (j' 4) Yo) (j' 1) YC) Ü) (j' 2) Í)))
def sI(a:Yl):XF:=(ZZ 4 (IR a))
variable (P w K mg base a) in abbrev xY:=Fn P w K mg base "cleared" 1 ["row","by","turn","former"] (Y4 K a.Ye 4 (sI a))
def FO(Y:Yz K mg a)(c:Gf K "cleared" xJ)(ZN:mg "zip"=Zb):xY P w K mg base a :=
 à c Y λT F=>oh F FF rfl λ_ _ _ _ _ _ hr S=>(mE (mY (AB (fr:=["former","by","turn","row"]) (GI (mq (l9 0) (ms (l9 1)))) (λ_ _ _ _ _=>(ud (yP (nL (mP (l9 3) (l9 4)) (l9 0)) (nL (mP (l9 5) (l9 4)) (l9 1))) (l9 2))))))
abbrev Ap:bN:=top 3
def Ia:N' ["rows","bottom","now","turn","by"] ["rows"] (mw Ap):=Zr
def wc(a:Yl) :XS:=(W' (Yh 4 (x2 (j' 2) (j' 3) Yo)) (W' (Yh 2 (pN (wJ (F' (j' 2) J')) [3,4,1] nQ (ġ (YO (x2 (j' 0) (j' 2) Ý)) (j' 1) (Yb 4 (sI a) (F' (j' 1) (F' (j' 3) (F' (j' 2) (F' (j' 4) J')))))))) (Yh 1 (x2 (j' 4) (j' 3) Yo))))
def KB(a:Yl):XS:=(W' (Yh 1 (xC (.int 1))) (W' (Yh 2 (j' 0)) (W' (Z7 (Zn (F' (xB (F' (j' 0) J') Zw) J')) (V' 3) (wc a)) (YF (ZT (F' (pP (YK (j' 2)) [0] nQ (Ϯ (j' 0) (Ö (xB (F' (j' 1) J') Zw)) Ġ)) (F' (j' 1) J')))))))
def wX(a:Yl):XF:=(ZZ 5 (KB a))
variable (P w K mg base a) in abbrev AD:=Fn P w K mg base "solved" 2 ["rows"] (Y4 K a.Ye 1 (wX a))
def Ip(Y:Yz K mg a)(c:Gf K "solved" Ap)(EN:mg "enumerate"=Zb)(A0:xY P w K mg base a):AD P w K mg base a :=
 à c Y λT F=>oh F Ia rfl λ_ _ _ _ _ _ hr S=>(mh (mO 1 mB) (mh (mO 2 (l9 0)) (mh (qI (pG (ms (nu Zz (ms (l9 0))))) (mT 3) (mh (mO 4 (mP (l9 2) (l9 3))) (mh (yp (fr:=["turn","by","bottom"]) (Dq (ms (l9 2)) rfl EN) (λ_ _ _ _ _=>(GK (oP Ct (l9 0) (l9 2)) (l9 1) (mU A0 (mq (l9 1) (mq (l9 3) (mq (l9 2) (ms (l9 4))))))))) (mE (mO 1 (mP (l9 4) (l9 3))))))) (mE (mY (qJ (mq (vM (fr:=["rows"]) (sB (l9 2)) (λ_ _ _ _ _=>(Ju (l9 0) (zV (nu Zz (ms (l9 1)))) zW))) (ms (l9 1)))))))))
abbrev pV:bN:=top 24
def wg:N' ["book","house","group"] ["book","house","group"] (mw pV):=Zr
def xq(a:Yl):XS:=(YF (xB (F' (pN (YK (Ĭ 2 (oY a) (j' 0) (F' (j' 1) J'))) [2] nQ (x2 (j' 0) (j' 2) fIn)) J') Ϥ))
def oW(a:Yl):XF:=(ZZ 3 (xq a))
variable (P w K mg base a) in abbrev pZ:=Fn P w K mg base "is_held_within" 4 ["book","house","group"] (Y4 K a.Ye 3 (oW a))
def wk(Y:Yz K mg a)(c:Gf K "is_held_within" pV)(A0:vO P w K mg base a):pZ P w K mg base a :=
 à c Y λT F=>oh F wg rfl λ_ _ _ _ _ _ hr S=>(mE (mY (nu (Ŗ rfl) (ms (AB (fr:=["group"]) (sB (BG (l9 0) A0 (ms (l9 1)))) (λ_ _ _ _ _=>(BF ÁT (l9 0) (l9 2))))))))
abbrev rF:bN:=top 25
def yT:N' ["book","group","inside"] ["book"] (mw rF):=Zr
def m7(a:Yl) :XS:=(W' (Yh 2 (pP (YK (j' 1)) [0,1] (YO (Yb 3 (oW a) (F' (j' 1) (F' (j' 0) (F' (j' 2) J'))))) (j' 0))) (W' (Ø (YO (x2 (j' 2) (j' 1) Ý)) (YF (j' 1)) Y9) (Yh 1 (j' 2))))
def Bo(a:Yl):XS:=(W' (Yh 1 (Ĭ 1 (pU a) (j' 0) J')) (tZ (YO (xC (.bl true))) (m7 a)))
def rX(a:Yl):XF:=(ZZ 3 (Bo a))
variable (P w K mg base a) in abbrev rS:=Fn P w K mg base "whole_group" 5 ["book"] (Y4 K a.Ye 1 (rX a))
def yY(Y:Yz K mg a)(c:Gf K "whole_group" rF)(A0:rW P w K mg base a)(A1:pZ P w K mg base a):rS P w K mg base a :=
 à c Y λT F=>oh F yT rfl λ_ _ _ _ _ _ hr S=>(mh (mO 1 (DZ (l9 0) A0)) (mE (Az (vL qi) (mh (tS (fr:=["book","group"]) (sB (l9 1)) (λ_ _ _ _ _=>(l9 0)) (λ_ _ _ _ _=>(AA (vL (mU A1 (mq (l9 1) (mq (l9 0) (ms (l9 2))))))))) (mh (pT (oP Ct (l9 2) (l9 1)) (mE (mY (l9 1))) nK) (mE (mO 1 (l9 2))))))))
abbrev oF:bN:=top 26
def sC:N' ["book","group"] ["book"] (mw oF):=Zr
def tW(a:Yl):XS:=(W' (Yh 1 (Yb 1 (rX a) (F' (j' 0) J'))) (Ø (YO (x2 (j' 1) (ZL J') Ō)) (GO a.YG (j' 1)) Y9))
def nN(a:Yl):XF:=(ZZ 2 (tW a))
variable (P w K mg base a) in abbrev oG:=Fn P w K mg base "need_no_whole_group" 6 ["book"] (Y4 K a.Ye 1 (nN a))
def sD(Y:Yz K mg a)(c:Gf K "need_no_whole_group" oF)(WH:Wh P w K mg base "Whole" a.YG 2)(A0:rS P w K mg base a):oG P w K mg base a :=
 à c Y λT F=>oh F sC rfl λ_ _ _ _ _ _ hr S=>(mh (mO 1 (mU A0 (ms (l9 0)))) (mE (pT (oP HF (l9 1) (qK wG)) (mE (IU WH (l9 1))) nK)))
abbrev L7:bN:=top 27
def Pn:N' ["shares","pieces","holder","share"] ["shares"] (mw L7):=Zr
def xw(a:Yl) :XS:=(Yh 1 (x2 (j' 1) (x2 (x2 (j' 3) (xC (.int 1)) Yo) (Yb 2 (nM a) (F' (j' 1) (F' (x2 (j' 3) (xC (.int 1)) Yo) J'))) Í) YC))
def OS(a:Yl):XS:=(W' (Yh 1 (xC (.int 1))) (W' (Z7 (YK (j' 0)) (Zk 2 (Yj (V' 2) (Yj (V' 3) Zl))) (xw a)) (YF (xB (F' (pN (YK (j' 0)) [1] nQ (ZT (F' (j' 0) (F' (x2 (x2 (j' 1) (xC (.int 0)) Yo) (x2 (j' 2) (x2 (j' 1) (xC (.int 1)) Yo) Í) YC) J')))) J') DU))))
def Jw(a:Yl):XF:=(ZZ 4 (OS a))
variable (P w K mg base a) in abbrev Mo:=Fn P w K mg base "cut" 2 ["shares"] (Y4 K a.Ye 1 (Jw a))
def P9(Y:Yz K mg a)(c:Gf K "cut" L7)(DN:mg "dict"=Zb)(A0:su P w K mg base a):Mo P w K mg base a :=
 à c Y λT F=>oh F Pn rfl λ_ _ _ _ _ _ hr S=>(mh (mO 1 mB) (mh (qI (sB (l9 0)) (sS (nr (mT 2) (nr (mT 3) qF))) (mE (mO 1 (nL (l9 1) (ud (mP (l9 3) mB) (mU A0 (mq (l9 1) (ms (mP (l9 3) mB))))))))) (mE (mY (vq (LZ rfl) (ms (AB (fr:=["pieces"]) (sB (l9 0)) (λ_ _ _ _ _=>(qJ (mq (l9 0) (ms (nL (mP (l9 1) mB) (ud (l9 2) (mP (l9 1) mB))))))))) (hm:=DN) (hv:=Ņ))))))
abbrev xK:bN:=top 28
def FG:N' ["book"] ["book"] (mw xK):=Zr
def IS(a:Yl):XS:=(YF (xB (F' (pP (YK (Ĭ 1 (pU a) (j' 0) J')) [0] nQ (ZT (F' (j' 0) (F' (Yb 1 (Jw a) (F' (Ĭ 2 (oY a) (j' 1) (F' (j' 0) J')) J')) J')))) J') DU))
def x6(a:Yl):XF:=(ZZ 1 (IS a))
variable (P w K mg base a) in abbrev xZ:=Fn P w K mg base "all_cut" 4 ["book"] (Y4 K a.Ye 1 (x6 a))
def FP(Y:Yz K mg a)(c:Gf K "all_cut" xK)(DN:mg "dict"=Zb)(A0:Mo P w K mg base a)(A1:rW P w K mg base a)(A2:vO P w K mg base a):xZ P w K mg base a :=
 à c Y λT F=>oh F FG rfl λ_ _ _ _ _ _ hr S=>(mE (mY (vq (LZ rfl) (ms (vM (fr:=["book"]) (sB (DZ (l9 0) A1)) (λ_ _ _ _ _=>(qJ (mq (l9 0) (ms (mU A0 (ms (BG (l9 1) A2 (ms (l9 0))))))))))) (hm:=DN) (hv:=Ņ))))
abbrev Aq:bN:=top 29
def Ib:N' ["house","houses","pieces_of","row"] ["house","houses","pieces_of"] (mw Aq):=Zr
def E2(a:Yl):XS:=(W' (Yh 3 (yG (YK (j' 1)) [0,2] nQ (x1 (â (x2 (j' 2) (j' 0) Yo) (j' 1) (xC (.int 0))) œ))) (W' (Jg (j' 3) (AI (j' 1) (F' (j' 0) J')) (Fk (x2 (j' 2) (j' 0) Yo))) (YF (j' 3))))
def AG(a:Yl):XF:=(ZZ 4 (E2 a))
variable (P w K mg base a) in abbrev AE:=Fn P w K mg base "owning" 1 ["house","houses","pieces_of"] (Y4 K a.Ye 3 (AG a))
def Is(Y:Yz K mg a)(c:Gf K "owning" Aq)(SM:mg "sum"=Zb):AE P w K mg base a :=
 à c Y λT F=>oh F Ib rfl λ_ _ _ _ _ _ hr S=>(mh (Em (fr:=["house","pieces_of"]) (sB (l9 1)) (λ_ _ _ _ _=>(QK (GL (mP (l9 2) (l9 0)) (l9 1) mB)))) (mh (NY (l9 3) (KM (l9 1) (ms (l9 0))) (N4 (mP (l9 2) (l9 0)))) (mE (mY (l9 3)))))
abbrev ul:bN:=top 30
def CC:N' ["house","houses","pieces_of"] ["house","houses","pieces_of"] (mw ul):=Zr
def Ej(a:Yl):XS:=(YF (x2 (Yb 3 (AG a) (F' (j' 0) (F' (j' 1) (F' (j' 2) J')))) (pP (YK (j' 1)) [0] nQ (ġ (YO (x2 (j' 0) (j' 1) Ý)) (xC (.int 1)) (xC (.int 0)))) YH))
def rA(a:Yl):XF:=(ZZ 3 (Ej a))
variable (P w K mg base a) in abbrev uG:=Fn P w K mg base "agreement" 2 ["house","houses","pieces_of"] (Y4 K a.Ye 3 (rA a))
def CP(Y:Yz K mg a)(c:Gf K "agreement" ul)(A0:AE P w K mg base a):uG P w K mg base a :=
 à c Y λT F=>oh F CC rfl λ_ _ _ _ _ _ hr S=>(mE (mY (n9 (mU A0 (mq (l9 0) (mq (l9 1) (ms (l9 2))))) (vM (fr:=["house"]) (sB (l9 1)) (λ_ _ _ _ _=>(GK (oP Ct (l9 0) (l9 1)) mB mB))))))
abbrev ux:bN:=oS (top 31) 0
def CK:N' ["self","book","houses","pieces_of","solution","place","house","holder","top","other","piece"] ["self","book"] (mw ux):=Zr
def o5(a:Yl) :XS:=(Oz 8 (x2 (â (x2 (j' 3) (j' 9) Yo) (j' 7) (xC (.int 0))) (x2 (j' 10) (j' 5) Yo) YC))
def o4(a:Yl) :XS:=(W' (Yh 8 (ġ (YO (x2 (j' 7) (j' 6) Ý)) (Jy a.YX "bottom" (j' 0)) (xC (.int 0)))) (W' (Z7 (GN (F' (j' 2) (F' (x2 (j' 4) (xC (.int 0)) Yo) J'))) (Zk 2 (Yj (V' 9) (Yj (V' 10) Zl))) (o5 a)) (Je (Jy a.YX "top_of" (j' 0)) (F' (j' 7) (F' (j' 6) J')) (j' 8))))
def qk(a:Yl) :XS:=(Z7 (YK (x2 (Ĭ 1 (sH a) (j' 1) J') (j' 2) YH)) (V' 7) (o4 a))
def yo(a:Yl):XS:=(W' (ī (Yb 1 (nN a) (F' (j' 1) J'))) (W' (Yh 2 (Ĭ 1 (pU a) (j' 1) J')) (W' (Yh 3 (Yb 1 (x6 a) (F' (j' 1) J'))) (W' (Yh 4 (Yb 1 (wX a) (F' (pP (YK (j' 2)) [2,3] nQ (Yb 3 (rA a) (F' (j' 0) (F' (j' 1) (F' (j' 2) J'))))) J'))) (W' (Fl a.YX "bottom" (j' 0) (x2 (j' 4) (xC (.int 1)) Yo)) (W' (Fl a.YX "top_of" (j' 0) Ox) (Z7 (wJ (F' (j' 2) J')) (Zk 2 (Yj (V' 5) (Yj (V' 6) Zl))) (qk a))))))))
def rD(a:Yl):XF:=(ZZ 11 (yo a))
variable (P w K mg base a) in abbrev uL:=MkB P w K mg base "Ways" a.YX 7 ["self","book"] (Y4 K a.Ye 2 (rD a))
def CY(Y:Yz K mg a)(WY:Wy K mg a)(c:Gm K a.YX "__init__" "Ways.__init__" ux)(EN:mg "enumerate"=Zb)(ZN:mg "zip"=Zb)(A0:oG P w K mg base a)(A1:rW P w K mg base a)(A2:xZ P w K mg base a)(A3:AD P w K mg base a)(A4:uG P w K mg base a)(A5:za P w K mg base a):uL P w K mg base a :=
 gok c Y WY λT F=>oh F CK rfl λ_ _ _ _ _ _ hr S=>(mh (wU (mU A0 (ms (l9 1)))) (mh (mO 2 (DZ (l9 1) A1)) (mh (mO 3 (mU A2 (ms (l9 1)))) (mh (mO 4 (mU A3 (ms (vM (fr:=["houses","pieces_of"]) (sB (l9 2)) (λ_ _ _ _ _=>(mU A4 (mq (l9 0) (mq (l9 1) (ms (l9 2)))))))))) (mh (LK (l9 0) (mP (l9 4) mB) WY.c WY.ď) (mh (LK (l9 0) N6 WY.c WY.Ď) (mE (qI (Dq (ms (l9 2)) rfl EN) (sS (nr (mT 5) (nr (mT 6) qF))) (mE (qI (sB (n9 (DZ (l9 1) A5) (l9 2))) (mT 7) (mh (mO 8 (GK (oP Ct (l9 7) (l9 6)) (DY (l9 0) WY.c WY.ď) mB)) (mh (qI (GI (mq (l9 2) (ms (mP (l9 4) mB)))) (sS (nr (mT 9) (nr (mT 10) qF))) (mE (QF 8 (nL (GL (mP (l9 3) (l9 9)) (l9 7) mB) (mP (l9 10) (l9 5)))))) (mE (NW (DY (l9 0) WY.c WY.Ď) (mq (l9 7) (ms (l9 6))) (l9 8)))))))))))))))
abbrev xI:bN:=top 32
def FD:N' ["book","holder","house","ways"] ["book","holder","house"] (mw xI):=Zr
def IQ(a:Yl):XS:=(W' (Yh 3 (xMk a.YX 2 (rD a) (F' (j' 0) J'))) (W' (ī (Ĭ 2 (ny a) (j' 0) (F' (j' 1) J'))) (W' (ī (Ĭ 2 (oB a) (j' 0) (F' (j' 2) J'))) (YF (Yb 2 (AH a) (F' (Oy (Jy a.YX "top_of" (j' 3)) (F' (j' 1) (F' (j' 2) J'))) (F' (Jy a.YX "bottom" (j' 3)) J')))))))
def n8(a:Yl):XF:=(ZZ 4 (IQ a))
variable (P w K mg base a) in abbrev vx:=Fn P w K mg base "through" 9 ["book","holder","house"] (Y4 K a.Ye 3 (n8 a))
def FL(Y:Yz K mg a)(c:Gf K "through" xI)(WY:Wy K mg a)(A0:uL P w K mg base a)(A1:vR P w K mg base a)(A2:wl P w K mg base a)(A3:AF P w K mg base a):vx P w K mg base a :=
 à c Y λT F=>oh F FD rfl λ_ _ _ _ _ _ hr S=>(mh (mO 3 (ÁP A0 (ms (l9 0)))) (mh (wU (BG (l9 0) A1 (ms (l9 1)))) (mh (wU (BG (l9 0) A2 (ms (l9 2)))) (mE (mY (mU A3 (mq (QL (DY (l9 3) WY.c WY.Ď) (mq (l9 1) (ms (l9 2)))) (ms (DY (l9 3) WY.c WY.ď)))))))))
abbrev sU:bN:=top 46
def AN:N' ["_law_found"] ["_law_found"] (mw sU):=Zr
def C0(a:Yl):XS:=(YF (ĭ (Ŏ .int (j' 0)) (Ϛ (Ŏ .bool (j' 0)))))
def qP(a:Yl):XF:=(ZZ 1 (C0 a))
variable (P w K mg base a) in abbrev tF:=Fn P w K mg base "_law_whole" 1 ["_law_found"] (Y4 K a.Ye 1 (qP a))
def Bb(Y:Yz K mg a)(c:Gf K "_law_whole" sU):tF P w K mg base a :=
 à c Y λT F=>oh F AN rfl λ_ _ _ _ _ _ hr S=>(mE (mY (LQ (Dt _ (l9 0)) (LP (QJ (Dt _ (l9 0)))))))
abbrev sZ:bN:=top 52
def AT:N' ["_law_model","_law_group_here","_law_kept"] ["_law_model"] (mw sZ):=Zr
def nq(a:Yl) :XS:=(W' (Ø (YO (x2 (j' 2) (xC .Ym) ı)) (Yh 1 (j' 2)) Y9) (Yh 2 (pP (YK (j' 1)) [1,0] (YO (x2 (wx (x2 (x2 (j' 2) (j' 0) Yo) (xC (.int 0)) Yo) [1] (YO (x2 (j' 0) (j' 1) qh)) (j' 0)) (ZL J') Ý)) (j' 0))))
def C2(a:Yl):XS:=(W' (Yh 1 (xB (F' (j' 0) J') m6)) (W' (Yh 2 (xC .Ym)) (W' (tZ (YO (x2 (j' 2) (j' 1) Ō)) (nq a)) (YF (j' 1)))))
def qR(a:Yl):XF:=(ZZ 3 (C2 a))
variable (P w K mg base a) in abbrev tK:=Fn P w K mg base "_law_group" 1 ["_law_model"] (Y4 K a.Ye 1 (qR a))
def Bh(Y:Yz K mg a)(c:Gf K "_law_group" sZ):tK P w K mg base a :=
 à c Y λT F=>oh F AT rfl λ_ _ _ _ _ _ hr S=>(mh (mO 1 (nu (YU rfl) (ms (l9 0)))) (mh (mO 2 GJ) (mh (Az (oP HF (l9 2) (l9 1)) (mh (pT (oP QO (l9 2) GJ) (mE (mO 1 (l9 2))) nK) (mE (tS (fr:=["_law_group_here","_law_model"]) (sB (l9 1)) (λ_ _ _ _ _=>(l9 0)) (λ_ _ _ _ _=>(AA (oP Ct (KN (fr:=["_law_group_here"]) (S:=⟨rfl,Zf rfl,rfl,Zf rfl,Zf rfl,Zf rfl,Zf rfl,Zf rfl,rfl⟩) (mP (mP (l9 2) (l9 0)) mB) (λ_ _ _ _ _=>(l9 0)) (λ_ _ _ _ _=>(AA (oP Ac (l9 0) (l9 1))))) (qK wG)))))))) (mE (mY (l9 1))))))
abbrev vX:bN:=top 53
def D8:N' ["_law_some","_law_top","_law_low","_law_number_here"] ["_law_some"] (mw vX):=Zr
def tE(a:Yl) :XS:=(ã (Yb 2 (nv a) (F' (x2 (x2 (j' 1) (x2 (j' 3) (xC (.int 1)) Yo) YC) (x2 (x2 (j' 3) (xC (.int 0)) Yo) (j' 2) YC) YH) (F' (x2 (j' 2) (x2 (j' 3) (xC (.int 1)) Yo) YC) J'))) (Zk 2 (Yj (V' 1) (Yj (V' 2) Zl))))
def F4(a:Yl):XS:=(W' (ã (ZT (F' (xC (.int 0)) (F' (xC (.int 1)) J'))) (Zk 2 (Yj (V' 1) (Yj (V' 2) Zl)))) (W' (Z7 (YK (j' 0)) (V' 3) (tE a)) (YF (ZT (F' (j' 1) (F' (j' 2) J'))))))
def qm(a:Yl):XF:=(ZZ 4 (F4 a))
variable (P w K mg base a) in abbrev tU:=Fn P w K mg base "_law_sum" 3 ["_law_some"] (Y4 K a.Ye 1 (qm a))
def Ee(Y:Yz K mg a)(c:Gf K "_law_sum" vX)(A0:pA P w K mg base a):tU P w K mg base a :=
 à c Y λT F=>oh F D8 rfl λ_ _ _ _ _ _ hr S=>(mh (Bp (qJ (mq mB (ms mB))) (sS (nr (mT 1) (nr (mT 2) qF)))) (mh (qI (sB (l9 0)) (mT 3) (mE (Bp (mU A0 (mq (n9 (nL (l9 1) (mP (l9 3) mB)) (nL (mP (l9 3) mB) (l9 2))) (ms (nL (l9 2) (mP (l9 3) mB))))) (sS (nr (mT 1) (nr (mT 2) qF)))))) (mE (mY (qJ (mq (l9 1) (ms (l9 2))))))))
abbrev sV:bN:=top 54
def AO:N' ["_law_one","_law_other"] ["_law_one","_law_other"] (mw sV):=Zr
def C1(a:Yl):XS:=(YF (Yb 2 (nv a) (F' (x2 (x2 (j' 0) (xC (.int 0)) Yo) (x2 (j' 1) (xC (.int 0)) Yo) YC) (F' (x2 (x2 (j' 0) (xC (.int 1)) Yo) (x2 (j' 1) (xC (.int 1)) Yo) YC) J'))))
def tM(a:Yl):XF:=(ZZ 2 (C1 a))
variable (P w K mg base a) in abbrev tG:=Fn P w K mg base "_law_times" 3 ["_law_one","_law_other"] (Y4 K a.Ye 2 (tM a))
def Bc(Y:Yz K mg a)(c:Gf K "_law_times" sV)(A0:pA P w K mg base a):tG P w K mg base a :=
 à c Y λT F=>oh F AO rfl λ_ _ _ _ _ _ hr S=>(mE (mY (mU A0 (mq (nL (mP (l9 0) mB) (mP (l9 1) mB)) (ms (nL (mP (l9 0) mB) (mP (l9 1) mB)))))))
abbrev ut:bN:=top 55
def CH:N' ["_law_model","_law_holder","_law_by","_law_some","_law_house"] ["_law_model","_law_holder","_law_by"] (mw ut):=Zr
def oH(a:Yl) :XS:=(Ø (YO (x2 (j' 1) (x2 (x2 (j' 0) (j' 4) Yo) (xC (.int 0)) Yo) fIn)) (ī (Zu (j' 3) (F' (Yb 2 (tM a) (F' (x2 (x2 (x2 (j' 0) (j' 4) Yo) (xC (.int 0)) Yo) (j' 1) Yo) (F' (x2 (j' 2) (j' 4) Yo) J'))) J'))) Y9)
def ym(a:Yl):XS:=(W' (Yh 3 (á J')) (W' (Bz 0 (V' 4) (oH a)) (YF (Yb 1 (qm a) (F' (ć (j' 3)) J')))))
def rC(a:Yl):XF:=(ZZ 5 (ym a))
variable (P w K mg base a) in abbrev uJ:=Fn P w K mg base "_law_held" 4 ["_law_model","_law_holder","_law_by"] (Y4 K a.Ye 3 (rC a))
def CU(Y:Yz K mg a)(c:Gf K "_law_held" ut)(A0:tU P w K mg base a)(A1:tG P w K mg base a):uJ P w K mg base a :=
 à c Y λT F=>oh F CH rfl λ_ _ _ _ _ _ hr S=>(mh (mO 3 (xr wG)) (mh (Do 0 (mT 4) (mE (pT (oP ÁT (l9 1) (mP (mP (l9 0) (l9 4)) mB)) (mE (wU (xT (l9 3) (ms (mU A1 (mq (mP (mP (mP (l9 0) (l9 4)) mB) (l9 1)) (ms (mP (l9 2) (l9 4))))))))) nK))) (mE (mY (mU A0 (ms (GM (l9 3))))))))
abbrev o7:bN:=top 56
def uR:N' ["_law_found"] ["_law_found"] (mw o7):=Zr
def vQ(a:Yl):XS:=(W' (Ø (xOr (ğ (YO (Ŏ .tuple (j' 0)))) (xOr (YO (x2 (xB (F' (j' 0) J') Zw) (xC (.int 2)) Ō)) (xOr (ğ (YO (Yb 1 (qP a) (F' (x2 (j' 0) (xC (.int 0)) Yo) J')))) (ğ (YO (Yb 1 (qP a) (F' (x2 (j' 0) (xC (.int 1)) Yo) J'))))))) (YF (xC (.bl false))) Y9) (YF (ĭ (x2 (x2 (j' 0) (xC (.int 1)) Yo) (xC (.int 0)) fGt) (x2 (Yb 2 (om a) (F' (x2 (j' 0) (xC (.int 0)) Yo) (F' (x2 (j' 0) (xC (.int 1)) Yo) J'))) (xC (.int 1)) Ý))))
def ou(a:Yl):XF:=(ZZ 1 (vQ a))
variable (P w K mg base a) in abbrev o9:=Fn P w K mg base "_law_is_fraction" 2 ["_law_found"] (Y4 K a.Ye 1 (ou a))
def uW(Y:Yz K mg a)(c:Gf K "_law_is_fraction" o7)(A0:tF P w K mg base a)(A1:pM P w K mg base a):o9 P w K mg base a :=
 à c Y λT F=>oh F uR rfl λ_ _ _ _ _ _ hr S=>(mh (pT (DW.dt (Js (yN (vL (Dt _ (l9 0)))) (Js (oP HF (nu Zz (ms (l9 0))) mB) (Js (yN (vL (mU A0 (ms (mP (l9 0) mB))))) (LH (yN (vL (mU A0 (ms (mP (l9 0) mB)))))))))) (mE (mY qi)) nK) (mE (mY (LQ (BF O3 (mP (l9 0) mB) mB) (LP (BF Ct (mU A1 (mq (mP (l9 0) mB) (ms (mP (l9 0) mB)))) mB))))))
abbrev rH:bN:=top 57
def yV:N' ["_law_book","_law_holder","_law_house","_law_caught_here","e","_law_found"] ["_law_book","_law_holder","_law_house"] (mw rH):=Zr
def rO(a:Yl):XS:=(W' (Yh 3 (xC .Ym)) (W' (Jx 4 a.cl (ī (AJ 3 (n8 a) (F' (j' 0) (F' (j' 1) (F' (j' 2) J'))))) (Yh 3 (j' 4))) (W' (Yh 5 (á (F' (vS a.cl (λc=>decide (c=a.YG)) (j' 3)) (F' (vS a.cl (λc=>decide (c=a.Yc)) (j' 3)) (F' (vS a.cl (λc=>decide (c=a.Yg)) (j' 3)) J'))))) (W' (ī (Zu (j' 5) (F' (vS a.cl (λ_=>false) (j' 3)) J'))) (YF (ć (j' 5)))))))
def o6(a:Yl):XF:=(ZZ 6 (rO a))
variable (P w K mg base a) in abbrev rV:=Fn P w K mg base "_law_caught" 10 ["_law_book","_law_holder","_law_house"] (Y4 K a.Ye 3 (o6 a))
def y8(Y:Yz K mg a)(c:Gf K "_law_caught" rH)(T2:T2z K a)(A0:vx P w K mg base a):rV P w K mg base a :=
 à c Y λT F=>oh F yV rfl λ_ _ _ _ _ _ hr S=>(mh (mO 3 GJ) (mh (QD rfl rfl rfl rfl (QC (QH A0 (mq (l9 0) (mq (l9 1) (ms (l9 2)))))) rfl T.Ĕ T.Ţ T2.tr S.nd rfl rfl (λ_=>(mE (mO 3 (l9 4))))) (mh (mO 5 (xr (mq (Ds rfl T.Y6 (l9 3) rfl T.Àg T2.k_Whole T2.Ą (Zf rfl)) (mq (Ds rfl T.Y6 (l9 3) rfl T.ĕ T2.k_NoHolder T2.ŧ (Zf rfl)) (ms (Ds rfl T.Y6 (l9 3) rfl T.Ĵ T2.k_NoHouse T2.ϐ (Zf rfl))))))) (mh (wU (xT (l9 5) (ms (KJ (l9 3) (vB T.ŕ (vB T.Ŕ (vB T.ĳ (vB T.ϧ (vB T.õ (vB T.ſ Eb)))))) T2.ka T2.na)))) (mE (mY (GM (l9 5))))))))
abbrev uu:bN:=top 58
def CI:N' ["_law_book","_law_persons","_law_model","_law_house","_law_by","_law_other","_law_some","_law_person","_law_one"] ["_law_book","_law_persons","_law_model","_law_house"] (mw uu):=Zr
def rR(a:Yl) :XS:=(W' (ü (j' 4) (j' 5) (Yb 3 (n8 a) (F' (j' 0) (F' (j' 5) (F' (j' 3) J'))))) (Ø (ğ (YO (Yb 1 (ou a) (F' (x2 (j' 4) (j' 5) Yo) J')))) (YF (xC (.bl false))) Y9))
def rQ(a:Yl) :XS:=(Ø (YO (x2 (x2 (j' 4) (j' 5) Yo) (Yb 1 (qm a) (F' (ZL (F' (ZT (F' (xB (F' (x2 (j' 5) (j' 3) Ý) J') ÿ) (F' (xC (.int 1)) J'))) (F' (Yb 3 (rC a) (F' (j' 2) (F' (j' 5) (F' (j' 4) J')))) J'))) J')) Ō)) (YF (xC (.bl false))) Y9)
def oI(a:Yl) :XS:=(Ø (xOr (ğ (YO (Yb 1 (ou a) (F' (j' 8) J')))) (YO (x2 (j' 8) (Yb 3 (rC a) (F' (j' 2) (F' (j' 7) (F' (j' 4) J')))) Ō))) (YF (xC (.bl false))) Y9)
def yn(a:Yl):XS:=(W' (Yh 4 Ź) (W' (Bz 2 (V' 5) (rR a)) (W' (Bz 2 (V' 5) (rQ a)) (W' (Yh 6 (pP (YK (j' 1)) [0,3] nQ (Yb 3 (n8 a) (F' (j' 1) (F' (j' 0) (F' (j' 2) J')))))) (W' (Z7 (GN (F' (j' 1) (F' (j' 6) J'))) (Zk 2 (Yj (V' 7) (Yj (V' 8) Zl))) (oI a)) (YF (x2 (Yb 1 (qm a) (F' (j' 6) J')) (ZT (F' (xC (.int 1)) (F' (xC (.int 1)) J'))) Ý)))))))
def uM(a:Yl):XF:=(ZZ 9 (yn a))
variable (P w K mg base a) in abbrev uK:=Fn P w K mg base "_law_from" 10 ["_law_book","_law_persons","_law_model","_law_house"] (Y4 K a.Ye 4 (uM a))
def CV(Y:Yz K mg a)(c:Gf K "_law_from" uu)(ZN:mg "zip"=Zb)(A0:vx P w K mg base a)(A1:tU P w K mg base a)(A2:o9 P w K mg base a)(A3:uJ P w K mg base a):uK P w K mg base a :=
 à c Y λT F=>oh F CI rfl λ_ _ _ _ _ _ hr S=>(mh (mO 4 HA) (mh (Do 2 (mT 5) (mh (yO (l9 4) (l9 5) (mU A0 (mq (l9 0) (mq (l9 5) (ms (l9 3)))))) (mE (pT (yN (vL (mU A2 (ms (mP (l9 4) (l9 5)))))) (mE (mY qi)) nK)))) (mh (Do 2 (mT 5) (mE (pT (oP HF (mP (l9 4) (l9 5)) (mU A1 (ms (qK (mq (qJ (mq (vq ĵ (ms (BF Ct (l9 5) (l9 3)))) (ms mB))) (ms (mU A3 (mq (l9 2) (mq (l9 5) (ms (l9 4))))))))))) (mE (mY qi)) nK))) (mh (tS (fr:=["_law_book","_law_house"]) (sB (l9 1)) (λ_ _ _ _ _=>(mU A0 (mq (l9 1) (mq (l9 0) (ms (l9 2))))))) (mh (qI (GI (mq (l9 1) (ms (l9 6)))) (sS (nr (mT 7) (nr (mT 8) qF))) (mE (pT (DW.dt (Js (yN (vL (mU A2 (ms (l9 8))))) (LH (oP HF (l9 8) (mU A3 (mq (l9 2) (mq (l9 7) (ms (l9 4))))))))) (mE (mY qi)) nK))) (mE (mY (BF Ct (mU A1 (ms (l9 6))) (qJ (mq mB (ms mB)))))))))))
abbrev vY:bN:=top 59
def D9:N' ["_law_persons","_law_model","_law_group_here","_law_holder","_law_house"] ["_law_persons","_law_model","_law_group_here","_law_holder","_law_house"] (mw vY):=Zr
def F5(a:Yl):XS:=(W' (Ø (YO (x2 (j' 2) (ZL J') Ō)) (YF (ZL (F' (xC (.bl true)) (F' (xC (.bl false)) (F' (xC (.bl false)) (F' (xC (.bl false)) J')))))) Y9) (W' (Ø (Ť (YO (x2 (j' 3) (j' 1) qh)) (YO (x2 (j' 3) (j' 0) qh))) (YF (ZL (F' (xC (.bl false)) (F' (xC (.bl true)) (F' (xC (.bl false)) (F' (xC (.bl false)) J')))))) Y9) (YF (ZL (F' (xC (.bl false)) (F' (xC (.bl false)) (F' (x2 (j' 4) (j' 1) qh) (F' (xC (.bl false)) J'))))))))
def wf(a:Yl):XF:=(ZZ 5 (F5 a))
variable (P w K mg base a) in abbrev we:=Fn P w K mg base "_law_due" 1 ["_law_persons","_law_model","_law_group_here","_law_holder","_law_house"] (Y4 K a.Ye 5 (wf a))
def Ef(Y:Yz K mg a)(c:Gf K "_law_due" vY):we P w K mg base a :=
 à c Y λT F=>oh F D9 rfl λ_ _ _ _ _ _ hr S=>(mh (pT (oP HF (l9 2) (qK wG)) (mE (mY (qK (mq qi (mq qi (mq qi (ms qi))))))) nK) (mh (pT (DW.dt (Qz (oP Ac (l9 3) (l9 1)) (NS (oP Ac (l9 3) (l9 0))))) (mE (mY (qK (mq qi (mq qi (mq qi (ms qi))))))) nK) (mE (mY (qK (mq qi (mq qi (mq (BF Ac (l9 4) (l9 1)) (ms qi)))))))))
abbrev L6:bN:=top 60
def Pm:N' ["_law_script","_law_purse_here","_law_book","_law_persons","_law_model","_law_group_here","_law_some","_law_k","_law_holder","_law_house"] ["_law_script"] (mw L6):=Zr
def Ag(a:Yl) :XS:=(W' (Yh 8 (x2 (j' 6) (Yb 2 (mH a) (F' (j' 1) (F' (xB (F' (j' 6) J') Zw) J'))) Yo)) (W' (Yh 9 (x2 (j' 6) (Yb 2 (mH a) (F' (j' 1) (F' (xB (F' (j' 6) J') Zw) J'))) Yo)) (Ø (YO (x2 (Yb 3 (o6 a) (F' (j' 2) (F' (j' 8) (F' (j' 9) J')))) (Yb 5 (wf a) (F' (j' 3) (F' (j' 4) (F' (j' 5) (F' (j' 8) (F' (j' 9) J')))))) Ō)) (YF (xC (.bl false))) Y9)))
def xu(a:Yl) :XS:=(Ø (ğ (YO (Yb 4 (uM a) (F' (j' 2) (F' (j' 3) (F' (j' 4) (F' (j' 9) J'))))))) (YF (xC (.bl false))) Y9)
def Jq(a:Yl):XS:=(W' (Yh 1 (Yb 1 (oX a) (F' (j' 0) J'))) (W' (ã (Yb 2 (qS a) (F' (j' 1) (F' (xC (.int 5)) J'))) (Zk 3 (Yj (V' 2) (Yj (V' 3) (Yj (V' 4) Zl))))) (W' (Yh 5 (Yb 1 (qR a) (F' (j' 4) J'))) (W' (Yh 6 (x2 (x2 (j' 3) (xB (F' (j' 4) J') m6) YH) (ZL (F' (xC (.str "nobody")) (F' (xC (.str "")) J'))) YH)) (W' (Z7 (Zn (F' (xC (.int 6)) J')) (V' 7) (Ag a)) (W' (Ø (YO (x2 (j' 5) (ZL J') Ō)) (YF (xC (.bl true))) Y9) (W' (Jf 4 (V' 9) (xu a)) (YF (xC (.bl true))))))))))
def BH(a:Yl):XF:=(ZZ 10 (Jq a))
def P7(T:Txt K mg a)(F:Î K "law" "law" L6 f fd)(A0:tH P w K mg base a)(A1:tL P w K mg base a)(A2:tK P w K mg base a)(A3:oA P w K mg base a)(A4:rV P w K mg base a)(A5:we P w K mg base a)(A6:uK P w K mg base a):YD P w K mg base (Y7 P w) 11 f fd ["_law_script"] (Y4 K a.Ye 1 (BH a)) :=
 oh F Pm rfl λ_ _ _ _ _ _ hr S=>(mh (mO 1 (mU A0 (ms (l9 0)))) (mh (Bp (mU A1 (mq (l9 1) (ms mB))) (sS (nr (mT 2) (nr (mT 3) (nr (mT 4) qF))))) (mh (mO 5 (mU A2 (ms (l9 4)))) (mh (mO 6 (n9 (n9 (l9 3) (nu (YU rfl) (ms (l9 4)))) (qK (mq Br (ms Br))))) (mh (qI (pG (ms mB)) (mT 7) (mh (mO 8 (mP (l9 6) (mU A3 (mq (l9 1) (ms (nu Zz (ms (l9 6)))))))) (mh (mO 9 (mP (l9 6) (mU A3 (mq (l9 1) (ms (nu Zz (ms (l9 6)))))))) (mE (pT (oP HF (mU A4 (mq (l9 2) (mq (l9 8) (ms (l9 9))))) (mU A5 (mq (l9 3) (mq (l9 4) (mq (l9 5) (mq (l9 8) (ms (l9 9)))))))) (mE (mY qi)) nK))))) (mh (pT (oP HF (l9 5) (qK wG)) (mE (mY qi)) nK) (mh (NX 4 (mT 9) (mE (pT (yN (vL (mU A6 (mq (l9 2) (mq (l9 3) (mq (l9 4) (ms (l9 9)))))))) (mE (mY qi)) nK))) (mE (mY qi)))))))))
end
def Sm(x:Str):Prop:=x.length<=9/\∀c∈x.cps.toList,c<128
def Sm.nm{x}(h:Sm x):Nm x:=⟨aI h.1 (Zf rfl),λc hc=>g8 (h.2 c hc) (Zf rfl)⟩
def Kp(x:Str):x.length=x.cps.toList.length:=by show x.cps.size=_;simp
def AC(x y:Str):(x++y).cps.toList=x.cps.toList++y.cps.toList:=PyProof.Rows.cps_toList_append x y
def NA:∀j,j<26->(b7 "abcdefghijklmnopqrstuvwxyz").cps.toList[j]?=Za (97+j):=by decide +kernel
def Qj{i}(h0:0<=i)(h1:i<26):È (b7 "abcdefghijklmnopqrstuvwxyz").cps.toList i=Za (97+i.toNat):=by
 have e:i=(i.toNat:Int):=by lia
 have:=nC (NA i.toNat (by lia));rw[<-e] at this;exact this
def JJ{ys:List Str}(h:∀y∈ys,y.length<=1):(ys.map (·.length)).sum<=ys.length:=by
 induction ys with
 |nil=>exact al _
 |cons y r ih =>
  have:=ih λz hz=>h z (ae _ hz);have:=h y ai;simp[am,fO,bx];lia
structure FrB(k:Nat)(v:Int)(q:Int×Int):Prop where
 low:ð q
 nn:0<=q.1
 le:q.1<=v*q.2
 bb:Bt k q.2
def MO{q}(h:0<q.2):(red q).2∣q.2:=by obtain⟨v,hv⟩:(aJ q.1 q.2:Int)∣q.2:=cq ..;have hg:0<aJ q.1 q.2:=bA _ (by lia);refine⟨(aJ q.1 q.2:Int),?_⟩;unfold red;simp only;rw[Int.ediv_mul_cancel (cq ..)]
def wW{p q}(hp:0<p.2)(hq:0<q.2):(oC p q).1*(p.2*q.2)=(p.1*q.2+q.1*p.2)*(oC p q).2:=(tY (q:=(p.1*q.2+q.1*p.2,p.2*q.2)) (bv hp hq)).2
def HK{k l}{p q}(hp:0<p.2)(hq:0<q.2)(bp:Bt k p.2)(bq:Bt l q.2):Bt (k+l) (oC p q).2 :=
 (bp.mul bq).dvd (Int.ne_of_gt (bv hp hq)) (MO (q:=(p.1*q.2+q.1*p.2,p.2*q.2)) (bv hp hq))
def vn{a b d:Int}(hd:0<d)(h:a*d<=b*d):a<=b:=jZ h hd
def zf{k:Nat}{v:Int}{g q:Int×Int}(hg:FrB k v g)(hq:ð q)(q0:0<q.1)(h:q.1*g.2<=g.1*q.2)(bq:Bt 97 q.2):FrB (k+97) v (oC g (-q.1,q.2)):=by
 have g0:=hg.low.1;have p0:=hq.1;have lq:ð (-q.1,q.2):=⟨hq.1,by have:=hq.2;unfold Ĝ aJ at *;simp[iK];exact this⟩;have lo:=Fh hg.low lq;have D0:0<g.2*q.2:=bv g0 p0;have ev:=wW (p:=g) (q:=(-q.1,q.2)) g0 p0;simp only at ev;generalize hr:oC g (-q.1,q.2)=r at *;have r0:=lo.1;refine⟨lo,?_,?_,?_⟩
 .apply vn D0;rw[ev,Int.zero_mul];refine iM ?_ (bG r0);rw[jx];lia
 .apply vn D0;rw[ev];have h1:g.1*q.2+-q.1*g.2<=v*g.2*q.2:=by have a1:g.1*q.2<=v*g.2*q.2:=aU hg.le (bG p0);have a2:0<=q.1*g.2:=iM (bG q0) (bG g0);rw[jx];lia
  have h2:=aU h1 (bG r0);have e:v*g.2*q.2*r.2=v*r.2*(g.2*q.2):=by simp[bh,fB,bT]
  rw[<-e];exact h2
 .rw[<-hr];exact HK g0 p0 hg.bb bq
def Ot{k:Nat}{v:Int}{g q:Int×Int}(hg:FrB k v g)(hq:ð q)(q0:0<q.1)(h:q.1<=v*q.2)(bq:Bt 97 q.2):FrB (k+97) (2*v) (oC g q)/\0<(oC g q).1:=by
 have g0:=hg.low.1;have p0:=hq.1;have lo:=Fh hg.low hq;have D0:0<g.2*q.2:=bv g0 p0;have ev:=wW (p:=g) (q:=q) g0 p0;have bt:=HK (p:=g) (q:=q) g0 p0 hg.bb bq;generalize hr:oC g q=r at *;have r0:=lo.1;have pos:0<r.1:=by
  have a1:0<=g.1*q.2:=iM hg.nn (bG p0);have a2:0<q.1*g.2:=bv q0 g0;have a3:0<(g.1*q.2+q.1*g.2)*r.2:=bv (by lia) r0;rw[<-ev] at a3;by_cases z:0<r.1
  .exact z
  .have:=i0 (show r.1<=0 by lia) (bG D0);lia
 refine⟨⟨lo,bG pos,?_,bt⟩,pos⟩;apply vn D0;rw[ev];have h1:g.1*q.2+q.1*g.2<=2*v*g.2*q.2:=by
  have a1:g.1*q.2<=v*g.2*q.2:=aU hg.le (bG p0);have a2:q.1*g.2<=v*q.2*g.2:=aU h (bG g0);have e1:v*q.2*g.2=v*g.2*q.2:=eV ..;have e2:2*v*g.2*q.2=2*(v*g.2*q.2):=by rw[bh 2,bh 2]
  rw[e2];lia
 have h2:=aU h1 (bG r0);have e:2*v*g.2*q.2*r.2=2*v*r.2*(g.2*q.2):=by simp[bh,fB,bT]
 rw[<-e];exact h2
def Hc{k:Nat}{v:Int}{g q:Int×Int}(hg:FrB k v g)(hq:ð q)(h:q.1*g.2<=g.1*q.2):q.1<=v*q.2:=by refine vn hg.low.1 (hJ h ?_);have:=aU hg.le (bG hq.1);rw[eV];exact this
def ŝ(c:Nat)(q:Int×Int):Prop:=FrB (194*c+2) (2^c:Nat) q
def ŝ.top{c}{q}(h:ŝ c q):Bt (195*c+2) q.1:=by
 have h1:=h.le;have h0:=h.nn;have hb:Bt (c+1) ((2^c:Nat):Int):=by unfold Bt;rw[iZ,kY];have:=cE c;lia
 have h2:q.1.natAbs<=(((2^c:Nat):Int)*q.2).natAbs:=by lia
 unfold Bt;apply aZ h2;rw[iL,iZ];have hb2:q.2.natAbs<2^(194*c+2):=h.bb;have:2^c*q.2.natAbs<2^c*2^(194*c+2):=Nat.mul_lt_mul_of_pos_left hb2 (cE c);rw[<-lI] at this;have e:c+(194*c+2)=195*c+2:=by lia
 rw[e] at this;exact this
def ŝ.sz{c}{q}(h:ŝ c q)(hc:c<=45):Sz q:=⟨h.low,h.top.mono (by lia),h.bb.mono (by lia)⟩
theorem ŝ.mono{c d}{q}(h:ŝ c q)(hc:c<=d):ŝ d q:=by refine⟨h.low,h.nn,hJ h.le ?_,h.bb.mono (by lia)⟩;refine aU ?_ (bG h.low.1);exact g9.mpr (cg (Zf rfl) hc)
def ÁJ(c):ŝ c (0,1):=⟨⟨Zf rfl,(rfl:aJ 0 1=1)⟩,Int.le_refl _,by rw[lL];exact Int.natCast_nonneg _,bt1 (by lia)⟩
def ÂN(c):ŝ c (1,1):=⟨⟨Zf rfl,(rfl:aJ 1 1=1)⟩,Zf rfl,by rw[lL];exact g9.mpr (cE c),bt1 (by lia)⟩
structure Ų(q:Int×Int):Prop where
 low:ð q
 bt:Bt 200 q.1
 bb:Bt 97 q.2
def Ų.sz{q}(h:Ų q):Sz q:=⟨h.low,h.bt.mono (Zf rfl),h.bb.mono (Zf rfl)⟩
def vJ{l}{n}(h:n∉l.map (·.1)):mL l n=(0,1):=by
 unfold mL nc;have:l.find? (λq=>decide (q.1=n))=none:=by rw[gy];exact λx hx z=>h (ar.mpr ⟨x,hx,Zf z⟩)
 rw[this];rfl
def rv(q:Int×Int):Rat:=aO q.1 q.2
def Lg{p q}(hp:0<p.2)(hq:0<q.2):rv (oC p q)=rv p+rv q:=by have h:=wW hp hq;have h2:0<(oC p q).2:=(tY (q:=(p.1*q.2+q.1*p.2,p.2*q.2)) (bv hp hq)).1.1;unfold rv;rw[k7 _ _ (by lia) (by lia),km (by lia) (by have:=bv hp hq;lia)];exact h
def Lf(q):rv (-q.1,q.2)=-rv q:=by unfold rv;rw[Rat.neg_divInt]
def mS:List Rat->Rat
 |[]=>0
 |x::l=>x+mS l
theorem wO:∀l m:List Rat,mS (l++m)=mS l+mS m
 |[],m=>by show mS m=0+mS m;rw[gY]
 |x::l,m=>by show x+mS (l++m)=x+mS l+mS m;rw[wO l m,Rat.add_assoc]
theorem EA{f g}{o}(h:∀n,n≠o->f n=g n):∀ns:List Str,ns.Nodup->mS (ns.map f)=if o∈ns then mS (ns.map g)+(f o-g o) else mS (ns.map g)
 |[],_=>rfl
 |n::ns,nd=>by
  obtain⟨n1,n2⟩:=aM.mp nd;have ih:=EA h ns n2;show f n+mS (ns.map f)=_;by_cases e:n=o
  .subst e;rw[Zd n1] at ih;rw[Zc ai,ih];show f n+mS (ns.map g)=g n+mS (ns.map g)+(f n-g n)
   grind
  .have m:o∈n::ns↔o∈ns:=⟨λz=>(ao.mp z).resolve_left λq=>e q.symm,ae _⟩;by_cases z:o∈ns
   .rw[Zc z] at ih;rw[Zc (m.mpr z),ih,h n e];show g n+(mS (ns.map g)+(f o-g o))=g n+mS (ns.map g)+(f o-g o);rw[Rat.add_assoc]
   .rw[Zd z] at ih;rw[Zd (λq=>z (m.mp q)),ih,h n e];rfl
def JA(l:Hl):Rat:=mS ((l.map (·.1)).map λn=>rv (mL l n))
def EB{l}(nd:(l.map (·.1)).Nodup)(o)(q):JA (oz l o q)=JA l+(rv q-rv (mL l o)):=by
 have h:∀n,n≠o->rv (mL (oz l o q) n)=rv (mL l n):=λn hn=>by rw[nJ,Zd hn]
 have ho:rv (mL (oz l o q) o)=rv q:=by rw[nJ,Zc rfl]
 have u:=EA h (l.map (·.1)) nd;unfold JA;rw[nZ];by_cases z:o∈l.map (·.1)
 .rw[Zc z] at u ⊢;rw[u,ho]
 .rw[Zd z] at u ⊢;rw[aA,wO,u,vJ z];show _+(rv (mL (oz l o q) o)+0)=_;have:rv (0,1)=0:=hZ 1;rw[ho,this]
  grind
structure On(D:Int)(q:Int×Int)(u:Int):Prop where
 low:ð q
 ev:q.1*D=u*q.2
def On.dvd{D}{q}{u}(h:On D q u):q.2∣D:=Dw h.low.2.symm ⟨u,by rw[h.ev,bT]⟩
def On.add{D}{p q}{u v}(h:On D p u)(g:On D q v):On D (oC p q) (u+v):=by
 have p0:=h.low.1;have q0:=g.low.1;have ev:=wW p0 q0;have pq:0<p.2*q.2:=bv p0 q0;refine⟨(tY (q:=(p.1*q.2+q.1*p.2,p.2*q.2)) pq).1,ej (a:=p.2*q.2) (by lia) ?_⟩;generalize oC p q=r at ev ⊢;have e1:=h.ev;have e2:=g.ev
 calc r.1*D*(p.2*q.2)=(r.1*(p.2*q.2))*D:=by rw[bh,bT D,<-bh]
  _=((p.1*q.2+q.1*p.2)*r.2)*D:=by rw[ev]
  _=((p.1*D)*q.2+(q.1*D)*p.2)*r.2:=by
   rw[bh,bT r.2 D,<-bh,Int.add_mul (p.1*q.2)]
   congr 2
   .rw[bh,bT q.2,<-bh]
   .rw[bh,bT p.2,<-bh]
  _=((u*p.2)*q.2+(v*q.2)*p.2)*r.2:=by rw[e1,e2]
  _=(u+v)*r.2*(p.2*q.2):=by
   have a1:u*p.2*q.2=u*(p.2*q.2):=bh ..;have a2:v*q.2*p.2=v*(p.2*q.2):=by rw[bh,bT q.2]
   rw[a1,a2,<-Int.add_mul,bh,bT (p.2*q.2),<-bh]
def On.neg{D}{q}{u}(h:On D q u):On D (-q.1,q.2) (-u) :=
 ⟨⟨h.low.1,by have:=h.low.2;unfold Ĝ aJ at *;simp[iK];exact this⟩,by show -q.1*D=-u*q.2;rw[jx,jx,h.ev]⟩
def On.scale{D}{q}{u}(h:On D q u)(k):On (D*k) q (u*k) :=
 ⟨h.low,by rw[<-bh,h.ev,bh,bT q.2,<-bh]⟩
def Nk(D):On D (0,1) 0:=⟨⟨Zf rfl,rfl⟩,by simp⟩
def P6(D):On D (1,1) D:=⟨⟨Zf rfl,rfl⟩,by show 1*D=D*1;lia⟩
def Nn{q}(h:ð q):On q.2 q q.1:=⟨h,rfl⟩
structure HR(c:Nat)(hl hm:Hl):Prop where
 q:∀n,mL hl n=mL hm n
 nm:∀n,n∈hl.map (·.1)↔0<(mL hl n).1
 n1:(hl.map (·.1)).Nodup
 n2:(hm.map (·.1)).Nodup
 l1:hl.length<=c+1
 l2:hm.length<=c+1
 fr:∀n,ŝ c (mL hl n)
 ex:∃n,0<(mL hl n).1
 sm:∀n∈hm.map (·.1),Sm n
 one:JA hm=1
 dv:∃(D:Int)(U:Str->Int),0<D/\Bt (97*c+1) D/\∀n,On D (mL hm n) (U n)
def Qs(c){o}(ho:Sm o):HR c [(o,1,1)] [(o,1,1)]:=by
 have g:∀n,mL [(o,1,1)] n=if n=o then(1,1) else(0,1):=λn=>by
  unfold mL nc;rw[bX];by_cases e:o=n
  .rw[show decide ((o,((1:Int),(1:Int))).1=n)=true from Zg e,Zc e.symm];rfl
  .rw[show decide ((o,((1:Int),(1:Int))).1=n)=false from Zh e,Zd λz=>e z.symm];rfl
 refine⟨λ_=>rfl,λn=>?_,by simp,by simp,by simp,by simp,λn=>?_,⟨o,by rw[g,Zc rfl];decide⟩,λn hn=>by rw[ay.mp hn];exact ho,by
  show rv (mL [(o,1,1)] o)+0=1;rw[g,Zc rfl,jb];exact Rat.divInt_self' (Zf rfl),1,λn=>if n=o then 1 else 0,Zf rfl,bt1 (by lia),λn=>by
   rw[g];by_cases e:n=o
   .rw[Zc e];show On 1 (1,1) (if n=o then 1 else 0);rw[Zc e];exact P6 1
   .rw[Zd e];show On 1 (0,1) (if n=o then 1 else 0);rw[Zd e];exact Nk 1⟩
 .rw[g];by_cases e:n=o
  .rw[Zc e];simp[e]
  .rw[Zd e];simp[e]
 .rw[g];by_cases e:n=o
  .rw[Zc e];exact ÂN c
  .rw[Zd e];exact ÁJ c
def HR.had{c}{hl hm}(h:HR c hl hm){n}(h0:0<(mL hm n).1):n∈hm.map (·.1):=by
 by_cases z:n∈hm.map (·.1)
 .exact z
 .rw[vJ z] at h0;exact absurd h0 (Zf rfl)
def Av{q}(h:ð q)(h0:q.1=0):q=(0,1):=by
 obtain⟨t,b⟩:=q;obtain⟨h1,h2⟩:=h;simp only at h0 h1 h2;subst h0;have e:b=1:=by have:aJ 0 b=1:=h2;rw[Int.gcd_zero_left] at this;lia
 rw[e]
def HR.Ϟ{c}{hl hm}(h:HR c hl hm){o1 o2}{q}(hq:Ų q)(so:Sm o2)(nt:¬pC hl o1 q):HR (c+1) (Z8 hl o1 o2 q) (Jp hm o1 o2 q):=by
 have q0:0<q.1:=by by_cases z:0<q.1;exact z;exact absurd (.inl z) nt
 have Si:q.1*(mL hl o1).2<=(mL hl o1).1*q.2:=by
  by_cases z:q.1*(mL hl o1).2>(mL hl o1).1*q.2
  .exact absurd (.inr z) nt
  .lia
 have R:=zf (h.fr o1) hq.low q0 Si hq.bb;have qv:=Hc (h.fr o1) hq.low Si;have S8:o1∈hl.map (·.1):=by
  rw[h.nm];by_cases z:0<(mL hl o1).1
  .exact z
  .have a1:(mL hl o1).1*q.2<=0:=i0 (by lia) (bG hq.low.1);have a2:0<q.1*(mL hl o1).2:=bv q0 (h.fr o1).low.1;lia
 have U7:o1∈hm.map (·.1):=h.had (by rw[<-h.q];exact(h.nm o1).mp S8);generalize hr:oC (mL hl o1) (-q.1,q.2)=r at *;have key:∃l1 m1:Hl,Z8 hl o1 o2 q=oz l1 o2 (oC (mL l1 o2) q)/\Jp hm o1 o2 q=oz m1 o2 (oC (mL m1 o2) q)/\(∀n,mL l1 n=mL m1 n)/\(∀n,n∈l1.map (·.1)↔0<(mL l1 n).1)/\(l1.map (·.1)).Nodup/\(m1.map (·.1)).Nodup/\l1.length<=c+1/\m1.length<=c+1/\(∀n,FrB (194*c+2+97) (2^c:Nat) (mL l1 n))/\(∀n∈m1.map (·.1),Sm n)/\JA m1+rv q=1/\∃(D:Int)(U:Str->Int),0<D/\Bt (97*(c+1)+1) D/\On D q (U cx)/\∀n,∃u,On D (mL m1 n) u:=by
  have gm:∀n,mL (oz hm o1 r) n=if n=o1 then r else mL hl n:=λn=>by rw[nJ,h.q]
  have lm:(oz hm o1 r).length<=c+1:=by have:=congrArg cD (nZ hm o1 r);rw[Zc U7,ac,ac] at this;rw[this];exact h.l2
  have UT:∀n,FrB (194*c+2+97) (2^c:Nat) (if n=o1 then r else mL hl n):=λn=>by
   by_cases e:n=o1
   .rw[Zc e];exact R
   .rw[Zd e];exact⟨(h.fr n).low,(h.fr n).nn,(h.fr n).le,(h.fr n).bb.mono (by lia)⟩
  have em:Jp hm o1 o2 q=oz (oz hm o1 r) o2 (oC (mL (oz hm o1 r) o2) q):=by unfold Jp;simp[<-h.q o1,hr]
  have smm:∀n∈(oz hm o1 r).map (·.1),Sm n:=λn hn=>by rw[nZ,Zc U7] at hn;exact h.sm n hn
  have Àc:JA (oz hm o1 r)+rv q=1:=by
   rw[EB h.n2,h.one,<-hr,Lg (q:=(-q.1,q.2)) (h.fr o1).low.1 hq.low.1,Lf,h.q]
   grind
  have dv1:∃(D:Int)(U:Str->Int),0<D/\Bt (97*(c+1)+1) D/\On D q (U cx)/\∀n,∃u,On D (mL (oz hm o1 r) n) u:=by
   obtain⟨D,U,d1,d2,d3⟩:=h.dv;have oq:On (D*q.2) q (q.1*D):=by rw[bT D];exact(Nn hq.low).scale D
   refine⟨D*q.2,λ_=>q.1*D,bv d1 hq.low.1,(d2.mul hq.bb).mono (by lia),oq,λn=>?_⟩;rw[nJ];by_cases e:n=o1
   .rw[Zc e,<-hr,h.q];exact⟨_,((d3 o1).scale q.2).add oq.neg⟩
   .rw[Zd e];exact⟨_,(d3 n).scale q.2⟩
  by_cases rz:r=(0,1)
  .have gl:∀n,mL (nW hl o1) n=if n=o1 then r else mL hl n:=λn=>by rw[qp,rz]
   refine⟨nW hl o1,oz hm o1 r,?_,em,λn=>by rw[gl,gm],λn=>?_,Dg _ h.n1,wB _ _ h.n2,aI (EU _ _) h.l1,lm,λn=>by rw[gl];exact UT n,smm,Àc,dv1⟩
   .unfold Z8;simp[hr,rz,if_true]
   .rw[zD,ba,gl,h.nm,decide_eq_true_iff];by_cases e:n=o1
    .rw[Zc e,rz];exact⟨λz=>absurd e z.2,λz=>absurd z (Zf rfl)⟩
    .rw[Zd e];exact⟨λz=>z.1,λz=>⟨z,e⟩⟩
  .have gl:∀n,mL (oz hl o1 r) n=if n=o1 then r else mL hl n:=λn=>nJ ..
   have rp:0<r.1:=by
    have:=R.nn;by_cases z:r.1=0
    .exact absurd (Av R.low z) rz
    .lia
   refine⟨oz hl o1 r,oz hm o1 r,?_,em,λn=>by rw[gl,gm],λn=>?_,wB _ _ h.n1,wB _ _ h.n2,?_,lm,λn=>by rw[gl];exact UT n,smm,Àc,dv1⟩
   .unfold Z8;simp[hr,rz,if_false]
   .rw[nZ,Zc S8,gl,h.nm];by_cases e:n=o1
    .rw[Zc e];exact⟨λ_=>rp,λ_=>by rw[e];exact(h.nm o1).mp S8⟩
    .rw[Zd e]
   .have:=congrArg cD (nZ hl o1 r);rw[Zc S8,ac,ac] at this;rw[this];exact h.l1
 obtain⟨l1,m1,es,em,gq,nm1,nd1,nd2,Â1,Â0,UT,sm1,Àc,D1,U1,d1,d2,oq,dm⟩:=key;obtain⟨U,up⟩:=Ot (UT o2) hq.low q0 qv hq.bb;have ev:(2*((2^c:Nat):Int))=((2^(c+1):Nat):Int):=by rw[kY,Int.natCast_mul,bT];rfl
 rw[es,em];refine⟨λn=>?_,λn=>?_,wB _ _ nd1,wB _ _ nd2,aI (Hg _ _ _) (by lia),aI (Hg _ _ _) (by lia),λn=>?_,⟨o2,by rw[nJ,Zc rfl];exact up⟩,λn hn=>?_,?_,?_⟩
 .rw[nJ,nJ,gq,gq]
 .rw[nJ,nZ];by_cases e:n=o2
  .rw[Zc e];refine⟨λ_=>up,λ_=>?_⟩;rw[e];by_cases z:o2∈l1.map (·.1)
   .rw[Zc z];exact z
   .rw[Zd z];exact aD _ (ay.mpr rfl)
  .rw[Zd e,<-nm1];by_cases z:o2∈l1.map (·.1)
   .rw[Zc z]
   .rw[Zd z,aW];exact⟨λy=>y.elim id λy=>absurd (ay.mp y) e,λy=>.inl y⟩
 .rw[nJ];by_cases e:n=o2
  .rw[Zc e];unfold ŝ;rw[<-ev];exact⟨U.low,U.nn,U.le,U.bb.mono (by lia)⟩
  .rw[Zd e];have:=UT n;refine⟨this.low,this.nn,hJ this.le ?_,this.bb.mono (by lia)⟩;exact aU (g9.mpr (cg (Zf rfl) (by lia))) (bG this.low.1)
 .rw[nZ] at hn;by_cases z:o2∈m1.map (·.1)
  .rw[Zc z] at hn;exact sm1 n hn
  .rw[Zd z] at hn;obtain y|y:=aW.mp hn
   .exact sm1 n y
   .rw[ay.mp y];exact so
 .rw[EB nd2,Lg (by rw[<-gq];exact(UT o2).low.1) hq.low.1]
  grind
 .have:∀n,∃u,On D1 (mL (oz m1 o2 (oC (mL m1 o2) q)) n) u:=λn=>by
   rw[nJ];by_cases e:n=o2
   .rw[Zc e];obtain⟨u,hu⟩:=dm o2;exact⟨_,hu.add oq⟩
   .rw[Zd e];exact dm n
  exact⟨D1,λn=>Classical.choose (this n),d1,d2,λn=>Classical.choose_spec (this n)⟩
def HR.Às{c}{hl hm}(h:HR c hl hm)(hc:c<=44){o1}{q}(hq:Ų q):ň hl o1 q:=by
 refine⟨aZ h.l1 (by lia),λn=>(h.fr n).sz (by lia),λnt=>?_⟩;have q0:0<q.1:=by by_cases z:0<q.1;exact z;exact absurd (.inl z) nt
 have Si:q.1*(mL hl o1).2<=(mL hl o1).1*q.2:=by
  by_cases z:q.1*(mL hl o1).2>(mL hl o1).1*q.2
  .exact absurd (.inr z) nt
  .lia
 have R:=zf (h.fr o1) hq.low q0 Si hq.bb;refine ŝ.sz (c:=c+1) ⟨R.low,R.nn,hJ R.le ?_,R.bb.mono (by lia)⟩ (by lia);exact aU (g9.mpr (cg (Zf rfl) (by lia))) (bG R.low.1)
def Hf{body:PV->XS}(l:List PV)(I:Nat->En->K'->Prop)(h:∀k q Z s,l[k]?=Za q->I k Z s->∃Yp s',body q Z s=.nx Yp s'/\I (k+1) Yp s'){Z:En}{s:K'}(h0:I 0 Z s):∃Yp s',nj body l Z s=.nx Yp s'/\I l.length Yp s':=by
 have main:∀r k (Z:En) s,k<=l.length->l.drop k=r->I k Z s->∃Yp s',nj body r Z s=.nx Yp s'/\I l.length Yp s':=by
  intro r;induction r with
  |nil =>
   intro k Z s hk e hI;have:=jJ hk (lh.mp e);subst this;exact⟨Z,s,rfl,hI⟩
  |cons q r ih =>
   intro k Z s hk e hI;have hq:l[k]?=Za q:=by
    have:=congrArg List.head? e;rw[List.head?_drop] at this
    simp_all
   obtain⟨Yp,s',h1,h2⟩:=h k q Z s hq hI;have e2:l.drop (k+1)=r:=by rw[<-List.tail_drop,e];rfl
   obtain⟨š,s2,h3,h4⟩:=ih (k+1) Yp s' ((aS.mp hq).1) e2 h2;refine⟨š,s2,?_,h4⟩;unfold nj
   simp_all
 exact main l 0 Z s (a6 _) rfl h0
def wP(n:Nat):(uT 0 n).length=n:=by simp[uT]
def JT{n k:Nat}{q:PV}(h:(uT 0 n)[k]?=Za q):k<n/\q=.int (k:Int):=by
 unfold uT at h;by_cases hk:k<n
 .simp_all
 .simp_all
def uY{body:PV->XS}(n:Nat)(I:Nat->En->K'->Prop)(h:∀(k:Nat) Z s,k<n->I k Z s->∃Yp s',body (.int (k:Int)) Z s=.nx Yp s'/\I (k+1) Yp s'){Z:En}{s:K'}(h0:I 0 Z s):∃Yp s',nj body (uT 0 n) Z s=.nx Yp s'/\I n Yp s':=by have:=Hf (uT 0 n) I (λk q Z s hq hI=>by obtain⟨h1,h2⟩:=JT hq;rw[h2];exact h k Z s h1 hI) h0;rw[wP] at this;exact this
def pf(s:K')(i:Int):PV.data s 12 (.int i)=Za (.int i):=rfl
def si(i j:Int):cC (.int i) (.int j)=(i==j):=rfl
theorem EZ:∀(l:List (Nat×Cell))(n:Nat)(c d:Cell),qw l n=Za c->qw (pE n d l) n=Za d
 |(k,e)::r,n,c,d,h=>by
  unfold qw at h;unfold pE;split at h
  .rename_i z;rw[Zc z];unfold qw;rw[Zc rfl]
  .rename_i z;rw[Zd z];unfold qw;rw[Zd z];exact EZ r n c d h
def nz{s:K'}{n:Nat}{c d:Cell}(h:s.get n=Za c):(s.set n d).get n=Za d:=EZ s.cs n c d h
def mX(s:K')(c:Cell)(k:Nat):(s.add c).get k=if s.nx=k then Za c else s.get k:=by rfl
def mC(s:K'){n k:Nat}(c:Cell)(h:k≠n):(s.set n c).get k=s.get k:=rn h
def FB(s:K')(c d:Cell){p:Nat}(h:s.nx≠p):(s.add d).set p c=(s.set p c).add d:=by unfold K'.set K'.add;simp[pE,h]
def zl(s:K')(c d:Cell):(s.add d).set s.nx c=s.add c:=by unfold K'.set K'.add;simp[pE]
def rZ(s:K')(n:Nat)(c d:Cell):(s.set n c).set n d=s.set n d:=by
 have:∀l,pE n d (pE n c l)=pE n d l:=by
  intro l;induction l with
  |nil=>rfl
  |cons q r ih =>
   obtain⟨k,e⟩:=q;by_cases h:k=n
   .simp[pE,h]
   .simp[pE,h,ih]
 unfold K'.set;simp[this]
def An(s:K')(n:Nat)(c:Cell)(h:s.get n=Za c):s.set n c=s:=by
 have:∀l,qw l n=Za c->pE n c l=l:=by
  intro l;induction l with
  |nil=>intro h;rfl
  |cons q r ih =>
   intro h;obtain⟨k,e⟩:=q;by_cases hk:k=n
   .simp[qw,hk] at h;simp[pE,hk,h]
   .simp[qw,hk] at h;simp[pE,hk,ih h]
 unfold K'.set;rw[this _ h]
def K'.bump(s:K'):K':=⟨s.nx+1,s.cs⟩
def N0(s:K')(d:Cell):(s.add d).del s.nx=K'.bump s:=by unfold K'.del K'.add K'.bump;simp[Dr]
def Kz(s:K')(k:Nat):(K'.bump s).get k=s.get k:=rfl
def Yv(s:K')(p:Nat):Prop:=∃x y,s.get p=Za (.lst [.int x,.int y])
def YB(s:K')(p:Nat)(x y:Int):K':=s.set p (.lst [.int x,.int y])
def Pw(s:K')(p:Nat)(x y:Int):(YB s p x y).nx=s.nx:=rfl
theorem Yv.YB{s:K'}{p:Nat}(h:Yv s p)(x y:Int):Yv (YB s p x y) p:=let⟨_,_,h⟩:=h;⟨x,y,Db h⟩
theorem Yv.add{s:K'}{p:Nat}(h:Yv s p)(c:Cell)(hp:p<s.nx):Yv (s.add c) p:=by obtain⟨x,y,h⟩:=h;exact⟨x,y,by rw[mX,Zd (by lia)];exact h⟩
def MU(s:K')(p:Nat)(x y x' y':Int)(d:Cell)(hp:p<s.nx):((YB s p x y).add d).set p (.lst [.int x',.int y'])=(YB s p x' y').add d:=by rw[FB _ _ _ (by rw[Pw];lia)];unfold YB;rw[rZ]
def Of{c:XT}{e:XE}{cap:En}(l:List PV)(I:Nat->List PV->K'->Prop)(h:∀k q vs s,l[k]?=Za q->I k vs s->(∃s1,c (Za q::cap) s=.ok false s1/\I (k+1) vs s1)\/(∃s1 v s2,c (Za q::cap) s=.ok true s1/\e (Za q::cap) s1=.ok v s2/\I (k+1) (vs++[v]) s2)){s:K'}(h0:I 0 [] s) :
  ∃vs s',oi c e cap l s=.ok vs s'/\I l.length vs s':=by
 have main:∀r k vs s,k<=l.length->l.drop k=r->I k vs s->∃ws s',oi c e cap r s=.ok ws s'/\I l.length (vs++ws) s':=by
  intro r;induction r with
  |nil =>
   intro k vs s hk e hI;have:=jJ hk (lh.mp e);subst this;exact⟨[],s,rfl,by simpa using hI⟩
  |cons q r ih =>
   intro k vs s hk e' hI;have hq:l[k]?=Za q:=by
    have:=congrArg List.head? e';rw[List.head?_drop] at this
    simp_all
   have e2:l.drop (k+1)=r:=by rw[<-List.tail_drop,e'];rfl
   have Wi:=(aS.mp hq).1;rcases h k q vs s hq hI with⟨s1,h1,h2⟩|⟨s1,v,s2,h1,h2,h3⟩
   .obtain⟨ws,s',h3,h4⟩:=ih (k+1) vs s1 Wi e2 h2;exact⟨ws,s',by rw[oU,h1];exact h3,h4⟩
   .obtain⟨ws,s',h4,h5⟩:=ih (k+1) (vs++[v]) s2 Wi e2 h3;refine⟨v::ws,s',by rw[oU,h1];simp[h2,h4],by simpa using h5⟩
 obtain⟨ws,s',h1,h2⟩:=main l 0 [] s (a6 _) rfl h0;exact⟨ws,s',h1,by simpa using h2⟩
theorem qq{c:XT}{e:XE}{cap:En}{s:K'}(p:PV->Bool)(f:PV->PV):∀(l:List PV),(∀q∈l,c (Za q::cap) s=.ok (p q) s)->(∀q∈l,p q=true->e (Za q::cap) s=.ok (f q) s)->oi c e cap l s=.ok ((l.filter p).map f) s
 |[],_,_=>rfl
 |q::l,h1,h2=>by
  rw[oU,h1 q ai];have ih:=qq p f l (λx hx=>h1 x (ae _ hx)) (λx hx=>h2 x (ae _ hx));cases hp:p q with
  |false=>simp[ih,hp]
  |true=>simp[ih,hp,h2 q ai hp]
def pj{n:Int}(h0:0<n)(h1:n<2^64):Bt 9000 n:=by
 have:Bt 64 n:=by unfold Bt;lia
 exact this.mono (Zf rfl)
def Ei:(b7 "abcdefghijklmnopqrstuvwxyz").length<=100000:=Zf rfl
def sj(a:Yl)(s:K')(p:Nat)(n:Int)(h:Yv s p)(h0:0<n)(h1:Bt 9000 n):∃r x y,0<=r/\r<n/\mH a [.ref p,.int n] s=.ok (.int r) (s.set p (.lst [.int x,.int y])):=by
 obtain⟨x,y,h⟩:=h;have hd:zY n:=⟨h0,h1⟩;by_cases hx:x=0
 .refine⟨y%n,y/n,y,eT _ (by lia),dP _ h0,?_⟩;subst hx;simp[į,rg,m6,vb,mH,uE,h,È,ũ,pf,si,hd,h0,nz h,rZ]
 .refine⟨x%n,x/n,y,eT _ (by lia),dP _ h0,?_⟩;simp[į,rg,m6,vb,mH,uE,h,È,ũ,pf,si,hd,h0,hx]
def KQ(l:List Int)(lo hi:Option Int):∃k:List Int,Dv (l.map PV.int) lo hi=k.map PV.int/\k.length<=l.length/\∀x∈k,x∈l:=by
 refine⟨(l.drop (HT.Y5 l.length 0 lo)).take (HT.Y5 l.length l.length hi-HT.Y5 l.length 0 lo),?_,?_,λx hx=>lg (lf hx)⟩
 .unfold Dv;simp[List.map_drop]
 .rw[eC,gL];lia
def HH{l:List Int}{i:Int}(h0:0<=i)(h1:i<l.length):∃x∈l,È (l.map PV.int) i=Za (.int x):=by
 obtain⟨j,rfl⟩:∃j:Nat,i=j:=⟨i.toNat,by lia⟩;have hj:j<l.length:=by lia
 exact⟨l[j],cR hj,nC (by simp[hj])⟩
def Kl(a:Yl)(s:K')(c:Int)(k:Nat)(hc:cy c<=1048576)(hk:k<64):∃v,qQ a [.int c,.int k] s=.ok (.int v) s:=by have m1:jE c c:=Qh (by lia) (by lia);have m2:qz 3 c:=.inr (.inl ⟨Zf rfl,Zf rfl⟩);have m3:qz 7919 k:=.inr (.inl ⟨Zf rfl,Zf rfl⟩);have m4:qz (c*c+3*c+7919*k+1) 48271:=.inr (.inr ⟨Zf rfl,Zf rfl⟩);generalize hz:((c*c+3*c+7919*k+1)*48271)%2147483629=z;have m5:qz z z:=.inr (.inl ⟨by lia,by lia⟩);simp[į,qQ,wu,F7,m1,m2,m3,m4,hz,m5]
def JX(a:Yl)(s:K')(l:List Int)(hl:l.length<=63)(hw:Att.Ř l):∃x y,oX a [.seq (l.map .int)] s=.ok (.ref s.nx) (s.add (.lst [.int x,.int y])):=by
 obtain⟨c,hc,Re,Uo⟩:=KQ l Zb (Za 63);have hsz:c.length<=99999:=by lia
 have Uk:(0:Int)<c.length+1:=by lia
 have h2:2<=aH:=Zf rfl;have hw2:∀x∈c++[0],cy x<=1048576:=λx hx=>by
  obtain z|z:=aW.mp hx
  .exact hw x (Uo x z)
  .rw[ay.mp z];decide
 obtain⟨Yp,s',Te,rfl,v,k,rfl⟩:=uY (body:=mV (V' 3) (qV a)) 64
  (λ_ Z t=>t=s/\∃v k,Z=[Za (.seq (l.map .int)),Za (.lst ((c++[0]).map .int)),Za (.int v),k])
  (λk Z t hk hI=>by obtain⟨rfl,v,k',rfl⟩:=hI;obtain⟨x,hxm,hx⟩:=HH (l:=c++[0]) (i:=k%(c.length+1)) (eT _ (by lia)) (by have:=dP k Uk;simpa using this);obtain⟨u,hu⟩:=Kl a t x k (hw2 x hxm) hk;have m3:qz v 2147483587:=.inr (.inr ⟨Zf rfl,Zf rfl⟩);refine⟨_,_,?_,rfl,v*2147483587+u,Za (.int k),rfl⟩;simp[aA,am,cP] at hx;simp[į,rg,m6,vb,mV,qV,hx,m3,Uk,hu]) ⟨rfl,1,Zb,rfl⟩
 obtain⟨x0,_,Vi⟩:=HH (l:=c++[0]) (i:=0) (by lia) (by simp);simp[aA,am,cP] at Vi Te;generalize hab:(if x0<0 then -x0 else x0)=x1 at *;by_cases h18:(1000000000000000000:Int)<=x1
 .refine⟨x1,v,?_⟩;simp[į,rg,m6,vb,oX,tw,hc,hsz,Te,Vi,hab,h18,h2]
 .refine⟨v,v,?_⟩;simp[į,rg,m6,vb,oX,tw,hc,hsz,Te,Vi,hab,h18,h2]
structure Â3(p q:Int×Int):Prop where
 p0:0<p.2
 q0:0<q.2
 b:Bt 4400 p.2/\Bt 4400 q.2
 t:Bt 9000 p.1/\Bt 9000 q.1
def sf{i j:Int}(h:Bt 9000 i)(g:Bt 9000 j):qz i j:=.inl ⟨h.mono (by decide),g.mono (by decide)⟩
def C6(a:Yl)(s:K'):∀(k:Nat)(t b:Int),0<=t->0<=b->b.toNat<=k->∃n t',m8 (YO (x2 (j' 1) (xC (.int 0)) fGt)) (oV a) n [Za (.int t),Za (.int b)] s=.nx [Za (.int t'),Za (.int 0)] s/\0<=t'/\t'.natAbs=aJ t b:=by
 intro k;induction k with
 |zero =>
  intro t b ht h0 hk;have:b=0:=by lia
  subst this;refine⟨1,t,?_,ht,by simp[aJ]⟩;unfold m8;simp[į,rg,m6,vb]
 |succ k ih =>
  intro t b ht h0 hk;by_cases hb:b=0
  .subst hb;refine⟨1,t,?_,ht,by simp[aJ]⟩;unfold m8;simp[į,rg,m6,vb]
  .have hp:0<b:=by lia
   have m0:=eT t hb;have m1:=dP t hp;obtain⟨n,t',h1,h3,h2⟩:=ih b (t%b) h0 m0 (by lia);refine⟨n+1,t',?_,h3,by rw[h2];exact E1 t b hp⟩;have hs:oV a [Za (.int t),Za (.int b)] s=.nx [Za (.int b),Za (.int (t%b))] s:=by simp[į,rg,m6,vb,oV,hp]
   unfold m8;simp[į,rg,m6,vb,hp,hs,h1]
def zX(a:Yl)(s:K')(t b:Int):om a [.int t,.int b] s=.ok (.int (aJ t b)) s:=by
 have e1:(if t<0 then -t else t)=t.natAbs:=by split<;>lia
 have e2:(if b<0 then -b else b)=b.natAbs:=by split<;>lia
 obtain⟨n,t',h1,h3,h2⟩:=C6 a s (b.natAbs:Int).toNat t.natAbs b.natAbs (by lia) (by lia) (al _);have hw:=xD h1 (by simp);simp[į,om,ue,e1,e2,hw];have:aJ t.natAbs b.natAbs=aJ t b:=by simp[aJ]
 rw[<-this,<-h2];lia
def xl(a:Yl)(s:K')(t b:Int)(hb:0<b)(hB:Bt 9000 b):nv a [.int t,.int b] s=.ok (ZJ (red (t,b))) s:=by
 have hg:0<aJ t b:=bA _ (by lia);have hd:zY (aJ t b:Int):=⟨by lia,hB.dvd (by lia) (cq ..)⟩;have e:=zX a s t b;have hn:¬b<0:=by lia
 simp[į,nv,yk,e,hd,hn,ZJ,red]
def Bv{n:Int}{k:Nat}(h:n.natAbs<2^k)(hk:k<=9000):Bt 9000 n:=ax h (cg (Zf rfl) hk)
def six{r:Int}(h0:0<=r)(h1:r<6):r=0\/r=1\/r=2\/r=3\/r=4\/r=5:=by lia
def BX{s:K'}{p:Nat}{x y:Int}(h:Yv s p):Yv (s.set p (.lst [.int x,.int y])) p:=by obtain⟨u,v,h⟩:=h;exact⟨x,y,nz h⟩
def Ix(a:Yl)(s:K')(p:Nat)(h:Yv s p):∃v x y,oa a [.ref p] s=.ok (.int v) (s.set p (.lst [.int x,.int y]))/\Bt 100 v:=by
 obtain⟨r,x,y,r0,r1,e1⟩:=sj a s p 6 h (Zf rfl) (Bv (k:=4) (Zf rfl) (by decide));have h2:=BX (x:=x) (y:=y) h;obtain⟨m,hm,hm0,hmB,RY⟩:∃m:Int,È [PV.int 10,.int 10,.int 100,.int 3,.int (10^6),.int (10^20)] r=Za (.int m)/\0<m/\(2*m).natAbs<2^100/\True:=by
  obtain z|z|z|z|z|z:=six r0 r1<;>subst z
  .exact⟨10,rfl,by decide,by decide,trivial⟩
  .exact⟨10,rfl,by decide,by decide,trivial⟩
  .exact⟨100,rfl,Zf rfl,Zf rfl,trivial⟩
  .exact⟨3,rfl,by decide,Zf rfl,trivial⟩
  .exact⟨10^6,rfl,Zf rfl,Zf rfl,trivial⟩
  .exact⟨10^20,rfl,Zf rfl,Zf rfl,trivial⟩
 obtain⟨r',x',y',q0,q1,e2⟩:=sj a (s.set p (.lst [.int x,.int y])) p (2*m) h2 (by lia) (Bv hmB (Zf rfl));have m2:qz 2 m:=.inr (.inl ⟨Zf rfl,Zf rfl⟩);have d3:zY 3:=⟨by decide,Bv (k:=4) (Zf rfl) (by decide)⟩;rw[rZ] at e2;refine⟨r'-m/3,x',y',?_,by unfold Bt;lia⟩;have To:È [PV.int 10,.int 10,.int 100,.int 3,.int 1000000,.int 100000000000000000000] r=Za (.int m):=hm;simp[į,rg,m6,vb,oa,vK,e1,To,e2,m2,d3]
def ÂO{r:Int}(h0:0<=r)(h1:r<5):r=0\/r=1\/r=2\/r=3\/r=4:=by lia
structure ų(q q':Int×Int):Prop where
 low:ð q'
 pos:0<q'.1
 le:q'.1*q.2<=q.1*q'.2
def Ka{q:Int×Int}(h:ð q)(h0:0<q.1){m l:Int}(m0:0<m)(ml:m<=l):ų q (red (q.1*m,q.2*l)):=by
 have hl:0<l:=by lia
 have hb:=bv h.1 hl;obtain⟨lo,ev⟩:=tY (q:=(q.1*m,q.2*l)) hb;have b0:=lo.1;generalize red (q.1*m,q.2*l)=z at *;have p1:=bv (bv h0 m0) b0;have p2:0<z.1:=by
  rw[<-ev] at p1;by_cases z0:0<z.1
  .exact z0
  .have:=aU (show z.1<=0 by lia) (bG hb)
   grind
 refine⟨lo,p2,?_⟩;refine jZ ?_ hl;have e1:z.1*q.2*l=z.1*(q.2*l):=by rw[bh]
 have e2:q.1*z.2*l=q.1*l*z.2:=by grind
 simp_all
def Na(a:Yl)(s:K')(p:Nat)(h:Yv s p)(q:Int×Int)(hq:ð q)(h0:0<q.1)(hB:Bt 8900 q.2):∃q' x y,ų q q'/\qx a [.ref p,ZJ q] s=.ok (ZJ q') (s.set p (.lst [.int x,.int y])):=by
 obtain⟨r,x,y,r0,r1,e1⟩:=sj a s p 5 h (Zf rfl) (Bv (k:=4) (Zf rfl) (Zf rfl));have h2:=BX (x:=x) (y:=y) h;by_cases hz:r=0
 .subst hz;refine⟨q,x,y,⟨hq,h0,Int.le_refl _⟩,?_⟩;simp[į,rg,m6,vb,qx,uD,e1,pf,si,ZJ]
 .obtain⟨l,hl,l1,lB,_⟩:∃l:Int,È [PV.int 2,.int 3,.int 7,.int (10^6)] (r-1)=Za (.int l)/\1<l/\l<=10^6/\True:=by
   obtain z|z|z|z|z:=ÂO r0 r1<;>subst z
   .exact absurd rfl hz
   .exact⟨2,rfl,Zf rfl,Zf rfl,trivial⟩
   .exact⟨3,rfl,Zf rfl,Zf rfl,trivial⟩
   .exact⟨7,rfl,Zf rfl,Zf rfl,trivial⟩
   .exact⟨10^6,rfl,Zf rfl,Zf rfl,trivial⟩
  obtain⟨r',x',y',s0,s1,e2⟩:=sj a (s.set p (.lst [.int x,.int y])) p (l-1) h2 (by lia) (Bv (k:=20) (by lia) (Zf rfl));rw[rZ] at e2;have m1:qz q.1 (1+r'):=.inr (.inr ⟨by lia,by lia⟩);have m2:qz q.2 l:=.inr (.inr ⟨by lia,by lia⟩);have bB:Bt 9000 (q.2*l):=(hB.mul (show Bt 20 l by show l.natAbs<1048576;lia)).mono (Zf rfl);have em:=xl a (s.set p (.lst [.int x',.int y'])) (q.1*(1+r')) (q.2*l) (bv hq.1 (by lia)) bB;refine⟨red (q.1*(1+r'),q.2*l),x',y',Ka hq h0 (by lia) (by lia),?_⟩;have Vs:È [PV.int 2,.int 3,.int 7,.int 1000000] (r-1)=Za (.int l):=hl;have q1:È [PV.int q.1,.int q.2] 0=Za (.int q.1):=rfl;have q2:È [PV.int q.1,.int q.2] 1=Za (.int q.2):=rfl;simp[į,rg,m6,vb,qx,uD,e1,pf,si,ZJ,hz,Vs,e2,m1,m2,q1,q2,em]
def Da{x y:Str}(h:x.cps.toList=y.cps.toList):x=y:=by
 obtain⟨a⟩:=x
 simp_all
def Ž(cs:List Nat):Str:=⟨cs.toArray⟩
def re(cs):(Ž cs).cps.toList=cs:=by simp[Ž]
def Hd(cs):(Ž cs).length=cs.length:=by rw[Kp,re]
theorem zI:∀cs:List Nat,Str.join (b7 "") (cs.map λc=>(⟨#[c]⟩:Str))=Ž cs
 |[]=>rfl
 |[c]=>rfl
 |c::d::r=>by have ih:=zI (d::r);have e:Str.join (b7 "") ((c::d::r).map λc=>(⟨#[c]⟩:Str))=(⟨#[c]⟩:Str)++b7 ""++Str.join (b7 "") ((d::r).map λc=>(⟨#[c]⟩:Str)):=rfl;rw[e,ih];apply Da;rw[AC,AC,re,re];rfl
def FZ(cs):Txt.join (b7 "") (cs.map λc=>(⟨#[c]⟩:Str))=Ž cs:=(StrLaws.glued_eq_join _ _).trans (zI cs)
noncomputable def DC(vs:List Int)(j:Nat):Int:=(vs[j]?).getD 0
def p8(vs:List Int)(d k j:Nat):Int:=DC vs j+5*(k:Int)*(if j=d then 1 else 0)
def ę(vs:List Int)(d k:Nat):List Nat:=(br vs.length).map λj=>97+(p8 vs d k j%26).toNat
def wY(vs)(d k):(ę vs d k).length=vs.length:=by simp[ę]
def Mr(vs)(d k):∀c∈ę vs d k,97<=c/\c<=122:=λc hc=>by
 obtain⟨j,_,rfl⟩:=ar.mp hc
 grind
def K2(vs)(hd:d<vs.length)(k):(ę vs d k)[d]?=Za (97+((DC vs d+5*(k:Int))%26).toNat):=by
 unfold ę p8
 simp_all
def Į(vs:List Int)(d:Nat)(fl:Bool)(k:Nat):Str:=Ž (ę vs d k++if fl=true/\k%2=1 then [120] else [])
def Mq(hd:d<vs.length)(hi:i<10)(hj:j<10)(h:Į vs d fl i=Į vs d fl j):i=j:=by
 have e:ę vs d i++(if fl=true/\i%2=1 then [120] else [])=ę vs d j++(if fl=true/\j%2=1 then [120] else []):=by have:=congrArg (λx:Str=>x.cps.toList) h;simpa[Į,re] using this
 have e2:=congrArg (λl:List Nat=>l[d]?) e;rw[da (by rw[wY];exact hd),da (by rw[wY];exact hd),K2 vs hd,K2 vs hd] at e2;have e3:=bO e2;omega
def K1(h0:0<vs.length)(h7:vs.length<=7)(d)(fl)(k):Sm (Į vs d fl k)/\yh (Į vs d fl k)=true:=by
 have hl:(Į vs d fl k).length=vs.length+(if fl=true/\k%2=1 then 1 else 0):=by unfold Į;rw[Hd,aT,wY];split<;>rfl
 have hc:∀c∈(Į vs d fl k).cps.toList,97<=c/\c<=122:=λc hc=>by
  unfold Į at hc;rw[re] at hc;obtain z|z:=aW.mp hc
  .exact Mr vs d k c z
  .grind
 have Vr:1<=(Į vs d fl k).length/\(Į vs d fl k).length<=8:=by rw[hl];split<;>lia
 refine⟨⟨by lia,λc h=>by have:=hc c h;lia⟩,?_⟩;unfold yh;rw[Zg Vr.1,Zg Vr.2];simp only[iT,dH];intro c h;have:=hc c h;simp[low];lia
theorem z9(g:Nat->Str->Str):∀(ws:List Str)(k:Nat),(∀j w,w∈ws->e [Za (.int (j:Nat)),Za (.str w)] s=.ok (.str (g j w)) s)->nG nQ e [] (sA k (ws.map .str)) s=.ok (((br ws.length).map λi=>g (k+i) ((ws[i]?).getD cx)).map .str) s
 |[],k,_=>rfl
 |w::r,k,h=>by have ih:=z9 g r (k+1) λj w hw=>h j w (ae _ hw);show nG nQ e [] (.tup [.int k,.str w]::sA (k+1) (r.map .str)) s=_;rw[yt];have h0:=h k w ai;simp only[DJ,nQ,h0,ih];simp[kM,Function.comp_def,ky,Nat.add_comm 1]
def Le{f g:XS}{Z Yp:En}{s s':K'}(h:f Z s=.nx Yp s'):W' f g Z s=g Yp s':=by unfold W';rw[h]
def vf{α β:Type}(v:α)(s:K')(f:α->K'->Out β):(Out.ok v s).bind f=f v s:=rfl
def Âz(n:Nat):-(2^62)<=(n:Int):=by grind
def ÂI{n:Nat}(hn:n<1000000):(n:Int)<2^62:=by grind
def MN{fa:XA}{Z:En}{s s1:K'}{j:Int}(h:fa Z s=.ok [.int j] s1):Zn fa Z s=if -(2^62)<=j/\j<2^62 then Out.ok (uT 0 j.toNat) s1 else Out.bad:=by unfold Zn;rw[h,vf]
def tX{fa:XA}{Z:En}{s s1:K'}{n:Nat}(h:fa Z s=.ok [.int n] s1)(hn:n<1000000):Zn fa Z s=.ok (uT 0 n) s1:=by rw[MN h,Zc ⟨Âz n,ÂI hn⟩,Int.toNat_natCast]
def qH{fi:XA}{y:XG}{body:XS}{Z Yp:En}{s s1 s':K'}{l:List PV}(h1:fi Z s=.ok l s1)(h2:nj (mV y body) l Z s1=.nx Yp s'):Z7 fi y body Z s=.nx Yp s':=by unfold Z7;rw[h1];simp[Out.so];rw[h2];rfl
def qG{fi:XA}{ix:List Nat}{c:XT}{e:XE}{Z:En}{s s1 s2:K'}{l vs:List PV}(h1:fi Z s=.ok l s1)(hl:l.length<=100000)(h2:oi c e (nS ix Z) l s1=.ok vs s2):pP fi ix c e Z s=.ok (.lst vs) s2:=by unfold pP;rw[h1];simp[Out.bind,hl,if_true];rw[h2]
def AM{f g:XS}{Z:En}{s s':K'}{v:PV}(h:f Z s=.rt v s'):W' f g Z s=.rt v s':=by unfold W';rw[h]
def mM{f:XE}{i:Nat}{Z:En}{s s':K'}{v:PV}(h:f Z s=.ok v s'):Yh i f Z s=.nx (Z.set i (Za v)) s':=by unfold Yh;rw[h];rfl
def mK{f g:XE}{F:PV->PV->K'->Out PV}{Z:En}{s s1 s2:K'}{v w:PV}(h1:f Z s=.ok v s1)(h2:g Z s1=.ok w s2):x2 f g F Z s=F v w s2:=by unfold x2;rw[h1];simp[Out.bind];rw[h2]
def mf{f:XE}{fa:XA}{Z:En}{s s1 s2:K'}{v:PV}{vs:List PV}(h1:f Z s=.ok v s1)(h2:fa Z s1=.ok vs s2):F' f fa Z s=.ok (v::vs) s2:=by unfold F';rw[h1];simp[Out.bind];rw[h2]
def qW{fa:XA}{Z:En}{s s1:K'}{vs:List PV}(h1:fa Z s=.ok vs s1)(hl:vs.length<=100000:=by exact fE rfl):ZT fa Z s=.ok (.tup vs) s1:=by unfold ZT;rw[h1];exact Zc hl
def qM{c:XT}{A B:XS}{Z:En}{s s1:K'}(h:c Z s=.ok false s1):Ø c A B Z s=B Z s1:=by unfold Ø;rw[h];rfl
def tT{f:XE}{fa:XA}{Z:En}{s s1 s2:K'}{k m:Nat}{D:XF}{pp:List Str}{L:List Ent}{vs:List PV}(h1:f Z s=.ok (.ref k) s1)(h2:s1.get k=Za (.book pp L))(h3:fa Z s1=.ok vs s2)(h4:vs.length+1=m):Ĭ m D f fa Z s=D (.ref k::vs) s2:=by
 unfold Ĭ;rw[h1];simp[Out.bind,h2]
 simp_all
def rN{fa:XA}{Z:En}{s s1:K'}{vs:List PV}(h1:fa Z s=.ok vs s1)(hl:vs.length<=100000:=by exact fE rfl):ZL fa Z s=.ok (.lst vs) s1:=by unfold ZL;rw[h1];exact Zc hl
def mJ{D:XF}{fa:XA}{Z:En}{s s1:K'}{vs:List PV}{n:Nat}{o:Out PV}(h1:fa Z s=.ok vs s1)(hn:vs.length=n)(h2:D vs s1=o):Yb n D fa Z s=o:=by
 unfold Yb;rw[h1];simp[Out.bind]
 grind
def ot{i:Nat}{u:XS}{q:PV}{Z:En}{s:K'}:mV (V' i) u q Z s=u (Z.set i (Za q)) s:=rfl
def wa{c:XT}{A B:XS}{Z:En}{s s1:K'}(h:c Z s=.ok true s1):Ø c A B Z s=A Z s1:=by unfold Ø;rw[h];rfl
def uc{f:XE}{Z:En}{s s':K'}{v:PV}(h:f Z s=.ok v s'):ī f Z s=.nx Z s':=by unfold ī;rw[h];rfl
def nT{f:XE}{Z:En}{s s':K'}{v:PV}(h:f Z s=.ok v s'):YF f Z s=.rt v s':=by unfold YF;rw[h];rfl
def Bw{fa:XA}{F:List PV->K'->Out PV}{Z:En}{s s1:K'}{vs:List PV}(h1:fa Z s=.ok vs s1):xB fa F Z s=F vs s1:=by unfold xB;rw[h1];rfl
noncomputable def abc:Str:="abcdefghijklmnopqrstuvwxyz"
def EK(n:Nat):uT 0 n=(br n).map λk=>PV.int (k:Nat):=by
 unfold uT
 grind
abbrev nE(p m:Nat)(vs:List Int)(d x:Nat)(u v:Option PV):En:=[Za (.ref p),Za (.int (m:Nat)),Za (.str abc),Za (.int (vs.length:Nat)),Za (.lst (vs.map .int)),Za (.int (d:Nat)),Za (.ref x),u,v]
def Iz(a:Yl)(T:K')(p m:Nat)(vs:List Int)(h0:0<vs.length)(h7:vs.length<=7)(d:Nat)(hd:d<vs.length)(ws:List Str)(hw:ws.length<100)(k:Nat)(hk:k<100)(u v:Option PV) :
  mV (V' 7) (oR a) (.int (k:Nat)) (nE p m vs d T.nx u v) (T.add (.lst (ws.map .str))) =
   .nx (nE p m vs d T.nx (Za (.int (k:Nat))) (Za (.lst (((br vs.length).map (p8 vs d k)).map .int)))) (T.add (.lst ((ws++[Ž (ę vs d k)]).map .str))):=by
 have Vl:(-4611686018427387904:Int)<=(vs.length:Int):=by lia
 have hr2:(vs.length:Int)<(4611686018427387904:Int):=by lia
 have Re:(uT 0 vs.length).length<=100000:=by rw[wP];lia
 have m1:qz 5 (k:Int):=.inr (.inl ⟨Zf rfl,Zf rfl⟩);have m2:∀z:Int,qz z 0:=λz=>.inr (.inr ⟨Zf rfl,Zf rfl⟩);have m3:∀z:Int,qz z 1:=λz=>.inr (.inr ⟨Zf rfl,Zf rfl⟩);have c1:oi nQ (x2 (x2 (j' 1) (j' 0) Yo) (x2 (x2 (xC (.int 5)) (j' 2) YC) (xB (F' (x2 (j' 0) (j' 3) Ý) J') ÿ) YC) YH) [Za (.lst (vs.map .int)),Za (.int (k:Nat)),Za (.int (d:Nat))] (uT 0 vs.length) (T.add (.lst (ws.map .str)))=.ok (((br vs.length).map (p8 vs d k)).map .int) (T.add (.lst (ws.map .str))):=by
  have:=qq (c:=nQ) (e:=x2 (x2 (j' 1) (j' 0) Yo) (x2 (x2 (xC (.int 5)) (j' 2) YC) (xB (F' (x2 (j' 0) (j' 3) Ý) J') ÿ) YC) YH) (cap:=[Za (.lst (vs.map .int)),Za (.int (k:Nat)),Za (.int (d:Nat))]) (s:=T.add (.lst (ws.map .str))) (λ_=>true) (λq=>match q with|.int j=>.int (p8 vs d k j.toNat)|_=>.Ym) (uT 0 vs.length) (λ_ _=>rfl) λq hq _=>by
   rw[EK] at hq;obtain⟨j,hj,rfl⟩:=ar.mp hq;have hj:j<vs.length:=cT.mp hj;have e1:È (vs.map PV.int) (j:Nat)=Za (.int (DC vs j)):=nC (by unfold DC;rw[aF,aC hj];rfl);by_cases hz:j=d
   .subst hz;simp[į,rg,m6,vb,e1,m1,m3,pf,si,p8]
   .have W6:((j:Int)==(d:Int))=false:=by simp;lia
    simp[į,rg,m6,vb,e1,m1,m2,pf,si,p8,hz,W6]
  rw[this]
  congr 1
  rw[iP.mpr (λ_ _=>rfl),EK,aE,aE];rfl
 have c2:oi nQ (x2 (j' 1) (x2 (j' 0) (xC (.int 26)) Â) Yo) [Za (.str abc)] (((br vs.length).map (p8 vs d k)).map .int) (T.add (.lst (ws.map .str)))=.ok (((ę vs d k).map λc=>(⟨#[c]⟩:Str)).map .str) (T.add (.lst (ws.map .str))):=by
  have:=qq (c:=nQ) (e:=x2 (j' 1) (x2 (j' 0) (xC (.int 26)) Â) Yo) (cap:=[Za (.str abc)]) (s:=T.add (.lst (ws.map .str))) (λ_=>true) (λq=>match q with|.int j=>.str ⟨#[97+(j%26).toNat]⟩|_=>.Ym) (((br vs.length).map (p8 vs d k)).map .int) (λ_ _=>rfl) λq hq _=>by obtain⟨z,_,rfl⟩:=ar.mp hq;have e1:=Qj (eT z (show(26:Int)≠0 by decide)) (dP z (show(0:Int)<26 by decide));simp[į,rg,m6,vb,abc,e1,Ei]
  rw[this]
  congr 1
  rw[iP.mpr (λ_ _=>rfl),aE,aE,aE];unfold ę;rw[aE];rfl
 have hj:((((ę vs d k).map λc=>(⟨#[c]⟩:Str)).map (·.length)).sum+((ę vs d k).map λc=>(⟨#[c]⟩:Str)).length*(b7 "").length)<=16777216:=by
  have e:(b7 "").length=0:=rfl;have:=JJ (ys:=(ę vs d k).map λc=>(⟨#[c]⟩:Str)) λz hz=>by obtain⟨c,_,rfl⟩:=ar.mp hz;exact al _
  rw[ac,wY] at this;rw[e];lia
 have Vq:(((br vs.length).map (p8 vs d k)).map PV.int).length<=100000:=by simp;lia
 have hg:(T.add (.lst (ws.map .str))).get T.nx=Za (.lst (ws.map .str)):=by rw[mX,Zc rfl]
 have W9:∀c,(T.add (.lst (ws.map .str))).set T.nx c=T.add c:=λc=>zl T _ _;have s1:pP (Zn (F' (j' 3) J')) [4,7,5] nQ (x2 (x2 (j' 1) (j' 0) Yo) (x2 (x2 (xC (.int 5)) (j' 2) YC) (xB (F' (x2 (j' 0) (j' 3) Ý) J') ÿ) YC) YH) (nE p m vs d T.nx (Za (.int (k:Nat))) (v)) (T.add (.lst (ws.map .str)))=.ok (.lst (((br vs.length).map (p8 vs d k)).map .int)) (T.add (.lst (ws.map .str))):=by
  have er:Zn (F' (j' 3) J') (nE p m vs d T.nx (Za (.int (k:Nat))) (v)) (T.add (.lst (ws.map .str)))=.ok (uT 0 vs.length) (T.add (.lst (ws.map .str))):=by exact tX rfl (by lia)
  exact qG er Re c1
 apply(ot (i:=7)).trans;unfold oR;apply(Le (mM s1)).trans;have e2:pP (YK (j' 8)) [2] nQ (x2 (j' 1) (x2 (j' 0) (xC (.int 26)) Â) Yo) (nE p m vs d T.nx (Za (.int (k:Nat))) (Za (.lst (((br vs.length).map (p8 vs d k)).map .int)))) (T.add (.lst (ws.map .str)))=.ok (.lst (((ę vs d k).map λc=>(⟨#[c]⟩:Str)).map .str)) (T.add (.lst (ws.map .str))):=qG rfl Vq c2;show ī (Zu (j' 6) (F' (Ī (xC (.str "")) (F' (pP (YK (j' 8)) [2] nQ (x2 (j' 1) (x2 (j' 0) (xC (.int 26)) Â) Yo)) J')) J')) (nE p m vs d T.nx (Za (.int (k:Nat))) (Za (.lst (((br vs.length).map (p8 vs d k)).map .int)))) (T.add (.lst (ws.map .str)))=_;have e3:Ī (xC (.str "")) (F' (pP (YK (j' 8)) [2] nQ (x2 (j' 1) (x2 (j' 0) (xC (.int 26)) Â) Yo)) J') (nE p m vs d T.nx (Za (.int (k:Nat))) (Za (.lst (((br vs.length).map (p8 vs d k)).map .int)))) (T.add (.lst (ws.map .str)))=.ok (.str (Ž (ę vs d k))) (T.add (.lst (ws.map .str))):=by unfold Ī;have e4:=mf (fa:=J') e2 rfl;simp only[xC,Out.bind,e4,YI,vU];rw[Zc hj,FZ]
 apply uc (v:=.Ym);have e4:=mf (fa:=J') e3 rfl;unfold Zu;simp only[j',Out.bind,gO,gN,hg,e4,W9,ac];rw[Zc (show ws.length<100000 by lia)];simp
def ma(h:Z[i]?=Za (Za v)):j' i Z s=.ok v s:=by unfold j';rw[h]
def xg(s)(p)(x y x' y'):(YB s p x y).set p (.lst [.int x',.int y'])=YB s p x' y':=rZ _ _ _ _
def vd(a)(hP:Yv s p)(x y)(h0:0<n)(h1:Bt 9000 n):∃r x' y',0<=r/\r<n/\mH a [.ref p,.int n] (YB s p x y)=.ok (.int r) (YB s p x' y'):=by obtain⟨r,x',y',r0,r1,e⟩:=sj a (YB s p x y) p n (hP.YB x y) h0 h1;rw[xg] at e;exact⟨r,x',y',r0,r1,e⟩
def uV(hP:Yv s p):∃x y,s=YB s p x y:=by obtain⟨x,y,h⟩:=hP;exact⟨x,y,(An s p _ h).symm⟩
def mD(h:f Z s=.nx Yp s')(k:g Yp s'=o):W' f g Z s=o:=(Le h).trans k
def mZ(h:g (vs.map Za++aQ (N-vs.length) Zb) s=.rt v s'):ZZ N g vs s=.ok v s':=by unfold ZZ;rw[h]
def Ax(h:g (vs.map Za++aQ (N-vs.length) Zb) s=.nx Z s'):ZZ N g vs s=.ok .Ym s':=by unfold ZZ;rw[h]
def rE(vs:List Int)(d k:Nat):List Str:=(br k).map λi=>Ž (ę vs d i)
def Kj(a)(s)(p)(hp:p<s.nx)(hP:Yv s p)(m)(hm:m<=10):∃x y vs d fl,0<vs.length/\vs.length<=7/\d<vs.length/\tN a [.ref p,.int (m:Nat)] s=.ok (.lst (((br m).map (Į vs d fl)).map .str)) (K'.bump (YB s p x y)):=by
 obtain⟨xa,y0,es⟩:=uV hP;obtain⟨r,xb,y1,r0,r1,e1⟩:=vd a hP xa y0 (n:=7) (by decide) (pj (by decide) (by decide));rw[<-es] at e1;obtain⟨n,hn,rfl⟩:∃n:Nat,1<=n/\r=(n:Int)-1:=⟨r.toNat+1,by lia,by lia⟩;have We:n<=7:=by lia
 obtain⟨pv,t2,hc,vs,xc,y2,rfl,rfl,hvl⟩:=Of (c:=nQ) (e:=Yb 2 (mH a) (F' (j' 1) (F' (xC (.int 26)) J'))) (cap:=[Za (.ref p)]) (uT 0 n)
  (λi pv t=>∃(vs:List Int)(x y:Int),pv=vs.map PV.int/\t=YB s p x y/\vs.length=i)
  (λi q pv t hq hI=>by obtain⟨vs,x,y,rfl,rfl,hl⟩:=hI;obtain⟨b,x',y',_,_,e⟩:=vd a hP x y (n:=26) (by decide) (pj (by decide) (by decide));exact .inr ⟨_,.int b,_,rfl,mJ (mf (ma rfl) (mf rfl rfl)) rfl e,vs++[b],x',y',by simp,rfl,by simp[hl]⟩)
  (s:=YB s p xb y1) ⟨[],xb,y1,rfl,rfl,rfl⟩
 rw[wP] at hvl;subst hvl;obtain⟨d',xd,y3,d0,d1,e3⟩:=vd a hP xc y2 (n:=(vs.length:Int)) (by lia) (pj (by lia) (by lia));obtain⟨d,rfl⟩:∃d:Nat,d'=d:=⟨d'.toNat,by lia⟩;have hd:d<vs.length:=by lia
 have lp:∃u v,nj (mV (V' 7) (oR a)) (uT 0 m) (nE p m vs d s.nx Zb Zb) ((YB s p xd y3).add (.lst []))=.nx (nE p m vs d s.nx u v) ((YB s p xd y3).add (.lst ((rE vs d m).map .str))):=by
  obtain⟨Yp,s',hl,u,v,rfl,rfl⟩:=uY (body:=mV (V' 7) (oR a)) m
   (λk Z t=>∃u v,Z=(nE p m vs d s.nx u v)/\t=(YB s p xd y3).add (.lst ((rE vs d k).map .str)))
   (λk Z t hk hI=>by
    obtain⟨u,v,rfl,rfl⟩:=hI;have:=Iz a (YB s p xd y3) p m vs (by lia) We d hd (rE vs d k) (by simp[rE];lia) k (by lia) u v;refine⟨_,_,this,_,_,rfl,?_⟩;have:rE vs d (k+1)=rE vs d k++[Ž (ę vs d k)]:=by unfold rE;rw[List.range_succ,aA];rfl
    rw[this]) (Z:=(nE p m vs d s.nx Zb Zb)) (s:=(YB s p xd y3).add (.lst [])) ⟨Zb,Zb,rfl,rfl⟩
  exact⟨u,v,hl⟩
 obtain⟨u,v,lp⟩:=lp;have hq:Yv ((YB s p xd y3).add (.lst ((rE vs d m).map .str))) p:=(hP.YB xd y3).add _ hp;obtain⟨f,xe,y4,_,_,e4⟩:=sj a _ p 4 hq (by decide) (pj (by decide) (by decide));rw[MU _ _ _ _ _ _ _ hp] at e4;have hg:((YB s p xe y4).add (.lst ((rE vs d m).map .str))).get s.nx=Za (.lst ((rE vs d m).map .str)):=by have:(YB s p xe y4).nx=s.nx:=rfl;rw[mX,Zc this]
 have TY:((YB s p xe y4).add (.lst ((rE vs d m).map .str))).del s.nx=K'.bump (YB s p xe y4):=N0 (YB s p xe y4) _;have head:∀(o:SO),W' (Ø (YO (x2 (Yb 2 (mH a) (F' (j' 0) (F' (xC (.int 4)) J'))) (xC (.int 0)) Ý)) (Yh 6 (pN (wJ (F' (ć (j' 6)) J')) [] nQ (x2 (j' 1) (x2 (xC (.str "x")) (x2 (j' 0) (xC (.int 2)) Â) zU) YH))) Y9) (YF (Fm (j' 6))) (nE p m vs d s.nx u v) ((YB s p xd y3).add (.lst ((rE vs d m).map .str)))=o->tD a [Za (.ref p),Za (.int (m:Nat)),Zb,Zb,Zb,Zb,Zb,Zb,Zb] s=o:=λo ho=>by
  unfold tD;apply mD (mM rfl);refine mD (mM (v:=.int (vs.length:Nat)) (s':=YB s p xb y1) ((mK rfl (mJ (mf (ma rfl) (mf rfl rfl)) rfl e1)).trans ?_)) ?_
  .show Out.ok (PV.int (1+((vs.length:Int)-1))) _=_;rw[show(1:Int)+((vs.length:Int)-1)=(vs.length:Nat) by lia]
  refine mD (mM (qG (tX (n:=vs.length) rfl (by lia)) (by rw[wP];lia) hc)) ?_;apply mD (mM (mJ (mf (ma rfl) (mf (ma rfl) rfl)) rfl e3));apply mD (mM (v:=.ref s.nx) (s':=(YB s p xd y3).add (.lst [])) rfl);apply mD (qH (tX (n:=m) rfl (by lia)) lp);exact ho
 have c1:x2 (Yb 2 (mH a) (F' (j' 0) (F' (xC (.int 4)) J'))) (xC (.int 0)) Ý (nE p m vs d s.nx u v) ((YB s p xd y3).add (.lst ((rE vs d m).map .str)))=.ok (.bl (f==0)) ((YB s p xe y4).add (.lst ((rE vs d m).map .str))):=by apply(mK (mJ (mf (ma rfl) (mf rfl rfl)) rfl e4) rfl).trans;show Z0 false _ _ _=_;unfold Z0;rw[pf,pf];simp[si,Fj]
 by_cases hf:f=0
 .refine⟨xe,y4,vs,d,true,by lia,We,hd,mZ (head _ ?_)⟩;refine mD ((wa (s1:=(YB s p xe y4).add (.lst ((rE vs d m).map .str))) (by unfold YO;rw[c1,hf];rfl)).trans (mM (v:=.lst (((br m).map (Į vs d true)).map .str)) (s':=K'.bump (YB s p xe y4)) ?_)) ?_
  .unfold pN wJ;have ef:F' (ć (j' 6)) J' (nE p m vs d s.nx u v) ((YB s p xe y4).add (.lst ((rE vs d m).map .str)))=.ok [.lst ((rE vs d m).map .str)] (K'.bump (YB s p xe y4)):=by refine mf ?_ rfl;unfold ć;rw[ma (v:=.ref s.nx) rfl];simp[Out.bind,Æ,hg,TY]
   rw[ef];simp only[Out.bind];rw[Zc (by rw[sG,ac];simp[rE];lia)];have cp:=z9 (e:=x2 (j' 1) (x2 (xC (.str "x")) (x2 (j' 0) (xC (.int 2)) Â) zU) YH) (s:=K'.bump (YB s p xe y4)) (λj w=>w++if j%2=1 then b7 "x" else cx) (rE vs d m) 0 λj w hw=>by
    obtain⟨k,_,rfl⟩:=ar.mp hw;have hl:(Ž (ę vs d k)).length<=7:=by rw[Hd,wY];exact We
    have Vr:(Ž (ę vs d k)).length+1<=100000:=by lia
    have Up:(Ž (ę vs d k)).length<=100000:=by lia
    have lx:(b7 "x").length=1:=rfl;have l0:cx.length=0:=rfl;obtain z|z:=Nat.mod_two_eq_zero_or_one j
    .have z':(j:Int)%2=0:=by lia
     simp[į,rg,m6,vb,zU,z,z',l0,Up]
    .have z':(j:Int)%2=1:=by lia
     simp[į,rg,m6,vb,zU,z,z',lx,Vr]
   have el:((br (rE vs d m).length).map λi=>(((rE vs d m)[i]?).getD cx)++if(0+i)%2=1 then b7 "x" else cx)=(br m).map (Į vs d true):=by
    have:(rE vs d m).length=m:=by simp[rE]
    rw[this];refine a7 λk hk=>?_;have hk:=cT.mp hk;have:(rE vs d m)[k]?=Za (Ž (ę vs d k)):=by unfold rE;rw[aF,lK hk];rfl
    rw[this,fu];apply Da;unfold Į;rw[AC,re];simp only[Option.getD_some,re];by_cases hk2:k%2=1
    .rw[Zc hk2,Zc ⟨trivial,hk2⟩];rfl
    .rw[Zd hk2,Zd (λz=>hk2 z.2)];rfl
   rw[el] at cp;show((nG nQ _ [] _ _).bind _)=_;rw[cp];rfl
  .apply nT;unfold Fm;rw[ma (v:=.lst (((br m).map (Į vs d true)).map .str)) rfl];rfl
 .refine⟨xe,y4,vs,d,false,by lia,We,hd,mZ (head _ ?_)⟩;refine mD ((qM (s1:=(YB s p xe y4).add (.lst ((rE vs d m).map .str))) (by unfold YO;rw[c1,beq_eq_false_iff_ne.mpr hf];rfl)).trans rfl) ?_;apply nT;unfold Fm;rw[ma (v:=.ref s.nx) rfl];simp only[Out.bind,Q6,Æ,hg,TY];have:(br m).map (Į vs d false)=rE vs d m:=a7 λk _=>by unfold Į;simp
  rw[this]
def yB(l:Hl)(o1 o2:Str)(q:Int×Int):Hl :=
 let r:=oC (mL l o1) (-q.1,q.2);let l1:=if 0<r.1 then oz (nW l o1) o1 r else nW l o1
 oz l1 o2 (oC (mL l1 o2) q)
structure HM(c:Nat)(hl hm:Hl):Prop where
 r:∃hz,HR c hl hz
 nd:(hm.map (·.1)).Nodup
 q:∀n,mL hm n=mL hl n
 mem:∀n,n∈hm.map (·.1)↔n∈hl.map (·.1)
def Qt(c)(ho:Sm o):HM c [(o,1,1)] [(o,1,1)]:=⟨⟨_,Qs c ho⟩,by simp,λ_=>rfl,λ_=>Iff.rfl⟩
def vE:n∈(oz l o q).map (·.1)↔n=o\/n∈l.map (·.1):=by
 rw[nZ]
 grind
def Ì:n∈(nW l o).map (·.1)↔n≠o/\n∈l.map (·.1):=by
 unfold nW;simp[ar,ba]
 grind
theorem HM.Ϟ{c:Nat}{hl hm:Hl}(h:HM c hl hm){o1 o2:Str}{q:Int×Int}(hq:Ų q)(so:Sm o2)(nt:¬pC hl o1 q):HM (c+1) (Z8 hl o1 o2 q) (yB hm o1 o2 q):=by
 obtain⟨hz,R⟩:=h.r;have q0:0<q.1:=by by_cases z:0<q.1;exact z;exact absurd (.inl z) nt
 have Si:q.1*(mL hl o1).2<=(mL hl o1).1*q.2:=by
  by_cases z:q.1*(mL hl o1).2>(mL hl o1).1*q.2
  .exact absurd (.inr z) nt
  .lia
 have B:=zf (R.fr o1) hq.low q0 Si hq.bb;have eq1:=h.q o1;generalize hr:oC (mL hl o1) (-q.1,q.2)=r at B;have e1:∀n,mL (if 0<r.1 then oz (nW hm o1) o1 r else nW hm o1) n=mL (if r=(0,1) then nW hl o1 else oz hl o1 r) n:=λn=>by
  by_cases z:0<r.1
  .have z':r≠(0,1):=λe=>by rw[e] at z;exact absurd z (by decide)
   rw[Zc z,Zd z',nJ,nJ,qp];by_cases e:n=o1
   .simp_all
   .rw[Zd e,Zd e,Zd e,h.q]
  .have z':=Av B.low (by have:=B.nn;lia);rw[Zd z,Zc z',qp,qp];by_cases e:n=o1
   .simp_all
   .rw[Zd e,Zd e,h.q]
 have S8:o1∈hl.map (·.1):=by
  apply(R.nm o1).mpr;by_cases z:0<(mL hl o1).1
  .exact z
  .exfalso;have b0:=(R.fr o1).low.1;have b1:=hq.low.1;have n0:=(R.fr o1).nn;have:(mL hl o1).1=0:=by lia
   rw[this,Int.zero_mul] at Si;have:=bv q0 b0;lia
 have m1:∀n,n∈(if 0<r.1 then oz (nW hm o1) o1 r else nW hm o1).map (·.1)↔n∈(if r=(0,1) then nW hl o1 else oz hl o1 r).map (·.1):=λn=>by
  by_cases z:0<r.1
  .have z':r≠(0,1):=λe=>by rw[e] at z;exact absurd z (by decide)
   rw[Zc z,Zd z',vE,vE,Ì,h.mem]
   grind
  .have z':=Av B.low (by have:=B.nn;lia);rw[Zd z,Zc z',Ì,Ì,h.mem]
 have em:yB hm o1 o2 q=oz (if 0<r.1 then oz (nW hm o1) o1 r else nW hm o1) o2 (oC (mL (if 0<r.1 then oz (nW hm o1) o1 r else nW hm o1) o2) q):=by unfold yB;simp[eq1,hr]
 have es:Z8 hl o1 o2 q=oz (if r=(0,1) then nW hl o1 else oz hl o1 r) o2 (oC (mL (if r=(0,1) then nW hl o1 else oz hl o1 r) o2) q):=by unfold Z8;simp[hr]
 refine⟨⟨_,R.Ϟ hq so nt⟩,?_,λn=>?_,λn=>?_⟩
 .rw[em];apply wB _ _;split
  .exact wB _ _ (Dg _ h.nd)
  .exact Dg _ h.nd
 .rw[em,es,nJ,nJ,e1 o2,e1 n]
 .rw[em,es,vE,vE,m1]
theorem HM.Yq(h:HM c hl hm):Yq (hm.map (·.1))=Yq (hl.map (·.1)):=by obtain⟨hz,R⟩:=h.r;refine qe ?_ (p7 _) (p7 _);refine(jP ((mF _).nodup_iff.mpr h.nd) ((mF _).nodup_iff.mpr R.n1)).mpr λn=>?_;rw[(mF _).mem_iff,(mF _).mem_iff,h.mem]
def HM.len(h:HM c hl hm):hm.length=hl.length:=by have:=congrArg cD h.Yq;rw[(mF _).length_eq,(mF _).length_eq,ac,ac] at this;exact this
def vh(h:k∉l.map (·.1)):p4 l k=none:=by
 unfold p4
 grind
def hP(l:Hl):List (Key×PV):=l.map λq=>(ap q.1,ZJ q.2)
def Bn(l)(n)(h:n∈l.map (·.1)):p4 (hP l) (ap n)=Za (ZJ (mL l n)):=by
 unfold p4 hP mL nc;rw[gw,Option.map_map];have e:((λkv:Key×PV=>decide (kv.1=ap n))∘λq:Str×Int×Int=>((ap q.1:Key),ZJ q.2))=λq=>decide (q.1=n):=by
  funext q
  simp_all
 rw[e];cases hf:l.find? (λq=>decide (q.1=n)) with
 |none =>
  grind
 |some q=>rfl
def Dk(l):(hP l).map (·.1)=l.map λq=>ap q.1:=by unfold hP;rw[aE];rfl
def Qv(l)(n):(p4 (hP l) (ap n)).getD (.tup [.int 0,.int 1])=ZJ (mL l n):=by
 by_cases h:n∈l.map (·.1)
 .rw[Bn l n h];rfl
 .rw[vh,vJ h]
  .rfl
  .rw[Dk]
   grind
def LA(l)(n)(q):x9 (hP l) (ap n) (ZJ q)=hP (oz l n q):=by
 unfold x9 oz hP;rw[gX];have e:((λkv:Key×PV=>decide (kv.1=ap n))∘λq:Str×Int×Int=>((ap q.1:Key),ZJ q.2))=λq=>decide (q.1=n):=by
  funext q
  simp_all
 rw[e];split
 .rw[aE,aE];refine a7 λz _=>?_
  grind
 .simp
def sQ(pp)(w):oJ pp w=true↔w∈pp:=by
 unfold oJ
 grind
def oZ(L)(w):mR L w=true↔w∈L.map (·.nm):=by
 unfold mR oo
 grind
def B6(a)(h1:yh w=true)(h2:w∉pp)(h3:w∉L.map (·.nm)):se a pp L w=none:=by
 unfold se;have e1:oJ pp w=false:=by rw[gG];exact λz=>h2 ((sQ _ _).mp z)
 have e2:mR L w=false:=by rw[gG];exact λz=>h3 ((oZ _ _).mp z)
 grind
def Fg{ws:List Str}{r:Int}(h0:0<=r)(h1:r<ws.length):∃w∈ws,È (ws.map PV.str) r=Za (.str w):=by
 obtain⟨j,rfl⟩:∃j:Nat,r=j:=⟨r.toNat,by lia⟩;have hj:j<ws.length:=by lia
 exact⟨ws[j],cR hj,nC (by simp[hj])⟩
def wS(hn:e.nm∉A.map (·.nm)):oo (A++e::B) e.nm=Za e:=by
 unfold oo;rw[i8,gy.mpr]
 .simp
 .grind
def HY(g)(h1:e.nm∉A.map (·.nm))(h2:e.nm∉B.map (·.nm)):FC (A++e::B) e.nm g=A++g e::B:=by
 have no:∀{l:List Ent},e.nm∉l.map (·.nm)->l.map (λx=>if x.nm=e.nm then g x else x)=l:=λ{l} h=>by
  conv=>rhs;rw[<-iD l]
  refine a7 λx hx=>?_
  grind
 unfold FC
 grind
def NL(l)(n):DV (hP l) (ap n)=hP (nW l n):=by
 unfold DV hP nW;rw[dR]
 congr 1
 refine List.filter_congr λx _=>?_
 simp_all
def Qu(l):(hP l).length=l.length:=by unfold hP;grind
theorem Di:∀(l:List (Key×PV))(ss:List Str),l.map (·.1)=ss.map ap->keysOf l=Za ss
 |[],[],_=>rfl
 |(k,v)::r,s::ss,h=>by have h1:k=ap s:=(ij h).1;have h2:=Di r ss (ij h).2;subst h1;simp[keysOf,h2]
def NE(l):keysOf (hP l)=Za (l.map (·.1)):=Di _ _ (by rw[Dk,aE];rfl)
structure Md where
 nm:Str
 cell:Nat
 hl:Hl
 th:Int
 mr:Int
 ls:Int
def Ô(e:Md):Key×PV:=(ap e.nm,.lst [.ref e.cell,.tup [.int e.th,.int e.mr,.int e.ls]])
def Dj(M:List Md):keysOf (M.map Ô)=Za (M.map (·.nm)):=Di _ _ (by rw[aE,aE];rfl)
structure ϭ(N:List Str)(c:Nat)(e:Ent)(m:Md):Prop where
 nm:e.nm=m.nm
 th:e.th=m.th
 mr:e.mr=m.mr
 ls:e.ls=m.ls
 hm:HM c e.held m.hl
 ow:∀n∈m.hl.map (·.1),n∈N
 tb:Bt 100 e.th/\Bt 100 e.mr/\Bt 100 e.ls
inductive Þ (N:List Str):Nat->List Ent->List Md->Prop
 |nil {c:Nat}:Þ N c [] []
 |cons {c1 c2 c:Nat}{e:Ent}{m:Md}{L:List Ent}{M:List Md}:ϭ N c1 e m->Þ N c2 L M->c1+c2<=c->Þ N c (e::L) (m::M)
def Þ.mono(hc:c<=d):∀{L:List Ent}{M:List Md},Þ N c L M->Þ N d L M
 |_,_,.nil=>.nil
 |_,_,.cons h r k=>.cons h r (aI k hc)
theorem Þ.names:∀{c:Nat}{L:List Ent}{M:List Md},Þ N c L M->L.map (·.nm)=M.map (·.nm)
 |_,_,_,.nil=>rfl
 |_,_,_,.cons h r _=>by rw[am,am,h.nm,r.names]
theorem Þ.app:∀{c:Nat}{L L':List Ent}{M M':List Md},Þ N c L M->Þ N d L' M'->Þ N (c+d) (L++L') (M++M')
 |_,_,_,_,_,.nil,k=>k.mono (Nat.le_add_left _ _)
 |_,_,_,_,_,.cons h r q,k=>.cons h (r.app k) (by lia)
theorem Þ.cut:∀{c:Nat}{L:List Ent}{M:List Md},Þ N c L M->∀{h:Str},h∈M.map (·.nm)->∃A e B A' m B' k1 k2 k3,L=A++e::B/\M=A'++m::B'/\m.nm=h/\h∉A'.map (·.nm)/\Þ N k1 A A'/\ϭ N k2 e m/\Þ N k3 B B'/\k1+k2+k3<=c
 |_,_,_,.nil,_,hh=>nomatch hh
 |c,e::L,m::M,.cons (c1:=c1) (c2:=c2) k r q,h,hh=>by
  by_cases z:m.nm=h
  .exact⟨[],e,L,[],m,M,0,c1,c2,rfl,rfl,z,by simp,.nil,k,r,by lia⟩
  .have Us:h∈M.map (·.nm):=(ao.mp hh).elim (λq=>absurd q.symm z) id;obtain⟨A,e',B,A',m',B',k1,k2,k3,e1,e2,e3,e4,e5,e6,e7,e8⟩:=r.cut Us;refine⟨e::A,e',B,m::A',m',B',c1+k1,k2,k3,by rw[e1];rfl,by rw[e2];rfl,e3,λq=>?_,.cons k e5 (al _),e6,e7,by lia⟩
   grind
structure ű(t:K')(p nb nd:Nat)(N:List Str)(c:Nat)(pp:List Str)(L:List Ent)(M:List Md):Prop where
 pu:Yv t p
 bk:t.get nb=Za (.book pp L)
 md:t.get nd=Za (.Yr (M.map Ô))
 sh:∀m∈M,t.get m.cell=Za (.Yr (hP m.hl))
 i1:p≠nb
 i2:p≠nd
 i3:nb≠nd
 i4:∀m∈M,m.cell≠p/\m.cell≠nb/\m.cell≠nd
 i5:(M.map (·.cell)).Nodup
 lt:p<t.nx/\nb<t.nx/\nd<t.nx/\∀m∈M,m.cell<t.nx
 pr:Þ N c L M
theorem ű.YB(W:ű t p nb nd N c pp L M)(x y):ű (YB t p x y) p nb nd N c pp L M :=
 ⟨W.pu.YB x y,by rw[<-W.bk];exact mC _ _ (bH W.i1),by rw[<-W.md];exact mC _ _ (bH W.i2),λm hm=>by rw[<-W.sh m hm];exact mC _ _ (W.i4 m hm).1,W.i1,W.i2,W.i3,W.i4,W.i5,W.lt,W.pr⟩
theorem ű.mono(W:ű t p nb nd N c pp L M)(hc:c<=d):ű t p nb nd N d pp L M :=
 ⟨W.pu,W.bk,W.md,W.sh,W.i1,W.i2,W.i3,W.i4,W.i5,W.lt,W.pr.mono hc⟩
def ű.Ϟ(W:ű t p nb nd N c pp (A++e::B) (A'++m::B'))(c1:Þ N k1 A A')(c2:ϭ N k2 e m)(c3:Þ N k3 B B')(ck:k1+k2+k3<=c)(h:HM (k2+1) Vs To)(ow:∀n∈To.map (·.1),n∈N):ű ((t.set nb (.book pp (A++{ e with held:=Vs }::B))).set m.cell (.Yr (hP To))) p nb nd N (c+1) pp (A++{ e with held:=Vs }::B) (A'++{ m with hl:=To }::B'):=by
 have hm:=W.i4 m (aD _ ai);have WV:=W.i5;rw[aA,am] at WV;obtain⟨nA,nB,nX⟩:=b6.mp WV;obtain⟨nm,nB⟩:=aM.mp nB;have S7:∀m'∈A'++B',m'.cell≠m.cell/\m'∈A'++m::B':=λm' h'=>by
  grind
 have g1:(t.set nb (.book pp (A++{ e with held:=Vs }::B))).get m.cell=Za (.Yr (hP m.hl)):=by rw[mC _ _ hm.2.1];exact W.sh m (aD _ ai)
 refine⟨?_,?_,?_,λm' h'=>?_,W.i1,W.i2,W.i3,λm' h'=>?_,?_,⟨W.lt.1,W.lt.2.1,W.lt.2.2.1,λm' h'=>?_⟩,Þ.mono (c:=k1+(k2+1+k3)) (by lia) (c1.app (.cons (c1:=k2+1) ⟨c2.nm,c2.th,c2.mr,c2.ls,h,ow,c2.tb⟩ c3 (al _)))⟩
 .obtain⟨x,y,e⟩:=W.pu;exact⟨x,y,by rw[mC _ _ (bH hm.1),mC _ _ W.i1];exact e⟩
 .rw[mC _ _ (bH hm.2.1)];exact nz W.bk
 .rw[mC _ _ (bH hm.2.2),mC _ _ (bH W.i3),W.md];simp[Ô]
 .obtain z|z:=aW.mp h'
  .obtain⟨q1,q2⟩:=S7 m' (bV _ z);rw[mC _ _ q1,mC _ _ (W.i4 m' q2).2.1];exact W.sh m' q2
  .obtain z|z:=ao.mp z
   .subst z;exact nz g1
   .obtain⟨q1,q2⟩:=S7 m' (aD _ z);rw[mC _ _ q1,mC _ _ (W.i4 m' q2).2.1];exact W.sh m' q2
 .obtain z|z:=aW.mp h'
  .exact W.i4 m' (bV _ z)
  .obtain z|z:=ao.mp z
   .subst z;exact hm
   .exact W.i4 m' (aD _ (ae _ z))
 .rw[aA,am];exact WV
 .obtain z|z:=aW.mp h'
  .exact W.lt.2.2.2 m' (bV _ z)
  .obtain z|z:=ao.mp z
   .subst z;exact W.lt.2.2.2 m (aD _ ai)
   .exact W.lt.2.2.2 m' (aD _ (ae _ z))
def MK(a)(hb:t.get nb=Za (.book pp (A++e::B)))(nd:((A++e::B).map (·.nm)).Nodup)(hn:Nm e.nm/\Nm o1/\Nm o2)(hz:Sz q)(ok:ň e.held o1 q)(h1:(oJ pp o1||mR (A++e::B) o1)=true)(h2:(oJ pp o2||mR (A++e::B) o2)=true)(nt:¬pC e.held o1 q) :
  wI a [.ref nb,.str e.nm,.str o1,.str o2,ZJ q] t=.ok .Ym (t.set nb (.book pp (A++{ e with held:=Z8 e.held o1 o2 q }::B))):=by
 rw[aA,am] at nd;have n1:=λz=>(b6.mp nd).2.2 _ z _ ai rfl;have n2:=(aM.mp (b6.mp nd).2.1).1;have hS:Ϫ (A++e::B) e.nm o1 o2 q:=⟨by rw[aA,am];exact nd,hn,hz,λe' he=>by rw[wS n1] at he;grind⟩;simp[wI,nV,hb,hS,wS n1,nt,ZJ,HY _ n1 n2]
 grind
def tO(h:t.get n=Za (.Yr l))(hk:keysOf l=Za ss)(hl:ss.length<64):m6 [.ref n] t=.ok (.lst ((Yq ss).map .str)) t:=by simp[m6,YI,ZG,h,hk,hl]
def yM{t:K'}{ws:List Str}{r:Int}{w:Str}(h:È (ws.map PV.str) r=Za (.str w)):Yo (.lst (ws.map .str)) (.int r) t=.ok (.str w) t:=by simp[Yo,YI,h]
def Hh:Zw [.lst l] t=.ok (.int (l.length:Nat)) t:=by simp[Zw,YI]
def Bm(h:t.get n=Za (.Yr l))(hv:p4 l (ap w)=Za v):Yo (.ref n) (.str w) t=.ok v t:=by simp[Yo,YI,ZG,h,Á,hv]
def Lu(h:m.nm∉A'.map (·.nm)):p4 ((A'++m::B').map Ô) (ap m.nm)=Za (.lst [.ref m.cell,.tup [.int m.th,.int m.mr,.int m.ls]]):=by
 unfold p4;rw[aA,i8];have:(A'.map Ô).find? (λkv=>decide (kv.1=ap m.nm))=none:=by
  rw[gy];intro x hx;obtain⟨m',h',rfl⟩:=ar.mp hx;intro z;have z:(ap m'.nm:Key)=ap m.nm:=Zf z
  grind
 rw[this];simp[Ô]
theorem HM.fr(h:HM c hl hm)(n):ŝ c (mL hm n):=by obtain⟨z,R⟩:=h.r;rw[h.q];exact R.fr n
def HM.pos(h:HM c hl hm)(hn:n∈hm.map (·.1)):0<(mL hm n).1:=by obtain⟨z,R⟩:=h.r;rw[h.q];exact(R.nm n).mp ((h.mem n).mp hn)
def M9(hc:c<=40)(hg:ŝ c g)(h:ų g q)(hb:q.2<10^29):Ų q:=by
 have b0:=h.low.1;have hq:=Hc hg h.low h.le;have b97:Bt 97 q.2:=by
  show q.2.natAbs<2^97
  grind
 refine⟨h.low,?_,b97⟩;have h2:Bt 200 (((2^c:Nat):Int)*q.2):=((show Bt (c+1) ((2^c:Nat):Int) from by show((2^c:Nat):Int).natAbs<2^(c+1);exact lH (Zf rfl) (by lia)).mul b97).mono (by lia)
 show q.1.natAbs<2^200;have h3:(((2^c:Nat):Int)*q.2).natAbs<2^200:=h2;have:=h.pos
 grind
def ű.Ϧ(W:ű t p nb nd N c pp L M)(a)(x y)(h0:0<n)(h1:Bt 9000 n):∃r x' y',0<=r/\r<n/\mH a [.ref p,.int n] (My.YB t p x y)=.ok (.int r) (My.YB t p x' y'):=by obtain⟨r,x',y',r0,r1,e⟩:=sj a (My.YB t p x y) p n (W.YB x y).pu h0 h1;rw[xg] at e;exact⟨r,x',y',r0,r1,e⟩
def Oo(h:f Z s=.ok (.tup [v,w]) s'):ã f (Zk 2 (Yj (V' i) (Yj (V' j) Zl))) Z s=.nx ((Z.set i (Za v)).set j (Za w)) s':=by unfold ã;rw[h];rfl
def zp(h1:fv Z s=.ok v s1)(h2:fo Z s1=.ok (.ref n) s1)(h3:fi Z s1=.ok (.str w) s1)(hg:s1.get n=Za (.Yr l))(hl:l.length<100000):ü fo fi fv Z s=.nx Z (s1.set n (.Yr (x9 l (ap w) v))):=by unfold ü;rw[h1];simp[Out.so];rw[h2];simp only;rw[h3];simp[vb,hg,Á,hl]
def Kn(a)(s)(hg:ð g)(hq:ð q)(bg:Bt 8800 g.2)(bq:Bt 100 q.2):nv a [.int (g.1*q.2-q.1*g.2),.int (g.2*q.2)] s=.ok (ZJ (oC g (-q.1,q.2))) s:=by
 have e:=xl a s (g.1*q.2-q.1*g.2) (g.2*q.2) (bv hg.1 hq.1) ((bg.mul bq).mono (Zf rfl));rw[e];unfold oC
 grind
def Ko(a)(s)(hg:ð g)(hq:ð q)(bg:Bt 8800 g.2)(bq:Bt 100 q.2):nv a [.int (g.1*q.2+q.1*g.2),.int (g.2*q.2)] s=.ok (ZJ (oC g q)) s :=
 xl a s (g.1*q.2+q.1*g.2) (g.2*q.2) (bv hg.1 hq.1) ((bg.mul bq).mono (Zf rfl))
def ix0:Yo (ZJ q) (.int 0) t=.ok (.int q.1) t:=by simp[Yo,ZJ,È,ũ]
def ϡ:Yo (ZJ q) (.int 1) t=.ok (.int q.2) t:=by simp[Yo,ZJ,È,ũ]
def pO(h1:f Z s=.ok (.int i) s1)(h2:g Z s1=.ok (.int j) s2)(hm:qz i j):x2 f g YC Z s=.ok (.int (i*j)) s2:=by rw[mK h1 h2];simp[YC,hm]
def Pj(h1:f Z s=.ok (.int i) s1)(h2:g Z s1=.ok (.int j) s2):x2 f g Ü Z s=.ok (.int (i-j)) s2:=by rw[mK h1 h2];rfl
def wH(h1:f Z s=.ok (.int i) s1)(h2:g Z s1=.ok (.int j) s2):x2 f g YH Z s=.ok (.int (i+j)) s2:=by rw[mK h1 h2];rfl
def Qw(h1:f Z s=.ok (.ref n) s)(hg:s.get n=Za (.Yr l))(h2:g Z s=.ok (.str w) s)(h3:h Z s=.ok z s):â f g h Z s=.ok ((p4 l (ap w)).getD z) s:=by unfold â;rw[h1];simp[Out.bind,ZG,hg,h2,h3,Á]
def NZ(h1:f Z s=.ok (.ref n) s)(hg:s.get n=Za (.Yr l))(h2:g Z s=.ok (.str w) s)(hv:p4 l (ap w)=Za v):Fo f g Z s=.ok v (s.set n (.Yr (DV l (ap w)))):=by unfold Fo;rw[h1];simp[Out.bind,hg,h2,Á,hv]
def IA(h1:o1∈l.map (·.1))(h:n∈(yB l o1 o2 q).map (·.1)):n∈l.map (·.1)\/n=o2:=by
 unfold yB at h;rw[vE] at h;obtain h|h:=h
 .exact .inr h
 .refine .inl ?_;split at h
  .rw[vE] at h;obtain h|h:=h
   .rw[h];exact h1
   .exact(Ì.mp h).2
  .exact(Ì.mp h).2
def La(h:l≠[]):0<(Yq l).length:=by rw[(mF l).length_eq];exact iN.mpr h
def Q3(a:Yl){t:K'}{p nb nd:Nat}{N:List Str}{c:Nat}{pp:List Str}{L:List Ent}{M:List Md}(W:ű t p nb nd N c pp L M)(x y:Int){ws:List Str}(h0:0<ws.length)(hl:ws.length<1000){i:Nat}{Z:En}(hp:Z[0]?=Za (Za (.ref p)))(hi:Z[i]?=Za (Za (.lst (ws.map .str)))) :
  ∃w x' y',w∈ws/\x2 (j' i) (Yb 2 (mH a) (F' (j' 0) (F' (xB (F' (j' i) J') Zw) J'))) Yo Z (YB t p x y)=.ok (.str w) (YB t p x' y'):=by
 obtain⟨r,x',y',r0,r1,e⟩:=W.Ϧ a x y (n:=ws.length) (by lia) (pj (by lia) (by lia));obtain⟨w,hw,RY⟩:=Fg r0 r1;refine⟨w,x',y',hw,?_⟩;have e2:xB (F' (j' i) J') Zw Z (YB t p x y)=.ok (.int ws.length) (YB t p x y):=by rw[Bw (mf (ma hi) rfl),Hh,ac]
 exact(mK (ma hi) (mJ (mf (ma hp) (mf e2 rfl)) rfl e)).trans (yM RY)
abbrev sE(p nd:Nat)(N:List Str)(nb:Nat)(r:En):En:=Za (.ref p)::Za (.ref nd)::Za (.lst (N.map .str))::Za (.ref nb)::r
def MF(a:Yl){t:K'}{p nb nd:Nat}{N:List Str}{c:Nat}{pp:List Str}{L:List Ent}{M:List Md}(W:ű t p nb nd N c pp L M)(hc:c<=40)(hM:M≠[])(Ñ:(L.map (·.nm)).Nodup)(Wm:∀n∈N,Sm n)(hLN:∀n∈L.map (·.nm),n∈N)(hN1:∀n∈N,(oJ pp n||mR L n)=true)(hN0:N≠[])(hNl:N.length<64)(hL8:L.length<=8) :
  ∃t' L' M',rB a [.ref p,.ref nd,.lst (N.map .str),.ref nb] t=.ok .Ym t'/\ű t' p nb nd N (c+1) pp L' M'/\L'.map (·.nm)=L.map (·.nm)/\M'.map (·.cell)=M.map (·.cell)/\t'.nx=t.nx/\∀k,k≠p->k≠nb->k∉M.map (·.cell)->t'.get k=t.get k:=by
 have hml:M.length=L.length:=by have:=congrArg cD W.pr.names;simpa using this.symm
 obtain⟨x0,y0,et⟩:=uV W.pu;have s1:m6 [.ref nd] t=.ok (.lst ((Yq (M.map (·.nm))).map .str)) t:=tO W.md (Dj M) (by rw[ac];lia);obtain⟨h,xa,ya,hh,eh⟩:=Q3 a W x0 y0 (ws:=Yq (M.map (·.nm))) (La (by simpa using hM)) (by rw[(mF _).length_eq,ac];lia) (i:=4) (Z:=(sE p nd N nb [Za (.lst ((Yq (M.map (·.nm))).map .str)),Zb,Zb,Zb,Zb,Zb,Zb,Zb,Zb,Zb])) rfl rfl;rw[<-et] at eh;have hh:=(mF _).mem_iff.mp hh;obtain⟨A,e,B,A',m,B',k1,kk,k3,rfl,rfl,rfl,hA,c1,c2,c3,ck⟩:=W.pr.cut hh;have hck:kk<=40:=by lia
 have Xi:m∈A'++m::B':=aD _ ai;obtain⟨i4a,i4b,i4c⟩:=W.i4 m Xi;have g0:∀x y,(YB t p x y).get m.cell=Za (.Yr (hP m.hl)):=λx y=>(W.YB x y).sh m Xi;have gd:∀x y,(YB t p x y).get nd=Za (.Yr ((A'++m::B').map Ô)):=λx y=>(W.YB x y).md;have gb:∀x y,(YB t p x y).get nb=Za (.book pp (A++e::B)):=λx y=>(W.YB x y).bk;obtain⟨hz,R⟩:=c2.hm.r;have Re:m.hl.length<=45:=by rw[c2.hm.len];exact aI R.l1 (by lia)
 have RD:m.hl.map (·.1)≠[]:=by obtain⟨n,hn⟩:=R.ex;exact lY ((c2.hm.mem n).mpr ((R.nm n).mpr hn))
 have s2:∀x y,m6 [.ref m.cell] (YB t p x y)=.ok (.lst ((Yq (m.hl.map (·.1))).map .str)) (YB t p x y):=λx y=>tO (g0 x y) (NE m.hl) (by rw[ac];lia);obtain⟨o1,xb,yb,ho,eo⟩:=Q3 a W xa ya (ws:=Yq (m.hl.map (·.1))) (La RD) (by rw[(mF _).length_eq,ac];lia) (i:=7) (Z:=(sE p nd N nb [Za (.lst ((Yq ((A'++m::B').map (·.nm))).map .str)),Za (.str m.nm),Za (.ref m.cell),Za (.lst ((Yq (m.hl.map (·.1))).map .str)),Zb,Zb,Zb,Zb,Zb,Zb])) rfl rfl;have ho:=(mF _).mem_iff.mp ho;obtain⟨o2,xc,yc,TD,eo2⟩:=Q3 a W xb yb (ws:=N) (iN.mpr hN0) (by lia) (i:=2) (Z:=(sE p nd N nb [Za (.lst ((Yq ((A'++m::B').map (·.nm))).map .str)),Za (.str m.nm),Za (.ref m.cell),Za (.lst ((Yq (m.hl.map (·.1))).map .str)),Za (.str o1),Zb,Zb,Zb,Zb,Zb])) rfl rfl;have F1:=c2.hm.fr o1;have p0:=c2.hm.pos ho;obtain⟨q,xd,yd,hq,ep⟩:=Na a (YB t p xc yc) p (W.YB xc yc).pu (mL m.hl o1) F1.low p0 (F1.bb.mono (by lia));rw[xg] at ep;have v1:∀x y,Yo (.ref m.cell) (.str o1) (YB t p x y)=.ok (ZJ (mL m.hl o1)) (YB t p x y):=λx y=>Bm (g0 x y) (Bn m.hl o1 ho);have v0:∀x y,Yo (.ref nd) (.str m.nm) (YB t p x y)=.ok (.lst [.ref m.cell,.tup [.int m.th,.int m.mr,.int m.ls]]) (YB t p x y):=λx y=>Bm (gd x y) (Lu hA);have head:∀(o:SO),W' (Ø (YO (x2 (x2 (j' 10) (xC (.int 1)) Yo) (x2 (xC (.int 10)) (xC (.int 29)) ë) fGe)) Ÿ Y9) (W' (ī (Ĭ 5 (wI a) (j' 3) (F' (j' 5) (F' (j' 8) (F' (j' 9) (F' (j' 10) J')))))) (W' (ã (Fo (j' 6) (j' 8)) (Zk 2 (Yj (V' 11) (Yj (V' 12) Zl)))) (W' (Yh 13 (Yb 2 (nv a) (F' (x2 (x2 (j' 11) (x2 (j' 10) (xC (.int 1)) Yo) YC) (x2 (x2 (j' 10) (xC (.int 0)) Yo) (j' 12) YC) Ü) (F' (x2 (j' 12) (x2 (j' 10) (xC (.int 1)) Yo) YC) J')))) (W' (Ø (YO (x2 (x2 (j' 13) (xC (.int 0)) Yo) (xC (.int 0)) fGt)) (ü (j' 6) (j' 8) (j' 13)) Y9) (W' (ã (â (j' 6) (j' 9) (ZT (F' (xC (.int 0)) (F' (xC (.int 1)) J')))) (Zk 2 (Yj (V' 11) (Yj (V' 12) Zl)))) (ü (j' 6) (j' 9) (Yb 2 (nv a) (F' (x2 (x2 (j' 11) (x2 (j' 10) (xC (.int 1)) Yo) YC) (x2 (x2 (j' 10) (xC (.int 0)) Yo) (j' 12) YC) YH) (F' (x2 (j' 12) (x2 (j' 10) (xC (.int 1)) Yo) YC) J')))))))))
   (sE p nd N nb [Za (.lst ((Yq ((A'++m::B').map (·.nm))).map .str)),Za (.str m.nm),Za (.ref m.cell),Za (.lst ((Yq (m.hl.map (·.1))).map .str)),Za (.str o1),Za (.str o2),Za (ZJ q),Zb,Zb,Zb]) (YB t p xd yd)=o ->
   uC a (sE p nd N nb [Zb,Zb,Zb,Zb,Zb,Zb,Zb,Zb,Zb,Zb]) t=o:=λo ho=>by
  unfold uC;refine mD (mM ((Bw (mf (ma rfl) rfl)).trans s1)) ?_;refine mD (mM eh) ?_;refine mD (mM (v:=.ref m.cell) (s':=YB t p xa ya) ((mK ((mK (ma rfl) (ma rfl)).trans (v0 xa ya)) rfl).trans rfl)) ?_;refine mD (mM ((Bw (mf (ma rfl) rfl)).trans (s2 xa ya))) ?_;refine mD (mM eo) ?_;refine mD (mM eo2) ?_;refine mD (mM (mJ (mf (ma rfl) (mf ((mK (ma rfl) (ma rfl)).trans (v1 xc yc)) rfl)) rfl ep)) ?_;exact ho
 have pw:∀(Z:En)(s:K'),x2 (xC (.int 10)) (xC (.int 29)) ë Z s=.ok (.int (10^29)) s:=λZ s=>by simp[x2,xC,ë,Out.bind]
 generalize İ:(sE p nd N nb [Za (.lst ((Yq ((A'++m::B').map (·.nm))).map .str)),Za (.str m.nm),Za (.ref m.cell),Za (.lst ((Yq (m.hl.map (·.1))).map .str)),Za (.str o1),Za (.str o2),Za (ZJ q)])=ā at *;have TU:∀u v w,(sE p nd N nb [Za (.lst ((Yq ((A'++m::B').map (·.nm))).map .str)),Za (.str m.nm),Za (.ref m.cell),Za (.lst ((Yq (m.hl.map (·.1))).map .str)),Za (.str o1),Za (.str o2),Za (ZJ q),u,v,w])=ā++[u,v,w]:=λu v w=>by rw[<-İ];rfl
 rw[TU] at head;have r3:∀u v w,(ā++[u,v,w])[3]?=Za (Za (.ref nb)):=λu v w=>by rw[<-İ];rfl
 have r5:∀u v w,(ā++[u,v,w])[5]?=Za (Za (.str m.nm)):=λu v w=>by rw[<-İ];rfl
 have r6:∀u v w,(ā++[u,v,w])[6]?=Za (Za (.ref m.cell)):=λu v w=>by rw[<-İ];rfl
 have r8:∀u v w,(ā++[u,v,w])[8]?=Za (Za (.str o1)):=λu v w=>by rw[<-İ];rfl
 have r9:∀u v w,(ā++[u,v,w])[9]?=Za (Za (.str o2)):=λu v w=>by rw[<-İ];rfl
 have TN:∀u v w,(ā++[u,v,w])[10]?=Za (Za (ZJ q)):=λu v w=>by rw[<-İ];rfl
 have U5:∀u v w,(ā++[u,v,w])[11]?=Za u:=λu v w=>by rw[<-İ];rfl
 have UI:∀u v w,(ā++[u,v,w])[12]?=Za v:=λu v w=>by rw[<-İ];rfl
 have V1:∀u v w,(ā++[u,v,w])[13]?=Za w:=λu v w=>by rw[<-İ];rfl
 have st:∀u v w u' v',((ā++[u,v,w]).set 11 u').set 12 v'=ā++[u',v',w]:=λu v w u' v'=>by rw[<-İ];rfl
 have WK:∀u v w w',(ā++[u,v,w]).set 13 w'=ā++[u,v,w']:=λu v w w'=>by rw[<-İ];rfl
 clear TU;have cond:∀s,x2 (x2 (j' 10) (xC (.int 1)) Yo) (x2 (xC (.int 10)) (xC (.int 29)) ë) fGe (ā++[Zb,Zb,Zb]) s=.ok (.bl (decide ((10:Int)^29<=q.2))) s:=λs=>(mK ((mK (ma (TN _ _ _)) rfl).trans ϡ) (pw _ _)).trans rfl;by_cases hb:(10:Int)^29<=q.2
 .refine⟨YB t p xd yd,_,_,mZ (head _ (AM ((wa (s1:=YB t p xd yd) (by unfold YO;rw[cond,Zg hb];rfl)).trans rfl))),(W.YB xd yd).mono (eX _),rfl,rfl,rfl,λk k1 _ _=>mC _ _ k1⟩
 have Sq:Ų q:=M9 hck F1 hq (by lia);have nt:¬pC e.held o1 q:=λz=>by
  unfold pC at z;rw[<-c2.hm.q] at z;obtain z|z:=z
  .exact z hq.pos
  .have:=hq.le;lia
 have oN1:=c2.ow o1 ho;have hnm:m.nm∈N:=hLN _ (by rw[<-c2.nm];exact ar.mpr ⟨e,aD _ ai,rfl⟩);have sl:=MK a (gb xd yd) Ñ ⟨by rw[c2.nm];exact(Wm _ hnm).nm,(Wm _ oN1).nm,(Wm _ TD).nm⟩ Sq.sz (R.Às (by lia) Sq) (hN1 _ oN1) (hN1 _ TD) nt;have sl:wI a [.ref nb,.str m.nm,.str o1,.str o2,ZJ q] (YB t p xd yd)=.ok .Ym ((YB t p xd yd).set nb (.book pp (A++{ e with held:=Z8 e.held o1 o2 q }::B))):=by have h:=sl;rw[show PV.str m.nm=PV.str e.nm by rw[c2.nm]];exact h
 have B1:=zf (R.fr o1) Sq.low hq.pos (by rw[<-c2.hm.q];exact hq.le) Sq.bb;rw[<-c2.hm.q] at B1;generalize hr:oC (mL m.hl o1) (-q.1,q.2)=r at B1;have Fr:ŝ (kk+1) r:=⟨B1.low,B1.nn,hJ B1.le (aU (g9.mpr (cg (by decide) (by lia))) (bG B1.low.1)),B1.bb.mono (by lia)⟩;have T:∀{d:Nat}{g:Int×Int},d<=41->ŝ d g->Bt 9000 g.1/\Bt 8800 g.2/\ð g:=λhd h=>⟨h.top.mono (by lia),h.bb.mono (by lia),h.low⟩;obtain⟨g1,g2,g3⟩:=T (by lia) F1;have qa:Bt 9000 q.1:=Sq.bt.mono (by decide);have qb:Bt 9000 q.2:=Sq.bb.mono (by decide);have qc:Bt 100 q.2:=Sq.bb.mono (by decide);have b9:∀{x:Int},Bt 8800 x->Bt 9000 x:=λh=>h.mono (by decide);generalize hT:(YB t p xd yd).set nb (.book pp (A++{ e with held:=Z8 e.held o1 o2 q }::B))=T6 at sl;have g6:T6.get m.cell=Za (.Yr (hP m.hl)):=by rw[<-hT,mC _ _ i4b];exact g0 xd yd
 have c6:∀l l',(T6.set m.cell (.Yr (hP l))).set m.cell (.Yr (hP l'))=T6.set m.cell (.Yr (hP l')):=λl l'=>rZ _ _ _ _;have gl:∀l,(T6.set m.cell (.Yr (hP l))).get m.cell=Za (.Yr (hP l)):=λl=>nz g6;have TQ:∀l:Hl,l.length<=46->(hP l).length<100000:=λl h=>by rw[Qu];lia
 have X3:(nW m.hl o1).length<=45:=aI (cW _ _) Re;have WR:∀(l:Hl) o q,l.length<=45->(oz l o q).length<=46:=λl o q h=>by
  have:=congrArg cD (nZ l o q);rw[ac] at this;rw[this];split
  .rw[ac];lia
  .rw[aT,ac];simp;lia
 generalize TW:(if 0<r.1 then oz (nW m.hl o1) o1 r else nW m.hl o1)=l1;have em:yB m.hl o1 o2 q=oz l1 o2 (oC (mL l1 o2) q):=by unfold yB;simp only[hr,TW]
 have F2:ŝ (kk+1) (mL l1 o2):=by
  rw[<-TW];split
  .rw[nJ,qp];split
   .exact Fr
   .exact(c2.hm.fr o2).mono (by lia)
  .rw[qp];split
   .exact ÁJ _
   .exact(c2.hm.fr o2).mono (by lia)
 obtain⟨k1,k2,k3⟩:=T (by lia) F2;have l1l:l1.length<=46:=by
  rw[<-TW];split
  .exact WR _ _ _ X3
  .lia
 refine⟨T6.set m.cell (.Yr (hP (yB m.hl o1 o2 q))),A++{ e with held:=Z8 e.held o1 o2 q }::B,A'++{ m with hl:=yB m.hl o1 o2 q }::B',Ax (Z:=ā++[Za (.int (mL l1 o2).1),Za (.int (mL l1 o2).2),Za (ZJ r)]) (head _ ?_),?_,?_,?_,?_,λk h1 h2 h3=>?_⟩
 .refine mD ((qM (s1:=YB t p xd yd) (by unfold YO;rw[cond,Zh hb];rfl)).trans rfl) ?_;refine mD (uc ((tT (ma (r3 _ _ _)) (gb xd yd) (mf (ma (r5 _ _ _)) (mf (ma (r8 _ _ _)) (mf (ma (r9 _ _ _)) (mf (ma (TN _ _ _)) rfl)))) rfl).trans sl)) ?_;refine mD (Oo (v:=.int (mL m.hl o1).1) (w:=.int (mL m.hl o1).2) (s':=T6.set m.cell (.Yr (hP (nW m.hl o1)))) ((NZ (ma (r6 _ _ _)) g6 (ma (r8 _ _ _)) (Bn m.hl o1 ho)).trans (by rw[NL];exact rfl))) ?_;rw[st];have R1:∀u v w s,x2 (j' 10) (xC (.int 1)) Yo (ā++[u,v,w]) s=.ok (.int q.2) s:=λu v w s=>(mK (ma (TN _ _ _)) rfl).trans ϡ;have x0':∀u v w s,x2 (j' 10) (xC (.int 0)) Yo (ā++[u,v,w]) s=.ok (.int q.1) s:=λu v w s=>(mK (ma (TN _ _ _)) rfl).trans ix0;refine mD (mM (mJ (mf (Pj (pO (ma (U5 _ _ _)) (R1 _ _ _ _) (sf g1 qb)) (pO (x0' _ _ _ _) (ma (UI _ _ _)) (sf qa (b9 g2)))) (mf (pO (ma (UI _ _ _)) (R1 _ _ _ _) (sf (b9 g2) qb)) rfl)) rfl (Kn a _ g3 Sq.low g2 qc))) ?_;rw[WK,hr];have cr:∀u v s,x2 (x2 (j' 13) (xC (.int 0)) Yo) (xC (.int 0)) fGt (ā++[u,v,Za (ZJ r)]) s=.ok (.bl (decide (0<r.1))) s:=λu v s=>(mK ((mK (ma (V1 _ _ _)) rfl).trans ix0) rfl).trans rfl;refine mD (Yp:=ā++[Za (.int (mL m.hl o1).1),Za (.int (mL m.hl o1).2),Za (ZJ r)]) (s':=T6.set m.cell (.Yr (hP l1))) ?_ ?_
  .rw[<-TW];by_cases z:0<r.1
   .rw[Zc z];refine(wa (s1:=T6.set m.cell (.Yr (hP (nW m.hl o1)))) (by unfold YO;rw[cr,Zg z];rfl)).trans ?_;refine(zp (ma (V1 _ _ _)) (ma (r6 _ _ _)) (ma (r8 _ _ _)) (gl _) (TQ _ (by lia))).trans ?_;rw[LA,c6]
   .rw[Zd z];exact(qM (s1:=T6.set m.cell (.Yr (hP (nW m.hl o1)))) (by unfold YO;rw[cr,Zh z];rfl)).trans rfl
  refine mD (Oo (v:=.int (mL l1 o2).1) (w:=.int (mL l1 o2).2) (s':=T6.set m.cell (.Yr (hP l1))) ((Qw (ma (r6 _ _ _)) (gl l1) (ma (r9 _ _ _)) (qW (mf rfl (mf rfl rfl)))).trans (by rw[Qv];rfl))) ?_;rw[st];refine(zp (mJ (mf (wH (pO (ma (U5 _ _ _)) (R1 _ _ _ _) (sf k1 qb)) (pO (x0' _ _ _ _) (ma (UI _ _ _)) (sf qa (b9 k2)))) (mf (pO (ma (UI _ _ _)) (R1 _ _ _ _) (sf (b9 k2) qb)) rfl)) rfl (Ko a _ k3 Sq.low k2 qc)) (ma (r6 _ _ _)) (ma (r9 _ _ _)) (gl l1) (TQ _ l1l)).trans ?_;rw[LA,c6,em]
 .rw[<-hT];exact(W.YB xd yd).Ϟ c1 c2 c3 ck (c2.hm.Ϟ Sq (Wm _ TD) nt) λn hn=>(IA ho hn).elim (c2.ow n) λz=>z▸TD
 .rw[aA,aA];rfl
 .rw[aA,aA];rfl
 .rw[<-hT];rfl
 .have hk:k≠m.cell:=λz=>h3 (z▸ar.mpr ⟨m,Xi,rfl⟩);rw[mC _ _ hk,<-hT,mC _ _ h2];exact mC _ _ h1
def Ij(a)(hb:t.get nb=Za (.book pp L))(h1:yh w=true)(hs:Sm w)(h2:w∉pp)(h3:w∉L.map (·.nm))(h6:pp.length<6):vg a [.ref nb,.str w] t=.ok .Ym (t.set nb (.book (pp++[w]) L)):=by
 have e:xh a pp L w=none:=by unfold xh;rw[B6 a h1 h2 h3];exact Zd (by lia)
 simp[vg,nV,hb,hs.nm,e]
def Ku(a)(hb:t.get nb=Za (.book pp L))(h1:yh w=true)(hs:Sm w)(so:Sm o)(h2:w∉pp)(h3:w∉L.map (·.nm))(ho:(oJ pp o||mR L o)=true)(hl:0<=ls)(h8:L.length<8):xz a [.ref nb,.str w,.str o,.int th,.int mr,.int ls] t=.ok .Ym (t.set nb (.book pp (L++[⟨w,th,mr,ls,[(o,1,1)]⟩]))):=by
 have e:xp a pp L w o ls=none:=by
  unfold xp;rw[B6 a h1 h2 h3]
  grind
 simp[xz,nV,hb,hs.nm,so.nm,e]
structure ù(s t:K')(p nb nd:Nat)(N:List Str)(c:Nat)(pp:List Str)(L:List Ent)(M:List Md):Prop where
 w:ű t p nb nd N c pp L M
 nx:s.nx<=t.nx
 fr:∀j,j<s.nx->j≠p->t.get j=s.get j
 lo:s.nx<=nb/\s.nx<=nd/\∀m∈M,s.nx<=m.cell
section
variable{s t:K'}{p nb nd:Nat}{N:List Str}{c:Nat}{pp:List Str}{L:List Ent}{M:List Md}
theorem ù.YB(B:ù s t p nb nd N c pp L M)(x y):ù s (My.YB t p x y) p nb nd N c pp L M:=⟨B.w.YB x y,B.nx,λj h1 h2=>(mC _ _ h2).trans (B.fr j h1 h2),B.lo⟩
def ù.person(B:ù s t p nb nd N c pp L M)(w):ù s (t.set nb (.book (pp++[w]) L)) p nb nd N c (pp++[w]) L M:=by have W:=B.w;refine⟨⟨?_,nz W.bk,by rw[mC _ _ (bH W.i3)];exact W.md,λm hm=>by rw[mC _ _ (W.i4 m hm).2.1];exact W.sh m hm,W.i1,W.i2,W.i3,W.i4,W.i5,W.lt,W.pr⟩,B.nx,λj h1 h2=>(mC _ _ (by have:=B.lo.1;lia)).trans (B.fr j h1 h2),B.lo⟩;obtain⟨x,y,e⟩:=W.pu;exact⟨x,y,by rw[mC _ _ W.i1];exact e⟩
def Qi(h:x∉M.map (·.nm)):x9 (M.map Ô) (ap x) v=M.map Ô++[(ap x,v)]:=by
 unfold x9;rw[Zd];intro z;obtain⟨kv,h1,h2⟩:=fF.mp z;obtain⟨m,hm,rfl⟩:=ar.mp h1;have:(ap m.nm:Key)=ap x:=Zf h2
 grind
def ù.ÁD(B:ù s t p nb nd N c pp L M){w o:Str}{th mr ls:Int}(hw:w∉M.map (·.nm))(so:Sm o)(oN:o∈N)(tb:Bt 100 th/\Bt 100 mr/\Bt 100 ls) :
  ù s (((t.set nb (.book pp (L++[⟨w,th,mr,ls,[(o,1,1)]⟩]))).add (.Yr [(ap o,ZJ (1,1))])).set nd (.Yr (x9 (M.map Ô) (ap w) (.lst [.ref t.nx,.tup [.int th,.int mr,.int ls]])))) p nb nd N c pp (L++[⟨w,th,mr,ls,[(o,1,1)]⟩]) (M++[⟨w,t.nx,[(o,1,1)],th,mr,ls⟩]):=by
 have W:=B.w;obtain⟨l1,l2,l3,l4⟩:=W.lt;have g:∀k,k≠nd->k≠nb->k≠t.nx->(((t.set nb (.book pp (L++[⟨w,th,mr,ls,[(o,1,1)]⟩]))).add (.Yr [(ap o,ZJ (1,1))])).set nd (.Yr (x9 (M.map Ô) (ap w) (.lst [.ref t.nx,.tup [.int th,.int mr,.int ls]])))).get k=t.get k:=λk h1 h2 h3=>by rw[mC _ _ h1,mX,Zd (show(t.set nb _).nx≠k from λz=>h3 z.symm),mC _ _ h2]
 have onl:∀n∈[(o,(1:Int),(1:Int))].map (·.1),n∈N:=λn hn=>by
  grind
 have gnd:((t.set nb (.book pp (L++[⟨w,th,mr,ls,[(o,1,1)]⟩]))).add (.Yr [(ap o,ZJ (1,1))])).get nd=Za (.Yr (M.map Ô)):=by rw[mX,Zd (show(t.set nb _).nx≠nd from λz=>by have:t.nx=nd:=z;lia),mC _ _ (bH W.i3)];exact W.md
 refine⟨⟨?_,?_,?_,λm hm=>?_,W.i1,W.i2,W.i3,λm hm=>?_,?_,⟨cm l1,cm l2,cm l3,λm hm=>?_⟩,W.pr.app (d:=0) (.cons (c1:=0) (c2:=0) ⟨rfl,rfl,rfl,rfl,Qt 0 so,onl,tb⟩ .nil (al _))⟩,Nat.le_succ_of_le B.nx,λj h1 h2=>?_,B.lo.1,B.lo.2.1,λm hm=>?_⟩
 .obtain⟨x,y,e⟩:=W.pu;exact⟨x,y,by rw[g p W.i2 W.i1 (by lia)];exact e⟩
 .rw[mC _ _ W.i3,mX,Zd (show(t.set nb _).nx≠nb from λz=>by have:t.nx=nb:=z;lia)];exact nz W.bk
 .rw[nz gnd,Qi hw,aA];rfl
 .obtain z|z:=aW.mp hm
  .obtain⟨a1,a2,a3⟩:=W.i4 m z;rw[g _ a3 a2 (by have:=l4 m z;lia)];exact W.sh m z
  .rw[ay.mp z];show((_:K').set nd _).get t.nx=_;rw[mC _ _ (by lia),mX,Zc (show(t.set nb _).nx=t.nx from rfl)];rfl
 .obtain z|z:=aW.mp hm
  .exact W.i4 m z
  .rw[ay.mp z];exact⟨by show t.nx≠p;lia,by show t.nx≠nb;lia,by show t.nx≠nd;lia⟩
 .rw[aA,b6];refine⟨W.i5,by simp,λx hx y hy z=>?_⟩
  grind
 .obtain z|z:=aW.mp hm
  .exact cm (l4 m z)
  .rw[ay.mp z];exact cA _
 .have:=B.lo;rw[g j (by lia) (by lia) (by have:=B.nx;lia)];exact B.fr j h1 h2
 .obtain z|z:=aW.mp hm
  .exact B.lo.2.2 m z
  .rw[ay.mp z];exact B.nx
end
structure Wds(N:List Str):Prop where
 nd:N.Nodup
 sm:∀n∈N,Sm n
 nm:∀n∈N,yh n=true
def JD(h0:0<vs.length)(h7:vs.length<=7)(hd:d<vs.length)(hm:m<=10):Wds ((br m).map (Į vs d fl)):=by
 refine⟨?_,λn hn=>?_,λn hn=>?_⟩
 .show List.Pairwise _ _;rw[List.pairwise_map];exact List.Pairwise.imp_of_mem (λ{i j} hi hj Vx e=>Vx (Mq hd (by have:=cT.mp hi;lia) (by have:=cT.mp hj;lia) e)) List.nodup_range
 .obtain⟨k,_,rfl⟩:=ar.mp hn;exact(K1 h0 h7 d fl k).1
 .obtain⟨k,_,rfl⟩:=ar.mp hn;exact(K1 h0 h7 d fl k).2
def IC(h:body q Z s=.nx Yp s'):nj body (q::l) Z s=nj body l Yp s':=by
 conv=>lhs;unfold nj
 rw[h]
def bE(p nb nd:Nat)(mo my cn:PV)(N:List Str)(u7 u8 u9 Rq:Option PV):En:=[Za (.ref p),Za mo,Za my,Za cn,Za (.lst (N.map .str)),Za (.ref nb),Za (.ref nd),u7,u8,u9,Rq]
theorem wo(a)(WN:Wds N)(mo my cn)(u8 u9 Rq):∀(r done:List Str)(u:Option PV)(t:K'),ù s t p nb nd N 0 done [] []->(∀n∈done++r,n∈N)->(done++r).Nodup->(done++r).length<=6->∃u' t',nj (mV (V' 7) (uf a)) (r.map .str) (bE p nb nd mo my cn N u u8 u9 Rq) t=.nx (bE p nb nd mo my cn N u' u8 u9 Rq) t'/\ù s t' p nb nd N 0 (done++r) [] []
 |[],done,u,t,B,_,_,_=>⟨u,t,rfl,by rw[bY];exact B⟩
 |w::r,done,u,t,B,hN,nd',hl=>by
  have hw:=hN w (aD _ ai);have n1:=λz=>(b6.mp nd').2.2 _ z _ ai rfl;have e1:=Ij a B.w.bk (WN.nm w hw) (WN.sm w hw) n1 (by simp) (by grind);have e2:done++w::r=done++[w]++r:=by simp
  obtain⟨u',t',h1,h2⟩:=wo a WN mo my cn u8 u9 Rq r (done++[w]) (Za (.str w)) _ (B.person w) (by rw[<-e2];exact hN) (by rw[<-e2];exact nd') (by rw[<-e2];exact hl);refine⟨u',t',?_,by rw[e2];exact h2⟩;rw[<-h1];refine IC ((ot).trans ?_);exact uc ((tT (ma rfl) B.w.bk (mf (ma rfl) rfl) rfl).trans e1)
def JI{N:List Str}{k:Nat}{r:Int}(h0:0<=r)(h1:r<(k:Nat))(hk:k<=N.length):∃w∈N.take k,È (N.map PV.str) r=Za (.str w):=by
 obtain⟨j,rfl⟩:∃j:Nat,r=j:=⟨r.toNat,by lia⟩;have hj:j<N.length:=by lia
 refine⟨N[j],?_,nC (by simp[hj])⟩;rw[b5];exact⟨j,by rw[List.getElem?_take,Zc (by lia),aC hj]⟩
def vZ(a)(hP:Yv t p)(x y):∃v x' y',oa a [.ref p] (YB t p x y)=.ok (.int v) (YB t p x' y')/\Bt 100 v:=by obtain⟨v,x',y',e,b⟩:=Ix a (YB t p x y) p (hP.YB x y);rw[xg] at e;exact⟨v,x',y',e,b⟩
def FW(a:Yl){s t:K'}{p nb nd:Nat}{pp hs:List Str}(WN:Wds (pp++hs))(hp6:pp.length<=6)(SQ:1<=pp.length)(hh:hs.length<=8){L:List Ent}{M:List Md}(mo cn:PV)(u7 u8 u9 Rq:Option PV)(k:Nat)(hk:k<hs.length)(B:ù s t p nb nd (pp++hs) 0 pp L M)(hL:L.map (·.nm)=hs.take k) :
  ∃UE u9' WC t' L' M',mV (V' 8) (pL a) (.int (k:Nat)) (bE p nb nd mo (.int (pp.length:Nat)) cn (pp++hs) u7 u8 u9 Rq) t=.nx (bE p nb nd mo (.int (pp.length:Nat)) cn (pp++hs) u7 UE u9' WC) t'/\ù s t' p nb nd (pp++hs) 0 pp L' M'/\L'.map (·.nm)=hs.take (k+1):=by
 obtain⟨x0,y0,et⟩:=uV B.w.pu;have ek:((pp.length:Int)+(k:Int))=((pp.length+k:Nat):Int):=by lia
 obtain⟨r,xa,ya,r0,r1,e1⟩:=B.w.Ϧ a x0 y0 (n:=((pp.length+k:Nat):Int)) (by lia) (pj (by lia) (by lia));rw[<-et] at e1;obtain⟨o,ho,RY⟩:=JI (N:=pp++hs) r0 r1 (by rw[aT];lia);obtain⟨v1,xb,yb,f1,b1⟩:=vZ a B.w.pu xa ya;obtain⟨v2,xc,yc,f2,b2⟩:=vZ a B.w.pu xb yb;obtain⟨v3,xd,yd,f3,b3⟩:=vZ a B.w.pu xc yc;have oN:o∈pp++hs:=lf ho;have TD:(oJ pp o||mR L o)=true:=by rw[di,sQ,oZ,hL];rw[List.take_length_add_append] at ho;exact aW.mp ho
 obtain⟨w,hw⟩:∃w,hs[k]?=Za w:=⟨hs[k],aC hk⟩;have wh:w∈hs:=dk hw;have wN:w∈pp++hs:=aD _ wh;have wpp:w∉pp:=λz=>(b6.mp WN.nd).2.2 _ z _ wh rfl;have tk:hs.take (k+1)=hs.take k++[w]:=by rw[d6,hw];rfl
 have wL:w∉L.map (·.nm):=λz=>by rw[hL] at z;have:=(b6.mp WN.nd).2.1;have h2:(hs.take (k+1)).Nodup:=this.sublist (List.take_sublist _ _);rw[tk] at h2;exact(b6.mp h2).2.2 _ z _ (by simp) rfl
 have wat:È ((pp++hs).map PV.str) ((pp.length+k:Nat):Int)=Za (.str w):=nC (by rw[aF,cU (by lia),kJ,hw];rfl);have L8:L.length<8:=by have:=congrArg cD hL;rw[ac,eC] at this;lia
 have nn:(0:Int)<=if v3<0 then -v3 else v3:=by split<;>lia
 have bz:Bt 100 (if v3<0 then -v3 else v3):=by
  split
  .exact by unfold Bt at *;lia
  .exact b3
 generalize hz:(if v3<0 then -v3 else v3)=z at nn bz;have B4:=B.YB xd yd;have eh:=Ku a (th:=v1) (mr:=v2) (ls:=z) B4.w.bk (WN.nm w wN) (WN.sm w wN) (WN.sm o oN) wpp wL TD nn L8;have B5:=B4.ÁD (w:=w) (o:=o) (th:=v1) (mr:=v2) (ls:=z) (by rw[<-B.w.pr.names];exact wL) (WN.sm o oN) oN ⟨b1,b2,bz⟩;refine⟨Za (.int (k:Nat)),Za (.str o),Za (.tup [.int v1,.int v2,.int z]),_,_,_,?_,B5,by rw[aA,hL,tk];rfl⟩;apply(ot (i:=8)).trans;unfold pL;have ad:∀u9 Rq s,x2 (j' 2) (j' 8) YH (bE p nb nd mo (.int (pp.length:Nat)) cn (pp++hs) u7 (Za (.int (k:Nat))) u9 Rq) s=.ok (.int ((pp.length+k:Nat):Int)) s:=λu9 Rq s=>(wH (i:=(pp.length:Nat)) (j:=(k:Nat)) (ma rfl) (ma rfl)).trans (by rw[ek]);have nw:∀u9 Rq s,x2 (j' 4) (x2 (j' 2) (j' 8) YH) Yo (bE p nb nd mo (.int (pp.length:Nat)) cn (pp++hs) u7 (Za (.int (k:Nat))) u9 Rq) s=.ok (.str w) s:=λu9 Rq s=>(mK (ma rfl) (ad _ _ _)).trans (yM wat);apply mD (mM (v:=.str o) (s':=YB t p xa ya) ((mK (ma rfl) (mJ (mf (ma rfl) (mf (ad _ _ _) rfl)) rfl e1)).trans (yM RY)));refine mD (mM (v:=.tup [.int v1,.int v2,.int z]) (s':=YB t p xd yd) (qW (mf (mJ (mf (ma rfl) rfl) rfl f1) (mf (mJ (mf (ma rfl) rfl) rfl f2) (mf ((Bw (mf (mJ (mf (ma rfl) rfl) rfl f3) rfl)).trans (show Ĥ [.int v3] (YB t p xd yd)=.ok (.int z) (YB t p xd yd) by rw[<-hz];rfl)) rfl))))) ?_;apply mD (uc ((tT (ma rfl) B4.w.bk (mf (nw _ _ _) (mf (ma rfl) (mf ((mK (ma rfl) rfl).trans rfl) (mf ((mK (ma rfl) rfl).trans rfl) (mf ((mK (ma rfl) rfl).trans rfl) rfl))))) rfl).trans eh));have l4:=B4.w.lt.2.2.1;refine(zp (rN (mf (v:=.ref t.nx) (s1:=((YB t p xd yd).set nb (.book pp (L++[⟨w,v1,v2,z,[(o,1,1)]⟩]))).add (.Yr [(ap o,ZJ (1,1))])) ?_ (mf (ma rfl) rfl))) (ma rfl) (nw _ _ _) (l:=M.map Ô) ?_ ?_).trans rfl
 .rfl
 .rw[mX,Zd (show((YB t p xd yd).set nb _).nx≠nd from λq=>by have:t.nx=nd:=q;have:nd<t.nx:=l4;lia),mC _ _ (bH B4.w.i3)];exact B4.w.md
 .rw[ac];have:=congrArg cD B.w.pr.names;rw[ac,ac] at this;lia
def KO(ws:List PV)(k:Nat)(hk:k<=ws.length):Dv ws Zb (Za (k:Int))=ws.take k:=by
 unfold Dv;have e1:HT.Y5 ws.length 0 Zb=0:=rfl;have e2:HT.Y5 ws.length ws.length (Za k)=k:=by
  simp[HT.Y5]
  grind
 simp_all
def og(h:f Z s=.ok (.lst l) s1):YK f Z s=.ok l s1:=by unfold YK;rw[h];rfl
def ù.start(hp:p<s.nx)(hP:Yv s p)(x y)(N):ù s (((K'.bump (My.YB s p x y)).add (.book [] [])).add (.Yr [])) p (s.nx+1) (s.nx+2) N 0 [] [] []:=by
 have n1:(K'.bump (My.YB s p x y)).nx=s.nx+1:=rfl;have n2:((K'.bump (My.YB s p x y)).add (.book [] [])).nx=s.nx+2:=rfl;have g:∀k,k<s.nx+1->(((K'.bump (My.YB s p x y)).add (.book [] [])).add (.Yr [])).get k=(My.YB s p x y).get k:=λk hk=>by rw[mX,Zd (by lia),mX,Zd (by lia),Kz]
 refine⟨⟨?_,?_,?_,(λm hm=>nomatch hm),by lia,by lia,by lia,(λm hm=>nomatch hm),by simp,⟨?_,?_,?_,(λm hm=>nomatch hm)⟩,.nil⟩,?_,λj h1 h2=>?_,by lia,by lia,(λm hm=>nomatch hm)⟩
 .obtain⟨u,v,e⟩:=hP.YB x y;exact⟨u,v,by rw[g p (by lia)];exact e⟩
 .rw[mX,Zd (by lia),mX,Zc n1]
 .rw[mX,Zc n2];rfl
 .show p<s.nx+3;lia
 .show s.nx+1<s.nx+3;lia
 .show s.nx+2<s.nx+3;lia
 .show s.nx<=s.nx+3;lia
 .rw[g j (by lia)];exact mC _ _ h2
def ù.Z8(B:ù s t p nb nd (pp++hs) c pp L M)(a)(WN:Wds (pp++hs))(hL:L.map (·.nm)=hs)(hh:hs≠[])(h8:hs.length<=8)(hp6:pp.length<=6)(hc:c<=40) :
  ∃t' L' M',rB a [.ref p,.ref nd,.lst ((pp++hs).map .str),.ref nb] t=.ok .Ym t'/\ù s t' p nb nd (pp++hs) (c+1) pp L' M'/\L'.map (·.nm)=hs:=by
 have l8:L.length<=8:=by grind
 have hM:M≠[]:=λz=>by
  have:=B.w.pr.names
  grind
 obtain⟨t',L',M',e,W,n1,n2,nx,fr⟩:=MF a B.w hc hM (by rw[hL];exact(b6.mp WN.nd).2.1) WN.sm (λn hn=>aD _ (hL▸hn)) (λn hn=>by rw[di,sQ,oZ,hL];exact aW.mp hn) (λz=>hh (List.append_eq_nil_iff.mp z).2) (by grind) l8
 refine⟨t',L',M',e,⟨W,by rw[nx];exact B.nx,λj h1 h2=>?_,B.lo.1,B.lo.2.1,λm hm=>?_⟩,n1.trans hL⟩
 .rw[fr j h2 (by have:=B.lo.1;lia) λz=>?_]
  .exact B.fr j h1 h2
  .obtain⟨m,hm,z⟩:=ar.mp z;have:=B.lo.2.2 m hm;lia
 .have:=n2▸ar.mpr ⟨m,hm,rfl⟩;obtain⟨m',h',z⟩:=ar.mp this;rw[<-z];exact B.lo.2.2 m' h'
def KY(a:Yl)(s:K')(p:Nat)(hp:p<s.nx)(hP:Yv s p)(mx:Nat)(hm:mx<=7):∃t nb nd pp hs c L M,qS a [.ref p,.int (mx:Nat)] s=.ok (.tup [.ref nb,.lst ((Yq pp).map .str),.ref nd]) t/\ù s t p nb nd (pp++hs) c pp L M/\L.map (·.nm)=hs/\Wds (pp++hs)/\1<=pp.length/\pp.length<=3/\hs.length<=mx/\c<=28:=by
 obtain⟨x0,y0,et⟩:=uV hP;obtain⟨r,xa,ya,r0,r1,e1⟩:=vd a hP x0 y0 (n:=3) (by decide) (pj (by decide) (Zf rfl));rw[<-et] at e1;obtain⟨my,hmy,rfl⟩:∃my:Nat,1<=my/\r=(my:Int)-1:=⟨r.toNat+1,by lia,by lia⟩;obtain⟨cn',xb,yb,c0,cn1,e2⟩:=vd a hP xa ya (n:=((mx+1:Nat):Int)) (by lia) (pj (by lia) (by lia));obtain⟨cn,rfl⟩:∃cn:Nat,cn'=cn:=⟨cn'.toNat,by lia⟩;obtain⟨xc,yc,vs,d,fl,v0,v7,hd,e3⟩:=Kj a (YB s p xb yb) p hp (hP.YB xb yb) (my+cn) (by lia);have WN:=JD (fl:=fl) (m:=my+cn) v0 v7 hd (by lia);have pq:YB (YB s p xb yb) p xc yc=YB s p xc yc:=xg _ _ _ _ _ _;rw[pq] at e3;generalize hN:(br (my+cn)).map (Į vs d fl)=N at *;have hNl:N.length=my+cn:=by rw[<-hN];simp
 obtain⟨pp,hs,rfl,rfl⟩:∃pp hs:List Str,N=pp++hs/\pp.length=my:=⟨N.take my,N.drop my,(kZ my N).symm,by rw[eC];lia⟩;have hsl:hs.length=cn:=by rw[aT] at hNl;lia
 subst hsl;have B0:=ù.start hp hP xc yc (pp++hs);obtain⟨u7,t1,lp1,B1⟩:=wo a WN (.int (mx:Nat)) (.int (pp.length:Nat)) (.int (hs.length:Nat)) Zb Zb Zb pp [] Zb _ B0 (λn hn=>bV _ hn) ((b6.mp WN.nd).1) (by rw[dg];lia);rw[dg] at B1;obtain⟨š,t2,lp2,u8,u9,Rq,L2,M2,rfl,B2,XM⟩:=uY (body:=mV (V' 8) (pL a)) hs.length
  (λk Z t=>∃u8 u9 Rq L M,Z=bE p (s.nx+1) (s.nx+2) (.int (mx:Nat)) (.int (pp.length:Nat)) (.int (hs.length:Nat)) (pp++hs) u7 u8 u9 Rq/\ù s t p (s.nx+1) (s.nx+2) (pp++hs) 0 pp L M/\L.map (·.nm)=hs.take k)
  (λk Z t hk hI=>by obtain⟨u8,u9,Rq,L,M,rfl,B,hL⟩:=hI;obtain⟨a8,a9,a10,t',L',M',q1,q2,q3⟩:=FW a WN (by lia) hmy (by lia) (.int (mx:Nat)) (.int (hs.length:Nat)) u7 u8 u9 Rq k hk B hL;exact⟨_,_,q1,_,_,_,_,_,rfl,q2,q3⟩) (Z:=bE p (s.nx+1) (s.nx+2) (.int (mx:Nat)) (.int (pp.length:Nat)) (.int (hs.length:Nat)) (pp++hs) u7 Zb Zb Zb) (s:=t1) ⟨Zb,Zb,Zb,[],[],rfl,B1,by simp⟩
 rw[jg] at XM;have sl:∃UE t3 c L3 M3,Ø (YO (x2 (j' 3) (xC (.int 0)) fGt)) (Z7 (Zn (F' (Yb 2 (mH a) (F' (j' 0) (F' (x2 (x2 (xC (.int 4)) (j' 3) YC) (xC (.int 1)) YH) J'))) J')) (V' 8) (pK a)) Y9 (bE p (s.nx+1) (s.nx+2) (.int (mx:Nat)) (.int (pp.length:Nat)) (.int (hs.length:Nat)) (pp++hs) u7 u8 u9 Rq) t2=.nx (bE p (s.nx+1) (s.nx+2) (.int (mx:Nat)) (.int (pp.length:Nat)) (.int (hs.length:Nat)) (pp++hs) u7 UE u9 Rq) t3/\ù s t3 p (s.nx+1) (s.nx+2) (pp++hs) c pp L3 M3/\L3.map (·.nm)=hs/\c<=28:=by
  by_cases hc0:hs=[]
  .refine⟨u8,t2,0,L2,M2,(qM (s1:=t2) ?_).trans rfl,B2,XM,by lia⟩;unfold YO;rw[mK (ma rfl) rfl,hc0];rfl
  .have Uk:0<hs.length:=iN.mpr hc0;obtain⟨RZ,WB,et2⟩:=uV B2.w.pu;obtain⟨n',xe,ye,n0,n1,e5⟩:=B2.w.Ϧ a RZ WB (n:=((4*hs.length+1:Nat):Int)) (by lia) (pj (by lia) (by lia));rw[<-et2] at e5;obtain⟨n,rfl⟩:∃n:Nat,n'=n:=⟨n'.toNat,by lia⟩;obtain⟨ρ3,t3,lp3,UE,L3,M3,rfl,B3,XJ⟩:=uY (body:=mV (V' 8) (pK a)) n
    (λk Z t=>∃u8 L M,Z=bE p (s.nx+1) (s.nx+2) (.int (mx:Nat)) (.int (pp.length:Nat)) (.int (hs.length:Nat)) (pp++hs) u7 u8 u9 Rq/\ù s t p (s.nx+1) (s.nx+2) (pp++hs) k pp L M/\L.map (·.nm)=hs)
    (λk Z t hk hI=>by obtain⟨u8,L,M,rfl,B,hL⟩:=hI;obtain⟨t',L',M',q1,q2,q3⟩:=B.Z8 a WN hL hc0 (by lia) (by lia) (by lia);refine⟨_,t',(ot (i:=8)).trans ?_,Za (.int (k:Nat)),L',M',rfl,q2,q3⟩;unfold pK;exact uc (mJ (mf (ma rfl) (mf (ma rfl) (mf (ma rfl) (mf (ma rfl) rfl)))) rfl q1)) (Z:=bE p (s.nx+1) (s.nx+2) (.int (mx:Nat)) (.int (pp.length:Nat)) (.int (hs.length:Nat)) (pp++hs) u7 u8 u9 Rq) (s:=YB t2 p xe ye) ⟨u8,L2,M2,rfl,B2.YB xe ye,XM⟩
   refine⟨UE,t3,n,L3,M3,(wa (s1:=t2) ?_).trans (qH (tX (n:=n) (mf (mJ (mf (ma rfl) (mf ((wH (pO (i:=4) (j:=(hs.length:Nat)) rfl (ma rfl) (.inr (.inl ⟨Zf rfl,Zf rfl⟩))) rfl).trans ?_) rfl)) rfl e5) rfl) (by lia)) lp3),B3,XJ,by lia⟩
   .unfold YO;rw[mK (ma rfl) rfl];show Out.bind (Out.ok (PV.bl (decide ((0:Int)<(hs.length:Nat)))) _) _=_;rw[Zg (by lia)];rfl
   .rw[show(4:Int)*(hs.length:Nat)+1=((4*hs.length+1:Nat):Int) by lia]
 obtain⟨UE,t3,c,L3,M3,e6,B3,XJ,hc⟩:=sl;refine⟨t3,s.nx+1,s.nx+2,pp,hs,c,L3,M3,mZ ?_,B3,XJ,WN,hmy,by lia,by lia,hc⟩;have VU:∀u7 u8 u9 Rq nb nd s',Ϯ (j' 4) Ġ (Ö (j' 2)) (bE p nb nd (.int (mx:Nat)) (.int (pp.length:Nat)) (.int (hs.length:Nat)) (pp++hs) u7 u8 u9 Rq) s'=.ok (.lst (pp.map .str)) s':=λu7 u8 u9 Rq nb nd s'=>by
  have:Dv ((pp++hs).map PV.str) Zb (Za ((pp.length:Nat):Int))=pp.map PV.str:=by rw[KO _ _ (by simp),<-List.map_take,List.take_left'];rfl
  simp only[Ϯ,j',bE,gO,gN,Out.bind,Ġ,Ö,fSl,YI,this]
 unfold wv;apply mD (mM (v:=.int (pp.length:Nat)) (s':=YB s p xa ya) ((wH (i:=1) rfl (mJ (mf (ma rfl) (mf rfl rfl)) rfl e1)).trans (by rw[show(1:Int)+((pp.length:Int)-1)=(pp.length:Nat) by lia])));apply mD (mM (mJ (mf (ma rfl) (mf ((wH (i:=(mx:Nat)) (j:=1) (ma rfl) rfl).trans (by rw[show((mx:Nat):Int)+1=((mx+1:Nat):Int) by lia])) rfl)) rfl e2));apply mD (mM (mJ (mf (ma rfl) (mf ((wH (i:=(pp.length:Nat)) (j:=(hs.length:Nat)) (ma rfl) (ma rfl)).trans (by rw[show((pp.length:Nat):Int)+(hs.length:Nat)=((pp.length+hs.length:Nat):Int) by lia])) rfl)) rfl e3));apply mD (mM (v:=.ref (s.nx+1)) (s':=(K'.bump (YB s p xc yc)).add (.book [] [])) rfl);apply mD (mM (v:=.ref (s.nx+2)) (s':=((K'.bump (YB s p xc yc)).add (.book [] [])).add (.Yr [])) rfl);refine mD (qH (l:=pp.map .str) (s1:=((K'.bump (YB s p xc yc)).add (.book [] [])).add (.Yr [])) ?_ lp1) ?_
 .exact og (VU Zb Zb Zb Zb (s.nx+1) (s.nx+2) _)
 apply mD (qH (tX (n:=hs.length) (mf (ma rfl) rfl) (by lia)) lp2);apply mD e6;refine nT (qW (mf (ma rfl) (mf ((Bw (mf (VU _ _ _ _ _ _ _) rfl)).trans ?_) (mf (ma rfl) rfl))));simp[m6,YI,vU,show pp.length<64 by lia]
def own(L:List Ent)(n:Str):List Str:=match oo L n with
 |some e=>Yq (e.held.map (·.1))
 |none=>[]
def Cl(L:List Ent)(h:Str)(S:Str->Prop):Prop:=(∀x∈own L h,S x)/\∀y,S y->∀x∈own L y,S x
structure Rch(L:List Ent)(h:Str)(F:List Str):Prop where
 nd:F.Nodup
 cl:Cl L h (·∈F)
 mn:∀S,Cl L h S->∀x∈F,S x
def Àc(L:List Ent)(q:List Str×List Str)(n:Str):List Str×List Str:=if n∈q.1 then q else(q.1++[n],if mR L n=true then q.2++[n] else q.2)
structure Inv1(L:List Ent)(N:List Str)(h:Str)(F W:List Str):Prop where
 nd:F.Nodup
 sub:∀x∈F,x∈N
 wt:∀x∈W,mR L x=true
 mn:∀S,Cl L h S->∀x∈F,S x
 wr:∀x∈W,x=h\/x∈F
def Ln(h:mR L n=false):own L n=[]:=by
 unfold mR at h;unfold own
 grind
theorem Mg:∀{F N:List Str},F.Nodup->(∀x∈F,x∈N)->F.length<=N.length
 |[],_,_,_=>a6 _
 |x::F,N,h,k=>by
  have hx:=k x ai;have h:=aM.mp h;have:=Mg h.2 λy z=>(List.mem_erase_of_ne (λe:y=x=>h.1 (e▸z))).mpr (k y (ae _ z))
  grind
noncomputable abbrev LS(U:List Str):PV:=.lst (U.map .str)
def JE(h:m8 c b n Z s=.nx Yp s'):tZ c b Z s=.nx Yp s':=(xD h (by grind)).trans rfl
theorem B8(s)(k):∀(U:List Str),(∀x∈U,bM x=true)->yQ (PV.data s (k+1)) (U.map PV.str)=Za (U.map jp)
 |[],_=>rfl
 |x::r,h=>by
  rw[am];unfold yQ;rw[B8 s k r λy hy=>h y (ae _ hy)];have e:PV.data s (k+1) (.str x)=Za (.str x):=by unfold PV.data;rw[Zc (h x ai)]
  rw[e];rfl
def xt(s)(k)(h:∀x∈U,bM x=true):PV.data s (k+2) (LS U)=Za (.list (U.map jp)):=by unfold PV.data;rw[B8 s k U h];rfl
def yw(h:Sm x):bM x=true:=by unfold bM;rw[<-Array.all_toList,dH];exact λc hc=>Zg (g8 (h.2 c hc) (Zf rfl))
def nY(h:f Z s=.ok (.bl b) s1):YO f Z s=.ok b s1:=by unfold YO;rw[h];rfl
def DF(h:f Z s=.ex c s'):W' f g Z s=.ex c s':=by unfold W';rw[h]
def Jt(h:f Z s=.ex c s'):ī f Z s=.ex c s':=by unfold ī;rw[h];rfl
def FX(l)(n):(nc l n).1=n:=by
 unfold nc;cases e:l.find? λq=>decide (q.1=n) with
 |none=>rfl
 |some q=>grind
structure Ho(L:List Ent)(N:List Str):Prop where
 ow:∀n e,oo L n=Za e->e.held.length<64/\∀x∈e.held.map (·.1),x∈N
 sm:∀n∈N,Sm n
 le:N.length<64
 hn:∀n,mR L n=true->n∈N
def Ho.sub(H:Ho L N)(y):∀x∈own L y,x∈N:=by
 unfold own;cases e:oo L y with
 |none=>grind
 |some e'=>exact λx z=>(H.ow y e' e).2 x ((mF _).mem_iff.mp z)
section
variable{T:K'}{nb:Nat}{pp:List Str}{L:List Ent}{h:Str}
def Ki(a)(hb:T.get nb=Za (.book pp L))(hh:mR L h=true)(hs:Nm h):oB a [.ref nb,.str h] T=.ok .Ym T:=by
 simp[oB,nV,hb]
 simp_all
end
abbrev LI(l:List Int):PV:=.lst (l.map .int)
theorem Cp(g):∀(l k:List Int),(∀x∈l,∀y∈k,e (Za (.int x)::Za (.int y)::cap) s=.ok (.int (g x y)) s)->nG nQ e cap (uN (l.map .int) (k.map .int)) s=.ok ((kK g l k).map .int) s
 |[],_,_=>rfl
 |_::_,[],_=>rfl
 |x::l,y::k,h=>by
  have ih:=Cp g l k λx' hx y' hy=>h x' (ae _ hx) y' (ae _ hy);have h0:=h x ai y ai;show(match nQ (Za (.int x)::Za (.int y)::cap) s with
   |.ok true s1=>match e (Za (.int x)::Za (.int y)::cap) s1 with
    |.ok v s2=>match nG nQ e cap (uN (l.map .int) (k.map .int)) s2 with
     |.ok vs s3=>Out.ok (v::vs) s3
     |_=>.bad
    |_=>.bad
   |.ok false s1=>nG nQ e cap (uN (l.map .int) (k.map .int)) s1
   |_=>.bad)=_
  simp only[nQ,h0,ih];rfl
def DP(h:l[i]?=Za x):Yo (LI l) (.int (i:Nat)) t=.ok (.int x) t:=by have:È (l.map PV.int) i=Za (.int x):=nC (by rw[aF,h];rfl);simp[Yo,YI,this]
noncomputable def clr(p r d:Int)(row RK:List Int):List Int:=kK (λx y=>(p*x-r*y)/d) row RK
def Bq(h1:f Z s=.ok (.int i) s1)(h2:g Z s1=.ok (.int j) s2)(hd:zY j):x2 f g Í Z s=.ok (.int (i/j)) s2:=by rw[mK h1 h2];exact Zc hd
def Lr(h1:f Z s=.ok (.int i) s1)(h2:g Z s1=.ok (.int j) s2)(hm:qz i j):x2 f g YC Z s=.ok (.int (i*j)) s2:=by rw[mK h1 h2];exact Zc hm
def Pi(h1:f Z s=.ok (.int i) s1)(h2:g Z s1=.ok (.int j) s2):x2 f g Ü Z s=.ok (.int (i-j)) s2:=by rw[mK h1 h2];rfl
def Ga(a)(s)(hl:row.length<=1000)(hb:RK.length<=1000)(hp:RK[t]?=Za p)(hr:row[t]?=Za r)(hd:zY d)(m1:∀x∈row,qz p x)(m2:∀y∈RK,qz r y) :
  sI a [LI row,LI RK,.int (t:Nat),.int d] s=.ok (LI (clr p r d row RK)) s:=by
 apply mZ;apply nT;have c:=Cp (s:=s) (cap:=[Za (.int d),Za (LI RK),Za (.int t),Za (LI row)]) (e:=x2 (x2 (x2 (x2 (j' 3) (j' 4) Yo) (j' 0) YC) (x2 (x2 (j' 5) (j' 4) Yo) (j' 1) YC) Ü) (j' 2) Í) (λx y=>(p*x-r*y)/d) row RK λx hx y hy =>
  Bq (Pi (Lr ((mK (ma rfl) (ma rfl)).trans (DP hp)) (ma rfl) (m1 x hx)) (Lr ((mK (ma rfl) (ma rfl)).trans (DP hr)) (ma rfl) (m2 y hy))) (ma rfl) hd
 have z:GN (F' (j' 0) (F' (j' 1) J')) ([LI row,LI RK,PV.int t,.int d].map Za++aQ (4-4) Zb) s=.ok (uN (row.map .int) (RK.map .int)) s:=by rfl
 show((GN (F' (j' 0) (F' (j' 1) J')) ([LI row,LI RK,PV.int t,.int d].map Za++aQ (4-4) Zb) s).bind _)=_;show(if(uN (row.map PV.int) (RK.map PV.int)).length<=100000 then _ else _)=_;rw[Zc (by rw[Aj,ac,ac];lia)];show(nG nQ _ [Za (.int d),Za (LI RK),Za (.int t),Za (LI row)] (uN (row.map PV.int) (RK.map PV.int)) s).bind _=_;rw[c];rfl
theorem z8(g:Nat->List Int->List Int):∀(M:List (List Int))(k:Nat),(∀i row,M[i]?=Za row->e (Za (.int ((k+i:Nat):Int))::Za (LI row)::cap) s=.ok (LI (g (k+i) row)) s)->nG nQ e cap (sA k (M.map LI)) s=.ok ((M.mapIdx λi row=>g (k+i) row).map LI) s
 |[],_,_=>rfl
 |row::M,k,h=>by
  have ih:=z8 g M (k+1) λi q' hq=>by have:=h (i+1) q' hq;rw[show k+(i+1)=k+1+i by lia] at this;exact this
  have h0:=h 0 row rfl;rw[Nat.add_zero] at h0;show(match nQ (Za (.int k)::Za (LI row)::cap) s with
   |.ok true s1=>match e (Za (.int k)::Za (LI row)::cap) s1 with
    |.ok v s2=>match nG nQ e cap (sA (k+1) (M.map LI)) s2 with
     |.ok vs s3=>Out.ok (v::vs) s3
     |_=>.bad
    |_=>.bad
   |.ok false s1=>nG nQ e cap (sA (k+1) (M.map LI)) s1
   |_=>.bad)=_
  simp[nQ,h0,ih]
  grind
abbrev LL(M:List (List Int)):PV:=.lst (M.map LI)
def at2(M:List (List Int))(i j:Nat):Int:=(((M[i]?).getD [])[j]?).getD 0
def ϕ(t:Nat)(d:Int)(M:List (List Int)):List (List Int):=M.mapIdx λi row=>if i=t then row else clr (at2 M t t) ((row[t]?).getD 0) d row ((M[t]?).getD [])
def ZS(M:List (List Int)):Nat->Int×List (List Int)
 |0=>(1,M)
 |t+1=>(at2 (ZS M t).2 t t,ϕ t (ZS M t).1 (ZS M t).2)
structure Rows(n w:Nat)(q:Int×List (List Int)):Prop where
 n:q.2.length=n
 w:∀row∈q.2,row.length=w
 b:∀row∈q.2,∀x∈row,Bt 20000 x
 d:zY q.1
def Mw(a:Yl)(s:K')(R:Rows n w q)(hn:n<=1000)(hw:w<=1000)(ht:t<n)(Wd:n<=w)(rows:PV)(u4:Option PV) :
  wc a [Za rows,Za (.int q.1),Za (LL q.2),Za (.int (t:Nat)),u4] s=.nx [Za rows,Za (.int (at2 q.2 t t)),Za (LL (ϕ t q.1 q.2)),Za (.int (t:Nat)),Za (LI ((q.2[t]?).getD []))] s:=by
 obtain⟨RK,hM⟩:∃r,q.2[t]?=Za r:=⟨_,aC (by rw[R.n];exact ht)⟩;have XB:=b5.mpr ⟨t,hM⟩;have hbl:=R.w RK XB;have hp:RK[t]?=Za (at2 q.2 t t):=by unfold at2;rw[hM];show RK[t]?=Za ((RK[t]?).getD 0);rw[aC (by lia)];rfl
 unfold wc;refine mD (mM (v:=LI RK) (s':=s) ((mK (ma rfl) (ma rfl)).trans ?_)) ?_
 .have:È (q.2.map LI) (t:Int)=Za (LI RK):=nC (by rw[aF,hM];rfl);simp[Yo,YI,this]
 have lt:∀{row:List Int},row∈q.2->row[t]?=Za ((row[t]?).getD 0):=λ{row} hr=>by have:=R.w row hr;rw[aC (by lia)];rfl
 have c:=z8 (s:=s) (cap:=[Za (.int (t:Nat)),Za (LI RK),Za (.int q.1)]) (e:=ġ (YO (x2 (j' 0) (j' 2) Ý)) (j' 1) (Yb 4 (sI a) (F' (j' 1) (F' (j' 3) (F' (j' 2) (F' (j' 4) J'))))))
  (λi row=>if i=t then row else clr (at2 q.2 t t) ((row[t]?).getD 0) q.1 row RK) q.2 0 λi row Xb=>by
   have hm:row∈q.2:=b5.mpr ⟨i,Xb⟩;have eq:YO (x2 (j' 0) (j' 2) Ý) [Za (.int ((0+i:Nat):Int)),Za (LI row),Za (.int (t:Nat)),Za (LI RK),Za (.int q.1)] s=.ok (decide (i=t)) s:=by
    unfold YO;rw[mK (ma rfl) (ma rfl),fu];show(Z0 false _ _ _).bind _=_;unfold Z0;rw[pf,pf];show(Out.ok (PV.bl (cC (.int (i:Int)) (.int (t:Int)))) s).bind _=_;rw[si];show Out.ok (((i:Int)==(t:Int))) s=_
    congr 1
    rw[ci,beq_iff_eq,decide_eq_true_iff];lia
   unfold ġ;rw[eq,fu];by_cases z:i=t
   .rw[Zg z,Zc z];rfl
   .rw[Zh z,Zd z];have hl:=R.w row hm;show Yb 4 (sI a) (F' (j' 1) (F' (j' 3) (F' (j' 2) (F' (j' 4) J')))) [Za (.int (i:Int)),Za (LI row),Za (.int (t:Nat)),Za (LI RK),Za (.int q.1)] s=_;exact mJ (mf (ma rfl) (mf (ma rfl) (mf (ma rfl) (mf (ma rfl) rfl)))) rfl (Ga a s (by lia) (by lia) hp (lt hm) R.d (λx hx=>.inl ⟨R.b RK XB _ (b5.mpr ⟨t,hp⟩),R.b row hm x hx⟩) (λy hy=>.inl ⟨R.b row hm _ (b5.mpr ⟨t,lt hm⟩),R.b RK XB y hy⟩))
 have nx:ϕ t q.1 q.2=q.2.mapIdx λi row=>if 0+i=t then row else clr (at2 q.2 t t) ((row[t]?).getD 0) q.1 row RK:=by
  unfold ϕ;rw[hM]
  congr 1
  funext i row
  rw[fu];rfl
 rw[<-nx] at c;refine mD (mM (v:=LL (ϕ t q.1 q.2)) (s':=s) ?_) ((mM ((mK (ma rfl) (ma rfl)).trans (DP hp))).trans (by rw[hM];rfl));unfold pN;have z:wJ (F' (j' 2) J') [Za rows,Za (.int q.1),Za (LL q.2),Za (.int (t:Nat)),Za (LI RK)] s=.ok (sA 0 (q.2.map LI)) s:=by unfold wJ;rw[mf (ma (v:=LL q.2) rfl) rfl];rfl
 show((wJ (F' (j' 2) J') [Za rows,Za (.int q.1),Za (LL q.2),Za (.int (t:Nat)),Za (LI RK)] s).bind _)=_;rw[z];show(if(sA 0 (q.2.map LI)).length<=100000 then _ else _)=_;rw[Zc (by rw[sG,ac,R.n];lia)];show(nG nQ _ [Za (.int (t:Nat)),Za (LI RK),Za (.int q.1)] (sA 0 (q.2.map LI)) s).bind _=_;rw[c];rfl
def KP(ws:List PV)(k:Nat)(hk:k<=ws.length):Dv ws (Za (k:Int)) Zb=ws.drop k:=by
 unfold Dv;have e1:HT.Y5 ws.length 0 (Za k)=k:=by
  simp[HT.Y5]
  grind
 have e2:HT.Y5 ws.length ws.length Zb=ws.length:=rfl;rw[e1,e2];exact kL (by rw[gL];omega)
def IH(h:f Z s=.ok (.lst l) s1):YK f Z s=.ok l s1:=by unfold YK;rw[h];rfl
def HW(a:Yl)(s:K')(hn:n<=1000)(hw:w<=1000)(Wd:n<=w)(R:∀t,t<=n->Rows n w (ZS rows t)):wX a [LL rows] s=.ok (.tup [LL ((ZS rows n).2.map (·.drop n)),.int (ZS rows n).1]) s:=by
 have len:rows.length=n:=(R 0 (a6 _)).n;obtain⟨Yp,s',lp,u3,u4,rfl,rfl⟩:=uY n
  (λk Z s'=>∃u3 u4,Z=[Za (LL rows),Za (.int (ZS rows k).1),Za (LL (ZS rows k).2),u3,u4]/\s'=s)
  (λk Z s' hk hI=>by obtain⟨u3,u4,rfl,rfl⟩:=hI;exact⟨_,_,(ot (i:=3)).trans (Mw a s' (R k (fA hk)) hn hw hk Wd (LL rows) u4),_,_,rfl,rfl⟩) ⟨Zb,Zb,rfl,rfl⟩
 apply mZ;have ln:∀(Z:En) s i,Z[i]?=Za (Za (LL rows))->xB (F' (j' i) J') Zw Z s=.ok (.int n) s:=λZ s i h=>by rw[Bw (mf (ma h) rfl)];simp[Zw,YI,len]
 apply mD (mM rfl);apply mD (mM (ma rfl));apply mD (qH (tX (mf (ln _ _ 0 rfl) rfl) (by omega)) lp);have c:=qq (s:=s') (cap:=[Za (LL rows)]) (c:=nQ) (e:=Ϯ (j' 0) (Ö (xB (F' (j' 1) J') Zw)) Ġ) (λ_=>true) (λp=>match p with|.lst l=>.lst (l.drop n)|p=>p) ((ZS rows n).2.map LI) (λq _=>rfl) (λq hq _=>by obtain⟨row,hr,rfl⟩:=ar.mp hq;have hl:=(R n (al _)).w row hr;have cd:=KP (row.map PV.int) n (by grind);have l1:=ln [Za (LI row),Za (LL rows)] s' 1 rfl;simp only[Ϯ,j',gN,Out.bind,Ö,l1,Ġ,fSl,YI,cd])
 have e1:((((ZS rows n).2.map LI).filter λ_=>true).map λp=>match p with|.lst l=>PV.lst (l.drop n)|p=>p)=((ZS rows n).2.map (·.drop n)).map LI:=by
  rw[iP.mpr (λ_ _=>rfl),aE,aE];exact a7 λrow _=>by show PV.lst ((row.map PV.int).drop n)=PV.lst ((row.drop n).map PV.int);rw[List.map_drop]
 rw[e1] at c;exact nT (qW (mf (qG (IH (ma rfl)) (by rw[ac,(R n (al _)).n];omega) c) (mf (ma rfl) rfl)))
end My
namespace El
def sm(f:Nat->Rat):Nat->Rat
 |0=>0
 |n+1=>sm f n+f n
theorem Ys:∀{n:Nat},(∀k,k<n->f k=g k)->sm f n=sm g n
 |0,_=>rfl
 |n+1,h=>by unfold sm;rw[Ys λk hk=>h k (by lia),h n (by lia)]
theorem Z9(a c)(f g):∀n:Nat,sm (λk=>a*f k+c*g k) n=a*sm f n+c*sm g n
 |0=>by unfold sm;grind
 |n+1=>by unfold sm;rw[Z9 a c f g n];grind
theorem Ê(a)(f):∀n:Nat,sm (λk=>a*f k) n=a*sm f n
 |0=>by unfold sm;grind
 |n+1=>by unfold sm;rw[Ê a f n];grind
theorem ĺ:∀{n:Nat},(∀k,k<n->f k=0)->sm f n=0
 |0,_=>rfl
 |n+1,h=>by unfold sm;rw[ĺ λk hk=>h k (by lia),h n (by lia)];grind
theorem ZM:∀{n:Nat},p<n->(∀k,k<n->k≠p->f k=0)->sm f n=f p
 |0,hp,_=>absurd hp (by lia)
 |n+1,hp,h=>by
  unfold sm;by_cases c:p=n
  .subst c;rw[ĺ λk hk=>h k (by lia) (by lia)];grind
  .rw[ZM (p:=p) (by lia) λk hk=>h k (by lia),h n (by lia) (by lia)];grind
theorem Ld(hpq:p<q):∀{n:Nat},q<n->(∀k,k<n->k≠p->k≠q->f k=0)->sm f n=f p+f q
 |0,hp,_=>absurd hp (by lia)
 |n+1,hp,h=>by
  unfold sm;by_cases c:q=n
  .subst c;rw[ZM hpq λk hk z=>h k (by lia) z (by lia)]
  .rw[Ld hpq (by lia) λk hk=>h k (by lia),h n (by lia) (by lia) (by lia)];grind
def skip(j k:Nat):Nat:=if k<j then k else k+1
def sg(j:Nat):Rat:=if j%2=0 then 1 else -1
def MH(j):sg (j+1)=- sg j:=by
 unfold sg
 grind
noncomputable def dt:Nat->(Nat->Nat->Rat)->Rat
 |0,_=>1
 |n+1,M=>sm (λj=>sg j*M 0 j*dt n (λi k=>M (i+1) (skip j k))) (n+1)
def upd(M:Nat->Nat->Rat)(p:Nat)(b:Nat->Rat):Nat->Nat->Rat:=λi k=>if k=p then b i else M i k
theorem wT:∀{n:Nat}{M N:Nat->Nat->Rat},(∀i,i<n->∀k,k<n->M i k=N i k)->dt n M=dt n N
 |0,_,_,_=>rfl
 |n+1,M,N,h=>by unfold dt;refine Ys λj hj=>?_;rw[h 0 (by lia) j hj,wT (n:=n) λi hi k hk=>h (i+1) (by lia) (skip j k) (by unfold skip;split<;>lia)]
theorem ô:∀{n:Nat}{M:Nat->Nat->Rat}{p:Nat}(a c:Rat)(u v:Nat->Rat),p<n->dt n (upd M p λi=>a*u i+c*v i)=a*dt n (upd M p u)+c*dt n (upd M p v)
 |0,_,_,_,_,_,_,hp=>absurd hp (by lia)
 |n+1,M,p,a,c,u,v,hp=>by
  unfold dt;rw[<-Z9];refine Ys λj hj=>?_;by_cases e:j=p
  .subst e;have mi:∀w:Nat->Rat,(λi k=>upd M j w (i+1) (skip j k))=λi k=>M (i+1) (skip j k):=λw=>by
    funext i k
    unfold upd;rw[Zd (by unfold skip;split<;>lia)]
   rw[mi,mi,mi];unfold upd
   grind
  .have mi:∀w:Nat->Rat,(λi k=>upd M p w (i+1) (skip j k))=upd (λi k=>M (i+1) (skip j k)) (if p<j then p else p-1) λi=>w (i+1):=λw=>by
    funext i k
    unfold upd;have:skip j k=p↔k=if p<j then p else p-1:=by unfold skip;grind
    grind
   rw[mi,mi,mi,ô a c (λi=>u (i+1)) (λi=>v (i+1)) (by grind)];unfold upd;rw[Zd e,Zd e,Zd e]
   grind
theorem GH:∀{n:Nat}{M:Nat->Nat->Rat}{p:Nat},p+1<n->(∀i,M i p=M i (p+1))->dt n M=0
 |0,_,_,hp,_=>absurd hp (by lia)
 |n+1,M,p,hp,h=>by
  unfold dt;rw[Ld (p:=p) (q:=p+1) (by lia) hp]
  .have mi:(λi k=>M (i+1) (skip p k))=λi k=>M (i+1) (skip (p+1) k):=by
    funext i k
    by_cases c:k=p
    .subst c;have e1:skip k k=k+1:=by unfold skip;grind
     have e2:skip (k+1) k=k:=by unfold skip;grind
     rw[e1,e2,h]
    .have:skip p k=skip (p+1) k:=by unfold skip;grind
     rw[this]
   rw[mi,MH,h 0]
   grind
  .intro j hj h1 h2;rw[GH (p:=if p<j then p else p-1) (by grind)]
   .grind
   .intro i;have e1:skip j (if p<j then p else p-1)=p:=by unfold skip;grind
    have e2:skip j ((if p<j then p else p-1)+1)=p+1:=by unfold skip;grind
    simp_all
def wZ(M)(h:p≠q)(u v):upd (upd M p u) q v=upd (upd M q v) p u:=by
 funext i k
 unfold upd
 grind
def NT(hp:p+1<n):dt n (upd (upd M p λi=>M i (p+1)) (p+1) λi=>M i p)=- dt n M:=by
 let F:=λu v:Nat->Rat=>dt n (upd (upd M p u) (p+1) v);have hF:∀u,F u u=0:=λu=>GH hp λi=>by unfold upd;rw[Zd (by lia),Zc rfl,Zc rfl]
 have l2:∀u v w,F u (λi=>1*v i+1*w i)=1*F u v+1*F u w:=λu v w=>ô 1 1 v w hp;have l1:∀u v w,F (λi=>1*v i+1*w i) u=1*F v u+1*F w u:=λu v w=>by show dt n _=1*dt n _+1*dt n _;rw[wZ M (show p≠p+1 by lia) _ u,wZ M (show p≠p+1 by lia) v u,wZ M (show p≠p+1 by lia) w u];exact ô 1 1 v w (by lia)
 have e:=hF λi=>1*M i p+1*M i (p+1);rw[l1,l2,l2,hF,hF] at e;have e1:F (λi=>M i p) (λi=>M i (p+1))=dt n M:=by
  show dt n _=_
  congr 1
  funext i k
  unfold upd;split
  .rename_i z;rw[z]
  .simp_all
 grind
theorem Mm:∀(d:Nat){M:Nat->Nat->Rat}{p:Nat},p+d+1<n->(∀i,M i p=M i (p+d+1))->dt n M=0
 |0,_,_,hp,h=>GH hp h
 |d+1,M,p,hp,h=>by
  have e:=NT (M:=M) (p:=p+d+1) hp;have z:=Mm (n:=n) d (M:=upd (upd M (p+d+1) λi=>M i (p+d+1+1)) (p+d+1+1) λi=>M i (p+d+1)) (p:=p) (by lia) λi=>by
   unfold upd
   grind
  rw[z] at e
  grind
def NU(hp:p<n)(hq:q<n)(h:p≠q)(e:∀i,M i p=M i q):dt n M=0:=by
 obtain c|c:=Nat.lt_or_gt_of_ne h
 .obtain⟨d,rfl⟩:∃d,q=p+d+1:=⟨q-p-1,by lia⟩;exact Mm d hq e
 .obtain⟨d,rfl⟩:∃d,p=q+d+1:=⟨p-q-1,by lia⟩;exact Mm d hp λi=>(e i).symm
theorem LJ(hp:p<n)(x:Nat->Rat)(C:Nat->Nat->Rat):∀m:Nat,dt n (upd M p λi=>sm (λl=>x l*C i l) m)=sm (λl=>x l*dt n (upd M p λi=>C i l)) m
 |0=>by
  have:=ô (M:=M) 0 0 (λ_=>0) (λ_=>0) hp;unfold sm
  grind
 |m+1=>by
  have:=ô (M:=M) 1 (x m) (λi=>sm (λl=>x l*C i l) m) (λi=>C i m) hp;unfold sm;rw[LJ hp x C m] at this
  grind
def ł(hp:p<n)(x b:Nat->Rat)(h:∀i,i<n->b i=sm (λl=>x l*M i l) n):dt n (upd M p b)=x p*dt n M:=by
 have e1:dt n (upd M p b)=dt n (upd M p λi=>sm (λl=>x l*M i l) n):=wT λi hi k hk=>by
  unfold upd
  simp_all
 rw[e1,LJ hp x M n,ZM hp]
 .congr 2
  funext i k
  unfold upd
  grind
 .intro k hk z;rw[NU hp hk (by lia)]
  .grind
  .intro i;unfold upd;grind
def Hu(x:Nat->Rat):dt (n+1) (upd M n λi=>M i n-sm (λl=>x l*M i l) n)=dt (n+1) M:=by
 have e:=ł (n:=n+1) (p:=n) (by lia) (λl=>if l=n then 1 else-x l) (λi=>M i n-sm (λl=>x l*M i l) n) λi _=>by
  show M i n-sm (λl=>x l*M i l) n=sm (λl=>(if l=n then 1 else-x l)*M i l) n+(if n=n then 1 else-x n)*M i n;have:sm (λl=>(if l=n then 1 else-x l)*M i l) n=(-1)*sm (λl=>x l*M i l) n:=by rw[<-Ê];exact Ys λk hk=>by rw[Zd (by lia)];grind
  rw[this]
  grind
 grind
theorem Dm:∀{n:Nat}{M:Nat->Nat->Rat},(∀i,i<n->M i n=0)->dt (n+1) M=M n n*dt n M
 |0,M,_=>by
  show sm (λj=>sg j*M 0 j*1) 1=M 0 0*1;unfold sm sm sg;simp
  grind
 |n+1,M,h=>by
  have e:dt (n+2) M=sm (λj=>sg j*M 0 j*dt (n+1) (λi k=>M (i+1) (skip j k))) (n+2):=rfl;have e2:dt (n+1) M=sm (λj=>sg j*M 0 j*dt n (λi k=>M (i+1) (skip j k))) (n+1):=rfl;rw[e,e2,<-Ê];show sm _ (n+1)+sg (n+1)*M 0 (n+1)*_=_;rw[h 0 (by lia),Ys (g:=λj=>M (n+1) (n+1)*(sg j*M 0 j*dt n (λi k=>M (i+1) (skip j k)))) λj hj=>?_]
  .grind
  .have sk:skip j n=n+1:=by unfold skip;grind
   rw[Dm λi hi=>by rw[sk];exact h (i+1) (by lia),sk]
   grind
def Ě(q:Rat):Prop:=∃z:Int,q=(z:Rat)
def Ě.add:Ě a->Ě b->Ě (a+b):=λ⟨x,h⟩ ⟨y,k⟩=>⟨x+y,by rw[h,k];grind⟩
def Ě.mul:Ě a->Ě b->Ě (a*b):=λ⟨x,h⟩ ⟨y,k⟩=>⟨x*y,by rw[h,k];grind⟩
def Ě.sub:Ě a->Ě b->Ě (a-b):=λ⟨x,h⟩ ⟨y,k⟩=>⟨x-y,by rw[h,k];exact(jz x y).symm⟩
theorem GC:∀{n:Nat},(∀k,k<n->Ě (f k))->Ě (sm f n)
 |0,_=>⟨0,rfl⟩
 |n+1,h=>(GC λk hk=>h k (by lia)).add (h n (by lia))
def Qq(j):Ě (sg j):=by
 unfold sg;split
 .exact⟨1,rfl⟩
 .exact⟨-1,rfl⟩
theorem GD:∀{n:Nat}{M:Nat->Nat->Rat},(∀i k,Ě (M i k))->Ě (dt n M)
 |0,_,_=>⟨1,rfl⟩
 |n+1,M,h=>GC λj _=>((Qq j).mul (h 0 j)).mul (GD λi k=>h _ _)
structure Cl(A:Nat->Nat->Rat)(t:Nat)(d:Rat)(M X:Nat->Nat->Rat):Prop where
 d0:d≠0
 dt:d=dt t A
 so:∀i,i<t->∀j,sm (λl=>X l j*A i l) t=A i j
 up:∀i,i<t->∀j,M i j=d*X i j
 lo:∀i,t<=i->∀j,M i j=d*(A i j-sm (λl=>X l j*A i l) t)
def nextM(t:Nat)(d:Rat)(M:Nat->Nat->Rat):Nat->Nat->Rat:=λi j=>if i=t then M t j else(M t t*M i j-M i t*M t j)/d
def Cl.zero(A):Cl A 0 1 A λ_ _=>0:=⟨Zf rfl,rfl,λi h=>absurd h (by lia),λi h=>absurd h (by lia),λi _ j=>by show A i j=1*(A i j-0);grind⟩
def Cl.next(C:Cl A t d M X)(hp:M t t≠0):∃X',Cl A (t+1) (M t t) (nextM t d M) X':=by
 have d0:=C.d0;have hs:M t t=d*(A t t-sm (λl=>X l t*A t l) t):=C.lo t (al _) t;generalize hsd:A t t-sm (λl=>X l t*A t l) t=s at hs;have s0:s≠0:=λz=>hp (by rw[hs,z];grind);let y:=λj=>(A t j-sm (λl=>X l j*A t l) t)/s;have hy:∀j,s*y j=A t j-sm (λl=>X l j*A t l) t:=λj=>by show s*(_/s)=_;grind
 let X':Nat->Nat->Rat:=λi j=>if i=t then y j else X i j-X i t*y j
 have hX:∀(c:Nat->Rat)(j:Nat),sm (λl=>X' l j*c l) (t+1)=sm (λl=>X l j*c l) t-y j*sm (λl=>X l t*c l) t+y j*c t:=λc j=>by
  show sm (λl=>X' l j*c l) t+X' t j*c t=_;have e:sm (λl=>X' l j*c l) t=sm (λl=>1*(X l j*c l)+(- y j)*(X l t*c l)) t:=Ys λk hk=>by
   show(if k=t then y j else X k j-X k t*y j)*c k=_;rw[Zd (by lia)]
   grind
  rw[e,Z9];show _+(if t=t then y j else _)*c t=_;rw[Zc rfl]
  grind
 refine⟨X',hp,?_,λi hi j=>?_,λi hi j=>?_,λi hi j=>?_⟩
 .rw[<-Hu (n:=t) (M:=A) λl=>X l t,Dm]
  .have e:El.dt t (upd A t λi=>A i t-sm (λl=>X l t*A i l) t)=El.dt t A:=wT λi hi k hk=>by unfold upd;rw[Zd (by lia)]
   rw[e,<-C.dt];unfold upd;rw[Zc rfl];show M t t=(A t t-sm (λl=>X l t*A t l) t)*d;rw[hsd,hs]
   grind
  .intro i hi;unfold upd;rw[Zc rfl];show A i t-sm (λl=>X l t*A i l) t=0;rw[C.so i hi t]
   grind
 .rw[hX];by_cases c:i=t
  .subst c;have:=hy j
   grind
  .rw[C.so i (by lia) j,C.so i (by lia) t]
   grind
 .show nextM t d M i j=_*(if i=t then y j else X i j-X i t*y j);unfold nextM;have hj:=C.lo t (al _) j;have:=hy j;by_cases c:i=t
  .rw[Zc c,Zc c,hj,hs]
   grind
  .rw[Zd c,Zd c,C.up i (by lia) j,C.up i (by lia) t,hj,hs]
   grind
 .rw[hX];unfold nextM;have hj:=C.lo t (al _) j;have:=hy j;rw[Zd (by lia),C.lo i (by lia) j,C.lo i (by lia) t,hj,hs]
  grind
def Cl.whole(C:Cl A t d M X)(hA:∀i j,Ě (A i j)):Ě d/\∀i j,Ě (M i j):=by
 have hd:Ě d:=by rw[C.dt];exact GD hA
 have up:∀i,i<t->∀j,Ě (d*X i j):=λi hi j=>by
  have e:=ł hi (λl=>X l j) (λk=>A k j) λk hk=>(C.so k hk j).symm;rw[<-C.dt] at e;have:d*X i j=El.dt t (upd A i λk=>A k j):=by rw[e];grind
  rw[this];refine GD λk l=>?_;unfold upd
  grind
 refine⟨hd,λi j=>?_⟩;by_cases c:i<t
 .rw[C.up i c j];exact up i c j
 .rw[C.lo i (by lia) j];have e:d*(A i j-sm (λl=>X l j*A i l) t)=d*A i j-sm (λl=>(d*X l j)*A i l) t:=by
   have:sm (λl=>(d*X l j)*A i l) t=d*sm (λl=>X l j*A i l) t:=by
    rw[<-Ê]
    grind
   rw[this]
   grind
  rw[e];exact(hd.mul (hA i j)).sub (GC λk hk=>(up k hk j).mul (hA i k))
def gs(n:Nat)(G:Nat->Bool)(S:Nat->Nat->Rat)(j:Nat):Rat:=sm (λi=>if G i=true then S i j else 0) n
structure Zm(n t:Nat)(S:Nat->Nat->Rat):Prop where
 off:∀i j,t<=i->i<n->t<=j->j<n->i≠j->S i j<=0
 col:∀G:Nat->Bool,(∀i,G i=true->t<=i)->∀j,j<n->G j=true->0<=gs n G S j
 grp:∀G:Nat->Bool,(∀i,G i=true->t<=i/\i<n)->(∃j,G j=true)->∃j,G j=true/\0<gs n G S j
def EY(h:∀i,i<n->G i=true->S i j=T i j):gs n G S j=gs n G T j:=Ys λi hi=>by
 grind
def Zm.congr(h:Zm n t S)(e:∀i j,t<=i->i<n->T i j=S i j):Zm n t T:=by
 refine⟨λi j a b c d f=>by rw[e i j a b];exact h.off i j a b c d f,λG hG j hj gj=>?_,λG hG hx=>?_⟩
 .rw[EY λi hi gi=>e i j (hG i gi) hi];exact h.col G hG j hj gj
 .obtain⟨j,gj,p⟩:=h.grp G hG hx;exact⟨j,gj,by rw[EY λi hi gi=>e i j (hG i gi).1 hi];exact p⟩
def Zm.piv(h:Zm n t S)(ht:t<n):0<S t t:=by
 obtain⟨j,gj,p⟩:=h.grp (λi=>decide (i=t)) (λi z=>by lia) ⟨t,Zg rfl⟩;have:=Zf gj;subst this;have e:gs n (λi=>decide (i=j)) S j=S j j:=by
  unfold gs;rw[ZM ht]
  .simp
  .simp_all
 simp_all
def zA(t:Nat)(S:Nat->Nat->Rat):Nat->Nat->Rat:=λi j=>S i j-S i t*(S t j/S t t)
def LC(ht:t<n)(hG:G t=false)(j):gs n (λi=>G i||decide (i=t)) S j=gs n G S j+S t j:=by
 unfold gs;have e:sm (λi=>if decide (i=t)=true then S t j else 0) n=S t j:=by
  rw[ZM ht]
  .simp
  .simp_all
 rw[show sm (λi=>if G i=true then S i j else 0) n+S t j=1*sm (λi=>if G i=true then S i j else 0) n+1*sm (λi=>if decide (i=t)=true then S t j else 0) n by rw[e];grind,<-Z9];refine Ys λi _=>?_;by_cases c:i=t
 .subst c;simp[hG];grind
 .simp[c];grind
def Hk(j):gs n G (zA t S) j=gs n G S j-gs n G S t*(S t j/S t t):=by unfold gs;generalize hq:S t j/S t t=q;rw[show sm (λi=>if G i=true then S i j else 0) n-sm (λi=>if G i=true then S i t else 0) n*q=1*sm (λi=>if G i=true then S i j else 0) n+(-q)*sm (λi=>if G i=true then S i t else 0) n by grind,<-Z9];refine Ys λi _=>?_;unfold zA;rw[hq];split<;>grind
def np{a b:Rat}(ha:a<=0)(hb:b<=0):0<=a*b:=by
 have:=bK (a:=-a) (b:=-b) (by grind) (by grind)
 grind
def QG{a b:Rat}(ha:a<=0)(hb:0<b):a/b<=0:=by
 have h1:=kP (Rat.inv_pos.mpr hb);have:=bK (a:=-a) (by grind) h1
 grind
def KI{a b:Rat}(ha:a<0)(hb:0<b):a/b<0:=by
 have:=iF (a:=-a) (by grind) (Rat.inv_pos.mpr hb)
 grind
def Zm.next{n t:Nat}{S:Nat->Nat->Rat}(h:Zm n t S)(ht:t<n):Zm n (t+1) (zA t S):=by
 have pv:=h.piv ht;have q0:∀j,t+1<=j->j<n->S t j/S t t<=0:=λj h1 h2=>QG (h.off t j (al _) ht (by lia) h2 (by lia)) pv;have main:∀G:Nat->Bool,(∀i,G i=true->t+1<=i)->∀j,gs n G (zA t S) j=gs n (λi=>G i||decide (i=t)) S j-gs n (λi=>G i||decide (i=t)) S t*(S t j/S t t):=λG hG j=>by
  have gt:G t=false:=by
   cases c:G t with
   |false=>rfl
   |true=>have:=hG t c;lia
  rw[Hk,LC ht gt,LC ht gt];have:S t t*(S t j/S t t)=S t j:=by grind
  grind
 have Z5:∀G:Nat->Bool,(∀i,G i=true->t+1<=i)->∀i,(G i||decide (i=t))=true->t<=i:=λG hG i z=>by
  rcases(di _ _).mp z with z|z
  .have:=hG i z;lia
  .have:=Zf z;lia
 have sg0:∀G:Nat->Bool,(∀i,G i=true->t+1<=i)->0<=gs n (λi=>G i||decide (i=t)) S t:=λG hG=>h.col _ (Z5 G hG) t ht (by simp);have ge:∀G:Nat->Bool,(∀i,G i=true->t+1<=i)->∀j,j<n->G j=true->gs n (λi=>G i||decide (i=t)) S j<=gs n G (zA t S) j:=λG hG j hj gj=>by
  rw[main G hG];have:=bK (a:=gs n (λi=>G i||decide (i=t)) S t) (b:=-(S t j/S t t)) (sg0 G hG) (by have:=q0 j (hG j gj) hj;grind)
  grind
 refine⟨λi j a b c d f=>?_,λG hG j hj gj=>?_,λG hG hx=>?_⟩
 .have h1:=h.off i j (by lia) b (by lia) d f;have h2:=np (h.off i t (by lia) b (al _) ht (by lia)) (q0 j c d);unfold zA
  grind
 .have h1:=h.col (λi=>G i||decide (i=t)) (Z5 G hG) j hj (by simp[gj]);have h2:=ge G hG j hj gj
  grind
 .have UB:=λi z=>(hG i z).1;obtain⟨j,gj,p⟩:=h.grp (λi=>G i||decide (i=t)) (λi z=>⟨Z5 G UB i z,by
   rcases(di _ _).mp z with z|z
   .exact(hG i z).2
   .have:=Zf z;lia⟩) (by obtain⟨j,gj⟩:=hx;exact⟨j,by simp[gj]⟩)
  rcases(di _ _).mp gj with gj|gj
  .refine⟨j,gj,?_⟩;have:=ge G UB j (hG j gj).2 gj
   grind
  .have:=Zf gj;subst this;by_cases c:∃k,G k=true/\S j k<0
   .obtain⟨k,gk,nk⟩:=c;refine⟨k,gk,?_⟩;rw[main G UB];have h1:=h.col (λi=>G i||decide (i=j)) (Z5 G UB) k (hG k gk).2 (by simp[gk]);have h2:=iF (a:=gs n (λi=>G i||decide (i=j)) S j) (b:=-(S j k/S j j)) p (by have:=KI nk pv;grind)
    grind
   .obtain⟨k,gk,pk⟩:=h.grp G (λi z=>⟨by have:=UB i z;lia,(hG i z).2⟩) hx;refine⟨k,gk,?_⟩;have h0:S j k=0:=by
     have h1:=h.off j k (al _) ht (by have:=UB k gk;lia) (hG k gk).2 (by have:=UB k gk;lia);have h2:¬S j k<0:=λz=>c ⟨k,gk,z⟩
     grind
    rw[Hk,h0];have:(0:Rat)/S j j=0:=by grind
    rw[this]
    grind
def bm(A:Nat->Nat->Rat):Nat->Rat×(Nat->Nat->Rat)
 |0=>(1,A)
 |t+1=>((bm A t).2 t t,nextM t (bm A t).1 (bm A t).2)
theorem run(h:Zm n 0 A):∀t,t<=n->(∃X,Cl A t (bm A t).1 (bm A t).2 X)/\0<(bm A t).1/\Zm n t λi j=>(bm A t).2 i j/(bm A t).1
 |0,_=>⟨⟨_,Cl.zero A⟩,(by decide:(0:Rat)<1),h.congr λi j _ _=>by show A i j/1=A i j;grind⟩
 |t+1,ht=>by
  obtain⟨⟨X,C⟩,dp,Zj⟩:=run h t (by lia);have pv:=Zj.piv (by lia);have d0:(bm A t).1≠0:=λz=>by rw[z] at dp;grind
  have pp:0<(bm A t).2 t t:=by
   have:=iF dp pv;have e:(bm A t).1*((bm A t).2 t t/(bm A t).1)=(bm A t).2 t t:=by grind
   simp_all
  have p0:(bm A t).2 t t≠0:=λz=>by rw[z] at pp;grind
  refine⟨C.next p0,pp,(Zj.next (by lia)).congr λi j hi _=>?_⟩;show nextM t (bm A t).1 (bm A t).2 i j/(bm A t).2 t t=zA t _ i j;unfold nextM zA;rw[Zd (by lia)]
  grind
end El
namespace My
open PySem L2 Fra
def rc(h:M[i]?=Za row)(k:row[j]?=Za x):at2 M i j=x:=by
 unfold at2
 simp_all
def Om(hn:M.length=n)(hw:∀row∈M,row.length=w)(ht:t<n)(htw:t<w)(hi:i<n)(hj:j<w):at2 (ϕ t d M) i j=if i=t then at2 M t j else(at2 M t t*at2 M i j-at2 M i t*at2 M t j)/d:=by
 have get:∀k,k<n->∃row,M[k]?=Za row/\row.length=w:=λk hk=>by
  simp_all
 obtain⟨row,hr,rl⟩:=get i hi;obtain⟨RK,hb,bl⟩:=get t ht;obtain⟨x,hx⟩:∃x,row[j]?=Za x:=⟨_,aC (by lia)⟩;obtain⟨r,hrt⟩:∃r,row[t]?=Za r:=⟨_,aC (by lia)⟩;obtain⟨y,hy⟩:∃y,RK[j]?=Za y:=⟨_,aC (by lia)⟩;rw[rc hb hy,rc hr hx,rc hr hrt];have e:(ϕ t d M)[i]?=Za (if i=t then row else clr (at2 M t t) ((row[t]?).getD 0) d row ((M[t]?).getD [])):=by unfold ϕ;rw[List.getElem?_mapIdx,hr];rfl
 by_cases c:i=t
 .rw[Zc c] at e ⊢;subst c;rw[hr] at hb;cases hb;rw[hx] at hy;cases hy;exact rc e hx
 .rw[Zd c] at e ⊢;rw[hb,hrt] at e;apply rc e;show(kK (λx y=>(at2 M t t*x-r*y)/d) row RK)[j]?=_
  simp_all
def Nt(t)(d)(M):(ϕ t d M).length=M.length:=by unfold ϕ;grind
def Ák(hw:∀row∈M,row.length=w)(ht:t<M.length):∀row∈ϕ t d M,row.length=w:=by
 intro row hr;obtain⟨i,hi,e⟩:=List.mem_mapIdx.mp hr;have h1:=hw _ (cR hi);have e2:=aC ht;rw[<-e];split
 .exact h1
 .rw[e2];unfold clr
  grind
theorem LY(hn:rows.length=n)(hw:∀row∈rows,row.length=w)(Wd:n<=w)(Zj:El.Zm n 0 λi j=>((at2 rows i j:Int):Rat)):∀t,t<=n->(ZS rows t).2.length=n/\(∀row∈(ZS rows t).2,row.length=w)/\(((ZS rows t).1:Int):Rat)=(El.bm (λi j=>((at2 rows i j:Int):Rat)) t).1/\∀i j,i<n->j<w->((at2 (ZS rows t).2 i j:Int):Rat)=(El.bm (λi j=>((at2 rows i j:Int):Rat)) t).2 i j
 |0,_=>⟨hn,hw,rfl,λ_ _ _ _=>rfl⟩
 |t+1,ht=>by
  obtain⟨h1,h2,h3,h4⟩:=LY hn hw Wd Zj t (by lia);obtain⟨⟨X,C⟩,dp,_⟩:=El.run Zj t (by lia);obtain⟨⟨X',C'⟩,_,_⟩:=El.run Zj (t+1) ht;refine⟨(Nt _ _ _).trans h1,Ák h2 (by lia),h4 t t (by lia) (by lia),λi j hi hj=>?_⟩;show((at2 (ϕ t (ZS rows t).1 (ZS rows t).2) i j:Int):Rat)=El.nextM t _ _ i j;rw[Om h1 h2 (by lia) (by lia) hi hj];obtain⟨z,hz⟩:=(C'.whole λi j=>⟨_,rfl⟩).2 i j;have hz:El.nextM t _ _ i j=z:=hz;unfold El.nextM at hz ⊢;by_cases c:i=t
  .simp_all
  .rw[Zd c] at hz ⊢;rw[Zd c,hz];rw[<-h4 t t (by lia) (by lia),<-h4 i j hi hj,<-h4 i t hi (by lia),<-h4 t j (by lia) hj,<-h3] at hz;rw[<-h3] at dp;have d0:(((ZS rows t).1:Int):Rat)≠0:=λq=>by rw[q] at dp;grind
   generalize (ZS rows t).1=d at *;generalize at2 (ZS rows t).2 t t=p at *;generalize at2 (ZS rows t).2 i j=x at *;generalize at2 (ZS rows t).2 i t=r at *;generalize at2 (ZS rows t).2 t j=y at *;have e:((p*x-r*y:Int):Rat)=((d*z:Int):Rat):=by
    grind
   have e:=Rat.intCast_inj.mp e;have dz:d≠0:=λq=>d0 (by rw[q];rfl)
   simp_all
theorem uF(hl)(g):∀(ns:List Str),(∀n∈ns,e (Za (.str n)::Za (ZJ (nc hl n).2)::cap) s=.ok (g n) s)->nG nQ e cap (ns.map λn=>t9 (nc hl n)) s=.ok (ns.map g) s
 |[],_=>rfl
 |n::ns,h=>by
  have ih:=uF hl g ns λm hm=>h m (ae _ hm);have h0:=h n ai;rw[am];have ep:t9 (nc hl n)=.tup [.str n,ZJ (nc hl n).2]:=by unfold t9;rw[FX]
  rw[ep];show(match nQ (Za (.str n)::Za (ZJ (nc hl n).2)::cap) s with
   |.ok true s1=>match e (Za (.str n)::Za (ZJ (nc hl n).2)::cap) s1 with
    |.ok v s2=>match nG nQ e cap (ns.map λn=>t9 (nc hl n)) s2 with
     |.ok vs s3=>Out.ok (v::vs) s3
     |_=>.bad
    |_=>.bad
   |.ok false s1=>nG nQ e cap (ns.map λn=>t9 (nc hl n)) s1
   |_=>.bad)=_
  simp only[nQ,h0,ih];rfl
theorem vT:∀U:List Str,toVs (U.map PV.str)=Za (U.map V.str)
 |[]=>rfl
 |x::r=>by rw[am];unfold toVs;rw[vT r];rfl
def Cd(n:Str)(U:List Str):inV (.str n) (U.map V.str)=decide (n∈U):=by
 unfold inV;rw[gX,ci,fF,decide_eq_true_iff];constructor
 .rintro⟨x,hx,e⟩
  have e:(x==n)=true:=e
  grind
 .exact λh=>⟨n,h,beq_self_eq_true n⟩
def Áx(n:Str)(V:List Str)(s:K'):fIn (.str n) (LS V) s=.ok (.bl (decide (n∈V))) s:=by simp[fIn,rg,ZG,toV,YI,vT,Fj,Cd]
theorem HG(g):∀ns:List Str,Af (ns.map λn=>PV.bl (g n))=Za (ns.map g)
 |[]=>rfl
 |n::ns=>by rw[am];unfold Af;rw[HG g ns];rfl
def Z5(L:List Ent)(G:List Str)(h:Str):Bool:=(own L h).all λn=>decide (n∈G)
def NK(a)(H:Ho L N)(hb:T.get nb=Za (.book pp L))(hh:mR L h=true):oW a [.ref nb,.str h,LS G] T=.ok (.bl (Z5 L G h)) T:=by
 obtain⟨e,fe,oe⟩:∃e,oo L h=Za e/\own L h=Yq (e.held.map (·.1)):=by have:=hh;obtain⟨e,he⟩:=eL.mp this;exact⟨e,he,by unfold own;rw[he]⟩
 have hl:=(H.ow h e fe).1;have sh:oY a [.ref nb,.str h] T=.ok (qX e.held) T:=by
  simp[oY,nV,hb];rw[Zc (H.sm h (H.hn h hh)).nm,fe]
  simp_all
 apply mZ;have c:=uF (cap:=[Za (LS G)]) (e:=x2 (j' 0) (j' 2) fIn) e.held (λn=>.bl (decide (n∈G))) (Yq (e.held.map (·.1))) λn _=>(mK (ma rfl) (ma rfl)).trans (Áx n G T);have it:YK (Ĭ 2 (oY a) (j' 0) (F' (j' 1) J')) [Za (.ref nb),Za (.str h),Za (LS G)] T=.ok ((Yq (e.held.map (·.1))).map λn=>t9 (nc e.held n)) T:=og ((tT (ma rfl) hb (mf (ma rfl) rfl) rfl).trans sh);have cc:pN (YK (Ĭ 2 (oY a) (j' 0) (F' (j' 1) J'))) [2] nQ (x2 (j' 0) (j' 2) fIn) [Za (.ref nb),Za (.str h),Za (LS G)] T=.ok (.lst ((Yq (e.held.map (·.1))).map λn=>PV.bl (decide (n∈G)))) T:=by unfold pN;rw[it];show(if((Yq (e.held.map (·.1))).map λn=>t9 (nc e.held n)).length<=100000 then _ else _)=_;rw[Zc (by rw[ac,(mF _).length_eq,ac];lia)];show(nG nQ _ [Za (LS G)] _ T).bind _=_;rw[c];rfl
 refine nT ((Bw (mf cc rfl)).trans ?_);show(match Af ((Yq (e.held.map (·.1))).map λn=>PV.bl (decide (n∈G))) with
  |some bs=>Out.ok (PV.bl (bs.all id)) T
  |none=>.bad)=_
 rw[HG (λn=>decide (n∈G))];unfold Z5
 simp_all
end My
namespace El
def ab(x:Rat):Rat:=if x<0 then -x else x
def Ù(x):0<=ab x:=by unfold ab;split<;>grind
def QT(x y):ab (x+y)<=ab x+ab y:=by unfold ab;split<;>split<;>split<;>grind
def Ű(x y):ab (x*y)=ab x*ab y:=by
 unfold ab;by_cases hx:x<0<;>by_cases hy:y<0
 .have:=iF (a:=-x) (b:=-y) (by grind) (by grind);rw[Zd (by grind),Zc hx,Zc hy];grind
 .have:=bK (a:=-x) (b:=y) (by grind) (by grind);rw[Zc hx,Zd hy]
  grind
 .have:=bK (a:=x) (b:=-y) (by grind) (by grind);rw[Zd hx,Zc hy]
  grind
 .have:=bK (a:=x) (b:=y) (by grind) (by grind)
  grind
def ÁX(j):ab (sg j)=1:=by unfold sg;split<;>decide
def pr(f:Nat->Rat):Nat->Rat
 |0=>1
 |n+1=>pr f n*f n
theorem Ma:∀{n:Nat},(∀k,k<n->0<=f k)->0<=pr f n
 |0,_=>by show(0:Rat)<=1;decide
 |n+1,h=>bK (Ma λk hk=>h k (by lia)) (h n (by lia))
theorem æ:∀{n:Nat},(∀k,k<n->f k=g k)->pr f n=pr g n
 |0,_=>rfl
 |n+1,h=>by unfold pr;rw[æ λk hk=>h k (by lia),h n (by lia)]
def Mh{a b c d:Rat}(ha:0<=a)(hd:0<=d)(h1:a<=b)(h2:c<=d):a*c<=b*d:=by
 have e1:=bK (b:=d-c) ha (by grind);have e2:=bK (a:=b-a) (by grind) hd
 grind
theorem å{f g:Nat->Rat}:∀{n:Nat},(∀k,k<n->0<=f k/\f k<=g k)->pr f n<=pr g n
 |0,_=>by show(1:Rat)<=1;grind
 |n+1,h=>by have ih:=å (n:=n) λk hk=>h k (by lia);have hn:=h n (by lia);have p0:0<=pr f n:=Ma λk hk=>(h k (by lia)).1;exact Mh p0 (by grind) ih hn.2
theorem Ļ:∀{n:Nat},(∀k,k<n->f k<=g k)->sm f n<=sm g n
 |0,_=>by show(0:Rat)<=0;grind
 |n+1,h=>by
  have ih:=Ļ (n:=n) λk hk=>h k (by lia);have:=h n (by lia);unfold sm
  grind
theorem O4(f):∀n:Nat,ab (sm f n)<=sm (λk=>ab (f k)) n
 |0=>by show ab 0<=0;decide
 |n+1=>by
  have ih:=O4 f n;have:=QT (sm f n) (f n);show ab (sm f n+f n)<=sm (λk=>ab (f k)) n+ab (f n)
  grind
theorem Ey{a b:Nat->Rat}(ha:∀k,0<=a k)(hb:∀k,0<=b k):∀n:Nat,sm (λj=>a j*pr (λk=>b (skip j k)) n) (n+1)<=pr (λk=>a k+b k) (n+1)
 |0=>by
  show(0:Rat)+a 0*1<=1*(a 0+b 0);have:=hb 0
  grind
 |n+1=>by
  have ih:=Ey ha hb n;show sm (λj=>a j*pr (λk=>b (skip j k)) (n+1)) (n+1)+a (n+1)*pr (λk=>b (skip (n+1) k)) (n+1)<=pr (λk=>a k+b k) (n+1)*(a (n+1)+b (n+1));have e1:sm (λj=>a j*pr (λk=>b (skip j k)) (n+1)) (n+1)=b (n+1)*sm (λj=>a j*pr (λk=>b (skip j k)) n) (n+1):=by
   rw[<-Ê];refine Ys λj hj=>?_;show a j*(pr (λk=>b (skip j k)) n*b (skip j n))=_;rw[show skip j n=n+1 by unfold skip;grind]
   grind
  have e2:pr (λk=>b (skip (n+1) k)) (n+1)=pr b (n+1):=æ λk hk=>by rw[show skip (n+1) k=k by unfold skip;split<;>lia]
  have e3:pr b (n+1)<=pr (λk=>a k+b k) (n+1):=å λk _=>⟨hb k,by grind⟩;rw[e1,e2];have f1:=bK (a:=b (n+1)) (b:=pr (λk=>a k+b k) (n+1)-sm (λj=>a j*pr (λk=>b (skip j k)) n) (n+1)) (hb _) (by grind);have f2:=bK (a:=a (n+1)) (b:=pr (λk=>a k+b k) (n+1)-pr b (n+1)) (ha _) (by grind)
  grind
theorem ž:∀(n:Nat)(M:Nat->Nat->Rat),ab (dt n M)<=pr (λj=>sm (λi=>ab (M i j)) n) n
 |0,M=>by show ab 1<=1;decide
 |n+1,M=>by
  have h1:ab (dt (n+1) M)<=sm (λj=>ab (M 0 j)*pr (λk=>sm (λi=>ab (M (i+1) (skip j k))) n) n) (n+1):=by
   have:=O4 (λj=>sg j*M 0 j*dt n (λi k=>M (i+1) (skip j k))) (n+1);refine cG this (Ļ λj _=>?_);rw[Ű,Ű,ÁX];have ih:=ž n λi k=>M (i+1) (skip j k);have f:=bK (a:=ab (M 0 j)) (b:=pr (λk=>sm (λi=>ab (M (i+1) (skip j k))) n) n-ab (dt n λi k=>M (i+1) (skip j k))) (Ù _) (by grind)
   grind
  have sn:∀f n,(∀k,0<=f k)->0<=sm f n:=λf n h=>by
   induction n with
   |zero=>show(0:Rat)<=0;grind
   |succ n ih=>show 0<=sm f n+f n;grind
  have h2:=Ey (a:=λj=>ab (M 0 j)) (b:=λj=>sm (λi=>ab (M (i+1) j)) n) (λ_=>Ù _) (λj=>sn _ _ λ_=>Ù _) n;have sh:∀f n,sm f (n+1)=f 0+sm (λi=>f (i+1)) n:=λf n=>by
   induction n with
   |zero=>show 0+f 0=f 0+0;grind
   |succ n ih=>show sm f (n+1)+f (n+1)=f 0+(sm (λi=>f (i+1)) n+f (n+1));rw[ih];grind
  grind
def Cl.low(C:Cl A t d M X)(hi:t<=i):M i j=El.dt (t+1) λr c=>A (if r=t then i else r) (if c=t then j else c):=by
 have lt:∀r,r<t->(if r=t then i else r)=r:=λr h=>Zd (by lia);have lj:∀c,c<t->(if c=t then j else c)=c:=λc h=>Zd (by lia);rw[<-Hu λl=>X l j];have es:∀r,sm (λl=>X l j*A (if r=t then i else r) (if l=t then j else l)) t=sm (λl=>X l j*A (if r=t then i else r) l) t:=λr=>Ys λl hl=>by rw[lj l hl]
 rw[Dm]
 .have e1:El.dt t (upd (λr c=>A (if r=t then i else r) (if c=t then j else c)) t λr=>A (if r=t then i else r) (if t=t then j else t)-sm (λl=>X l j*A (if r=t then i else r) (if l=t then j else l)) t)=El.dt t A:=wT λr hr c hc=>by
   unfold upd;rw[Zd (by lia)]
   grind
  rw[e1,<-C.dt];unfold upd;rw[Zc rfl];show _=(A (if t=t then i else t) (if t=t then j else t)-sm (λl=>X l j*A (if t=t then i else t) (if l=t then j else l)) t)*d;rw[es,Zc rfl,Zc rfl,C.lo i hi j]
  grind
 .intro r hr;unfold upd;rw[Zc rfl];show A (if r=t then i else r) (if t=t then j else t)-sm (λl=>X l j*A (if r=t then i else r) (if l=t then j else l)) t=0;rw[es,lt r hr,Zc rfl,C.so r hr j]
  grind
def Cl.upp(C:Cl A t d M X)(hi:i<t):M i j=El.dt t (upd A i λk=>A k j):=by
 have e:=ł hi (λl=>X l j) (λk=>A k j) λk hk=>(C.so k hk j).symm;rw[e,<-C.dt,C.up i hi j]
 grind
theorem Œ(h:∀k,0<=f k):∀n,0<=sm f n
 |0=>by show(0:Rat)<=0;grind
 |n+1=>by have:=Œ h n;show 0<=sm f n+f n;grind
theorem Jm(h:∀k,0<=f k):∀{n:Nat},t<=n->sm f t<=sm f n
 |0,ht=>by
  have:t=0:=by lia
  grind
 |n+1,ht=>by
  by_cases c:t=n+1
  .grind
  .have:=Jm h (t:=t) (n:=n) (by lia);show sm f t<=sm f n+f n
   grind
theorem x8(h:∀k,0<=f k)(hi:t<=i):∀{n:Nat},i<n->sm f t+f i<=sm f n
 |0,hn=>absurd hn (by lia)
 |n+1,hn=>by
  show sm f t+f i<=sm f n+f n;by_cases c:i=n
  .subst c;have:=Jm h hi
   grind
  .have:=x8 h hi (n:=n) (by lia)
   grind
theorem G5(h:∀c,1<=B c):∀t,1<=pr B t
 |0=>by show(1:Rat)<=1;grind
 |t+1=>by
  have h1:=G5 h t;have h2:=h t;have:=Mh (Zf rfl) (by grind) h1 h2;show 1<=pr B t*B t
  grind
theorem GZ(h:∀c,1<=B c)(i j):∀t,pr (λc=>if c=i then B j else B c) t<=pr B t*B j
 |0=>by have:=h j;show(1:Rat)<=1*B j;grind
 |t+1=>by
  show pr (λc=>if c=i then B j else B c) t*(if t=i then B j else B t)<=pr B t*B t*B j;by_cases c:t=i
  .have e:pr (λc=>if c=i then B j else B c) t=pr B t:=æ λk hk=>Zd (by lia);have h1:=G5 h t;have h3:=h j;have h4:0<=pr B t*B j:=bK (by grind) (by grind);have:=bK (b:=B t-1) h4 (by grind)
   grind
  .rw[Zd c];have:=GZ h i j t;have h2:=h t;have:=bK (a:=B t) (b:=pr B t*B j-pr (λc=>if c=i then B j else B c) t) (by grind) (by grind)
   grind
def Cl.le(C:Cl A t d M X)(ht:t<=n)(h1:∀c,1<=B c)(hB:∀c,sm (λr=>ab (A r c)) n<=B c)(hi:i<n)(j):ab (M i j)<=pr B t*B j:=by
 by_cases c:i<t
 .rw[C.upp c];refine cG (ž _ _) (cG (å λk _=>⟨Œ (λ_=>Ù _) _,?_⟩) (GZ h1 i j t));show sm (λr=>ab (if k=i then A r j else A r k)) t<=if k=i then B j else B k
  split
  .exact cG (Jm (λ_=>Ù _) ht) (hB j)
  .exact cG (Jm (λ_=>Ù _) ht) (hB k)
 .rw[C.low (by lia)];apply cG (ž _ _);have col:∀k,sm (λr=>ab (A (if r=t then i else r) k)) (t+1)<=B k:=λk=>by show sm (λr=>ab (A (if r=t then i else r) k)) t+ab (A (if t=t then i else t) k)<=B k;rw[Ys λr hr=>by rw[Zd (by lia)],Zc rfl];exact cG (x8 (λ_=>Ù _) (by lia) hi) (hB k)
  refine Mh (Ma λk _=>Œ (λ_=>Ù _) _) (by grind) (å λk hk=>⟨Œ (λ_=>Ù _) _,?_⟩) ?_
  .rw[Zd (show ¬k=t by lia)];exact col k
  .simp_all
end El
namespace My
open PySem L2 Fra
def BQ(h:l.Perm m):mS l=mS m:=by
 induction h with
 |nil=>rfl
 |cons x _ ih=>show x+_=x+_;rw[ih]
 |swap x y l=>show y+(x+mS l)=x+(y+mS l);grind
 |trans _ _ a b=>exact a.trans b
def nO(x)(l):mS (x::l)=x+mS l:=rfl
theorem rj:∀{l:List α},(∀x∈l,p x=false->f x=0)->mS ((l.filter p).map f)=mS (l.map f)
 |[],_=>rfl
 |x::l,h=>by
  have ih:=rj λy hy=>h y (ae _ hy);rw[am,nO,<-ih];cases c:p x with
  |true=>rw[List.filter_cons_of_pos c,am,nO]
  |false =>
   rw[List.filter_cons_of_neg (by grind),h x ai c,gY]
def m9{α:Type}{f g:α->Rat}{l:List α}(h:∀x∈l,f x=g x):mS (l.map f)=mS (l.map g):=by rw[a7 h]
def uO{U W:List Str}{g:Str->Rat}(hU:U.Nodup)(hW:W.Nodup)(h:∀x∈U,x∉W->g x=0):mS (U.map g)=mS (W.map λx=>if x∈U then g x else 0):=by
 have e1:=rj λx hx c=>h x hx (of_decide_eq_false c);have e2:mS ((W.filter λx=>decide (x∈U)).map λx=>if x∈U then g x else 0)=mS (W.map λx=>if x∈U then g x else 0):=rj λx hx c=>Zd (of_decide_eq_false c);rw[<-e1,<-e2];have e3:mS ((W.filter λx=>decide (x∈U)).map λx=>if x∈U then g x else 0)=mS ((W.filter λx=>decide (x∈U)).map g):=m9 λx hx=>Zc (Zf (ba.mp hx).2);rw[e3];refine BQ (l7 _ ((jP (hU.filter _) (hW.filter _)).mpr λx=>?_))
 grind
theorem ze:∀{l:List α},(∀x∈l,f x<=g x)->mS (l.map f)<=mS (l.map g)
 |[],_=>lr
 |x::l,h=>by
  have:=ze λy hy=>h y (ae _ hy);rw[am,am,nO,nO]
  grind
theorem GU:∀{l:List α},(∀x∈l,f x<=g x)->(∃x∈l,f x<g x)->mS (l.map f)<mS (l.map g)
 |[],_,⟨_,z,_⟩=>nomatch z
 |x::l,h,⟨y,hy,k⟩=>by
  have a1:=ze λy hy=>h y (ae _ hy);rw[am,am,nO,nO];obtain e|hy:=ao.mp hy
  .subst e;grind
  .have a3:=GU (λy hy=>h y (ae _ hy)) ⟨y,hy,k⟩
   grind
theorem sJ(c)(f:α->Rat):∀l:List α,mS (l.map λx=>c*f x)=c*mS (l.map f)
 |[]=>(Rat.mul_zero c).symm
 |x::l=>by rw[am,am,nO,nO,sJ c f l];grind
theorem uP(f g:α->Rat):∀l:List α,mS (l.map λx=>f x+g x)=mS (l.map f)+mS (l.map g)
 |[]=>(jb 0).symm
 |x::l=>by rw[am,am,am,nO,nO,nO,uP f g l];grind
def HU{α:Type}{f:α->Rat}{l:List α}(h:∀x∈l,f x=0):mS (l.map f)=0:=by
 induction l with
 |nil=>rfl
 |cons x l ih =>
  rw[am,nO,h x ai,ih λy hy=>h y (ae _ hy)];exact jb 0
def MG(f:α->Rat)(l:List α):El.sm (λi=>((l[i]?).map f).getD 0) l.length=mS (l.map f):=by
 have:∀k,k<=l.length->El.sm (λi=>((l[i]?).map f).getD 0) k=mS ((l.take k).map f):=λk=>by
  induction k with
  |zero=>intro _;rfl
  |succ k ih =>
   intro hk;show El.sm _ k+_=_;rw[ih (by lia),d6,aA,wO];have e:l[k]?=Za l[k]:=aC (by lia);show _+((l[k]?).map f).getD 0=_;rw[e];show _+f l[k]=_+(f l[k]+0);rw[jb]
 grind
theorem xF{α β:Type}(f:α->β->Rat)(l:List α):∀m:List β,mS (l.map λx=>mS (m.map λy=>f x y))=mS (m.map λy=>mS (l.map λx=>f x y))
 |[]=>HU λ_ _=>rfl
 |y::m=>by show mS (l.map λx=>f x y+mS (m.map λy=>f x y))=mS (l.map λx=>f x y)+mS (m.map λy=>mS (l.map λx=>f x y));rw[uP,xF f l m]
inductive Cts:Nat->List Ent->Prop
 |nil {c:Nat}:Cts c []
 |cons {c1 c2 c:Nat}{e:Ent}{L:List Ent}:(∃hz,HR c1 e.held hz)->Cts c2 L->c1+c2<=c->Cts c (e::L)
theorem Þ.cts:∀{c:Nat}{L:List Ent}{M:List Md},Þ N c L M->Cts c L
 |_,_,_,.nil=>.nil
 |_,_,_,.cons h r q=>.cons h.hm.r r.cts q
theorem Þ.tb:∀{c:Nat}{L:List Ent}{M:List Md},Þ N c L M->∀e∈L,Bt 100 e.th
 |_,_,_,.nil,_,z=>nomatch z
 |_,_,_,.cons h r q,e,z=>(ao.mp z).elim (λz=>z▸h.tb.1) (r.tb e)
theorem Cts.mem:∀{c:Nat}{L:List Ent},Cts c L->∀e∈L,∃k hz,HR k e.held hz/\k<=c
 |_,_,.nil,_,z=>nomatch z
 |_,_,.cons (c1:=c1) ⟨hz,h⟩ r q,e,z=>by
  obtain z|z:=ao.mp z
  .subst z;exact⟨c1,hz,h,by lia⟩
  .obtain⟨k,hz,h,b⟩:=r.mem e z;exact⟨k,hz,h,by lia⟩
structure Gd(L:List Ent)(N:List Str)(c:Nat):Prop where
 ho:Ho L N
 nd:(L.map (·.nm)).Nodup
 ct:Cts c L
 tb:∀e∈L,Bt 200 e.th
 l8:L.length<=8
 c40:c<=41
def Ay(h:oo L n=Za e):e∈L/\e.nm=n:=by
 unfold oo at h
 grind
def shr(L:List Ent)(h x:Str):Rat:=match oo L h with
 |some e=>rv (mL e.held x)
 |none=>0
def OD(h1:0<=q.1)(h2:0<q.2):0<=rv q:=by
 unfold rv
 simp_all
def Pq(h1:0<q.1)(h2:0<q.2):0<rv q:=by
 have:=OD (bG h1) h2;have z:rv q≠0:=λz=>by
  have k:=Lf q;have n:0<=rv (-q.1,q.2):=by rw[k];grind
  unfold rv at n;rw[Rat.divInt_nonneg_iff_of_pos_right h2] at n
  grind
 grind
section
variable{L:List Ent}{N:List Str}{c:Nat}
def Gd.hr(g:Gd L N c)(f:oo L h=Za e):∃k hz,HR k e.held hz/\k<=c:=g.ct.mem e (Ay f).1
def Gd.ent(g:Gd L N c)(hh:mR L h=true):∃e,oo L h=Za e/\own L h=Yq (e.held.map (·.1))/\∀x,shr L h x=rv (mL e.held x):=by have:=hh;obtain⟨e,he⟩:=eL.mp this;exact⟨e,he,by unfold own;rw[he],λx=>by unfold shr;rw[he]⟩
theorem Gd.nn(g:Gd L N c)(h x):0<=shr L h x:=by
 by_cases hh:mR L h=true
 .obtain⟨e,f,_,s⟩:=g.ent hh;obtain⟨k,hz,R,_⟩:=g.hr f;rw[s];exact OD (R.fr x).nn (R.fr x).low.1
 .have:oo L h=none:=by
   unfold mR at hh
   simp_all
  unfold shr
  simp_all
def Gd.pos(g:Gd L N c)(hx:x∈own L h):0<shr L h x:=by
 by_cases hh:mR L h=true
 .obtain⟨e,f,o,s⟩:=g.ent hh;obtain⟨k,hz,R,_⟩:=g.hr f;rw[o,(mF _).mem_iff] at hx;rw[s];exact Pq ((R.nm x).mp hx) (R.fr x).low.1
 .rw[Ln (by grind)] at hx;cases hx
def Gd.zero(g:Gd L N c)(hx:x∉own L h):shr L h x=0:=by
 by_cases hh:mR L h=true
 .obtain⟨e,f,o,s⟩:=g.ent hh;rw[o,(mF _).mem_iff] at hx;rw[s,vJ hx];exact hZ 1
 .unfold shr;have:oo L h=none:=by
   unfold mR at hh
   simp_all
  rw[this]
def Gd.ond(g:Gd L N c)(h):(own L h).Nodup:=by
 by_cases hh:mR L h=true
 .obtain⟨e,f,o,s⟩:=g.ent hh;obtain⟨k,hz,R,_⟩:=g.hr f;rw[o];exact(mF _).nodup_iff.mpr R.n1
 .rw[Ln (by grind)];exact .nil
theorem Gd.one(g:Gd L N c)(hh:mR L h=true):mS ((own L h).map (shr L h))=1:=by
 obtain⟨e,f,o,s⟩:=g.ent hh;obtain⟨k,hz,R,_⟩:=g.hr f;have e1:=R.one;unfold JA at e1;have e2:mS ((hz.map (·.1)).map λn=>rv (mL hz n))=mS ((hz.map (·.1)).map (shr L h)):=m9 λx _=>by rw[s,R.q]
 rw[e2,uO R.n2 (g.ond h) (λx _ z=>g.zero z)] at e1;rw[<-e1];refine m9 λx hx=>?_;rw[Zc];apply R.had;rw[<-R.q,<-R.nm];rw[o,(mF _).mem_iff] at hx;exact hx
def Ā(L:List Ent):Prop:=∀G:List Str,G≠[]->(∀h∈G,mR L h=true)->∃h∈G,∃x∈own L h,x∉G
def Y8(U:List Str)(i:Nat):Str:=(U[i]?).getD cx
def oO(h:i<U.length):U[i]?=Za (Y8 U i)/\Y8 U i∈U:=by
 unfold Y8
 simp_all
def zx(nd:U.Nodup)(hi:i<U.length)(hj:j<U.length)(h:Y8 U i=Y8 U j):i=j:=by have e1:=(oO hi).1;have e2:=(oO hj).1;rw[<-h] at e2;exact(List.getElem?_inj hi nd).mp (e1.trans e2.symm)
def mA(L:List Ent)(U:List Str)(i j:Nat):Rat:=(if i=j then 1 else 0)-shr L (Y8 U j) (Y8 U i)
def DD(f:Str->Rat):El.sm (λi=>f (Y8 U i)) U.length=mS (U.map f):=by rw[<-MG];refine El.Ys λi hi=>?_;rw[(oO hi).1];rfl
abbrev gl(U:List Str)(G:Nat->Bool):List Str:=((br U.length).filter G).map (Y8 U)
theorem Gd.gs(g:Gd L N c)(nd:U.Nodup)(hj:j<U.length)(Gj:G j=true):El.gs U.length G (mA L U) j=1-mS (U.map λx=>if x∈gl U G then shr L (Y8 U j) x else 0):=by
 unfold El.gs;have mem:∀i,i<U.length->(Y8 U i∈gl U G↔G i=true):=λi hi=>by
  constructor
  .intro z;obtain⟨k,hk,e⟩:=ar.mp z;obtain⟨k1,k2⟩:=ba.mp hk;rw[<-zx nd (cT.mp k1) hi e];exact k2
  .grind
 have e:El.sm (λi=>if G i=true then mA L U i j else 0) U.length=El.sm (λi=>1*(if i=j then 1 else 0)+(-1)*(if Y8 U i∈gl U G then shr L (Y8 U j) (Y8 U i) else 0)) U.length:=by
  refine El.Ys λi hi=>?_;have m:=mem i hi;by_cases q:G i=true
  .rw[Zc q,Zc (m.mpr q)];unfold mA
   grind
  .rw[Zd q,Zd (λz=>q (m.mp z)),Zd (λz=>q (by rw[z];exact Gj))]
   grind
 rw[e,El.Z9,El.ZM hj (λk _ hk=>Zd hk),Zc rfl,DD (λx=>if x∈gl U G then shr L (Y8 U j) x else 0)]
 grind
def Gd.zm(g:Gd L N c)(ng:Ā L)(nd:U.Nodup)(hU:∀x∈U,mR L x=true):El.Zm U.length 0 (mA L U):=by
 have key:∀G j,j<U.length->G j=true->(0<=El.gs U.length G (mA L U) j/\((∃x∈own L (Y8 U j),x∉gl U G)->0<El.gs U.length G (mA L U) j)):=λG j hj Gj=>by
  rw[g.gs nd hj Gj];generalize gl U G=V;have hh:=hU _ (oO hj).2;have o:=g.one hh;generalize Y8 U j=h at *;have sw:=uO (g:=λx=>if x∈V then shr L h x else 0) nd (g.ond h) (λx _ z=>by rw[g.zero z];split<;>rfl);rw[sw];have le:∀x∈own L h,(if x∈U then(if x∈V then shr L h x else 0) else 0)<=shr L h x:=λx _=>by
   have:=g.nn h x
   grind
  refine⟨?_,λ⟨x,hx,hV⟩=>?_⟩
  .have:=ze le
   grind
  .have:=GU le ⟨x,hx,by rw[Zd hV];have:=g.pos hx;split<;>exact this⟩
   grind
 refine⟨λi j _ hi _ hj RD=>?_,λG _ j hj Gj=>(key G j hj Gj).1,λG hG hx=>?_⟩
 .unfold mA;rw[Zd RD];have:=g.nn (Y8 U j) (Y8 U i)
  grind
 .obtain⟨j0,hj0⟩:=hx;have hm:∀x∈gl U G,∃j,j<U.length/\G j=true/\Y8 U j=x:=λx hx=>by
   grind
  obtain⟨h,hh,x,hx,hxV⟩:=ng (gl U G) (lY (ar.mpr ⟨j0,ba.mpr ⟨cT.mpr (hG j0 hj0).2,hj0⟩,rfl⟩)) (λh hh=>by obtain⟨j,hj,_,e⟩:=hm h hh;rw[<-e];exact hU _ (oO hj).2)
  obtain⟨j,hj,Gj,e⟩:=hm h hh;exact⟨j,Gj,(key G j hj Gj).2 ⟨x,by rw[e];exact hx,hxV⟩⟩
def QB(hp:p<n):El.dt n (El.upd M p λ_=>0)=0:=by
 have:=El.ô (M:=M) 0 0 (λ_=>0) (λ_=>0) hp
 grind
def Gd.uniq(g:Gd L N c)(ng:Ā L){U:List Str}(nd:U.Nodup)(hU:∀x∈U,mR L x=true){v:Str->Rat}(h:∀x∈U,v x=mS (U.map λl=>shr L l x*v l)):∀x∈U,v x=0:=by
 obtain⟨⟨X,C⟩,dp,_⟩:=El.run (g.zm ng nd hU) U.length (al _);rw[C.dt] at dp;intro x hx;obtain⟨p,hp⟩:=b5.mp hx;have Rp:=(aS.mp hp).1;have cr:=El.ł Rp (λl=>v (Y8 U l)) (λ_=>0) λi hi=>by
  have hxi:=h (Y8 U i) (oO hi).2;have e:El.sm (λl=>v (Y8 U l)*mA L U i l) U.length=El.sm (λl=>1*(if l=i then v (Y8 U l) else 0)+(-1)*(λy=>shr L y (Y8 U i)*v y) (Y8 U l)) U.length:=El.Ys λl hl=>by
   unfold mA
   grind
  rw[e,El.Z9,El.ZM hi (λk _ hk=>Zd hk),Zc rfl,DD (λy=>shr L y (Y8 U i)*v y),<-hxi]
  grind
 rw[QB Rp] at cr;have e:Y8 U p=x:=by unfold Y8;rw[hp];rfl
 grind
end
theorem xR:∀U V:List Str,eK (U.map jp) (V.map jp)=decide (U=V)
 |[],[]=>by simp[eK]
 |[],y::V=>by simp[eK]
 |x::U,[]=>by simp[eK]
 |x::U,y::V=>by
  rw[am,am];unfold eK cC;rw[xR U V,ci,dI,decide_eq_true_iff,decide_eq_true_iff];constructor
  .intro⟨h1,h2⟩;rw[eq_of_beq h1,h2]
  .intro h;cases h;exact⟨beq_self_eq_true _,rfl⟩
def OX{U V:List Str}{s:K'}(hU:∀x∈U,bM x=true)(hV:∀x∈V,bM x=true):Ý (LS U) (LS V) s=.ok (.bl (decide (U=V))) s:=by have e1:=xt s 10 hU;have e2:=xt s 10 hV;show Z0 false _ _ _=_;unfold Z0;rw[e1,e2];show Out.ok (PV.bl (cC (.list _) (.list _))) s=_;unfold cC;rw[xR]
def DK{U V:List Str}{s:K'}(hU:∀x∈U,bM x=true)(hV:∀x∈V,bM x=true):Ō (LS U) (LS V) s=.ok (.bl (!decide (U=V))) s:=by have e1:=xt s 10 hU;have e2:=xt s 10 hV;show Z0 true _ _ _=_;unfold Z0;rw[e1,e2];show Out.ok (PV.bl !(cC (.list _) (.list _))) s=_;unfold cC;rw[xR]
theorem xU{e:XE}{cap:En}{s:K'}(g:Str->PV):∀(X:List Str),(∀x∈X,e (Za (.str x)::cap) s=.ok (g x) s)->oi nQ e cap (X.map .str) s=.ok (X.map g) s
 |[],_=>rfl
 |x::X,h=>by rw[am,oU];simp only[nQ,h x ai,xU g X λy hy=>h y (ae _ hy),am]
def Ck{e:XE}{cap:En}{s:K'}(g:Str->Int)(X:List Str)(h:∀x∈X,e (Za (.str x)::cap) s=.ok (.int (g x)) s):oi nQ e cap (X.map .str) s=.ok ((X.map g).map .int) s:=(xU (λx=>.int (g x)) X h).trans (by rw[aE];rfl)
structure WG(L:List Ent)(G0 G:List Str):Prop where
 sl:G.Sublist G0
 cl:∀h∈G,∀x∈own L h,x∈G
 mx:∀V:List Str,(∀h∈V,h∈G0)->(∀h∈V,∀x∈own L h,x∈V)->∀h∈V,h∈G
def é:Z5 L G h=true↔∀x∈own L h,x∈G:=by
 unfold Z5
 grind
def HN(h:m8 c b n Z s=.rt v s'):tZ c b Z s=.rt v s':=(xD h (by grind)).trans rfl
section
variable{T:K'}{nb:Nat}{pp N:List Str}{L:List Ent}{c:Nat}
def ÀI(a:Yl)(H:Ho L N)(hb:T.get nb=Za (.book pp L)):∀(k:Nat)(G:List Str)(u2:Option PV),G.length<=k->k<=100->(∀h∈G,mR L h=true)->∃G',m8 (YO (xC (.bl true))) (m7 a) (k+1) [Za (.ref nb),Za (LS G),u2] T=.rt (LS G') T/\WG L G G':=by
 intro k;induction k with
 |zero =>
  intro G u2 hk _ hG;have:G=[]:=gK.mp (by omega);subst this;refine⟨[],rfl,⟨fS _,(λ_ z=>nomatch z),λV hV _ h hh=>hV h hh⟩⟩
 |succ k ih =>
  intro G u2 hk hk1 hG;have so:∀x∈G,bM x=true:=λx hx=>yw (H.sm x (H.hn x (hG x hx)));have c1:=qq (s:=T) (cap:=[Za (.ref nb),Za (LS G)]) (c:=YO (Yb 3 (oW a) (F' (j' 1) (F' (j' 0) (F' (j' 2) J'))))) (e:=j' 0) (λq=>match q with|.str x=>Z5 L G x|_=>false) (λq=>q) (G.map .str) (λq hq=>by obtain⟨x,hx,rfl⟩:=ar.mp hq;exact nY (mJ (mf (ma rfl) (mf (ma rfl) (mf (ma rfl) rfl))) rfl (NK a H hb (hG x hx)))) (λq hq _=>ma rfl)
  have e1:(((G.map PV.str).filter λq=>match q with|.str x=>Z5 L G x|_=>false).map λq=>q)=(G.filter (Z5 L G)).map PV.str:=by rw[List.map_id',dR];rfl
  rw[e1] at c1;have hl:(G.map PV.str).length<=100000:=by rw[ac];omega
  have bd:∀o:SO,W' (Ø (YO (x2 (j' 2) (j' 1) Ý)) (YF (j' 1)) Y9) (Yh 1 (j' 2)) [Za (.ref nb),Za (LS G),Za (LS (G.filter (Z5 L G)))] T=o->m7 a [Za (.ref nb),Za (LS G),u2] T=o:=λo ho=>by unfold m7;exact mD (mM (qG (l:=G.map .str) (s1:=T) (og (ma rfl)) hl c1)) ho
  have eq:=OX (s:=T) (U:=G.filter (Z5 L G)) (V:=G) (λx hx=>so x (ba.mp hx).1) so;by_cases z:G.filter (Z5 L G)=G
  .rw[Zg z] at eq;refine⟨G,?_,⟨fS _,λh hh=>?_,λV hV _ h hh=>hV h hh⟩⟩
   .unfold m8;show(match m7 a [Za (.ref nb),Za (LS G),u2] T with
     |.nx Yp s'=>m8 (YO (xC (.bl true))) (m7 a) (k+1) Yp s'
     |.ct Yp s'=>m8 (YO (xC (.bl true))) (m7 a) (k+1) Yp s'
     |.bk Yp s'=>.nx Yp s'
     |o=>o)=_
    rw[bd (.rt (LS G) T) (AM ((wa (s1:=T) (nY ((mK (ma rfl) (ma rfl)).trans eq))).trans (nT (ma rfl))))]
   .rw[<-z] at hh;exact é.mp (ba.mp hh).2
  .rw[Zh z] at eq;have lt:(G.filter (Z5 L G)).length<G.length:=by
    have:=cW (Z5 L G) G;by_cases q:(G.filter (Z5 L G)).length=G.length
    .exact absurd (List.Sublist.eq_of_length iO q) z
    .omega
   obtain⟨G',e,W⟩:=ih (G.filter (Z5 L G)) (Za (LS (G.filter (Z5 L G)))) (by omega) (by omega) (λh hh=>hG h (ba.mp hh).1);refine⟨G',?_,⟨W.sl.trans iO,W.cl,λV hV cV h hh=>W.mx V (λy hy=>ba.mpr ⟨hV y hy,é.mpr λx hx=>hV x (cV y hy x hx)⟩) cV h hh⟩⟩;rw[m8];show(match m7 a [Za (.ref nb),Za (LS G),u2] T with
    |.nx Yp s'=>m8 (YO (xC (.bl true))) (m7 a) (k+1) Yp s'
    |.ct Yp s'=>m8 (YO (xC (.bl true))) (m7 a) (k+1) Yp s'
    |.bk Yp s'=>.nx Yp s'
    |o=>o)=_
   rw[bd (.nx [Za (.ref nb),Za (LS (G.filter (Z5 L G))),Za (LS (G.filter (Z5 L G)))] T) (mD ((qM (s1:=T) (nY ((mK (ma rfl) (ma rfl)).trans eq))).trans rfl) (mM (ma rfl)))];exact e
abbrev U'(L:List Ent):List Str:=Yq (L.map (·.nm))
def Yk{L}:h∈U' L↔mR L h=true:=by rw[(mF _).mem_iff,oZ]
def pF{L}:(U' L).length=L.length:=by rw[(mF _).length_eq,ac]
def Et(a)(H:Ho L N)(hl:L.length<=64)(hb:T.get nb=Za (.book pp L)):∃G,rX a [.ref nb] T=.ok (LS G) T/\WG L (U' L) G:=by obtain⟨G,e,W⟩:=ÀI a H hb (U' L).length (U' L) Zb (al _) (by rw[pF];omega) (λh hh=>Yk.mp hh);refine⟨G,mZ ?_,W⟩;refine mD (mM ((tT (vs:=[]) (ma rfl) hb rfl rfl).trans ?_)) (HN e);unfold pU nV;simp[hb]
def WG.noG{L}(W:WG L (U' L) []):Ā L:=by
 refine λG hG hh=>fX λz=>?_;cases G with
 |nil=>exact hG rfl
 |cons g G =>
  have:=W.mx (g::G) (λh Us=>Yk.mpr (hh h Us)) (λh h1 x hx=>fX λq=>z ⟨h,h1,x,hx,q⟩) g ai;cases this
def WG.nil{L}(W:WG L (U' L) G)(ng:Ā L):G=[]:=by refine fX λz=>?_;obtain⟨h,h1,x,h2,h3⟩:=ng G z λh hh=>Yk.mp (W.sl.subset hh);exact h3 (W.cl h h1 x h2)
def Nv(a:Yl)(H:Ho L N)(hl:L.length<=64)(ng:Ā L)(hb:T.get nb=Za (.book pp L)):nN a [.ref nb] T=.ok .Ym T:=by obtain⟨G,e,W⟩:=Et a H hl hb;have:=W.nil ng;subst this;apply Ax (Z:=[Za (.ref nb),Za (LS [])]);refine mD (mM (mJ (mf (ma rfl) rfl) rfl e)) ((qM (nY ((mK (ma rfl) (rN rfl)).trans ?_))).trans rfl);exact DK (V:=[]) (λ_ z=>nomatch z) (λ_ z=>nomatch z)
end
def ò(ns:List Str)(g:Str->PV):List (Key×PV):=ns.map λn=>(ap n,g n)
def zy(h:x∈ns):p4 (ò ns g) (ap x)=Za (g x):=by
 unfold p4 ò;induction ns with
 |nil=>cases h
 |cons n ns ih =>
  grind
def Qg(h:x∉ns):p4 (ò ns g) (ap x)=none:=by
 refine vh λz=>h ?_;obtain⟨kv,hk,e⟩:=ar.mp z;obtain⟨n,hn,rfl⟩:=ar.mp hk
 grind
theorem Ch:∀(ns:List Str)(Ru:List (Key×PV)),ns.Nodup->(∀n∈ns,(ap n:Key)∉Ru.map (·.1))->BE Ru (ns.map λn=>.tup [.str n,g n])=Za (Ru++ò ns g)
 |[],Ru,_,_=>by simp[BE,ò]
 |n::ns,Ru,nd,h=>by
  obtain⟨n1,n2⟩:=aM.mp nd;have e:x9 Ru (ap n) (g n)=Ru++[(ap n,g n)]:=by
   unfold x9
   grind
  have ih:=Ch (g:=g) ns (Ru++[(ap n,g n)]) n2 λm hm z=>by
   grind
  show BE (x9 Ru (ap n) (g n)) (ns.map λn=>.tup [.str n,g n])=_;rw[e,ih,ja];rfl
def LM(nd:ns.Nodup):DU [.lst (ns.map λn=>.tup [.str n,g n])] s=.ok (.Yr (ò ns g)) s:=by have:=Ch (g:=g) ns [] nd (λ_ _ z=>nomatch z);simp[DU,YI,this,dg]
def Mj(h:x∈ns):Yo (.Yr (ò ns g)) (.str x) s=.ok (g x) s:=by simp[Yo,YI,ZG,Á,zy h]
def À(l:Hl):Nat:=((Yq (l.map (·.1))).map λn=>(mL l n).2.toNat).foldl fQ 1
def pc(l:Hl)(x:Str):Int:=(mL l x).1*((À l:Int)/(mL l x).2)
theorem E3{D:Nat}:∀(bs:List Nat)(p:Nat),0<p->p∣D->(∀b∈bs,0<b/\b∣D)->0<bs.foldl fQ p/\p∣bs.foldl fQ p/\bs.foldl fQ p∣D/\∀b∈bs,b∣bs.foldl fQ p
 |[],p,h0,hd,_=>⟨h0,Nat.dvd_refl _,hd,λ_ z=>nomatch z⟩
 |b::bs,p,h0,hd,hb=>by
  obtain⟨b0,bd⟩:=hb b ai;obtain⟨a1,a2,a3,a4⟩:=E3 bs (fQ p b) (Nat.lcm_pos h0 b0) (Nat.lcm_dvd hd bd) λx hx=>hb x (ae _ hx);refine⟨a1,Nat.dvd_trans (Nat.dvd_lcm_left p b) a2,a3,λx hx=>?_⟩;obtain e|hx:=ao.mp hx
  .subst e;exact Nat.dvd_trans (Nat.dvd_lcm_right p x) a2
  .exact a4 x hx
def Kr(p b:Nat):(p:Int)*((b:Int)/((aJ (p:Int) (b:Int):Nat):Int))=(fQ p b:Nat):=by rw[show aJ p b=Nat.gcd p b from rfl,<-Int.natCast_ediv,<-Int.natCast_mul];unfold fQ;rw[Nat.mul_div_assoc _ (Nat.gcd_dvd_right p b)]
section
variable{k:Nat}{l hz:Hl}
def HR.den(R:HR k l hz):∃D:Nat,0<D/\Bt (97*k+1) (D:Int)/\∀x,(mL l x).2.toNat∣D:=by
 obtain⟨D,U,d0,db,on⟩:=R.dv;refine⟨D.toNat,by lia,by rw[eQ (by lia)];exact db,λx=>?_⟩;have h:=(on x).dvd;rw[<-R.q] at h;have b0:=(R.fr x).low.1;have:(((mL l x).2.toNat:Nat):Int)∣D.toNat:=by rw[eQ (by lia),eQ (by lia)];exact h
 exact eY.mp this
def HR.pieces(R:HR k l hz):0<À l/\Bt (97*k+1) (À l:Int)/\∀x,(mL l x).2∣(À l:Int):=by
 obtain⟨D,d0,db,dv⟩:=R.den;obtain⟨a1,a2,a3,a4⟩:=E3 ((Yq (l.map (·.1))).map λn=>(mL l n).2.toNat) 1 (Zf rfl) (Nat.one_dvd _) λb hb=>by obtain⟨n,hn,rfl⟩:=ar.mp hb;exact⟨by have:=(R.fr n).low.1;lia,dv n⟩
 refine⟨a1,db.dvd (by lia) (eY.mpr a3),λx=>?_⟩;by_cases hx:x∈l.map (·.1)
 .have:=a4 (mL l x).2.toNat (ar.mpr ⟨x,(mF _).mem_iff.mpr hx,rfl⟩);have:=eY.mpr this;rw[eQ (bG (R.fr x).low.1)] at this;exact this
 .rw[vJ hx];grind
def HR.Ľ(R:HR k l hz)(x):((pc l x:Int):Rat)=(À l:Int)*rv (mL l x):=by
 obtain⟨a1,a2,a3⟩:=R.pieces;obtain⟨m,hm⟩:=a3 x;unfold pc rv;rw[hm,cH _ (by lia),dq,ia,ia];have:(((mL l x).2:Int):Rat)≠0:=λz=>by
  simp_all
 grind
def HR.À7(R:HR k l hz)(x):0<=pc l x:=by exact iM (R.fr x).nn (Int.ediv_nonneg (by lia) (bG (R.fr x).low.1))
def QN(a)(s)(R:HR k l hz)(hk:k<=41)(hl:l.length<64):Jw a [qX l] s=.ok (.Yr (ò (Yq (l.map (·.1))) λx=>.int (pc l x))) s:=by
 obtain⟨D,d0,db,dv⟩:=R.den;have sh:∀x,Bt 9000 (mL l x).2/\0<(mL l x).2/\Bt 9000 (mL l x).1:=λx=>⟨(R.fr x).bb.mono (by lia),(R.fr x).low.1,(R.fr x).top.mono (by lia)⟩;have bD:∀p:Nat,0<p->p∣D->Bt 9000 (p:Int):=λp h0 hp=>(db.dvd (by lia) (eY.mpr hp)).mono (by lia);have lp:∀(ns:List Str)(p:Nat)(u2 u3:Option PV),0<p->p∣D->∃v2 v3,nj (mV (Zk 2 (Yj (V' 2) (Yj (V' 3) Zl))) (xw a)) (ns.map λn=>t9 (nc l n)) [Za (qX l),Za (.int (p:Nat)),u2,u3] s=.nx [Za (qX l),Za (.int (((ns.map λn=>(mL l n).2.toNat).foldl fQ p:Nat):Int)),v2,v3] s:=by
  intro ns;induction ns with
  |nil=>exact λp u2 u3 _ _=>⟨u2,u3,rfl⟩
  |cons n ns ih =>
   intro p u2 u3 p0 pd;obtain⟨s1,s2,s3⟩:=sh n;have eb:((mL l n).2.toNat:Int)=(mL l n).2:=eQ (by lia);have ld:=Nat.lcm_dvd pd (dv n);have l0:0<fQ p (mL l n).2.toNat:=Nat.lcm_pos p0 (by lia);obtain⟨v2,v3,e⟩:=ih (fQ p (mL l n).2.toNat) (Za (.str n)) (Za (ZJ (mL l n))) l0 ld;refine⟨v2,v3,?_⟩;rw[am,am,List.foldl_cons];unfold nj;have gp:0<aJ (p:Int) (mL l n).2:=bA _ (by lia);have gb:Bt 9000 ((aJ (p:Int) (mL l n).2:Nat):Int):=s1.dvd (by lia) (cq ..);have bd:mV (Zk 2 (Yj (V' 2) (Yj (V' 3) Zl))) (xw a) (t9 (nc l n)) [Za (qX l),Za (.int (p:Nat)),u2,u3] s=.nx [Za (qX l),Za (.int ((fQ p (mL l n).2.toNat:Nat):Int)),Za (.str n),Za (ZJ (mL l n))] s:=by rw[IM];show xw a [Za (qX l),Za (.int (p:Nat)),Za (.str n),Za (ZJ (mL l n))] s=_;unfold xw;have st:=Kr p (mL l n).2.toNat;rw[eb] at st;rw[<-st];refine mM (pO (ma rfl) (Bq ((mK (ma rfl) rfl).trans ϡ) (mJ (mf (ma rfl) (mf ((mK (ma rfl) rfl).trans ϡ) rfl)) rfl (show nM a [.int (p:Nat),.int (mL l n).2] s=.ok (.int ((aJ (p:Int) (mL l n).2:Nat):Int)) s from Zc s2)) ⟨by lia,gb⟩) (sf (bD p p0 pd) s1.div))
   rw[bd];exact e
 obtain⟨v2,v3,e⟩:=lp (Yq (l.map (·.1))) 1 Zb Zb (Zf rfl) (Nat.one_dvd _);obtain⟨a1,a2,a3⟩:=R.pieces;apply mZ;unfold OS;apply mD (mM (v:=.int 1) (s':=s) rfl);apply mD (qH (og (ma rfl)) e);have c:=uF (s:=s) (cap:=[Za (.int (À l:Nat))]) (e:=ZT (F' (j' 0) (F' (x2 (x2 (j' 1) (xC (.int 0)) Yo) (x2 (j' 2) (x2 (j' 1) (xC (.int 1)) Yo) Í) YC) J'))) l (λn=>.tup [.str n,.int (pc l n)]) (Yq (l.map (·.1))) λn _=>by obtain⟨s1,s2,s3⟩:=sh n;rw[show(nc l n).2=mL l n from rfl];exact qW (mf (ma rfl) (mf (pO ((mK (ma rfl) rfl).trans ix0) (Bq (ma rfl) ((mK (ma rfl) rfl).trans ϡ) ⟨s2,s1⟩) (sf s3 (a2.mono (by lia)).div)) rfl))
 refine nT ((Bw (mf (v:=.lst ((Yq (l.map (·.1))).map λn=>.tup [.str n,.int (pc l n)])) (s1:=s) ?_ rfl)).trans (LM ((mF _).nodup_iff.mpr R.n1)));unfold pN;rw[og (l:=(Yq (l.map (·.1))).map λn=>t9 (nc l n)) (s1:=s) (ma rfl)];show(if((Yq (l.map (·.1))).map λn=>t9 (nc l n)).length<=100000 then _ else _)=_;rw[Zc (by rw[ac,(mF _).length_eq,ac];lia)];show(nG nQ _ [Za (.int (À l:Nat))] _ s).bind _=_;rw[c];rfl
end
structure Gr(T T':K'):Prop where
 nx:T.nx<=T'.nx
 fr:∀k,k<T.nx->T'.get k=T.get k
def Gr.refl(T):Gr T T:=⟨al _,λ_ _=>rfl⟩
theorem Gr.trans(h:Gr A B)(k:Gr B C):Gr A C:=⟨aI h.nx k.nx,λj hj=>(k.fr j (ax hj h.nx)).trans (h.fr j hj)⟩
theorem Gr.add(T)(c):Gr T (T.add c):=⟨eX _,λk hk=>by rw[mX,Zd (by lia)]⟩
theorem Cm(f):∀(l:List PV),(∀q∈l,∀s,Gr T s->∃s',e (Za q::cap) s=.ok (f q) s'/\Gr T s')->∀s,Gr T s->∃s',oi nQ e cap l s=.ok (l.map f) s'/\Gr T s'
 |[],_,s,g=>⟨s,rfl,g⟩
 |q::l,h,s,g=>by obtain⟨s1,e1,g1⟩:=h q ai s g;obtain⟨s2,e2,g2⟩:=Cm f l (λq hq=>h q (ae _ hq)) s1 g1;refine⟨s2,?_,g2⟩;rw[oU];simp[nQ,e1,e2,am]
def pl(L:List Ent)(h:Str):Hl:=match oo L h with
 |some e=>e.held
 |none=>[]
def cv(L:List Ent)(h:Str):PV:=.Yr (ò (own L h) λx=>.int (pc (pl L h) x))
def av(L:List Ent):PV:=.Yr (ò (U' L) (cv L))
theorem vi(f:α->Int):∀l:List α,(((l.map f).sum:Int):Rat)=mS (l.map λx=>((f x:Int):Rat))
 |[]=>rfl
 |x::l=>by rw[am,fO,ib,vi f l];rfl
def GF(hx:bM x=true)(hy:bM y=true):Ý (.str x) (.str y) s=.ok (.bl (decide (x=y))) s:=by
 have e:∀x,bM x=true->PV.data s 12 (.str x)=Za (.str x):=λx h=>by unfold PV.data;rw[Zc h]
 show Z0 false _ _ _=_;unfold Z0;rw[e x hx,e y hy]
 congr 2
def Hm(h1:f Z s=.ok (.Yr l) s)(h2:g Z s=.ok (.str w) s)(h3:h Z s=.ok z s):â f g h Z s=.ok ((p4 l (ap w)).getD z) s:=by unfold â;rw[h1];simp[Out.bind,ZG];rw[h2];simp[h3,Á]
section
variable{T:K'}{nb:Nat}{pp N:List Str}{L:List Ent}{c:Nat}
theorem Gd.held(g:Gd L N c)(hh:mR L h=true):∃e k hz,oo L h=Za e/\pl L h=e.held/\own L h=Yq ((pl L h).map (·.1))/\HR k (My.pl L h) hz/\k<=c/\(∀x,shr L h x=rv (mL (My.pl L h) x))/\e∈L/\e.nm=h:=by
 obtain⟨e,f,o,s⟩:=g.ent hh;obtain⟨k,hz,R,kc⟩:=g.hr f;have ep:My.pl L h=e.held:=by unfold My.pl;rw[f]
 exact⟨e,k,hz,f,ep,by rw[ep];exact o,by rw[ep];exact R,kc,λx=>by rw[ep];exact s x,(Ay f).1,(Ay f).2⟩
def Gd.Ñ(g:Gd L N c):(U' L).Nodup:=(mF _).nodup_iff.mpr g.nd
def Gd.Yn(g:Gd L N c)(hh:h∈U' L):bM h=true:=yw (g.ho.sm h (g.ho.hn h (Yk.mp hh)))
def LR(g:Gd L N c)(h x):(p4 (ò (own L h) λx=>.int (pc (pl L h) x)) (ap x)).getD (.int 0)=.int (pc (pl L h) x):=by
 by_cases hx:x∈own L h
 .rw[zy hx];rfl
 .rw[Qg hx];have:x∉(pl L h).map (·.1):=λz=>hx (by
   unfold own;unfold pl at z;cases e:oo L h with
   |none=>rw[e] at z;cases z
   |some e'=>rw[e] at z;exact(mF _).mem_iff.mpr z)
  unfold pc;rw[vJ this]
  grind
def Gd.Àw(g:Gd L N c)(hh:mR L h=true):((own L h).map (pc (My.pl L h))).sum=(À (My.pl L h):Int):=by
 obtain⟨e,k,hz,f,ep,o,R,kc,sv,_⟩:=g.held hh;apply Rat.intCast_inj.mp;rw[vi];have:mS ((own L h).map λx=>((pc (My.pl L h) x:Int):Rat))=mS ((own L h).map λx=>((À (My.pl L h):Int):Rat)*shr L h x):=m9 λx _=>by rw[R.Ľ,sv]
 rw[this,sJ,g.one hh,Rat.mul_one]
def Ge(a)(g:Gd L N c)(hb:T.get nb=Za (.book pp L)):x6 a [.ref nb] T=.ok (av L) T:=by
 apply mZ;have c1:=xU (cap:=[Za (.ref nb)]) (e:=ZT (F' (j' 0) (F' (Yb 1 (Jw a) (F' (Ĭ 2 (oY a) (j' 1) (F' (j' 0) J')) J')) J'))) (λh=>.tup [.str h,cv L h]) (U' L) (λh hh=>by
  have hh:=Yk.mp hh;obtain⟨e,k,hz,f,ep,o,R,kc,sv,_⟩:=g.held hh;have hl:=(g.ho.ow h e f).1;have sh:oY a [.ref nb,.str h] T=.ok (qX (pl L h)) T:=by
   simp[oY,nV,hb];rw[Zc (g.ho.sm h (g.ho.hn h hh)).nm,f,ep]
   simp_all
  have ct:=QN a T R (by have:=g.c40;lia) (by rw[ep];exact hl);rw[<-o] at ct;exact qW (mf (ma rfl) (mf (mJ (mf ((tT (ma rfl) hb (mf (ma rfl) rfl) rfl).trans sh) rfl) rfl ct) rfl)))
 refine nT ((Bw (mf (qG (og ((tT (vs:=[]) (ma rfl) hb rfl rfl).trans ?_)) (by rw[ac,pF];have:=g.l8;lia) c1) rfl)).trans (LM g.Ñ));unfold pU nV;simp[hb]
def č(L:List Ent)(h:Str):List Int:=(U' L).map λo=>(if o=h then(À (pl L h):Int) else 0)-pc (pl L o) h
def ύ(L:List Ent)(h:Str):List Int:=(U' L).map λo=>if o=h then 1 else 0
def Il(a)(g:Gd L N c)(hh:h∈U' L)(T):AG a [.str h,LS (U' L),av L] T=.ok (.ref T.nx) (T.add (.lst ((č L h).map .int))):=by
 apply mZ;unfold E2;have l8:(U' L).length<=8:=by rw[pF];exact g.l8
 have c1:=Ck (s:=T) (cap:=[Za (.str h),Za (av L)]) (e:=x1 (â (x2 (j' 2) (j' 0) Yo) (j' 1) (xC (.int 0))) œ) (λo=>-pc (pl L o) h) (U' L) (λo ho=>by
  have e1:â (x2 (j' 2) (j' 0) Yo) (j' 1) (xC (.int 0)) [Za (.str o),Za (.str h),Za (av L)] T=.ok (.int (pc (pl L o) h)) T:=by rw[Hm ((mK (ma rfl) (ma rfl)).trans (Mj ho)) (ma rfl) rfl,LR g]
  unfold x1;rw[e1];rfl)
 have cc:yG (YK (j' 1)) [0,2] nQ (x1 (â (x2 (j' 2) (j' 0) Yo) (j' 1) (xC (.int 0))) œ) [Za (.str h),Za (LS (U' L)),Za (av L),Zb] T=.ok (.ref T.nx) (T.add (.lst (((U' L).map λo=>-pc (pl L o) h).map PV.int))):=by unfold yG;rw[og (l:=(U' L).map .str) (s1:=T) (ma rfl)];show(if((U' L).map PV.str).length<=100000 then _ else _)=_;rw[Zc (by rw[ac];lia)];show(oi nQ _ [Za (.str h),Za (av L)] _ T).bind _=_;rw[c1];rfl
 apply mD (mM cc);generalize hT:T.add (.lst (((U' L).map λo=>-pc (pl L o) h).map PV.int))=T1;have g1:T1.get T.nx=Za (.lst (((U' L).map λo=>-pc (pl L o) h).map PV.int)):=by rw[<-hT,mX,Zc rfl]
 obtain⟨i,hi⟩:∃i,(U' L).findIdx? (λz=>decide (z=h))=Za i:=by
  cases e:(U' L).findIdx? (λz=>decide (z=h)) with
  |some i=>exact⟨i,rfl⟩
  |none=>exact absurd (Zg rfl) (by rw[List.findIdx?_eq_none_iff] at e;rw[e h hh];decide)
 obtain⟨il,ie,_⟩:=iY.mp hi;have ie:(U' L)[i]=h:=Zf ie;have ix:AI (j' 1) (F' (j' 0) J') [Za (.str h),Za (LS (U' L)),Za (av L),Za (.ref T.nx)] T1=.ok (.int (i:Nat)) T1:=by unfold AI;rw[ma (i:=1) (v:=LS (U' L)) rfl,vf];have ca:F' (j' 0) J' [Za (.str h),Za (LS (U' L)),Za (av L),Za (.ref T.nx)] T1=.ok [.str h] T1:=mf (ma (i:=0) (v:=.str h) rfl) rfl;simp only[ca,vf,vU,hi];rw[Zc (by lia)]
 have sv:Fk (x2 (j' 2) (j' 0) Yo) [Za (.str h),Za (LS (U' L)),Za (av L),Za (.ref T.nx)] T1=.ok (.int (À (pl L h):Nat)) T1:=by
  unfold Fk;have e2:(ò (own L h) λx=>PV.int (pc (pl L h) x)).map (λkv:Key×PV=>kv.2)=((own L h).map (pc (pl L h))).map PV.int:=by unfold ò;rw[aE,aE];rfl
  rw[(mK (ma (i:=2) (v:=av L) rfl) (ma (i:=0) (v:=.str h) rfl)).trans (Mj hh),vf];show(match vI ((ò (own L h) λx=>PV.int (pc (pl L h) x)).map λkv:Key×PV=>kv.2) with
    |some is=>Out.ok (PV.int is.sum) T1
    |none=>.bad)=_
  rw[e2,zN];simp[g.Àw (Yk.mp hh)]
 refine mD (Yp:=[Za (.str h),Za (LS (U' L)),Za (av L),Za (.ref T.nx)]) (s':=T.add (.lst ((č L h).map .int))) ?_ (nT (ma rfl));show Jg (j' 3) (AI (j' 1) (F' (j' 0) J')) (Fk (x2 (j' 2) (j' 0) Yo)) [Za (.str h),Za (LS (U' L)),Za (av L),Za (.ref T.nx)] T1=_;unfold Jg;rw[ma (i:=3) (v:=.ref T.nx) rfl];simp[Out.so];rw[ix];simp only[Out.so,g1,Int.toNat_natCast];rw[Zc (by lia)];have gi:(((U' L).map λo=>-pc (pl L o) h).map PV.int)[i]?=Za (.int (-pc (pl L h) h)):=by rw[aF,aF,aC il,ie];rfl
 rw[gi];simp only[sv,g1];rw[Zc (by rw[ac,ac];exact il)];have row:(((U' L).map λo=>-pc (pl L o) h).map PV.int).set i (.int (-pc (pl L h) h+(À (pl L h):Nat)))=(č L h).map .int:=by
  refine i9 λj=>?_;rw[gE];unfold č;by_cases q:i=j
  .subst q;rw[Zc rfl,Zc (by rw[ac,ac];exact il),aF,aF,aC il,ie];show Za (PV.int (-pc (pl L h) h+(À (pl L h):Nat)))=Za (PV.int ((if h=h then(À (pl L h):Int) else 0)-pc (pl L h) h));rw[Zc rfl]
   congr 2
   lia
  .rw[Zd q,aF,aF,aF,aF];cases e:(U' L)[j]? with
   |none=>rfl
   |some o =>
    have:o≠h:=λz=>q ((List.getElem?_inj il g.Ñ).mp (by rw[e,z,aC il,ie]));show Za (PV.int (-pc (pl L o) h))=Za (PV.int ((if o=h then(À (pl L h):Int) else 0)-pc (pl L o) h));rw[Zd this]
    congr 2
    lia
 rw[row,<-hT,zl]
def KZ(a)(g:Gd L N c)(hh:h∈U' L)(T):rA a [.str h,LS (U' L),av L] T=.ok (LI (č L h++ύ L h)) (T.add (.lst ((č L h).map .int))):=by
 have l8:(U' L).length<=8:=by rw[pF];exact g.l8
 apply mZ;generalize hT:T.add (.lst ((č L h).map .int))=T1;have g1:T1.get T.nx=Za (.lst ((č L h).map .int)):=by rw[<-hT,mX,Zc rfl]
 have ow:=Il a g hh T;rw[hT] at ow;have c1:=Ck (e:=ġ (YO (x2 (j' 0) (j' 1) Ý)) (xC (.int 1)) (xC (.int 0))) (λo=>if o=h then 1 else 0) (U' L) (λo ho=>by
  have e1:YO (x2 (j' 0) (j' 1) Ý) [Za (.str o),Za (.str h)] T1=.ok (decide (o=h)) T1:=nY ((mK (ma rfl) (ma rfl)).trans (GF (g.Yn ho) (g.Yn hh)));unfold ġ;rw[e1];by_cases z:o=h
  .rw[Zg z];show Out.ok (PV.int 1) T1=Out.ok (PV.int (if o=h then 1 else 0)) T1;rw[Zc z]
  .rw[Zh z];show Out.ok (PV.int 0) T1=Out.ok (PV.int (if o=h then 1 else 0)) T1;rw[Zd z])
 change oi _ _ _ _ _=.ok ((ύ L h).map .int) T1 at c1
 refine nT ((mK (mJ (mf (ma rfl) (mf (ma rfl) (mf (ma rfl) rfl))) rfl ow) (qG (og (ma rfl)) (by rw[ac];lia) c1)).trans ?_);have lo:(č L h).length<=8:=by unfold č;rw[ac];exact l8
 have lu:(ύ L h).length<=8:=by unfold ύ;rw[ac];exact l8
 simp[YH,YI,g1]
 grind
end
end My
namespace El
def Zm.scale(h:Zm n 0 S)(q:Nat->Rat)(hq:∀j,j<n->0<q j)(e:∀i j,i<n->j<n->T i j=q j*S i j):Zm n 0 T:=by
 have gse:∀G j,j<n->gs n G T j=q j*gs n G S j:=λG j hj=>by
  unfold gs;rw[<-Ê];refine Ys λi hi=>?_;split
  .exact e i j hi hj
  .grind
 refine⟨λi j _ hi _ hj RD=>?_,λG hG j hj Gj=>?_,λG hG hx=>?_⟩
 .rw[e i j hi hj];have:=h.off i j (a6 _) hi (a6 _) hj RD;have:=bK (b:=-S i j) (kP (hq j hj)) (by grind)
  grind
 .rw[gse G j hj];exact bK (kP (hq j hj)) (h.col G hG j hj Gj)
 .obtain⟨j,Gj,p⟩:=h.grp G hG hx;have hj:=(hG j Gj).2;exact⟨j,Gj,by rw[gse G j hj];exact iF (hq j hj) p⟩
def ϩ(z:Int):ab (z:Rat)=((z.natAbs:Nat):Rat):=by
 unfold ab;split
 .rename_i h;have:=fm.mp h;rw[<-Rat.intCast_neg,<-cN]
  congr 1
  lia
 .rename_i h;have:=λq=>h (fm.mpr q);rw[<-cN]
  grind
end El
namespace My
open PySem L2 Fra
def pQ:List Nat->Nat
 |[]=>1
 |x::l=>x*pQ l
theorem xL:∀l m:List Nat,pQ (l++m)=pQ l*pQ m
 |[],m=>(Nat.one_mul _).symm
 |x::l,m=>by show x*pQ (l++m)=x*pQ l*pQ m;rw[xL l m,Nat.mul_assoc]
def FH(h:l.Perm m):pQ l=pQ m:=by
 induction h with
 |nil=>rfl
 |cons x _ ih=>show x*_=x*_;rw[ih]
 |swap x y l=>show y*(x*pQ l)=x*(y*pQ l);grind
 |trans _ _ a b=>exact a.trans b
theorem G7(f:Str->Nat):∀k,k<=U.length->El.pr (λi=>((f (Y8 U i):Nat):Rat)) k=((pQ ((U.take k).map f):Nat):Rat)
 |0,_=>rfl
 |k+1,hk=>by show El.pr _ k*_=_;rw[G7 f k (by lia),d6,(oO (U:=U) (i:=k) (by lia)).1,aA,xL,jy];show _*((f (Y8 U k):Nat):Rat)=_*(((f (Y8 U k))*1:Nat):Rat);rw[Nat.mul_one]
theorem Cts.prod:∀{c:Nat}{L:List Ent},Cts c L->pQ (L.map λe=>2*À e.held)<=2^(97*c+2*L.length)
 |_,_,.nil=>Nat.one_le_two_pow
 |_,_,.cons (c1:=c1) (c2:=c2) (c:=c) (e:=e) (L:=L) ⟨hz,R⟩ r q=>by
  have ih:=r.prod;obtain⟨_,b,_⟩:=R.pieces;have b:À e.held<2^(97*c1+1):=b;have h1:2*À e.held<=2^(97*c1+2):=by
   grind
  apply aI (Nat.mul_le_mul h1 ih);rw[<-lI];apply cg (by decide);rw[bx];lia
section
variable{N:List Str}{L:List Ent}{c:Nat}
abbrev nR(L:List Ent):List (List Int):=(U' L).map λh=>č L h++ύ L h
def qn(L:List Ent)(j:Nat):Nat:=À (pl L (Y8 (U' L) j))
def EJ(hi:i<(U' L).length):(nR L)[i]?=Za (č L (Y8 (U' L) i)++ύ L (Y8 (U' L) i)):=by rw[aF,(oO hi).1];rfl
def GX(hi:i<(U' L).length)(hj:j<(U' L).length):at2 (nR L) i j=(if Y8 (U' L) j=Y8 (U' L) i then(À (pl L (Y8 (U' L) i)):Int) else 0)-pc (pl L (Y8 (U' L) j)) (Y8 (U' L) i):=by
 apply rc (EJ hi);have hl:(č L (Y8 (U' L) i)).length=(U' L).length:=by unfold č;rw[ac]
 rw[da (by lia)];unfold č;rw[aF,(oO hj).1];rfl
def GY(hi:i<(U' L).length)(hj:j<(U' L).length):at2 (nR L) i ((U' L).length+j)=if Y8 (U' L) j=Y8 (U' L) i then 1 else 0:=by
 apply rc (EJ hi);have hl:(č L (Y8 (U' L) i)).length=(U' L).length:=by unfold č;rw[ac]
 rw[cU (by lia),hl,kJ];unfold ύ;rw[aF,(oO hj).1];rfl
def JS(hj:2*(U' L).length<=j):at2 (nR L) i j=0:=by
 unfold at2;rw[aF];cases e:(U' L)[i]? with
 |none=>rfl
 |some h =>
  show((č L h++ύ L h)[j]?).getD 0=0;rw[dY]
  .rfl
  .rw[aT];unfold č ύ;rw[ac,ac];lia
def Gd.mul(g:Gd L N c)(hi:i<(U' L).length)(hj:j<(U' L).length):((at2 (nR L) i j:Int):Rat)=(qn L j:Rat)*mA L (U' L) i j:=by
 rw[GX hi hj];obtain⟨e,k,hz,f,ep,o,R,kc,sv,_⟩:=g.held (Yk.mp (oO hj).2);have pv:=R.Ľ (Y8 (U' L) i);rw[<-sv] at pv;unfold mA qn;rw[jz,pv,cN];by_cases q:i=j
 .subst q;rw[Zc rfl,Zc rfl,cN]
  grind
 .rw[Zd q,Zd λz=>q (zx g.Ñ hj hi z).symm]
  grind
def Gd.À1(g:Gd L N c)(hj:j<(U' L).length):1<=qn L j:=by obtain⟨e,k,hz,f,ep,o,R,kc,sv,_⟩:=g.held (Yk.mp (oO hj).2);exact R.pieces.1
def Gd.zmr(g:Gd L N c)(ng:Ā L):El.Zm (U' L).length 0 λi j=>((at2 (nR L) i j:Int):Rat) :=
 (g.zm ng g.Ñ λx hx=>Yk.mp hx).scale (λj=>(qn L j:Rat)) (λj hj=>by
  have:=g.À1 hj;have h:((0:Nat):Rat)<((qn L j:Nat):Rat):=by exact fm.mpr (by lia)
  exact h) λi j hi hj=>g.mul hi hj
def bC(L:List Ent)(j:Nat):Nat:=if j<(U' L).length then 2*qn L j else 1
def Gd.Âk(g:Gd L N c)(hh:mR L h=true):mS ((U' L).map (shr L h))<=1:=by
 rw[uO g.Ñ (g.ond h) (λx _ z=>g.zero z),<-g.one hh];refine ze λx _=>?_;have:=g.nn h x;split
 .exact lr
 .exact this
def Gd.col(g:Gd L N c)(j):El.sm (λr=>El.ab ((at2 (nR L) r j:Int):Rat)) (U' L).length<=(bC L j:Rat):=by
 unfold bC;by_cases hj:j<(U' L).length
 .rw[Zc hj];have hh:=Yk.mp (oO hj).2;have q0:(0:Rat)<=(qn L j:Rat):=by
   grind
  have e:El.sm (λr=>El.ab ((at2 (nR L) r j:Int):Rat)) (U' L).length<=El.sm (λr=>(qn L j:Rat)*(1*(if r=j then 1 else 0)+1*shr L (Y8 (U' L) j) (Y8 (U' L) r))) (U' L).length:=El.Ļ λr hr=>by
   rw[g.mul hr hj,El.Ű];have a1:El.ab (qn L j:Rat)=(qn L j:Rat):=by unfold El.ab;rw[Zd];grind
   rw[a1];refine dN ?_ q0;unfold mA;have:=g.nn (Y8 (U' L) j) (Y8 (U' L) r);unfold El.ab;split<;>grind
  apply cG e;rw[El.Ê,El.Z9,El.ZM hj (λk _ hk=>Zd hk),Zc rfl,DD (λx=>shr L (Y8 (U' L) j) x)];have s1:=g.Âk hh;have:(((2*qn L j:Nat):Nat):Rat)=(qn L j:Rat)*2:=by rw[Nat.mul_comm,jy];rfl
  rw[this];refine dN ?_ q0
  grind
 .rw[Zd hj];by_cases h2:j<2*(U' L).length
  .obtain⟨k,rfl⟩:∃k,j=(U' L).length+k:=⟨j-(U' L).length,by lia⟩;have hk:k<(U' L).length:=by lia
   have e:El.sm (λr=>El.ab ((at2 (nR L) r ((U' L).length+k):Int):Rat)) (U' L).length=El.sm (λr=>if r=k then 1 else 0) (U' L).length:=El.Ys λr hr=>by
    rw[GY hr hk];by_cases q:r=k
    .subst q;rw[Zc rfl,Zc rfl];rfl
    .rw[Zd q,Zd λz=>q (zx g.Ñ hk hr z).symm];rfl
   rw[e,El.ZM hk (λk _ hk=>Zd hk),Zc rfl];exact lr
  .rw[El.ĺ λr hr=>by rw[JS (by lia)];rfl];decide
def Gd.bC1(g:Gd L N c)(j):1<=bC L j:=by
 unfold bC;split
 .rename_i h;have:=g.À1 h;lia
 .grind
def Gd.ÂQ(g:Gd L N c)(j):bC L j<=2^3980:=by
 unfold bC;split
 .rename_i h;obtain⟨e,k,hz,f,ep,o,R,kc,sv,_⟩:=g.held (Yk.mp (oO h).2);have b:À (pl L (Y8 (U' L) j))<2^(97*k+1):=R.pieces.2.1;have c4:=g.c40;have:2^(97*k+1)<=2^3979:=cg (Zf rfl) (by lia);unfold qn
  grind
 .exact Nat.one_le_two_pow
theorem Gd.prod(g:Gd L N c)(ht:t<=(U' L).length):El.pr (λj=>(bC L j:Rat)) t<=((2^3993:Nat):Rat):=by
 have e0:∀k,k<=(U' L).length->El.pr (λj=>(bC L j:Rat)) k=((pQ (((U' L).take k).map λh=>2*À (pl L h)):Nat):Rat):=λk hk=>by rw[<-G7 (λh=>2*À (pl L h)) k hk];refine El.æ λj hj=>?_;unfold bC qn;rw[Zc (by lia)]
 have XV:pQ ((U' L).map λh=>2*À (pl L h))<=2^3993:=by
  have p1:pQ ((U' L).map λh=>2*À (pl L h))=pQ ((L.map (·.nm)).map λh=>2*À (pl L h)):=FH ((mF _).map _);have p2:(L.map (·.nm)).map (λh=>2*À (pl L h))=L.map λe=>2*À e.held:=by
   rw[aE];refine a7 λe he=>?_;show 2*À (pl L e.nm)=_;obtain⟨A,B,rfl⟩:=List.append_of_mem he;have hn:e.nm∉A.map (·.nm):=λz=>by
    have:=g.nd
    grind
   unfold pl;rw[wS hn]
  rw[p1,p2];refine aI g.ct.prod (cg (Zf rfl) ?_);have:=g.c40;have:=g.l8;lia
 rw[e0 t ht];refine dO.mpr (aI ?_ XV);have sp:pQ ((U' L).map λh=>2*À (pl L h))=pQ (((U' L).take t).map λh=>2*À (pl L h))*pQ (((U' L).drop t).map λh=>2*À (pl L h)):=by rw[<-xL,<-aA,kZ]
 rw[sp];apply Nat.le_mul_of_pos_right _;have pos:∀l:List Str,(∀h∈l,h∈U' L)->0<pQ (l.map λh=>2*À (pl L h)):=λl=>by
  induction l with
  |nil=>exact λ_=>Nat.one_pos
  |cons h l ih =>
   intro hl;obtain⟨e,k,hz,f,ep,o,R,kc,sv,_⟩:=g.held (Yk.mp (hl h ai));have p:=R.pieces.1;have i:=ih λy hy=>hl y (ae _ hy);exact lJ (lJ (Zf rfl) p) i
 exact pos _ λh hh=>lg hh
def MM:(č L h++ύ L h).length=2*(U' L).length:=by rw[aT];unfold č ύ;rw[ac,ac];lia
def Gd.bm(g:Gd L N c)(ng:Ā L):=LY (rows:=nR L) (n:=(U' L).length) (w:=2*(U' L).length) (by rw[ac]) (λrow hr=>by obtain⟨h,_,rfl⟩:=ar.mp hr;exact MM) (by lia) (g.zmr ng)
def Gd.big(g:Gd L N c)(ng:Ā L)(ht:t<=(U' L).length)(hi:i<(U' L).length)(hj:j<2*(U' L).length):Bt 7980 (at2 (ZS (nR L) t).2 i j):=by
 obtain⟨h1,h2,h3,h4⟩:=g.bm ng t ht;obtain⟨⟨X,C⟩,dp,_⟩:=El.run (g.zmr ng) t ht;have le:=C.le ht (λj=>by have:=dO.mpr (g.bC1 j);exact this) (λj=>g.col j) hi j
 rw[<-h4 i j hi hj,El.ϩ] at le;have nn:(0:Rat)<=(bC L j:Rat):=by
  grind
 have p1:=g.prod ht;have p2:=dO.mpr (g.ÂQ j);have p0:(0:Rat)<=((2^3993:Nat):Rat):=by
  grind
 have W1:El.pr (λj=>(bC L j:Rat)) t*(bC L j:Rat)<=((2^3993:Nat):Rat)*((2^3980:Nat):Rat):=by have a1:=dN p1 nn;have a2:=dN p2 p0;refine cG ?_ a2;rw[f6,f6 (((2^3993:Nat):Rat))];exact a1
 have Vc:=cG le W1;rw[<-jy] at Vc;have Vc:=dO.mp Vc;unfold Bt
 grind
def Gd.rows(g:Gd L N c)(ng:Ā L):∀t,t<=(U' L).length->Rows (U' L).length (2*(U' L).length) (ZS (nR L) t):=by
 intro t ht;obtain⟨h1,h2,h3,h4⟩:=g.bm ng t ht;obtain⟨⟨X,C⟩,dp,_⟩:=El.run (g.zmr ng) t ht;refine⟨h1,h2,λrow hr x hx=>?_,?_,?_⟩
 .obtain⟨i,hi⟩:=b5.mp hr;obtain⟨j,hj⟩:=b5.mp hx;have il:=(aS.mp hi).1;have jl:=(aS.mp hj).1;rw[h2 row hr] at jl;rw[h1] at il;rw[<-rc hi hj];exact(g.big ng ht il jl).mono (Zf rfl)
 .rw[<-h3] at dp;exact fm.mp dp
 .cases t with
  |zero=>exact bt1 (Zf rfl)
  |succ t=>exact(g.big ng (by lia) (by lia) (by lia)).mono (Zf rfl)
def Gd.dle(g:Gd L N c)(ng:Ā L):Bt 3994 (ZS (nR L) (U' L).length).1:=by obtain⟨h1,h2,h3,h4⟩:=g.bm ng (U' L).length (al _);obtain⟨⟨X,C⟩,dp,_⟩:=El.run (g.zmr ng) (U' L).length (al _);have le:=El.ž (U' L).length λi j=>((at2 (nR L) i j:Int):Rat);rw[<-C.dt,<-h3,El.ϩ] at le;have W1:=cG le (cG (El.å λj _=>⟨El.Œ (λ_=>El.Ù _) _,g.col j⟩) (g.prod (al _)));have Vc:=dO.mp W1;exact aZ Vc (lH (Zf rfl) (Zf rfl))
def ą(L:List Ent)(h:Str):Nat:=(U' L).idxOf h
def wD(hh:h∈U' L):ą L h<(U' L).length:=List.idxOf_lt_length_iff.mpr hh
def xk(hh:h∈U' L):Y8 (U' L) (ą L h)=h:=by have e:=(oO (wD hh)).1;rw[aC (wD hh)] at e;exact(bO e).symm.trans (List.getElem_idxOf _)
def zJ(g:Gd L N c)(hi:i<(U' L).length):ą L (Y8 (U' L) i)=i:=zx g.Ñ (wD (oO hi).2) hi (xk (oO hi).2)
structure û(L:List Ent)(d:Int)(z:Str->Str->Int):Prop where
 d0:0<d
 db:Bt 9000 d
 dd:Bt 3994 d
 zb:∀l∈U' L,∀k∈U' L,Bt 7980 (z l k)
 eq:∀h∈U' L,∀k∈U' L,((À (pl L h):Nat):Rat)*((z h k:Int):Rat)=(if h=k then(d:Rat) else 0)+mS ((U' L).map λl=>((pc (pl L l) h:Int):Rat)*((z l k:Int):Rat))
def Gd.solve(g:Gd L N c)(ng:Ā L)(a):∃d z,û L d z/\∀s,wX a [LL (nR L)] s=.ok (.tup [LL ((U' L).map λl=>(U' L).map λk=>z l k),.int d]) s:=by
 have R:=g.rows ng;have l8:(U' L).length<=8:=by rw[pF];exact g.l8
 obtain⟨h1,h2,h3,h4⟩:=g.bm ng (U' L).length (al _);obtain⟨⟨X,C⟩,dp,_⟩:=El.run (g.zmr ng) (U' L).length (al _);have RN:=R (U' L).length (al _);refine⟨(ZS (nR L) (U' L).length).1,λl k=>at2 (ZS (nR L) (U' L).length).2 (ą L l) ((U' L).length+ą L k),⟨RN.d.1,RN.d.2,g.dle ng,λl hl k hk=>g.big ng (al _) (wD hl) (by have:=wD hk;lia),λh hh k hk=>?_⟩,λs=>?_⟩
 .have ih:=wD hh;have ik:=wD hk;have so:=C.so _ ih ((U' L).length+ą L k);have up:∀l,l<(U' L).length->((at2 (ZS (nR L) (U' L).length).2 l ((U' L).length+ą L k):Int):Rat)=(((ZS (nR L) (U' L).length).1:Int):Rat)*X l ((U' L).length+ą L k):=λl hl=>by rw[h4 l _ hl (by lia),C.up l hl,h3]
  generalize (ZS (nR L) (U' L).length).1=d at *;have rhs:((at2 (nR L) (ą L h) ((U' L).length+ą L k):Int):Rat)=if h=k then 1 else 0:=by
   rw[GY ih ik,xk hh,xk hk];by_cases q:h=k
   .rw[Zc q,Zc q.symm];rfl
   .rw[Zd q,Zd λz=>q z.symm];rfl
  rw[rhs] at so;have e1:El.sm (λl=>((at2 (ZS (nR L) (U' L).length).2 l ((U' L).length+ą L k):Int):Rat)*((at2 (nR L) (ą L h) l:Int):Rat)) (U' L).length=(d:Rat)*if h=k then 1 else 0:=by
   rw[<-so,<-El.Ê];refine El.Ys λl hl=>?_;rw[up l hl]
   grind
  have e2:El.sm (λl=>((at2 (ZS (nR L) (U' L).length).2 l ((U' L).length+ą L k):Int):Rat)*((at2 (nR L) (ą L h) l:Int):Rat)) (U' L).length=El.sm (λl=>1*(if l=ą L h then((À (pl L h):Nat):Rat)*((at2 (ZS (nR L) (U' L).length).2 l ((U' L).length+ą L k):Int):Rat) else 0)+(-1)*(λy=>((pc (pl L y) h:Int):Rat)*((at2 (ZS (nR L) (U' L).length).2 (ą L y) ((U' L).length+ą L k):Int):Rat)) (Y8 (U' L) l)) (U' L).length:=El.Ys λl hl=>by
   rw[GX ih hl,xk hh];simp only[zJ g hl];by_cases q:l=ą L h
   .subst q;rw[Zc rfl,xk hh,Zc rfl,jz,cN]
    grind
   .rw[Zd q,Zd λz=>q (by rw[<-z,zJ g hl])];have:((0-pc (pl L (Y8 (U' L) l)) h:Int):Rat)=-((pc (pl L (Y8 (U' L) l)) h:Int):Rat):=by rw[<-Rat.intCast_neg];congr 1;lia
    rw[this]
    grind
  rw[e2,El.Z9,El.ZM ih (λk _ hk=>Zd hk),Zc rfl,DD (λy=>((pc (pl L y) h:Int):Rat)*((at2 (ZS (nR L) (U' L).length).2 (ą L y) ((U' L).length+ą L k):Int):Rat))] at e1;have:(d:Rat)*(if h=k then 1 else 0)=if h=k then(d:Rat) else 0:=by split<;>grind
  rw[this] at e1
  grind
 .rw[HW a s (n:=(U' L).length) (w:=2*(U' L).length) (by lia) (by lia) (by lia) R]
  congr 4
  have row:∀i,i<(U' L).length->((ZS (nR L) (U' L).length).2[i]?).map (·.drop (U' L).length)=Za ((U' L).map λk=>at2 (ZS (nR L) (U' L).length).2 i ((U' L).length+ą L k)):=λi hi=>by
   have e:(ZS (nR L) (U' L).length).2[i]?=Za ((ZS (nR L) (U' L).length).2[i]'(by lia)):=aC (by lia);have rl:=h2 _ (cR (show i<(ZS (nR L) (U' L).length).2.length by lia));generalize (ZS (nR L) (U' L).length).2[i]'(by lia)=row at e rl;rw[e];show Za (row.drop (U' L).length)=_
   congr 1
   refine i9 λj=>?_;rw[List.getElem?_drop,aF];by_cases hj:j<(U' L).length
   .rw[(oO hj).1];obtain⟨x,hx⟩:∃x,row[(U' L).length+j]?=Za x:=⟨_,aC (by lia)⟩;rw[hx];show Za x=Za (at2 _ i ((U' L).length+ą L (Y8 (U' L) j)));rw[zJ g hj,rc e hx]
   .rw[dY (by lia),dY (by lia)];rfl
  refine i9 λi=>?_;rw[aF,aF];by_cases hi:i<(U' L).length
  .rw[row i hi,(oO hi).1];show Za _=Za ((U' L).map λk=>at2 _ (ą L (Y8 (U' L) i)) _);rw[zJ g hi]
  .rw[dY (by lia),dY (by lia)];rfl
end
section
variable{κ:Type}[DecidableEq κ]
def Ev(l)(k k':κ)(p):wm (Dd l k p) k'=if k'=k then Za p else wm l k':=by
 have vc:∀kv (l:List (κ×PV)),wm (kv::l) k'=if kv.1=k' then Za kv.2 else wm l k':=λkv l=>by
  unfold wm
  grind
 unfold Dd;by_cases an:(l.any λkv=>decide (kv.1=k))=true
 .rw[Zc an];induction l with
  |nil=>cases an
  |cons kv l ih =>
   rw[am,vc,vc];by_cases e:kv.1=k
   .rw[Zc e];by_cases q:k'=k
    .simp_all
    .rw[Zd (show ¬kv.1=k' by rw[e];grind),Zd q,Zd (show ¬kv.1=k' by rw[e];grind)];by_cases an2:(l.any λkv=>decide (kv.1=k))=true
     .rw[ih an2,Zd q]
     .have:l.map (λkv=>if kv.1=k then(kv.1,p) else kv)=l:=by
       conv=>rhs;rw[<-iD l]
       refine a7 λx hx=>?_
       grind
      rw[this]
   .grind
 .rw[Zd an];induction l with
  |nil =>
   grind
  |cons kv l ih =>
   grind
def JW(l)(k:κ)(p):(Dd l k p).length<=l.length+1:=by
 unfold Dd;split
 .simp_all
 .simp_all
end
theorem C9(f g:α->PV):∀l:List α,uN (l.map f) (l.map g)=l.map λx=>.tup [f x,g x]
 |[]=>rfl
 |x::l=>by rw[am,am,am];show PV.tup [f x,g x]::uN (l.map f) (l.map g)=_;rw[C9 f g l]
def tp(L:List Ent)(d:Int)(z:Str->Str->Int)(x h:Str):Int:=(if x=h then d else 0)+((U' L).map λl=>pc (pl L l) x*z l h).sum
abbrev zL(L:List Ent)(z:Str->Str->Int):PV:=LL ((U' L).map λl=>(U' L).map λk=>z l k)
section
variable{T:K'}{nb k j:Nat}{pp N X:List Str}{L:List Ent}{c:Nat}{d:Int}{z:Str->Str->Int}
def wE(L:List Ent)(d:Int)(z:Str->Str->Int)(k nb:Nat)(u5 u6 u7 u8 u9 Rq:Option PV):En:=[Za (.ref k),Za (.ref nb),Za (LS (U' L)),Za (av L),Za (.tup [zL L z,.int d]),u5,u6,u7,u8,u9,Rq]
def Gd.pcb(g:Gd L N c)(hh:h∈U' L)(x):Bt 12000 (pc (pl L h) x):=by obtain⟨e,k,hz,f,ep,o,R,kc,sv,_⟩:=g.held (Yk.mp hh);have:=((R.fr x).top).mul ((R.pieces.2.1).div (d:=(mL (pl L h) x).2));have c4:=g.c40;exact this.mono (by lia)
theorem GQ(a)(g:Gd L N c)(S:û L d z)(hi:(U' L)[i]?=Za h)(s):∀(ns:List Str)(t:Int)(u9 Rq:Option PV),(∀l∈ns,l∈U' L)->∃v9 SN,nj (mV (Zk 2 (Yj (V' 9) (Yj (V' 10) Zl))) (o5 a)) (ns.map λl=>.tup [.str l,LI ((U' L).map λk=>z l k)]) (wE L d z k nb (Za (.int (i:Nat))) (Za (.str h)) (Za (.str x)) (Za (.int t)) u9 Rq) s=.nx (wE L d z k nb (Za (.int (i:Nat))) (Za (.str h)) (Za (.str x)) (Za (.int (t+(ns.map λl=>pc (pl L l) x*z l h).sum))) v9 SN) s
 |[],t,u9,Rq,_=>⟨u9,Rq,by rw[cP,cP,List.sum_nil,Int.add_zero];rfl⟩
 |l::ns,t,u9,Rq,hn=>by
  have hl:=hn l ai;have hh:=dk hi;obtain⟨v9,SN,e⟩:=GQ a g S hi s ns (t+pc (pl L l) x*z l h) (Za (.str l)) (Za (LI ((U' L).map λk=>z l k))) λy hy=>hn y (ae _ hy);refine⟨v9,SN,?_⟩;rw[am,am,fO,<-Int.add_assoc];unfold nj;have bd:mV (Zk 2 (Yj (V' 9) (Yj (V' 10) Zl))) (o5 a) (.tup [.str l,LI ((U' L).map λk=>z l k)]) (wE L d z k nb (Za (.int i)) (Za (.str h)) (Za (.str x)) (Za (.int t)) u9 Rq) s=.nx (wE L d z k nb (Za (.int i)) (Za (.str h)) (Za (.str x)) (Za (.int (t+pc (pl L l) x*z l h))) (Za (.str l)) (Za (LI ((U' L).map λk=>z l k)))) s:=by
   show o5 a (wE L d z k nb (Za (.int i)) (Za (.str h)) (Za (.str x)) (Za (.int t)) (Za (.str l)) (Za (LI ((U' L).map λk=>z l k)))) s=_;unfold o5;have e1:â (x2 (j' 3) (j' 9) Yo) (j' 7) (xC (.int 0)) (wE L d z k nb (Za (.int i)) (Za (.str h)) (Za (.str x)) (Za (.int t)) (Za (.str l)) (Za (LI ((U' L).map λk=>z l k)))) s=.ok (.int (pc (pl L l) x)) s:=by rw[Hm ((mK (ma rfl) (ma rfl)).trans (Mj hl)) (ma rfl) rfl,LR g]
   have e2:=pO e1 ((mK (ma (i:=10) rfl) (ma (i:=5) rfl)).trans (DP (by rw[aF,hi];rfl))) (.inl ⟨(g.pcb hl x).mono (Zf rfl),(S.zb l hl h hh).mono (Zf rfl)⟩);unfold Oz;rw[e2];rfl
  rw[bd];exact e
structure Wob(a:Yl)(T:K')(k j:Nat)(L:List Ent)(X:List Str)(d:Int)(z:Str->Str->Int):Prop where
 ob:T.get k=Za (.obj a.YX [("bottom",.int d),("top_of",.ref j)])
 dc:∃D,T.get j=Za (.Å D)/\∀x∈X,∀h∈U' L,wm D [ap x,ap h]=Za (.int (tp L d z x h))
def DR(h:f Z s=.ok (.ref n) s1)(hg:s1.get n=Za (.obj C fs))(hv:wm fs nm=Za p):Jy C nm f Z s=.ok p s1:=by unfold Jy;rw[h];simp[Out.bind,hg,if_true,hv]
def MT(h1:v Z s=.ok q s)(h2:f Z s=.ok (.ref n) s)(h3:fa Z s=.ok vs s)(hg:s.get n=Za (.Å l))(hk:BC vs=Za ks)(hv:vs.length<=100000)(hl:l.length<100000):Je f fa v Z s=.nx Z (s.set n (.Å (Dd l ks q))):=by
 unfold Je;simp[Out.so]
 simp_all
def Mu(a:Yl)(g:Gd L N c)(S:û L d z){h x:Str}{i j:Nat}(hi:(U' L)[i]?=Za h)(hx:bM x=true){s:K'}{D:List (List Key×PV)}(ob:s.get k=Za (.obj a.YX [("bottom",.int d),("top_of",.ref j)]))(hd:s.get j=Za (.Å D))(hl:D.length<100000)(u7 u8 u9 Rq:Option PV) :
  ∃v8 v9 SN,mV (V' 7) (o4 a) (.str x) (wE L d z k nb (Za (.int (i:Nat))) (Za (.str h)) u7 u8 u9 Rq) s=.nx (wE L d z k nb (Za (.int (i:Nat))) (Za (.str h)) (Za (.str x)) v8 v9 SN) (s.set j (.Å (Dd D [ap x,ap h] (.int (tp L d z x h))))):=by
 have hh:=dk hi;obtain⟨v9,SN,e⟩:=GQ a g S hi s (U' L) (if x=h then d else 0) u9 Rq λ_ z=>z;refine⟨Za (.int (tp L d z x h)),v9,SN,(ot).trans ?_⟩;show o4 a (wE L d z k nb (Za (.int i)) (Za (.str h)) (Za (.str x)) u8 u9 Rq) s=_;refine mD (mM (v:=.int (if x=h then d else 0)) (s':=s) ?_) ?_
 .have e1:YO (x2 (j' 7) (j' 6) Ý) (wE L d z k nb (Za (.int i)) (Za (.str h)) (Za (.str x)) u8 u9 Rq) s=.ok (decide (x=h)) s:=nY ((mK (ma rfl) (ma rfl)).trans (GF hx (g.Yn hh)));unfold ġ;rw[e1,vf];by_cases q:x=h
  .rw[Zg q,Zc q,Zc rfl];exact DR (ma rfl) ob rfl
  .rw[Zh q,Zd q,Zd (Zf rfl)];rfl
 .refine mD (qH ?_ e) ?_
  .unfold GN;show Out.ok (uN ((U' L).map .str) (((U' L).map λl=>(U' L).map λk=>z l k).map LI)) s=_;rw[aE,C9];rfl
  .apply(MT (ma rfl) (DR (ma rfl) ob rfl) (mf (ma rfl) (mf (ma rfl) rfl)) hd rfl (fE rfl) hl).trans;rfl
theorem GP(a)(g:Gd L N c)(S:û L d z){i j}(hi:(U' L)[i]?=Za h)(UO:k≠j):∀(xs:List Str)(s:K')(D:List (List Key×PV))(u7 u8 u9 Rq:Option PV),(∀x∈xs,bM x=true)->s.get k=Za (.obj a.YX [("bottom",.int d),("top_of",.ref j)])->s.get j=Za (.Å D)->D.length+xs.length<100000 ->
  ∃D' v7 v8 v9 SN,nj (mV (V' 7) (o4 a)) (xs.map .str) (wE L d z k nb (Za (.int (i:Nat))) (Za (.str h)) u7 u8 u9 Rq) s=.nx (wE L d z k nb (Za (.int (i:Nat))) (Za (.str h)) v7 v8 v9 SN) (s.set j (.Å D'))/\D'.length<=D.length+xs.length/\(∀x∈xs,wm D' [ap x,ap h]=Za (.int (tp L d z x h)))/\∀x h',wm D [ap x,ap h']=Za (.int (tp L d z x h'))->wm D' [ap x,ap h']=Za (.int (tp L d z x h'))
 |[],s,D,u7,u8,u9,Rq,_,_,hd,_=>⟨D,u7,u8,u9,Rq,by
   rw[An _ _ _ hd];rfl,al _,(λ_ z=>nomatch z),λ_ _ h=>h⟩
 |x::xs,s,D,u7,u8,u9,Rq,hx,ob,hd,hl=>by
  rw[bx] at hl;obtain⟨v8,v9,SN,e1⟩:=Mu a g S hi (hx x ai) ob hd (by lia) u7 u8 u9 Rq;have len:=JW D [ap x,ap h] (.int (tp L d z x h));obtain⟨D',w7,w8,w9,w10,e2,l2,a2,k2⟩:=GP a g S hi UO xs (s.set j (.Å (Dd D [ap x,ap h] (.int (tp L d z x h))))) _ (Za (.str x)) v8 v9 SN (λy hy=>hx y (ae _ hy)) (by rw[mC _ _ UO];exact ob) (nz hd) (by lia);have old:∀y h',wm D [ap y,ap h']=Za (.int (tp L d z y h'))->wm (Dd D [ap x,ap h] (.int (tp L d z x h))) [ap y,ap h']=Za (.int (tp L d z y h')):=λy h' hy=>by
   rw[Ev]
   grind
  refine⟨D',w7,w8,w9,w10,?_,by rw[bx];lia,λy hy=>?_,λy h' hy=>k2 y h' (old y h' hy)⟩
  .rw[am];unfold nj;rw[e1];show nj (mV (V' 7) (o4 a)) (xs.map .str) _ _=_;rw[e2,rZ]
  .obtain q|hy:=ao.mp hy
   .rw[q];exact k2 x h (by rw[Ev,Zc rfl])
   .exact a2 y hy
def GW(h1:v Z s=.ok p s1)(h2:f Z s1=.ok (.ref n) s1)(hg:s1.get n=Za (.obj C fs))(hl:fs.length<1000):Fl C nm f v Z s=.nx Z (s1.set n (.obj C (BB nm p fs))):=by
 unfold Fl;simp[Out.so]
 simp_all
structure Pp(pp N:List Str):Prop where
 sub:∀x∈pp,x∈N
 le:pp.length<=64
def Ms(a)(g:Gd L N c)(ng:Ā L)(P:Pp pp N)(hb:T.get nb=Za (.book pp L))(Sd:nb<T.nx)(hk:T.get k=Za (.obj a.YX []))(hkT:k<T.nx)(hkb:nb≠k) :
  ∃d z j T',û L d z/\rD a [.ref k,.ref nb] T=.ok .Ym T'/\Wob a T' k j L (Yq pp++U' L) d z/\T.nx<=T'.nx/\T.nx<=j/\∀i,i<T.nx->i≠k->T'.get i=T.get i:=by
 obtain⟨d,z,S,es⟩:=g.solve ng a;have l8:(U' L).length<=8:=by rw[pF];exact g.l8
 have hso:pU a [.ref nb] T=.ok (LS (U' L)) T:=by unfold pU nV;simp only[hb]
 obtain⟨s1,c1,G1⟩:=Cm (T:=T) (cap:=[Za (LS (U' L)),Za (av L)]) (e:=Yb 3 (rA a) (F' (j' 0) (F' (j' 1) (F' (j' 2) J')))) (λq=>match q with|.str h=>LI (č L h++ύ L h)|q=>q) ((U' L).map .str) (λq hq s gs=>by obtain⟨h,hh,rfl⟩:=ar.mp hq;exact⟨_,mJ (mf (ma rfl) (mf (ma rfl) (mf (ma rfl) rfl))) rfl (KZ a g hh s),gs.trans (Gr.add _ _)⟩) T (Gr.refl T)
 have e1:(((U' L).map PV.str).map λq=>match q with|.str h=>LI (č L h++ύ L h)|q=>q)=(nR L).map LI:=by rw[aE,aE];rfl
 rw[e1] at c1;have ob1:s1.get k=Za (.obj a.YX []):=(G1.fr k hkT).trans hk;have n1:=G1.nx;generalize Tz:s1.set k (.obj a.YX (BB "bottom" (.int d) []))=s2;have RZ:s2.nx=s1.nx:=by rw[<-Tz];rfl
 have ob2:s2.get k=Za (.obj a.YX [("bottom",.int d)]):=by rw[<-Tz];exact nz ob1
 have fr2:∀i,i<T.nx->i≠k->s2.get i=T.get i:=λi h1 h2=>by rw[<-Tz,mC _ _ h2];exact G1.fr i h1
 generalize hs3:(s2.add (.Å [])).set k (.obj a.YX (BB "top_of" (.ref s2.nx) [("bottom",.int d)]))=s3;have gk:(s2.add (.Å [])).get k=Za (.obj a.YX [("bottom",.int d)]):=by rw[mX,Zd (by lia)];exact ob2
 have ob3:s3.get k=Za (.obj a.YX [("bottom",.int d),("top_of",.ref s2.nx)]):=by rw[<-hs3];exact nz gk
 have X2:s3.get s2.nx=Za (.Å []):=by rw[<-hs3,mC _ _ (by lia),mX,Zc rfl]
 have nx3:s3.nx=s2.nx+1:=by rw[<-hs3];rfl
 have VQ:∀i,i<T.nx->i≠k->s3.get i=T.get i:=λi h1 h2=>by rw[<-hs3,mC _ _ h2,mX,Zd (by lia)];exact fr2 i h1 h2
 have UO:k≠s2.nx:=by lia
 have hX:∀x∈Yq pp++U' L,bM x=true:=λx hx=>by
  obtain hx|hx:=aW.mp hx
  .exact yw (g.ho.sm x (P.sub x ((mF _).mem_iff.mp hx)))
  .exact g.Yn hx
 have lX:(Yq pp++U' L).length<=72:=by rw[aT,(mF _).length_eq];have:=P.le;lia
 obtain⟨ρ4,s4,lp,D4,u5,u6,u7,u8,u9,Rq,rfl,rfl,l4,v4⟩:=Hf (body:=mV (Zk 2 (Yj (V' 5) (Yj (V' 6) Zl))) (qk a)) (sA 0 ((U' L).map .str))
  (λi Z s=>∃D u5 u6 u7 u8 u9 Rq,Z=wE L d z k nb u5 u6 u7 u8 u9 Rq/\s=s3.set s2.nx (.Å D)/\D.length<=72*i/\∀x∈Yq pp++U' L,∀i',i'<i->∀h,(U' L)[i']?=Za h->wm D [ap x,ap h]=Za (.int (tp L d z x h)))
  (λi q Z s hq hI=>by
   obtain⟨D,u5,u6,u7,u8,u9,Rq,rfl,rfl,lD,vD⟩:=hI;rw[xS,aF,fu] at hq;obtain⟨h,hi⟩:∃h,(U' L)[i]?=Za h:=by
    cases e:(U' L)[i]? with
    |none=>rw[e] at hq;cases hq
    |some h=>exact⟨h,rfl⟩
   rw[hi] at hq;cases hq;have il:i<(U' L).length:=(aS.mp hi).1;have obk:(s3.set s2.nx (.Å D)).get k=Za (.obj a.YX [("bottom",.int d),("top_of",.ref s2.nx)]):=by rw[mC _ _ UO];exact ob3
   obtain⟨D',v7,v8,v9,SN,e,lD',a1,a2⟩:=GP (k:=k) (nb:=nb) a g S hi UO (Yq pp++U' L) (s3.set s2.nx (.Å D)) D u7 u8 u9 Rq hX obk (nz X2) (by lia);refine⟨_,_,?_,D',Za (.int (i:Nat)),Za (.str h),v7,v8,v9,SN,rfl,rfl,by lia,λx hx i' Vy h' Us=>?_⟩
   .show qk a (wE L d z k nb (Za (.int (i:Nat))) (Za (.str h)) u7 u8 u9 Rq) (s3.set s2.nx (.Å D))=_;unfold qk;rw[rZ] at e;have bk:(s3.set s2.nx (.Å D)).get nb=Za (.book pp L):=by rw[mC _ _ (by lia)];exact(VQ nb Sd hkb).trans hb
    refine qH (l:=(Yq pp++U' L).map .str) (s1:=s3.set s2.nx (.Å D)) (og ((mK ((tT (vs:=[]) (s2:=s3.set s2.nx (.Å D)) (ma rfl) bk rfl rfl).trans (show sH a [.ref nb] (s3.set s2.nx (.Å D))=.ok (LS (Yq pp)) (s3.set s2.nx (.Å D)) by unfold sH nV;simp only[bk])) (ma rfl)).trans ?_)) e;simp only[YH,YI];rw[Zc (by rw[ac,ac,<-aT];lia),<-aA]
   .by_cases q:i'=i
    .subst q;rw[hi] at Us;cases Us;exact a1 x hx
    .exact a2 x h' (vD x hx i' (by lia) h' Us)) (Z:=wE L d z k nb Zb Zb Zb Zb Zb Zb) (s:=s3.set s2.nx (.Å [])) ⟨[],Zb,Zb,Zb,Zb,Zb,Zb,rfl,rfl,a6 _,λ_ _ _ h=>absurd h (by lia)⟩
 rw[An _ _ _ X2] at lp;refine⟨d,z,s2.nx,s3.set s2.nx (.Å D4),S,Ax (Z:=wE L d z k nb u5 u6 u7 u8 u9 Rq) ?_,⟨by rw[mC _ _ UO];exact ob3,D4,nz X2,λx hx h hh=>?_⟩,by show T.nx<=s3.nx;lia,by lia,λi h1 h2=>?_⟩
 .unfold yo;refine mD (uc (mJ (mf (ma rfl) rfl) rfl (Nv a g.ho (by have:=g.l8;lia) ng hb))) ?_;apply mD (mM ((tT (vs:=[]) (s2:=T) (ma rfl) hb rfl rfl).trans hso));apply mD (mM (mJ (mf (ma rfl) rfl) rfl (Ge a g hb)));refine mD (mM (mJ (mf (qG (l:=(U' L).map .str) (s1:=T) (og (ma rfl)) (by rw[ac];lia) c1) rfl) rfl (es s1))) ?_;apply mD (s':=s2) ((GW (s1:=s1) (p:=.int d) ((mK (ma (v:=.tup [zL L z,.int d]) rfl) rfl).trans rfl) (ma rfl) ob1 (by decide)).trans (by rw[Tz]));apply mD (s':=s3) ((GW (s1:=s2.add (.Å [])) (p:=.ref s2.nx) rfl (ma rfl) gk (Nat.lt_of_sub_eq_succ rfl)).trans (by rw[hs3]));refine qH (l:=sA 0 ((U' L).map .str)) (s1:=s3) ?_ lp;unfold wJ;rw[mf (ma (i:=2) (v:=LS (U' L)) rfl) rfl];rfl
 .obtain⟨i,hi⟩:=b5.mp hh;refine v4 x hx i ?_ h hi;rw[sG,ac];exact(aS.mp hi).1
 .rw[mC _ _ (by lia)];exact VQ i h1 h2
def YT(q:Rat):PV:=ZJ (q.num,(q.den:Int))
def Nz(q:Rat):ð (q.num,(q.den:Int)):=⟨by have:=q.den_pos;lia,by exact q.reduced⟩
def zo(hb:0<b):red (t,b)=((aO t b).num,((aO t b).den:Int)):=by
 obtain⟨l,e⟩:=tY (q:=(t,b)) hb;apply zG l (Nz _);have h:=gz (aO t b);have d0:=(aO t b).den_pos;have h:=(km (by lia) (by lia)).mp h;apply ej (a:=b) (by lia)
 grind
def IB(a)(s)(hb:0<b)(bb:Bt 9000 b):AH a [.int t,.int b] s=.ok (YT (aO t b)) s:=by apply mZ;have gp:0<aJ t b:=bA _ (by lia);have gb:Bt 9000 ((aJ t b:Nat):Int):=bb.dvd (by lia) (cq ..);refine mD (mM (mJ (mf (ma rfl) (mf (ma rfl) rfl)) rfl (Zc hb))) ?_;apply(nT (qW (mf (Bq (ma rfl) (ma rfl) ⟨by lia,gb⟩) (mf (Bq (ma rfl) (ma rfl) ⟨by lia,gb⟩) rfl)))).trans;unfold YT;rw[<-zo hb];rfl
theorem Gq{k}:∀(l:List Int),(∀x∈l,Bt k x)->Bt (k+l.length) l.sum
 |[],_=>by
  show(0:Int).natAbs<2^_;exact cE _
 |x::l,h=>by rw[fO,bx,<-ky];exact((h x ai).mono (by lia)).add (Gq l λy hy=>h y (ae _ hy))
def Qp(h2:f Z s=.ok (.ref n) s)(h3:fa Z s=.ok vs s)(hg:s.get n=Za (.Å l))(hk:BC vs=Za ks)(hv:vs.length<=100000)(hq:wm l ks=Za q):Oy f fa Z s=.ok q s:=by
 unfold Oy;rw[h2];simp[Out.bind]
 simp_all
def Sol(L:List Ent)(t:Str->Rat)(w:Str->Rat):Prop:=∀x,w x=t x+mS ((U' L).map λl=>shr L l x*w l)
theorem Sol.uniq(g:Gd L N c)(ng:Ā L)(h:Sol L t w)(h':Sol L t w')(x):w x=w' x:=by
 have hs:=g.uniq ng g.Ñ (λx hx=>Yk.mp hx) λy _=>by
  have e:mS ((U' L).map λl=>shr L l y*(w l-w' l))=mS ((U' L).map λl=>shr L l y*w l+(-1)*(shr L l y*w' l)):=m9 λl _=>by grind
  rw[e,uP,sJ];have a1:=h y;have a2:=h' y
  grind
 have e:mS ((U' L).map λl=>shr L l x*w l)=mS ((U' L).map λl=>shr L l x*w' l):=m9 λl hl=>by grind
 rw[h x,h' x,e]
def û.ŏ(g:Gd L N c)(S:û L d z){h k}(hh:h∈U' L)(hk:k∈U' L):((tp L d z h k:Int):Rat)=((À (pl L h):Nat):Rat)*((z h k:Int):Rat):=by
 rw[S.eq h hh k hk];unfold tp;rw[ib,vi]
 congr 1
 .split<;>rfl
 .grind
def û.ÀJ(g:Gd L N c)(S:û L d z)(x){k}(hk:k∈U' L):((tp L d z x k:Int):Rat)=(if x=k then(d:Rat) else 0)+mS ((U' L).map λl=>shr L l x*((tp L d z l k:Int):Rat)):=by
 have e:mS ((U' L).map λl=>shr L l x*((tp L d z l k:Int):Rat))=mS ((U' L).map λl=>((pc (pl L l) x*z l k:Int):Rat)):=m9 λl hl=>by
  obtain⟨e,m,hz,f,ep,o,R,kc,sv,_⟩:=g.held (Yk.mp hl);rw[S.ŏ g hl hk,ia,R.Ľ,sv,cN]
  grind
 rw[e];unfold tp;rw[ib,vi];split<;>rfl
def Mi{C:ag}{n:Nat}{D:XF}{fa:XA}{Z:En}{s s1 s2:K'}{vs:List PV}(h1:fa Z s=.ok vs s1)(hn:vs.length+1=n)(h2:D (.ref s1.nx::vs) (s1.add (.obj C []))=.ok .Ym s2):xMk C n D fa Z s=.ok (.ref s1.nx) s2:=by unfold xMk;rw[h1];simp[Out.bind,hn,if_true,h2]
def Dh(a)(g:Gd L N c)(ng:Ā L)(P:Pp pp N)(hb:T.get nb=Za (.book pp L))(Sd:nb<T.nx):∃d z j T',û L d z/\rD a [.ref T.nx,.ref nb] (T.add (.obj a.YX []))=.ok .Ym T'/\Wob a T' T.nx j L (Yq pp++U' L) d z/\Gr T T':=by
 have VM:(T.add (.obj a.YX [])).get nb=Za (.book pp L):=by rw[mX,Zd (by lia)];exact hb
 obtain⟨d,z,j,T',S,e,W,n1,n2,fr⟩:=Ms a g ng P VM (cm Sd) (by rw[mX,Zc rfl]) (cA _) (by lia);have n1:T.nx+1<=T'.nx:=n1;refine⟨d,z,j,T',S,e,W,by lia,λi hi=>?_⟩;rw[fr i (cm hi) (by lia),mX,Zd (by lia)]
def Jn{t b:Int}{k m:Nat}(hb:0<b)(ht:Bt k t)(hB:Bt m b):Bt k (aO t b).num/\Bt m ((aO t b).den:Int):=by have e:=zo (t:=t) hb;have e1:=congrArg Prod.fst e;have e2:=congrArg Prod.snd e;simp only at e1 e2;rw[<-e1,<-e2];exact⟨ht.div,hB.div⟩
def LN(q:Rat):(0:Int)<q.den:=by have:=q.den_pos;omega
def Bk{k m:Nat}{i j:Int}(h:Bt k i)(g:Bt m j)(hk:k<=20000)(hm:m<=20000):qz i j:=.inl ⟨h.mono hk,g.mono hm⟩
def ÂE{s:K'}{u v:PV}:Yo (.tup [u,v]) (.int 0) s=.ok u s:=rfl
def ÂD{s:K'}{u v:PV}:Yo (.tup [u,v]) (.int 1) s=.ok v s:=rfl
def ÁV{k:Nat}:Bt k 0:=cE k
def MP(p q:Rat):aO (p.num*(q.den:Int)+q.num*(p.den:Int)) ((p.den:Int)*(q.den:Int))=p+q:=by have d1:=LN p;have d2:=LN q;rw[<-k7 _ _ (by omega) (by omega),gz,gz]
def Am(a:Yl)(s:K'){p q:Rat}(p1:Bt 13000 p.num)(p2:Bt 4500 (p.den:Int))(q1:Bt 13000 q.num)(q2:Bt 4500 (q.den:Int))(u0 u3:Option PV):mV (V' 3) (tE a) (YT q) [u0,Za (.int p.num),Za (.int (p.den:Int)),u3] s=.nx [u0,Za (.int (p+q).num),Za (.int ((p+q).den:Int)),Za (YT q)] s:=by have pq:=bv (LN p) (LN q);have m:=xl a s (p.num*q.den+q.num*p.den) (p.den*q.den) pq (p2.mul q2);rw[zo pq,MP] at m;have b1:=Bk p1 q2 (by decide) (by decide);have b2:=Bk q1 p2 (by decide) (by decide);have b3:=Bk p2 q2 (by decide) (by decide);exact Oo (mJ (vs:=[.int (p.num*q.den+q.num*p.den),.int (p.den*q.den)]) (mf (wH (pO (ma rfl) ((mK (ma rfl) rfl).trans ϡ) b1) (pO ((mK (ma rfl) rfl).trans ix0) (ma rfl) b2)) (mf (pO (ma rfl) ((mK (ma rfl) rfl).trans ϡ) b3) rfl)) rfl m)
def Ph(a:Yl)(s:K'){p q:Rat}(p1:Bt 13000 p.num)(p2:Bt 4500 (p.den:Int))(q1:Bt 13000 q.num)(q2:Bt 4500 (q.den:Int)):qm a [.lst [YT p,YT q]] s=.ok (YT (p+q)) s:=by
 apply mZ;have z0:=gY p;have s1:=Am a s (p:=0) ÁV (bt1 (Zf rfl)) p1 p2 (Za (.lst [YT p,YT q])) Zb;rw[z0] at s1;have s2:=Am a s p1 p2 q1 q2 (Za (.lst [YT p,YT q])) (Za (YT p));apply mD (Yp:=[Za (.lst [YT p,YT q]),Za (.int (0:Rat).num),Za (.int ((0:Rat).den:Int)),Zb]) (Oo (qW (mf rfl (mf rfl rfl))));refine mD (qH (og (ma rfl)) (Yp:=[Za (.lst [YT p,YT q]),Za (.int (p+q).num),Za (.int ((p+q).den:Int)),Za (YT q)]) (s':=s) ?_) ?_
 .unfold nj;rw[s1];show nj _ [YT q] _ s=_;unfold nj;rw[s2];rfl
 .rfl
def Gd.À6(g:Gd L N c){h:Str}(hh:h∈U' L)(x:Str):Bt 4030 (pc (pl L h) x):=by
 obtain⟨e,k,hz,f,ep,o,R,kc,sv,_⟩:=g.held (Yk.mp hh);obtain⟨p0,pb,pd⟩:=R.pieces;obtain⟨m,hm⟩:=pd x;have F:=R.fr x;have c4:=g.c40;have m0:0<=m:=by
  by_cases z:0<=m
  .exact z
  .have:=Int.mul_neg_of_pos_of_neg F.low.1 (show m<0 by omega);omega
 have pc0:pc (pl L h) x=(mL (pl L h) x).1*m:=by unfold pc;rw[hm,cH _ (by grind)]
 have le:pc (pl L h) x<=((2^k:Nat):Int)*(À (pl L h):Int):=by rw[pc0,hm,<-bh];exact aU F.le m0
 have nn:=R.À7 x;have b2:Bt (k+1) ((2^k:Nat):Int):=by
  unfold Bt;rw[iZ,kY]
  grind
 have bb:Bt 4030 (((2^k:Nat):Int)*(À (pl L h):Int)):=(b2.mul pb).mono (by omega);unfold Bt at *;omega
def K5(g:Gd L N c)(S:û L d z)(x:Str){h:Str}(hh:h∈U' L):Bt 12030 (tp L d z x h):=by
 have l8:(U' L).length<=8:=by rw[pF];exact g.l8
 have h1:=Gq ((U' L).map λl=>pc (pl L l) x*z l h) λy hy=>by obtain⟨l,hl,rfl⟩:=ar.mp hy;exact(g.À6 hl x).mul (S.zb l hl h hh)
 rw[ac] at h1;refine Bt.mono (k:=12020+1) (Bt.add ?_ (h1.mono (by omega))) (Zf rfl);split
 .exact S.db.mono (Zf rfl)
 .exact cE _
def wy(L:List Ent)(d:Int)(z:Str->Str->Int)(x h:Str):Rat:=aO (tp L d z x h) d
def Á4(g:Gd L N c)(S:û L d z)(x:Str){h:Str}(hh:h∈U' L):Bt 12300 (wy L d z x h).num/\Bt 4000 ((wy L d z x h).den:Int):=Jn S.d0 ((K5 g S x hh).mono (Zf rfl)) (S.dd.mono (Zf rfl))
def Gn(g:Gd L N c)(S:û L d z){h:Str}(hh:h∈U' L):Sol L (λx=>if x=h then 1 else 0) (λx=>wy L d z x h):=by
 intro x;have d0:(d:Rat)≠0:=λq=>by have:=Rat.intCast_eq_zero_iff.mp q;have:=S.d0;omega
 have wd:∀y,wy L d z y h*d=((tp L d z y h:Int):Rat):=λy=>by
  unfold wy;rw[dq]
  grind
 have e:=S.ÀJ g x hh;have e2:mS ((U' L).map λl=>shr L l x*((tp L d z l h:Int):Rat))=d*mS ((U' L).map λl=>shr L l x*wy L d z l h):=by rw[<-sJ];exact m9 λl _=>by rw[<-wd l];grind
 rw[e2,<-wd x] at e
 grind
def zd(a:Yl)(g:Gd L N c)(ng:Ā L)(P:Pp pp N)(hb:T.get nb=Za (.book pp L))(Sd:nb<T.nx){x h:Str}(hx:x∈Yq pp++U' L)(hh:h∈U' L):∃d z T',û L d z/\n8 a [.ref nb,.str x,.str h] T=.ok (YT (wy L d z x h)) T'/\Gr T T':=by
 obtain⟨d,z,j,T',S,e,W,G⟩:=Dh a g ng P hb Sd;obtain⟨D,hD,vD⟩:=W.dc;have SZ:=(G.fr nb Sd).trans hb;have hhE:=Yk.mp hh;have smx:Sm x:=by
  obtain q|q:=aW.mp hx
  .exact g.ho.sm x (P.sub x ((mF _).mem_iff.mp q))
  .exact g.ho.sm x (g.ho.hn x (Yk.mp q))
 have nh:ny a [.ref nb,.str x] T'=.ok .Ym T':=by
  have i:(oJ pp x||mR L x)=true:=by
   rw[di,sQ];obtain q|q:=aW.mp hx
   .exact .inl ((mF _).mem_iff.mp q)
   .exact .inr (Yk.mp q)
  simp only[ny,nV,SZ];rw[Zc smx.nm,Zc i]
 refine⟨d,z,T',S,mZ ?_,G⟩;apply mD (mM (Mi (mf (ma rfl) rfl) rfl e));apply mD (uc ((tT (ma rfl) SZ (mf (ma rfl) rfl) rfl).trans nh));apply mD (uc ((tT (ma rfl) SZ (mf (ma rfl) rfl) rfl).trans (Ki a SZ hhE (g.ho.sm h (g.ho.hn h hhE)).nm)));exact nT (mJ (mf (Qp (DR (ma rfl) W.ob rfl) (mf (ma rfl) (mf (ma rfl) rfl)) hD rfl (fE rfl) (vD x hx h hh)) (mf (DR (ma rfl) W.ob rfl) rfl)) rfl (IB a T' S.d0 S.db))
end
def Jo(h1:f Z s=.ok false s1)(h2:g Z s1=.ok b s2):xOr f g Z s=.ok b s2:=by unfold xOr;rw[h1];exact h2
def HI(h1:f Z s=.ok true s1)(h2:g Z s1=.ok b s2):Ť f g Z s=.ok b s2:=by unfold Ť;rw[h1];exact h2
def QS(h1:f Z s=.ok false s1):Ť f g Z s=.ok false s1:=by unfold Ť;rw[h1];rfl
def yJ(h:f Z s=.ok b s1):ğ f Z s=.ok (!b) s1:=by unfold ğ;rw[h];rfl
def Op(h1:f Z s=.ok (.bl true) s1)(h2:g Z s1=o):ĭ f g Z s=o:=by unfold ĭ;rw[h1];exact h2
def ÂR(h:f Z s=.ok (.tup [u,v,w]) s'):ã f (Zk 3 (Yj (V' i) (Yj (V' j) (Yj (V' k) Zl)))) Z s=.nx (((Z.set i (Za u)).set j (Za v)).set k (Za w)) s':=by unfold ã;rw[h];rfl
def dtR(q:Rat):kU:=.tuple [.int q.num,.int (q.den:Int)]
def Ht(q):cC (dtR q) (dtR q)=true:=by unfold dtR;simp[cC,eK]
def ET{s:K'}{v:PV}{x:Str}{S:List Str}(hd:ZG s v=Zb)(ht:∀l,v≠.tup l)(hl:YI s v=Za (S.map .str)):qh (.str x) v s=.ok (.bl (!decide (x∈S))) s:=by
 show rg true _ _ _=_;unfold rg;rw[hd];cases v with
 |tup l=>exact absurd rfl (ht l)
 |_=>simp[toV,hl,vT,Fj,Cd]
structure Ls(T:K')(p nb:Nat)(pp:List Str)(L:List Ent)(Zj:List (Nat×Cell)):Prop where
 pu:Yv T p
 bk:T.get nb=Za (.book pp L)
 ne:p≠nb
 lp:p<T.nx
 lb:nb<T.nx
 zz:∀z∈Zj,T.get z.1=Za z.2/\z.1≠p/\z.1≠nb/\z.1<T.nx
section
variable{s t:K'}{p nb nd:Nat}{N:List Str}{c:Nat}{pp:List Str}{L:List Ent}{M:List Md}
def Þ.at_(P:Þ N c L M)(h:n∈L.map (·.nm)):∃e m k,oo L n=Za e/\m∈M/\p4 (M.map Ô) (ap n)=Za (.lst [.ref m.cell,.tup [.int m.th,.int m.mr,.int m.ls]])/\ϭ N k e m:=by obtain⟨A,e,B,A',m,B',k1,k2,k3,e1,e2,rfl,e4,e5,e6,e7,_⟩:=P.cut (P.names▸h);refine⟨e,m,k2,?_,by rw[e2];simp,by rw[e2];exact Lu e4,e6⟩;rw[e1,<-e6.nm];exact wS (by rw[e5.names,e6.nm];exact e4)
def ù.ho(B:ù s t p nb nd N c pp L M)(WN:Wds N)(hn:∀n∈L.map (·.nm),n∈N)(hl:N.length<64):Ho L N:=by refine⟨λn e fe=>?_,WN.sm,hl,λn h=>hn n ((oZ _ _).mp h)⟩;have hn:=(oZ _ _).mp (by unfold mR;rw[fe];rfl);obtain⟨e',m,k,f,hm,_,R⟩:=B.w.pr.at_ hn;rw[fe] at f;cases f;have:=R.hm.len.symm;have l2:=Mg R.hm.nd R.ow;rw[ac] at l2;exact⟨by lia,λx hx=>R.ow x ((R.hm.mem x).mpr hx)⟩
def ù.gd(B:ù s t p nb nd (pp++hs) c pp L M)(WN:Wds (pp++hs))(hL:L.map (·.nm)=hs)(hp:pp.length<=6)(hh:hs.length<=8)(hc:c<=40):Gd L (pp++hs) c/\Pp pp (pp++hs):=by
 have Nl:(pp++hs).length<64:=by rw[aT];lia
 refine⟨⟨B.ho WN (λn hn=>aD _ (hL▸hn)) Nl,by rw[hL];exact(b6.mp WN.nd).2.1,B.w.pr.cts,λe he=>(B.w.pr.tb e he).mono (Zf rfl),?_,by lia⟩,λx hx=>bV _ hx,by lia⟩
 grind
end
theorem xH:∀{l:List (Nat×Cell)},qw l n=Za c->pE n c l=l
 |(k,d)::r,h=>by
  by_cases e:k=n
  .subst e;have h:(if k=k then Za d else qw r k)=Za c:=h;show(if k=k then(k,c)::r else _)=(k,d)::r
   grind
  .have h:(if k=n then Za d else qw r n)=Za c:=h;rw[Zd e] at h;show(if k=n then(n,c)::r else(k,d)::pE n c r)=_;rw[Zd e,xH h]
theorem Ao:∀{l:List (Nat×Cell)},pE n c (pE n d l)=pE n c l
 |[]=>rfl
 |(k,e)::r=>by
  show pE n c (if k=n then(n,d)::r else(k,e)::pE n d r)=(if k=n then(n,c)::r else(k,e)::pE n c r);by_cases h:k=n
  .rw[Zc h,Zc h];show(if n=n then(n,c)::r else _)=_;rw[Zc rfl]
  .rw[Zd h,Zd h];show(if k=n then _ else(k,e)::pE n c (pE n d r))=_;rw[Zd h,Ao]
def JM{T:K'}{n:Nat}{c d:Cell}(h:T.get n=Za c):(T.set n d).set n c=T:=by obtain⟨x,l⟩:=T;show K'.mk x (pE n c (pE n d l))=_;rw[Ao,xH h]
def KR{g:XE}{ix:List Nat}{c:XT}{e:XE}{Z:En}{T:K'}{n:Nat}{l:List (Key×PV)}{vs:List PV}(h1:g Z T=.ok (.ref n) T)(hg:T.get n=Za (.Yr l))(hl:l.length<=100000)(h2:oi c e (nS ix Z) (l.map λkv=>xn kv.1) (T.set n (.Zp l))=.ok vs (T.set n (.Zp l))):wx g ix c e Z T=.ok (.lst vs) T:=by
 unfold wx;simp[h1,hg];rw[Zc hl,h2];simp[Out.bind,Ϲ,nz hg,JM hg]
structure Mz(s:K')(nd:Nat)(M:List Md)(L:List Ent)(N:List Str)(c:Nat):Prop where
 d:ZG s (.ref nd)=Za (M.map Ô)
 l:YI s (.ref nd)=Zb
 sh:∀m∈M,s.get m.cell=Za (.Yr (hP m.hl))
 pr:Þ N c L M
section
variable{T s:K'}{nd b j:Nat}{N:List Str}{L:List Ent}{M:List Md}{c:Nat}{d:Int}{z:Str->Str->Int}{k x:Str}
theorem Mz.at_(Zj:Mz T nd M L N c)(h:mR L n=true):∃e m k,oo L n=Za e/\m∈M/\Yo (.ref nd) (.str n) T=.ok (.lst [.ref m.cell,.tup [.int m.th,.int m.mr,.int m.ls]]) T/\T.get m.cell=Za (.Yr (hP m.hl))/\ϭ N k e m:=by obtain⟨e,m,k,f,hm,v,R⟩:=Zj.pr.at_ ((oZ _ _).mp h);exact⟨e,m,k,f,hm,by simp[Yo,Zj.d,Zj.l,Á,v],Zj.sh m hm,R⟩
def Q5{s}:Yo (.lst [u,v]) (.int 0) s=.ok u s:=by simp[Yo,YI,È,ũ]
def Mz.ins(Zj:Mz T nd M L N c)(H:Ho L N){G}{x}(hx:mR L x=true) :
  YO (x2 (wx (x2 (x2 (j' 2) (j' 0) Yo) (xC (.int 0)) Yo) [1] (YO (x2 (j' 0) (j' 1) qh)) (j' 0)) (ZL J') Ý) [Za (.str x),Za (LS G),Za (.ref nd)] T=.ok (Z5 L G x) T:=by
 obtain⟨e,m,k,f,hm,i1,g1,R⟩:=Zj.at_ hx;have hl:=H.le;have ml:m.hl.length<=N.length:=by
  have:=Mg R.hm.nd R.ow
  simp_all
 have cp:=qq (s:=T.set m.cell (.Zp (hP m.hl))) (cap:=[Za (LS G)]) (c:=YO (x2 (j' 0) (j' 1) qh)) (e:=j' 0) (λq=>match q with|.str n=>!decide (n∈G)|_=>false) id ((m.hl.map (·.1)).map .str) (λq hq=>by obtain⟨n,hn,rfl⟩:=ar.mp hq;exact nY ((mK (ma rfl) (ma rfl)).trans (ET rfl (by grind) rfl))) (λq hq _=>rfl)
 rw[iD,dR] at cp;have hk:((hP m.hl).map λkv=>xn kv.1)=(m.hl.map (·.1)).map .str:=by unfold hP;rw[aE,aE];rfl
 have so:=λy hy=>yw (H.sm y (R.ow y hy));have ce:=KR (g:=x2 (x2 (j' 2) (j' 0) Yo) (xC (.int 0)) Yo) (ix:=[1]) (Z:=[Za (.str x),Za (LS G),Za (.ref nd)]) ((mK ((mK (ma rfl) (ma rfl)).trans i1) rfl).trans Q5) g1 (by rw[<-ac,hk,ac,ac];lia) (by rw[hk];exact cp);refine nY ((mK ce (rN rfl)).trans ((OX (V:=[]) (λy hy=>so y (ba.mp hy).1) (λy hy=>nomatch hy)).trans ?_))
 congr 2
 rw[ci,decide_eq_true_iff,é];have ow:∀y,y∈own L x↔y∈m.hl.map (·.1):=λy=>by unfold own;rw[f];rw[(mF _).mem_iff];exact(R.hm.mem y).symm
 simp_all
def Mz.comp(Zj:Mz T nd M L N c)(H:Ho L N)(hG:∀h∈G,mR L h=true)(hl:G.length<=100)(u2) :
  Yh 2 (pP (YK (j' 1)) [1,0] (YO (x2 (wx (x2 (x2 (j' 2) (j' 0) Yo) (xC (.int 0)) Yo) [1] (YO (x2 (j' 0) (j' 1) qh)) (j' 0)) (ZL J') Ý)) (j' 0)) [Za (.ref nd),Za (LS G),u2] T=.nx [Za (.ref nd),Za (LS G),Za (LS (G.filter (Z5 L G)))] T:=by
 have c1:=qq (e:=j' 0) (λq=>match q with|.str x=>Z5 L G x|_=>false) (λq=>q) (G.map .str) (λq hq=>by obtain⟨x,hx,rfl⟩:=ar.mp hq;exact Zj.ins H (hG x hx)) (λq hq _=>ma rfl)
 rw[List.map_id',dR] at c1;exact mM (qG (og (ma rfl)) (by rw[ac];lia) c1)
def Mz.walk(Zj:Mz T nd M L N c)(a)(H:Ho L N):∀(k:Nat)(G:List Str),G.length<=k->k<=100->(∀h∈G,mR L h=true)->∃G',m8 (YO (x2 (j' 2) (j' 1) Ō)) (nq a) (k+1) [Za (.ref nd),Za (LS G),Za (LS (G.filter (Z5 L G)))] T=.nx [Za (.ref nd),Za (LS G'),Za (LS G')] T/\WG L G G':=by
 intro k;induction k with
 |zero =>
  intro G hk _ hG;have:G=[]:=gK.mp (by lia);subst this;refine⟨[],?_,⟨fS _,(λ_ z=>nomatch z),λV hV _ h hh=>hV h hh⟩⟩;unfold m8;rw[nY ((mK (ma rfl) (ma rfl)).trans (DK (U:=[]) (V:=[]) (λy hy=>nomatch hy) (λy hy=>nomatch hy)))];rfl
 |succ k ih =>
  intro G hk hk1 hG;have so:=λx hx=>yw (H.sm x (H.hn x (hG x hx)));have ne:=DK (s:=T) (U:=G.filter (Z5 L G)) (λx hx=>so x (ba.mp hx).1) so;by_cases z:G.filter (Z5 L G)=G
  .rw[Zg z] at ne;refine⟨G,?_,⟨fS _,λh hh=>?_,λV hV _ h hh=>hV h hh⟩⟩
   .unfold m8;rw[nY ((mK (ma rfl) (ma rfl)).trans ne)];show SO.nx _ _=_;rw[z]
   .rw[<-z] at hh;exact é.mp (ba.mp hh).2
  .rw[Zh z] at ne;have lt:(G.filter (Z5 L G)).length<G.length:=by
    have:=cW (Z5 L G) G;by_cases q:(G.filter (Z5 L G)).length=G.length
    .simp_all
    .lia
   have hF:∀h∈G.filter (Z5 L G),mR L h=true:=λh hh=>hG h (ba.mp hh).1;obtain⟨G',e,W⟩:=ih (G.filter (Z5 L G)) (by lia) (by lia) hF;refine⟨G',?_,⟨W.sl.trans iO,W.cl,λV hV cV h hh=>W.mx V (λy hy=>ba.mpr ⟨hV y hy,é.mpr λx hx=>hV x (cV y hy x hx)⟩) cV h hh⟩⟩;have bd:nq a [Za (.ref nd),Za (LS G),Za (LS (G.filter (Z5 L G)))] T=.nx [Za (.ref nd),Za (LS (G.filter (Z5 L G))),Za (LS ((G.filter (Z5 L G)).filter (Z5 L (G.filter (Z5 L G)))))] T:=by exact mD ((wa (nY ((mK (ma rfl) rfl).trans rfl))).trans (mM (ma rfl))) (Zj.comp H hF (by lia) _)
   rw[m8,nY ((mK (ma rfl) (ma rfl)).trans ne)];show(match nq a [Za (.ref nd),Za (LS G),Za (LS (G.filter (Z5 L G)))] T with
    |.nx Yp s'=>m8 (YO (x2 (j' 2) (j' 1) Ō)) (nq a) (k+1) Yp s'
    |.ct Yp s'=>m8 (YO (x2 (j' 2) (j' 1) Ō)) (nq a) (k+1) Yp s'
    |.bk Yp s'=>.nx Yp s'
    |o=>o)=_
   rw[bd];exact e
def Qd{s}(hU:∀x∈U,bM x=true):Ō .Ym (LS U) s=.ok (.bl true) s:=by have e1:=xt s 10 hU;show Z0 true _ _ _=_;unfold Z0;rw[e1];rfl
def Kw(a)(Zj:Mz T nd M L N c)(hd:T.get nd=Za (.Yr (M.map Ô)))(H:Ho L N)(hl:L.length<=8):∃G,qR a [.ref nd] T=.ok (LS G) T/\WG L (U' L) G:=by
 have nm:=Zj.pr.names;have hs:∀h∈U' L,mR L h=true:=λh hh=>Yk.mp hh;obtain⟨G,e,W⟩:=Zj.walk a H (U' L).length (U' L) (al _) (by rw[pF];lia) hs;refine⟨G,mZ ?_,W⟩;refine mD (mM (v:=LS (U' L)) (s':=T) ((Bw (mf (ma rfl) rfl)).trans ?_)) ?_
 .rw[tO hd (Dj M) (by grind),<-nm]
 .apply mD (mM rfl);refine mD (Yp:=[Za (.ref nd),Za (LS G),Za (LS G)]) (JE (n:=(U' L).length+1+1) ?_) (nT (ma rfl));rw[m8,nY ((mK (ma rfl) (ma rfl)).trans (Qd λx hx=>yw (H.sm x (H.hn x (hs x hx)))))];have bd:nq a [Za (.ref nd),Za (LS (U' L)),Za .Ym] T=.nx [Za (.ref nd),Za (LS (U' L)),Za (LS ((U' L).filter (Z5 L (U' L))))] T:=by exact mD ((qM (nY ((mK (ma rfl) rfl).trans rfl))).trans rfl) (Zj.comp H hs (by rw[pF];lia) _)
  show(match nq a [Za (.ref nd),Za (LS (U' L)),Za .Ym] T with
   |.nx Yp s'=>m8 (YO (x2 (j' 2) (j' 1) Ō)) (nq a) ((U' L).length+1) Yp s'
   |.ct Yp s'=>m8 (YO (x2 (j' 2) (j' 1) Ō)) (nq a) ((U' L).length+1) Yp s'
   |.bk Yp s'=>.nx Yp s'
   |o=>o)=_
  simp_all
def xX{s s2}(h1:f Z s=.ok (.ref n) s)(hg:s.get n=Za (.lst l'))(h2:fa Z s=.ok [w] s2)(SX:s2.get n=Za (.lst l))(hl:l.length<100000):Zu f fa Z s=.ok .Ym (s2.set n (.lst (l++[w]))):=by
 unfold Zu;rw[h1];simp[Out.bind]
 simp_all
def Hv(a b d)(hd:0<d):aO a d+aO b d=aO (a+b) d:=by
 have h:(d:Rat)≠0:=λq=>by
  simp_all
 rw[dq,dq,dq,ib]
 grind
theorem Ez(a)(s){d}(d0:0<d)(db:Bt 4000 d)(u0):∀(ns:List Int)(j:Nat)(n0:Int)(u3:Option PV),Bt (12500+j) n0->j+ns.length<=100->(∀n∈ns,Bt 12500 n) ->
  ∃u,nj (mV (V' 3) (tE a)) (ns.map λn=>YT (aO n d)) [u0,Za (.int (aO n0 d).num),Za (.int ((aO n0 d).den:Int)),u3] s=.nx [u0,Za (.int (aO (n0+ns.sum) d).num),Za (.int ((aO (n0+ns.sum) d).den:Int)),u] s
 |[],j,n0,u3,_,_,_=>⟨u3,by rw[List.sum_nil,Int.add_zero];rfl⟩
 |n::ns,j,n0,u3,h0,hj,hn=>by
  rw[bx] at hj;have Xg:=hn n ai;obtain⟨p1,p2⟩:=Jn d0 h0 db;obtain⟨q1,q2⟩:=Jn d0 Xg db;have st:=Am a s (p1.mono (by lia)) (p2.mono (by decide)) (q1.mono (Zf rfl)) (q2.mono (by decide)) u0 u3;rw[Hv n0 n d d0] at st;obtain⟨u,e⟩:=Ez a s d0 db u0 ns (j+1) (n0+n) (Za (YT (aO n d))) (by have:=h0.add (Xg.mono (by lia));exact this.mono (by lia)) (by lia) λm hm=>hn m (ae _ hm)
  refine⟨u,?_⟩;rw[am,fO,<-Int.add_assoc];unfold nj
  simp_all
def K9(a:Yl)(s:K'){d:Int}(d0:0<d)(db:Bt 4000 d){ns:List Int}(hl:ns.length<=100)(hn:∀n∈ns,Bt 12500 n):qm a [.lst (ns.map λn=>YT (aO n d))] s=.ok (YT (aO ns.sum d)) s:=by apply mZ;have z:=hZ d;obtain⟨u,e⟩:=Ez a s d0 db (Za (.lst (ns.map λn=>YT (aO n d)))) ns 0 0 Zb (cE _) (by lia) hn;rw[z,Int.zero_add] at e;apply mD (Oo (qW (mf rfl (mf rfl rfl))));apply mD (qH (og (ma rfl)) e);exact nT (qW (mf (ma rfl) (mf (ma rfl) rfl)))
def JH(a)(s)(q0:0<q.2)(qt:Bt 9000 q.1)(qb:Bt 4400 q.2)(h1:Bt 13000 w.num)(h2:Bt 4500 (w.den:Int)):tM a [ZJ q,YT w] s=.ok (YT (rv q*w)) s:=by
 have pq:=bv q0 (LN w);have m:=xl a s (q.1*w.num) (q.2*w.den) pq ((qb.mul h2).mono (Zf rfl));have e:aO (q.1*w.num) (q.2*w.den)=rv q*w:=by unfold rv;rw[<-Rat.divInt_mul_divInt,gz]
 rw[zo pq,e] at m;have b1:=Bk qt h1 (Zf rfl) (Zf rfl);have b2:=Bk qb h2 (Zf rfl) (Zf rfl);apply mZ;exact nT (mJ (vs:=[.int (q.1*w.num),.int (q.2*w.den)]) (mf (pO ((mK (ma rfl) rfl).trans ÂE) ((mK (ma rfl) rfl).trans ix0) b1) (mf (pO ((mK (ma rfl) rfl).trans ÂD) ((mK (ma rfl) rfl).trans ϡ) b2) rfl)) rfl m)
def GS(g:Gd L N c)(S:û L d z)(hh:h∈U' L)(hk:k∈U' L)(x):shr L h x*wy L d z h k=aO (pc (pl L h) x*z h k) d:=by
 have t:shr L h x*((tp L d z h k:Int):Rat)=((pc (pl L h) x*z h k:Int):Rat):=by
  obtain⟨e,m,hz,f,ep,o,R,kc,sv,_⟩:=g.held (Yk.mp hh);rw[S.ŏ g hh hk,ia,R.Ľ,sv,cN]
  grind
 unfold wy;rw[dq,dq,<-t]
 grind
def GT(g:Gd L N c)(S:û L d z)(hh:h∈U' L)(hk:k∈U' L)(x):Bt 12500 (pc (pl L h) x*z h k):=((g.À6 hh x).mul (S.zb h hh k hk)).mono (Zf rfl)
def Od{s s'}(h:s'.get n=s.get n):ZG s' (.ref n)=ZG s (.ref n):=by show(match s'.get n with|some (.Yr l)=>Za l|some (.Zp l)=>Za l|_=>Zb)=_;rw[h];rfl
def Ny{s s'}(h:s'.get n=s.get n):YI s' (.ref n)=YI s (.ref n):=by show(match s'.get n with|some (.lst l)=>Za l|_=>Zb)=_;rw[h];rfl
def Mz.of(Zj:Mz s nd M L N c)(h1:s'.get nd=s.get nd)(h2:∀m∈M,s'.get m.cell=s.get m.cell):Mz s' nd M L N c :=
 ⟨(Od h1).trans Zj.d,(Ny h1).trans Zj.l,λm hm=>(h2 m hm).trans (Zj.sh m hm),Zj.pr⟩
theorem Mz.set(Zj:Mz s nd M L N c)(h1:nd≠j)(h2:∀m∈M,m.cell≠j)(q):Mz (s.set j q) nd M L N c:=Zj.of (mC _ _ h1) λm hm=>mC _ _ (h2 m hm)
structure By(s:K')(b:Nat)(L:List Ent)(w:Str->Rat):Prop where
 ex:∃D,s.get b=Za (.Yr D)/\∀h∈U' L,p4 D (ap h)=Za (YT (w h))
def By.at_(Y:By s b L w)(hh:h∈U' L):Yo (.ref b) (.str h) s=.ok (YT (w h)) s:=by obtain⟨D,e,v⟩:=Y.ex;exact Bm e (v h hh)
theorem By.set(Y:By s b L w)(h:b≠j)(q):By (s.set j q) b L w:=by obtain⟨D,e,v⟩:=Y.ex;exact⟨D,(mC _ _ h).trans e,v⟩
def Mz.share(Zj:Mz s nd M L N c)(g:Gd L N c)(hh:h∈U' L)(x):∃k' y,Yo (.ref nd) (.str h) s=.ok (.lst [.ref k',y]) s/\fIn (.str x) (.ref k') s=.ok (.bl (decide (x∈own L h))) s /\
  (x∈own L h->Yo (.ref k') (.str x) s=.ok (ZJ (mL (pl L h) x)) s):=by
 obtain⟨e,m,kk,f,hm,i1,g1,R⟩:=Zj.at_ (Yk.mp hh);have ep:pl L h=e.held:=by unfold pl;rw[f]
 have ow:x∈own L h↔x∈m.hl.map (·.1):=by unfold own;rw[f];rw[(mF _).mem_iff];exact(R.hm.mem x).symm
 refine⟨m.cell,_,i1,?_,λhx=>?_⟩
 .have e1:(p4 (hP m.hl) (ap x)).isSome=decide (x∈own L h):=by
   by_cases q:x∈m.hl.map (·.1)
   .rw[Bn _ _ q,Zg (ow.mpr q)];rfl
   .rw[Zh λz=>q (ow.mp z),vh]
    .rfl
    .rw[Dk]
     grind
  have dc:ZG s (.ref m.cell)=Za (hP m.hl):=by show(match s.get m.cell with|some (.Yr l)=>Za l|some (.Zp l)=>Za l|_=>Zb)=_;rw[g1]
  show rg false _ _ _=_;unfold rg;rw[dc];show Out.ok (PV.bl (Fj false (p4 (hP m.hl) (ap x)).isSome)) _=_;rw[e1];rfl
 .rw[ep,<-R.hm.q];exact Bm g1 (Bn _ _ (ow.mp hx))
def Gd.qb(g:Gd L N c)(hh:h∈U' L)(x):0<(mL (pl L h) x).2/\Bt 9000 (mL (pl L h) x).1/\Bt 4400 (mL (pl L h) x).2:=by obtain⟨e,kk,hz,f,ep,o,R,kc,sv,_⟩:=g.held (Yk.mp hh);obtain⟨p0,pb,pd⟩:=R.pieces;have c4:=g.c40;have F:=R.fr x;refine⟨F.low.1,F.top.mono (by lia),?_⟩;have:=Int.le_of_dvd (by lia) (pd x);have l0:=F.low.1;have pb:Bt 4400 (À (pl L h):Int):=pb.mono (by lia);unfold Bt at *;lia
theorem xQ(a)(g:Gd L N c)(S:û L d z)(hk:k∈U' L)(Zj:Mz s nd M L N c)(Y:By s b L λh=>wy L d z h k)(hj:s.get j=Za q0)(j1:nd≠j)(j2:∀m∈M,m.cell≠j)(j3:b≠j)(x):∀(hs:List Str)(ns:List Int)(u4:Option PV),(∀h∈hs,h∈U' L)->ns.length+hs.length<=100 ->
  ∃u,nj (mV (V' 4) (oH a)) (hs.map .str) [Za (.ref nd),Za (.str x),Za (.ref b),Za (.ref j),u4] (s.set j (.lst (ns.map λn=>YT (aO n d)))) =
   .nx [Za (.ref nd),Za (.str x),Za (.ref b),Za (.ref j),u] (s.set j (.lst ((ns++(hs.filter λh=>decide (x∈own L h)).map λh=>pc (pl L h) x*z h k).map λn=>YT (aO n d))))
 |[],ns,u4,_,_=>⟨u4,by simp only[List.filter_nil,cP,bY];rfl⟩
 |h::hs,ns,u4,hh,hl=>by
  rw[bx] at hl;have Tp:=hh h ai;have Z1:=Zj.set j1 j2 (.lst (ns.map λn=>YT (aO n d)));have Y1:=Y.set j3 (.lst (ns.map λn=>YT (aO n d)));obtain⟨k',y,i1,i2,i3⟩:=Z1.share g Tp x;have in1:x2 (j' 1) (x2 (x2 (j' 0) (j' 4) Yo) (xC (.int 0)) Yo) fIn [Za (.ref nd),Za (.str x),Za (.ref b),Za (.ref j),Za (.str h)] (s.set j (.lst (ns.map λn=>YT (aO n d))))=.ok (.bl (decide (x∈own L h))) (s.set j (.lst (ns.map λn=>YT (aO n d)))) :=
   (mK (ma rfl) ((mK ((mK (ma rfl) (ma rfl)).trans i1) rfl).trans Q5)).trans i2
  rw[am];unfold nj;rw[ot];by_cases hx:x∈own L h
  .rw[Zg hx] at in1;obtain⟨w1,w2⟩:=Á4 g S h hk;obtain⟨b0,b1,b2⟩:=g.qb Tp x;obtain⟨e,m,hz,f,ep,o,R,kc,sv,_⟩:=g.held (Yk.mp Tp);have tm:=JH a (s.set j (.lst (ns.map λn=>YT (aO n d)))) b0 b1 b2 (w1.mono (Zf rfl)) (w2.mono (Zf rfl));rw[<-sv x,GS g S Tp hk x] at tm;have bd:oH a [Za (.ref nd),Za (.str x),Za (.ref b),Za (.ref j),Za (.str h)] (s.set j (.lst (ns.map λn=>YT (aO n d))))=.nx [Za (.ref nd),Za (.str x),Za (.ref b),Za (.ref j),Za (.str h)] (s.set j (.lst ((ns++[pc (pl L h) x*z h k]).map λn=>YT (aO n d)))):=by
    unfold oH;rw[wa (nY in1)];have Re:(ns.map λn=>YT (aO n d)).length<100000:=by rw[ac];lia
    apply(uc (xX (ma rfl) (nz hj) (mf (mJ (mf ((mK ((mK ((mK (ma rfl) (ma rfl)).trans i1) rfl).trans Q5) (ma rfl)).trans (i3 hx)) (mf ((mK (ma rfl) (ma rfl)).trans (Y1.at_ Tp)) rfl)) rfl tm) rfl) (nz hj) Re)).trans
    congr 1
    show K'.mk s.nx (pE j _ (pE j _ s.cs))=_;rw[Ao,aA];rfl
   have e0:([Za (.ref nd),Za (.str x),Za (.ref b),Za (.ref j),u4]:En).set 4 (Za (.str h))=[Za (.ref nd),Za (.str x),Za (.ref b),Za (.ref j),Za (.str h)]:=rfl;rw[e0,bd];obtain⟨u,e⟩:=xQ a g S hk Zj Y hj j1 j2 j3 x hs (ns++[pc (pl L h) x*z h k]) (Za (.str h)) (λy hy=>hh y (ae _ hy)) (by rw[aT,ii];lia)
   grind
  .rw[Zh hx] at in1;have bd:oH a [Za (.ref nd),Za (.str x),Za (.ref b),Za (.ref j),Za (.str h)] (s.set j (.lst (ns.map λn=>YT (aO n d))))=.nx [Za (.ref nd),Za (.str x),Za (.ref b),Za (.ref j),Za (.str h)] (s.set j (.lst (ns.map λn=>YT (aO n d)))):=by unfold oH;rw[qM (nY in1)];rfl
   have e0:([Za (.ref nd),Za (.str x),Za (.ref b),Za (.ref j),u4]:En).set 4 (Za (.str h))=[Za (.ref nd),Za (.str x),Za (.ref b),Za (.ref j),Za (.str h)]:=rfl;rw[e0,bd];obtain⟨u,e⟩:=xQ a g S hk Zj Y hj j1 j2 j3 x hs ns (Za (.str h)) (λy hy=>hh y (ae _ hy)) (by lia)
   grind
theorem Dp{d}(hd:0<d):∀ns:List Int,aO ns.sum d=mS (ns.map λn=>aO n d)
 |[]=>hZ d
 |n::ns=>by rw[fO,am,nO,<-Dp hd ns,Hv _ _ _ hd]
def Dl{s s'}(h0:Z[i]?=Za (Za (.ref n)))(h1:s.get n=Za (.Zp l))(h2:nj (mV y body) (l.map λkv=>xn kv.1) Z s=.nx Yp s'):Bz i y body Z s=.nx Yp s':=by unfold Bz;rw[h0];show(match s.get n with|some (.Zp l)=>(nj (mV y body) (l.map λkv:Key×PV=>xn kv.1) Z s).ZV|_=>.bad)=_;rw[h1];show(nj (mV y body) (l.map λkv=>xn kv.1) Z s).ZV=_;rw[h2];rfl
def vo(M:List Md):((M.map Ô).map λkv:Key×PV=>xn kv.1)=(M.map (·.nm)).map .str:=by rw[aE,aE];rfl
def hel(L:List Ent)(d:Int)(z:Str->Str->Int)(k x:Str):Rat:=mS ((U' L).map λl=>shr L l x*wy L d z l k)
def Ly(g:Gd L N c)(S:û L d z)(P:Þ N c L M)(hk:k∈U' L)(x):aO ((((M.map (·.nm)).filter λh=>decide (x∈own L h)).map λh=>pc (pl L h) x*z h k).sum) d=hel L d z k x:=by have hm:∀h∈M.map (·.nm),h∈U' L:=λh hh=>(mF _).mem_iff.mpr (P.names▸hh);rw[Dp S.d0,aE];have e1:mS (((M.map (·.nm)).filter λh=>decide (x∈own L h)).map ((λn=>aO n d)∘λh=>pc (pl L h) x*z h k))=mS (((M.map (·.nm)).filter λh=>decide (x∈own L h)).map λh=>shr L h x*wy L d z h k):=m9 λh hh=>(GS g S (hm h (ba.mp hh).1) hk x).symm;rw[e1,rj λh _ hf=>by rw[g.zero (of_decide_eq_false hf),Rat.zero_mul]];refine BQ ((l7 _ ?_).symm);rw[<-P.names];exact mF _
def ÁF(g:Gd L N c)(S:û L d z)(P:Þ N c L M)(hk:k∈U' L)(x):Bt 13000 (hel L d z k x).num/\Bt 4500 ((hel L d z k x).den:Int):=by
 have hm:∀h∈M.map (·.nm),h∈U' L:=λh hh=>(mF _).mem_iff.mpr (P.names▸hh);have l8:=g.l8;have ml:(M.map (·.nm)).length=L.length:=by rw[<-P.names,ac]
 rw[<-Ly g S P hk x];have h1:=Gq (((M.map (·.nm)).filter λh=>decide (x∈own L h)).map λh=>pc (pl L h) x*z h k) λy hy=>by obtain⟨h,hh,rfl⟩:=ar.mp hy;exact GT g S (hm h (ba.mp hh).1) hk x
 have hl:(((M.map (·.nm)).filter λh=>decide (x∈own L h)).map λh=>pc (pl L h) x*z h k).length<=L.length:=by rw[ac,<-ml];exact cW _ _
 obtain⟨q1,q2⟩:=Jn S.d0 h1 S.dd;exact⟨q1.mono (by lia),q2.mono (Zf rfl)⟩
def EW(a:Yl)(g:Gd L N c)(S:û L d z)(hk:k∈U' L)(Zj:Mz s nd M L N c)(hd:s.get nd=Za (.Zp (M.map Ô)))(Y:By s b L λh=>wy L d z h k)(j1:nd<s.nx)(j2:∀m∈M,m.cell<s.nx)(j3:b<s.nx)(x:Str) :
  ∃s',rC a [.ref nd,.str x,.ref b] s=.ok (YT (hel L d z k x)) s'/\Gr s s':=by
 have hm:∀h∈M.map (·.nm),h∈U' L:=λh hh=>(mF _).mem_iff.mpr (Zj.pr.names▸hh);have l8:=g.l8;have ml:(M.map (·.nm)).length=L.length:=by rw[<-Zj.pr.names,ac]
 have gn:∀i,i<s.nx->(s.add (.lst [])).get i=s.get i:=λi hi=>by rw[mX,Zd (by lia)]
 have gj:(s.add (.lst [])).get s.nx=Za (.lst []):=by rw[mX,Zc rfl]
 have Z1:=Zj.of (gn nd j1) λm hm=>gn _ (j2 m hm);have Y1:By (s.add (.lst [])) b L λh=>wy L d z h k:=by obtain⟨D,e,v⟩:=Y.ex;exact⟨D,(gn b j3).trans e,v⟩
 obtain⟨u,lp⟩:=xQ a g S hk Z1 Y1 gj (by lia) (λm hm=>by have:=j2 m hm;lia) (by lia) x (M.map (·.nm)) [] Zb hm (by rw[ml];show 0+_<=_;lia);rw[cP,dg] at lp;have e0:(s.add (.lst [])).set s.nx (.lst [])=s.add (.lst []):=by show K'.mk _ (pE s.nx _ _)=_;rw[xH gj]
 rw[e0] at lp;generalize SS:((M.map (·.nm)).filter λh=>decide (x∈own L h)).map (λh=>pc (pl L h) x*z h k)=ns at lp;have he:=Ly g S Zj.pr hk x;rw[SS] at he;have hn:∀n∈ns,Bt 12500 n:=λn Sh=>by rw[<-SS] at Sh;obtain⟨h,hh,rfl⟩:=ar.mp Sh;exact GT g S (hm h (ba.mp hh).1) hk x
 have hl:ns.length<=100:=by
  grind
 have sm:=K9 a (((s.add (.lst [])).set s.nx (.lst (ns.map λn=>YT (aO n d)))).del s.nx) S.d0 (S.dd.mono (Zf rfl)) hl hn;rw[he] at sm;refine⟨((s.add (.lst [])).set s.nx (.lst (ns.map λn=>YT (aO n d)))).del s.nx,mZ ?_,⟨by show s.nx<=s.nx+1;lia,λi hi=>?_⟩⟩
 .unfold ym;apply mD (mM rfl);refine mD (Dl rfl ((gn nd j1).trans hd) (by rw[vo];exact lp)) ?_;refine nT (mJ (mf ?_ rfl) rfl sm);unfold ć;rw[ma rfl];show Æ (.ref s.nx) _=_;unfold Æ;simp[nz gj]
 .have:(((s.add (.lst [])).set s.nx (.lst (ns.map λn=>YT (aO n d)))).del s.nx).get i=((s.add (.lst [])).set s.nx (.lst (ns.map λn=>YT (aO n d)))).get i:=qu (by lia);rw[this,mC _ _ (by lia),gn i hi]
def Qy{s}:Ý (YT q) (YT q) s=.ok (.bl true) s:=by show Z0 false _ _ _=_;show Out.ok (PV.bl (cC (dtR q) (dtR q))) s=_;rw[Ht]
def Lq{s}:Ō (YT q) (YT q) s=.ok (.bl false) s:=by show Z0 true _ _ _=_;show Out.ok (PV.bl !(cC (dtR q) (dtR q))) s=_;rw[Ht];rfl
def BI(a)(s)(i):qP a [.int i] s=.ok (.bl true) s:=rfl
def Hn(a)(s)(q):ou a [YT q] s=.ok (.bl true) s:=by
 have dv:=zX a s q.num q.den;have g1:(aJ q.num q.den:Int)=1:=by
  have:=q.reduced;unfold aJ
  simp_all
 rw[g1] at dv;have d0:=LN q;have c2:Yb 2 (om a) (F' (x2 (j' 0) (xC (.int 0)) Yo) (F' (x2 (j' 0) (xC (.int 1)) Yo) J')) [Za (YT q)] s=.ok (.int 1) s:=mJ (vs:=[.int q.num,.int q.den]) (mf ((mK (ma rfl) rfl).trans ix0) (mf ((mK (ma rfl) rfl).trans ϡ) rfl)) rfl dv;have e2:=(mK (g:=xC (.int 1)) (F:=Ý) c2 rfl).trans rfl;apply mZ;apply mD ((qM (Jo (yJ (nY (b:=true) rfl)) (Jo (nY rfl) (Jo (yJ (nY (mJ (mf ((mK (ma rfl) rfl).trans ix0) rfl) rfl (BI a s _)))) (yJ (nY (mJ (mf ((mK (ma rfl) rfl).trans ϡ) rfl) rfl (BI a s _)))))))).trans rfl);refine nT (Op ((mK ((mK (ma rfl) rfl).trans ϡ) rfl).trans ?_) e2);show Out.ok (PV.bl (decide ((q.den:Int)>0))) s=_
 simp_all
end
def Qf(hn:h∉ns):x9 (ò ns f) (ap h) (f h)=ò (ns++[h]) f:=by
 unfold x9;rw[Zd]
 .unfold ò
  simp_all
 .intro z;obtain⟨kv,h1,h2⟩:=fF.mp z;unfold ò at h1
  grind
section
variable{T s t:K'}{nb nd b:Nat}{pp N hs:List Str}{L:List Ent}{M:List Md}{c:Nat}{d:Int}{z:Str->Str->Int}{k x:Str}
structure Fz(s:K')(nb nd:Nat)(pp:List Str)(L:List Ent)(M:List Md)(N:List Str)(c:Nat):Prop where
 bk:s.get nb=Za (.book pp L)
 lb:nb<s.nx
 mz:Mz s nd M L N c
 dz:s.get nd=Za (.Zp (M.map Ô))
 ld:nd<s.nx
 lc:∀m∈M,m.cell<s.nx
theorem Fz.of(F:Fz s nb nd pp L M N c)(h:s.nx<=t.nx)(g:∀i,i<s.nx->t.get i=s.get i):Fz t nb nd pp L M N c :=
 ⟨(g nb F.lb).trans F.bk,ax F.lb h,F.mz.of (g nd F.ld) λm hm=>g _ (F.lc m hm),(g nd F.ld).trans F.dz,ax F.ld h,λm hm=>ax (F.lc m hm) h⟩
def K6(a)(g:Gd L N c)(ng:Ā L)(P:Pp pp N)(S:û L d z)(hb:T.get nb=Za (.book pp L))(Sd:nb<T.nx)(hx:x∈Yq pp++U' L)(hk:k∈U' L):∃T',n8 a [.ref nb,.str x,.str k] T=.ok (YT (wy L d z x k)) T'/\Gr T T':=by
 obtain⟨d',z',T',S',e,G⟩:=zd a g ng P hb Sd hx hk;have same:=Sol.uniq g ng (Gn g S' hk) (Gn g S hk) x
 simp_all
theorem OV(a)(g:Gd L N c)(ng:Ā L)(P:Pp pp N)(S:û L d z)(hk:k∈U' L)(s)(F:Fz s nb nd pp L M N c)(hb:s.nx<=b)(u1 u6 u7 u8):∀(hs done:List Str)(t:K')(u5:Option PV),s.nx<=t.nx->(∀i,i<s.nx->t.get i=s.get i)->b<t.nx->t.get b=Za (.Yr (ò done λh=>YT (wy L d z h k)))->(done++hs).Nodup->(∀h∈hs,h∈U' L)->done.length+hs.length<=1000 ->
  ∃t' u,nj (mV (V' 5) (rR a)) (hs.map .str) [Za (.ref nb),u1,Za (.ref nd),Za (.str k),Za (.ref b),u5,u6,u7,u8] t=.nx [Za (.ref nb),u1,Za (.ref nd),Za (.str k),Za (.ref b),u,u6,u7,u8] t'/\s.nx<=t'.nx/\(∀i,i<s.nx->t'.get i=s.get i)/\b<t'.nx/\t'.get b=Za (.Yr (ò (done++hs) λh=>YT (wy L d z h k)))
 |[],done,t,u5,h1,h2,h3,h4,_,_,_=>⟨t,u5,rfl,h1,h2,h3,by rw[bY];exact h4⟩
 |h::hs,done,t,u5,h1,h2,h3,h4,hn,hh,hl=>by
  rw[bx] at hl;have Tp:=hh h ai;have Ft:=F.of h1 h2;obtain⟨t1,e1,G1⟩:=K6 a g ng P S Ft.bk Ft.lb (aD _ Tp) hk;have b1:=(G1.fr b h3).trans h4;have nh:h∉done:=λq=>by
   grind
  have dl:(ò done λh=>YT (wy L d z h k)).length<100000:=by unfold ò;rw[ac];lia
  have pt:=Qf (f:=λh=>YT (wy L d z h k)) nh;have b2:(t1.set b (.Yr (ò (done++[h]) λh=>YT (wy L d z h k)))).get b=Za (.Yr (ò (done++[h]) λh=>YT (wy L d z h k))):=nz b1;have n1:=G1.nx;have bd:rR a [Za (.ref nb),u1,Za (.ref nd),Za (.str k),Za (.ref b),Za (.str h),u6,u7,u8] t=.nx [Za (.ref nb),u1,Za (.ref nd),Za (.str k),Za (.ref b),Za (.str h),u6,u7,u8] (t1.set b (.Yr (ò (done++[h]) λh=>YT (wy L d z h k)))):=by
   refine mD (Yp:=[Za (.ref nb),u1,Za (.ref nd),Za (.str k),Za (.ref b),Za (.str h),u6,u7,u8]) (s':=t1.set b (.Yr (ò (done++[h]) λh=>YT (wy L d z h k)))) ?_ ?_
   .rw[<-pt];exact zp (mJ (mf (ma rfl) (mf (ma rfl) (mf (ma rfl) rfl))) rfl e1) (ma rfl) (ma rfl) b1 dl
   .refine(qM (yJ (nY (mJ (mf ((mK (ma rfl) (ma rfl)).trans (Bm b2 (zy (aD _ ai)))) rfl) rfl (Hn a _ _))))).trans rfl
  obtain⟨t',u,e,q1,q2,q3,q4⟩:=OV a g ng P S hk s F hb u1 u6 u7 u8 hs (done++[h]) (t1.set b (.Yr (ò (done++[h]) λh=>YT (wy L d z h k)))) (Za (.str h)) (by show s.nx<=t1.nx;lia) (λi hi=>by rw[mC _ _ (by lia),G1.fr i (by lia)];exact h2 i hi) (by show b<t1.nx;lia) b2 (by rw[ja];exact hn) (λy hy=>hh y (ae _ hy)) (by rw[aT,ii];lia);refine⟨t',u,?_,q1,q2,q3,by rw[q4,ja];rfl⟩;rw[am];unfold nj;rw[ot];have e0:([Za (.ref nb),u1,Za (.ref nd),Za (.str k),Za (.ref b),u5,u6,u7,u8]:En).set 5 (Za (.str h))=[Za (.ref nb),u1,Za (.ref nd),Za (.str k),Za (.ref b),Za (.str h),u6,u7,u8]:=rfl;rw[e0,bd];exact e
def Nj(p:Prop)[Decidable p]:YT (if p then 1 else 0)=.tup [.int (if p then 1 else 0),.int 1]:=by split<;>rfl
def Áa(p:Prop)[Decidable p]:Bt 13000 (if p then(1:Rat) else 0).num/\Bt 4500 (((if p then(1:Rat) else 0).den:Nat):Int):=by
 split
 .exact⟨bt1 (Zf rfl),bt1 (by decide)⟩
 .exact⟨ÁV,bt1 (by decide)⟩
def Qr{s}(b):ÿ [.bl b] s=.ok (.int (if b=true then 1 else 0)) s:=by cases b<;>rfl
def Fz.gr(F:Fz s nb nd pp L M N c)(G:Gr s t):Fz t nb nd pp L M N c:=F.of G.nx G.fr
def By.gr(Y:By s b L w)(hb:b<s.nx)(G:Gr s t):By t b L w:=by obtain⟨D,e,v⟩:=Y.ex;exact⟨D,(G.fr b hb).trans e,v⟩
def Dz(g:Gd L N c)(S:û L d z)(hk:k∈U' L)(x):wy L d z x k=(if x=k then 1 else 0)+hel L d z k x:=Gn g S hk x
theorem OU(a)(g:Gd L N c)(S:û L d z)(hk:k∈U' L)(F:Fz s nb nd pp L M N c)(Y:By s b L λh=>wy L d z h k)(hb:b<s.nx)(u0 u1 u6 u7 u8):∀(hs:List Str)(t:K')(u5:Option PV),Gr s t->(∀h∈hs,h∈U' L) ->
  ∃t' u,nj (mV (V' 5) (rQ a)) (hs.map .str) [u0,u1,Za (.ref nd),Za (.str k),Za (.ref b),u5,u6,u7,u8] t=.nx [u0,u1,Za (.ref nd),Za (.str k),Za (.ref b),u,u6,u7,u8] t'/\Gr s t'
 |[],t,u5,G,_=>⟨t,u5,rfl,G⟩
 |h::hs,t,u5,G,hh=>by
  have Tp:=hh h ai;have Ft:=F.gr G;have Yt:=Y.gr hb G;have n1:=G.nx;obtain⟨t1,e1,G1⟩:=EW a g S hk Ft.mz Ft.dz Yt Ft.ld Ft.lc (by lia) h;obtain⟨p1,p2⟩:=Áa (h=k);obtain⟨q1,q2⟩:=ÁF g S F.mz.pr hk h;have sm:=Ph a t1 p1 p2 q1 q2;rw[<-Dz g S hk h,Nj] at sm;have bd:rQ a [u0,u1,Za (.ref nd),Za (.str k),Za (.ref b),Za (.str h),u6,u7,u8] t=.nx [u0,u1,Za (.ref nd),Za (.str k),Za (.ref b),Za (.str h),u6,u7,u8] t1:=by
   have e2:xB (F' (x2 (j' 5) (j' 3) Ý) J') ÿ [u0,u1,Za (.ref nd),Za (.str k),Za (.ref b),Za (.str h),u6,u7,u8] t=.ok (.int (if h=k then 1 else 0)) t:=by
    rw[Bw (mf ((mK (ma rfl) (ma rfl)).trans (GF (g.Yn Tp) (g.Yn hk))) rfl),Qr]
    grind
   refine(qM (nY ((mK ((mK (ma rfl) (ma rfl)).trans (Yt.at_ Tp)) (mJ (mf (rN (mf (qW (mf e2 (mf rfl rfl))) (mf (mJ (mf (ma rfl) (mf (ma rfl) (mf (ma rfl) rfl))) rfl e1) rfl))) rfl) rfl sm)).trans Lq))).trans rfl
  obtain⟨t',u,e,G'⟩:=OU a g S hk F Y hb u0 u1 u6 u7 u8 hs t1 (Za (.str h)) (G.trans G1) (λy hy=>hh y (ae _ hy));refine⟨t',u,?_,G'⟩;rw[am];unfold nj;rw[ot]
  simp_all
theorem HC:∀(X:List Str)(t:K'),Gr s t->(∀x∈X,∀t,Gr s t->∃t',e (Za (.str x)::cap) t=.ok (f x) t'/\Gr t t')->∃t',oi nQ e cap (X.map .str) t=.ok (X.map f) t'/\Gr s t'
 |[],t,G,_=>⟨t,rfl,G⟩
 |x::X,t,G,h=>by obtain⟨t1,e1,G1⟩:=h x ai t G;obtain⟨t2,e2,G2⟩:=HC X t1 (G.trans G1) λy hy=>h y (ae _ hy);refine⟨t2,?_,G2⟩;rw[am,oU];simp[nQ,e1,e2,am]
theorem OT(a)(g:Gd L N c)(S:û L d z)(hk:k∈U' L)(F:Fz s nb nd pp L M N c)(Y:By s b L λh=>wy L d z h k)(hb:b<s.nx)(u0 u1 u3 u5 u6):∀(X:List Str)(t:K')(u7 u8:Option PV),Gr s t->(∀x∈X,x≠k) ->
  ∃t' v7 v8,nj (mV (Zk 2 (Yj (V' 7) (Yj (V' 8) Zl))) (oI a)) (X.map λx=>.tup [.str x,YT (wy L d z x k)]) [u0,u1,Za (.ref nd),u3,Za (.ref b),u5,u6,u7,u8] t=.nx [u0,u1,Za (.ref nd),u3,Za (.ref b),u5,u6,v7,v8] t'/\Gr s t'
 |[],t,u7,u8,G,_=>⟨t,u7,u8,rfl,G⟩
 |x::X,t,u7,u8,G,hX=>by
  have Ft:=F.gr G;have Yt:=Y.gr hb G;have n1:=G.nx;obtain⟨t1,e1,G1⟩:=EW a g S hk Ft.mz Ft.dz Yt Ft.ld Ft.lc (by lia) x;have ew:=Dz g S hk x;rw[Zd (hX x ai),gY] at ew;rw[<-ew] at e1;have bd:oI a [u0,u1,Za (.ref nd),u3,Za (.ref b),u5,u6,Za (.str x),Za (YT (wy L d z x k))] t=.nx [u0,u1,Za (.ref nd),u3,Za (.ref b),u5,u6,Za (.str x),Za (YT (wy L d z x k))] t1:=by exact(qM (Jo (yJ (nY (mJ (mf (ma rfl) rfl) rfl (Hn a t _)))) (nY ((mK (ma rfl) (mJ (mf (ma rfl) (mf (ma rfl) (mf (ma rfl) rfl))) rfl e1)).trans Lq)))).trans rfl
  obtain⟨t',v7,v8,e,G'⟩:=OT a g S hk F Y hb u0 u1 u3 u5 u6 X t1 (Za (.str x)) (Za (YT (wy L d z x k))) (G.trans G1) (λy hy=>hX y (ae _ hy));refine⟨t',v7,v8,?_,G'⟩;show(match oI a [u0,u1,Za (.ref nd),u3,Za (.ref b),u5,u6,Za (.str x),Za (YT (wy L d z x k))] t with
   |.nx Yp s'=>nj (mV (Zk 2 (Yj (V' 7) (Yj (V' 8) Zl))) (oI a)) (X.map λx=>.tup [.str x,YT (wy L d z x k)]) Yp s'
   |.ct Yp s'=>nj (mV (Zk 2 (Yj (V' 7) (Yj (V' 8) Zl))) (oI a)) (X.map λx=>.tup [.str x,YT (wy L d z x k)]) Yp s'
   |.bk Yp s'=>.nx Yp s'
   |o=>o)=_
  rw[bd];exact e
def Oq(g:Gd L (pp++hs) c)(hL:L.map (·.nm)=hs)(nd:(pp++hs).Nodup)(hl:l∈U' L):mS ((Yq pp).map λx=>shr L l x)+mS ((U' L).map λx=>shr L l x)=1:=by have o:=g.one (Yk.mp hl);have pm:(Yq pp++U' L).Perm (pp++hs):=(mF _).append (by rw[<-hL];exact mF _);have nU:=pm.nodup_iff.mpr nd;have sw:=uO nU (g.ond l) (λx _ z=>g.zero z);rw[aA,wO] at sw;rw[sw,<-o];exact m9 λx hx=>Zc (pm.mem_iff.mpr (g.ho.sub l x hx))
def O7(g:Gd L (pp++hs) c)(S:û L d z)(hL:L.map (·.nm)=hs)(nd:(pp++hs).Nodup)(hk:k∈U' L):mS ((Yq pp).map λx=>wy L d z x k)=1:=by
 have hkn:∀x∈Yq pp,x≠k:=λx hx q=>by
  have h1:=(mF _).mem_iff.mp hx;have h2:x∈hs:=by rw[q,<-hL];exact(mF _).mem_iff.mp hk
  grind
 have e1:mS ((Yq pp).map λx=>wy L d z x k)=mS ((U' L).map λl=>mS ((Yq pp).map λx=>shr L l x)*wy L d z l k):=by
  have:mS ((Yq pp).map λx=>wy L d z x k)=mS ((Yq pp).map λx=>mS ((U' L).map λl=>shr L l x*wy L d z l k)):=m9 λx hx=>by rw[Dz g S hk x,Zd (hkn x hx),gY];rfl
  rw[this,xF];refine m9 λl _=>?_;have:mS ((Yq pp).map λx=>shr L l x*wy L d z l k)=mS ((Yq pp).map λx=>wy L d z l k*shr L l x):=m9 λx _=>f6 ..;rw[this,sJ,f6]
 have e2:mS ((U' L).map λx=>wy L d z x k)=1+mS ((U' L).map λl=>mS ((U' L).map λx=>shr L l x)*wy L d z l k):=by
  have:mS ((U' L).map λx=>wy L d z x k)=mS ((U' L).map λx=>(if x=k then 1 else 0)+mS ((U' L).map λl=>shr L l x*wy L d z l k)):=m9 λx _=>Dz g S hk x;rw[this,uP,xF];have s1:mS ((U' L).map λx=>if x=k then(1:Rat) else 0)=1:=by
   have sw:=uO (W:=[k]) (g:=λx=>if x=k then(1:Rat) else 0) g.Ñ (by simp) (λx _ z=>Zd (by simpa using z));rw[sw];show(if k∈U' L then(if k=k then(1:Rat) else 0) else 0)+0=1;rw[Zc hk,Zc rfl]
   grind
  rw[s1]
  congr 1
  refine m9 λl _=>?_;have:mS ((U' L).map λx=>shr L l x*wy L d z l k)=mS ((U' L).map λx=>wy L d z l k*shr L l x):=m9 λx _=>f6 ..;rw[this,sJ,f6]
 have e3:mS ((U' L).map λl=>mS ((Yq pp).map λx=>shr L l x)*wy L d z l k)+mS ((U' L).map λl=>mS ((U' L).map λx=>shr L l x)*wy L d z l k)=mS ((U' L).map λl=>wy L d z l k):=by
  rw[<-uP];refine m9 λl hl=>?_;have:=Oq g hL nd hl
  grind
 grind
def NN(a)(g:Gd L (pp++hs) c)(ng:Ā L)(P:Pp pp (pp++hs))(hL:L.map (·.nm)=hs)(Wa:(pp++hs).Nodup)(hp:pp.length<=8)(hk:k∈U' L)(F:Fz s nb nd pp L M (pp++hs) c):∃s',uM a [.ref nb,LS (Yq pp),.ref nd,.str k] s=.ok (.bl true) s'/\Gr s s':=by
 obtain⟨d,z,S,_⟩:=g.solve ng a;have l8:=g.l8;have nm:=F.mz.pr.names;have mn:(M.map (·.nm)).Nodup:=by rw[<-nm];exact g.nd
 have ml:(M.map (·.nm)).length=L.length:=by rw[<-nm,ac]
 have hm:∀h∈M.map (·.nm),h∈U' L:=λh hh=>(mF _).mem_iff.mpr (nm▸hh);have To:∀h∈U' L,h∈M.map (·.nm):=λh hh=>by rw[<-nm];exact(mF _).mem_iff.mp hh
 have gn:∀i,i<s.nx->(s.add (.Yr [])).get i=s.get i:=λi hi=>by rw[mX,Zd (by lia)]
 have F1:Fz (s.add (.Yr [])) nb nd pp L M (pp++hs) c:=F.of (by show s.nx<=s.nx+1;lia) gn;obtain⟨t1,u5,e1,n1,f1,b1,y1⟩:=OV a g ng P S hk s F (al _) (Za (LS (Yq pp))) Zb Zb Zb (M.map (·.nm)) [] (s.add (.Yr [])) Zb (by show s.nx<=s.nx+1;lia) gn (by show s.nx<s.nx+1;lia) (by rw[mX,Zc rfl];rfl) (by rw[dg];exact mn) hm (by rw[ml];show 0+_<=_;lia);rw[dg] at y1;have G1:Gr s t1:=⟨n1,f1⟩;have Ft:=F.gr G1;have Y:By t1 s.nx L λh=>wy L d z h k:=⟨_,y1,λh hh=>zy (To h hh)⟩;obtain⟨t2,v5,e2,G2⟩:=OU a g S hk Ft Y b1 (Za (.ref nb)) (Za (LS (Yq pp))) Zb Zb Zb (M.map (·.nm)) t1 u5 (Gr.refl _) hm;have cp:=HC (s:=t1) (e:=Yb 3 (n8 a) (F' (j' 1) (F' (j' 0) (F' (j' 2) J')))) (cap:=[Za (.ref nb),Za (.str k)]) (f:=λx=>YT (wy L d z x k)) (Yq pp) t2 G2 λx hx t G=>by have Fu:=Ft.gr G;obtain⟨t',e,G'⟩:=K6 a g ng P S Fu.bk Fu.lb (bV _ hx) hk;exact⟨t',mJ (mf (ma rfl) (mf (ma rfl) (mf (ma rfl) rfl))) rfl e,G'⟩
 obtain⟨t3,e3,G3⟩:=cp;have pk:∀x∈Yq pp,x≠k:=λx hx q=>by
  have h1:x∈pp:=(mF _).mem_iff.mp hx
  grind
 obtain⟨t4,v7,v8,e4,G4⟩:=OT a g S hk Ft Y b1 (Za (.ref nb)) (Za (LS (Yq pp))) (Za (.str k)) v5 (Za (.lst ((Yq pp).map λx=>YT (wy L d z x k)))) (Yq pp) t3 Zb Zb G3 pk;have pl':(Yq pp).length<=8:=by rw[(mF _).length_eq];exact hp
 have sm:=K9 a t4 S.d0 (S.dd.mono (Zf rfl)) (ns:=(Yq pp).map λx=>tp L d z x k) (by rw[ac];lia) λn hn=>by obtain⟨x,_,rfl⟩:=ar.mp hn;exact(K5 g S x hk).mono (Zf rfl)
 rw[Dp S.d0,aE,aE] at sm;have w1:mS ((Yq pp).map ((λn=>aO n d)∘λx=>tp L d z x k))=1:=O7 g S hL Wa hk;rw[w1] at sm;refine⟨t4,mZ ?_,G1.trans G4⟩;unfold yn;apply mD (mM (v:=.ref s.nx) (s':=s.add (.Yr [])) rfl);refine mD (Dl (l:=M.map Ô) rfl F1.dz (by rw[vo];exact e1)) ?_;refine mD (Dl (l:=M.map Ô) rfl Ft.dz (by rw[vo];exact e2)) ?_;refine mD (mM (qG (l:=(Yq pp).map .str) (s1:=t2) (og (ma rfl)) (by rw[ac];lia) e3)) ?_;refine mD (qH (l:=(Yq pp).map λx=>.tup [.str x,YT (wy L d z x k)]) (s1:=t3) ?_ e4) ?_
 .unfold GN;rw[mf (v:=LS (Yq pp)) (ma rfl) (mf (ma rfl) rfl)];show Out.ok (uN ((Yq pp).map .str) ((Yq pp).map λx=>YT (wy L d z x k))) t3=_;rw[C9]
 .exact nT ((mK (mJ (mf (ma rfl) rfl) rfl sm) (qW (mf rfl (mf rfl rfl)))).trans (Qy (q:=1)))
def va{N}{s s'}{c}(h:g (vs.map Za++aQ (N-vs.length) Zb) s=.ex c s'):ZZ N g vs s=.ex c s':=by unfold ZZ;rw[h]
def Pl{s s'}{c}(h:f Z s=.ex c s'):Yh i f Z s=.ex c s':=by unfold Yh;rw[h];rfl
def Áo{C:ag}{n:Nat}{D:XF}{fa:XA}{Z:En}{s s1 s2:K'}{vs:List PV}{c:ag}(h1:fa Z s=.ok vs s1)(hn:vs.length+1=n)(h2:D (.ref s1.nx::vs) (s1.add (.obj C []))=.ex c s2):xMk C n D fa Z s=.ex c s2:=by unfold xMk;rw[h1];show(if vs.length+1=n then _ else _)=_;rw[Zc hn,h2];rfl
def Fd{D:XF}{fa:XA}{Z:En}{s s1:K'}{vs:List PV}{n:Nat}{o:Out PV}(h1:fa Z s=.ok vs s1)(hn:vs.length=n)(h2:D vs s1=o):AJ n D fa Z s=o:=by
 unfold AJ
 simp_all
def Pa{s s1 s'}{c}(h1:u Z s=.ex c s1)(hc:c∈cl)(h2:h (Z.set i (Za (.exc c))) s1=.nx Yp s'):Jx i cl u h Z s=.nx (Yp.set i Zb) s':=by
 unfold Jx
 simp_all
def O9{s s'}(h1:u Z s=.nx Yp s'):Jx i cl u h Z s=.nx Yp s':=by unfold Jx;rw[h1]
def zM{s s1}{c}(h:f Z s=.ok (.exc c) s1)(hc:c∈cl):vS cl tb f Z s=.ok (.bl (tb c)) s1:=by unfold vS;rw[h];show(if c∈cl then _ else _)=_;rw[Zc hc]
def zK{s s1}(h:f Z s=.ok .Ym s1):vS cl tb f Z s=.ok (.bl false) s1:=by unfold vS;rw[h];rfl
def HQ(a:Yl)(H:Ho L N)(hl:L.length<=64)(hb:T.get nb=Za (.book pp L))(Sd:nb<T.nx)(ng:¬Ā L)(v w:PV):n8 a [.ref nb,v,w] T=.ex a.YG (T.add (.obj a.YX [])):=by
 have VM:(T.add (.obj a.YX [])).get nb=Za (.book pp L):=by rw[mX,Zd (by lia)];exact hb
 obtain⟨G,e,W⟩:=Et a H hl VM;have hG:G≠[]:=λz=>ng (by rw[z] at W;exact W.noG);have so:=λx hx=>yw (H.sm x (H.hn x (Yk.mp (W.sl.mem hx))));have nn:nN a [.ref nb] (T.add (.obj a.YX []))=.ex a.YG (T.add (.obj a.YX [])):=by apply va;apply mD (mM (mJ (mf (ma rfl) rfl) rfl e));refine(wa (nY ((mK (ma rfl) (rN rfl)).trans ((DK (V:=[]) so (λy hy=>nomatch hy)).trans (by rw[Zh hG];rfl))))).trans ?_;rfl
 apply va;refine DF (Pl (Áo (mf (ma rfl) rfl) rfl (va ?_)));exact DF (Jt (mJ (mf (ma rfl) rfl) rfl nn))
def Fs(a)(g:Gd L N c)(ng:Ā L)(P:Pp pp N)(hb:T.get nb=Za (.book pp L))(Sd:nb<T.nx)(nx:Nm x)(hx:(oJ pp x||mR L x)=false)(w):∃T',n8 a [.ref nb,.str x,w] T=.ex a.Yc T'/\Gr T T':=by
 obtain⟨d,z,j,T',S,e,W,G⟩:=Dh a g ng P hb Sd;have SZ:=(G.fr nb Sd).trans hb;have nh:ny a [.ref nb,.str x] T'=.ex a.Yc T':=by
  simp only[ny,nV,SZ]
  simp_all
 refine⟨T',va ?_,G⟩;apply mD (mM (Mi (mf (ma rfl) rfl) rfl e));exact DF (Jt ((tT (ma rfl) SZ (mf (ma rfl) rfl) rfl).trans nh))
def HS(a)(g:Gd L N c)(ng:Ā L)(P:Pp pp N)(hb:T.get nb=Za (.book pp L))(Sd:nb<T.nx)(nx:Nm x)(hx:(oJ pp x||mR L x)=true)(nk:Nm k)(hk:mR L k=false):∃T',n8 a [.ref nb,.str x,.str k] T=.ex a.Yg T'/\Gr T T':=by
 obtain⟨d,z,j,T',S,e,W,G⟩:=Dh a g ng P hb Sd;have SZ:=(G.fr nb Sd).trans hb;have nh:ny a [.ref nb,.str x] T'=.ok .Ym T':=by
  simp only[ny,nV,SZ]
  simp_all
 have nh2:oB a [.ref nb,.str k] T'=.ex a.Yg T':=by
  simp[oB,nV,SZ]
  grind
 refine⟨T',va ?_,G⟩;apply mD (mM (Mi (mf (ma rfl) rfl) rfl e));apply mD (uc ((tT (ma rfl) SZ (mf (ma rfl) rfl) rfl).trans nh));exact DF (Jt ((tT (ma rfl) SZ (mf (ma rfl) rfl) rfl).trans nh2))
def Hq(p q r:Bool):PV:=.lst [.bl p,.bl q,.bl r,.bl false]
def xW(a:Yl){v w:PV}{e:ag}(hc:e∈a.cl)(h:n8 a [.ref nb,v,w] T=.ex e s):∃T',o6 a [.ref nb,v,w] T=.ok (Hq (decide (e=a.YG)) (decide (e=a.Yc)) (decide (e=a.Yg))) T'/\Gr s T':=by
 have g1:(s.add (.lst [.bl (decide (e=a.YG)),.bl (decide (e=a.Yc)),.bl (decide (e=a.Yg))])).get s.nx=Za (.lst [.bl (decide (e=a.YG)),.bl (decide (e=a.Yc)),.bl (decide (e=a.Yg))]):=by rw[mX,Zc rfl]
 refine⟨((s.add (.lst [.bl (decide (e=a.YG)),.bl (decide (e=a.Yc)),.bl (decide (e=a.Yg))])).set s.nx (.lst ([.bl (decide (e=a.YG)),.bl (decide (e=a.Yc)),.bl (decide (e=a.Yg))]++[.bl false]))).del s.nx,mZ ?_,⟨by show s.nx<=s.nx+1;lia,λi hi=>?_⟩⟩
 .unfold rO;apply mD (mM (v:=.Ym) (s':=T) rfl);apply mD (Pa (c:=e) (s1:=s) (Jt (Fd (mf (ma rfl) (mf (ma rfl) (mf (ma rfl) rfl))) rfl h)) hc (mM (ma rfl)));refine mD (mM (v:=.ref s.nx) (s':=s.add (.lst [.bl (decide (e=a.YG)),.bl (decide (e=a.Yc)),.bl (decide (e=a.Yg))])) ?_) ?_
  .unfold á;rw[mf (zM (c:=e) (s1:=s) (ma rfl) hc) (mf (zM (c:=e) (s1:=s) (ma rfl) hc) (mf (zM (c:=e) (s1:=s) (ma rfl) hc) rfl))];rfl
  .refine mD (uc (xX (ma rfl) g1 (mf (zM (c:=e) (ma rfl) hc) rfl) g1 (by show 3<100000;decide))) ?_;apply nT;unfold ć;rw[ma (i:=5) (v:=.ref s.nx) rfl];show Æ (.ref s.nx) _=_;unfold Æ;simp only[nz g1];rfl
 .have:(((s.add (.lst [.bl (decide (e=a.YG)),.bl (decide (e=a.Yc)),.bl (decide (e=a.Yg))])).set s.nx (.lst ([.bl (decide (e=a.YG)),.bl (decide (e=a.Yc)),.bl (decide (e=a.Yg))]++[.bl false]))).del s.nx).get i=((s.add (.lst [.bl (decide (e=a.YG)),.bl (decide (e=a.Yc)),.bl (decide (e=a.Yg))])).set s.nx (.lst ([.bl (decide (e=a.YG)),.bl (decide (e=a.Yc)),.bl (decide (e=a.Yg))]++[.bl false]))).get i:=qu (by lia);rw[this,mC _ _ (by lia),mX,Zd (by lia)]
def IX(a:Yl){v w r:PV}(h:n8 a [.ref nb,v,w] T=.ok r s):∃T',o6 a [.ref nb,v,w] T=.ok (Hq false false false) T'/\Gr s T':=by
 have g1:(s.add (.lst [.bl false,.bl false,.bl false])).get s.nx=Za (.lst [.bl false,.bl false,.bl false]):=by rw[mX,Zc rfl]
 refine⟨((s.add (.lst [.bl false,.bl false,.bl false])).set s.nx (.lst ([.bl false,.bl false,.bl false]++[.bl false]))).del s.nx,mZ ?_,⟨by show s.nx<=s.nx+1;lia,λi hi=>?_⟩⟩
 .unfold rO;apply mD (mM (v:=.Ym) (s':=T) rfl);apply mD (O9 (uc (Fd (mf (ma rfl) (mf (ma rfl) (mf (ma rfl) rfl))) rfl h)));refine mD (mM (v:=.ref s.nx) (s':=s.add (.lst [.bl false,.bl false,.bl false])) ?_) ?_
  .unfold á;rw[mf (zK (s1:=s) (ma rfl)) (mf (zK (s1:=s) (ma rfl)) (mf (zK (s1:=s) (ma rfl)) rfl))];rfl
  .refine mD (uc (xX (ma rfl) g1 (mf (zK (ma rfl)) rfl) g1 (by show 3<100000;decide))) ?_;apply nT;unfold ć;rw[ma (i:=5) (v:=.ref s.nx) rfl];show Æ (.ref s.nx) _=_;unfold Æ;simp only[nz g1];rfl
 .have:(((s.add (.lst [.bl false,.bl false,.bl false])).set s.nx (.lst ([.bl false,.bl false,.bl false]++[.bl false]))).del s.nx).get i=((s.add (.lst [.bl false,.bl false,.bl false])).set s.nx (.lst ([.bl false,.bl false,.bl false]++[.bl false]))).get i:=qu (by lia);rw[this,mC _ _ (by lia),mX,Zd (by lia)]
end
structure Adn(w h o:ag):Prop where
 h1:w≠h
 h2:w≠o
 h3:h≠o
def HJ(h:l.length+k.length<=100000):YH (.lst l) (.lst k) s=.ok (.lst (l++k)) s:=by simp[YH,YI,h]
def Nw(p q r):Ō (Hq p q r) (Hq p q r) s=.ok (.bl false) s:=by cases p<;>cases q<;>cases r<;>simp[Hq,Z0,PV.data,yQ,cC,eK]
section
variable{T s t:K'}{nb nd:Nat}{pp N hs:List Str}{L:List Ent}{M:List Md}{c:Nat}{k x:Str}
structure Lz(T:K')(nb nd:Nat)(pp:List Str)(L:List Ent)(M:List Md)(N:List Str)(c:Nat):Prop where
 pu:Yv T 0
 bk:T.get nb=Za (.book pp L)
 md:T.get nd=Za (.Yr (M.map Ô))
 sh:∀m∈M,T.get m.cell=Za (.Yr (hP m.hl))
 pr:Þ N c L M
 i:0≠nb/\0≠nd/\nb≠nd/\∀m∈M,m.cell≠0/\m.cell≠nd
 lt:0<T.nx/\nb<T.nx/\nd<T.nx/\∀m∈M,m.cell<T.nx
def Lz.gr(h:Lz T nb nd pp L M N c)(G:Gr T t):Lz t nb nd pp L M N c:=by obtain⟨l1,l2,l3,l4⟩:=h.lt;have n:=G.nx;refine⟨?_,(G.fr _ l2).trans h.bk,(G.fr _ l3).trans h.md,λm hm=>(G.fr _ (l4 m hm)).trans (h.sh m hm),h.pr,h.i,by lia,by lia,by lia,λm hm=>by have:=l4 m hm;lia⟩;obtain⟨x,y,e⟩:=h.pu;exact⟨x,y,(G.fr 0 l1).trans e⟩
def Lz.YB(h:Lz T nb nd pp L M N c)(x y):Lz (T.set 0 (.lst [.int x,.int y])) nb nd pp L M N c:=by obtain⟨i1,i2,_,i4⟩:=h.i;obtain⟨u,v,e⟩:=h.pu;exact⟨⟨x,y,nz e⟩,(mC _ _ (bH i1)).trans h.bk,(mC _ _ (bH i2)).trans h.md,λm hm=>(mC _ _ (i4 m hm).1).trans (h.sh m hm),h.pr,h.i,h.lt⟩
def Lz.mz(h:Lz T nb nd pp L M N c):Mz T nd M L N c:=⟨by show(match T.get nd with|some (.Yr l)=>Za l|some (.Zp l)=>Za l|_=>Zb)=_;rw[h.md],by show(match T.get nd with|some (.lst l)=>Za l|_=>Zb)=_;rw[h.md],h.sh,h.pr⟩
def Áp(P:Þ N c L M)(x):(p4 (M.map Ô) (ap x)).isSome=mR L x:=by
 cases hc:mR L x with
 |true =>
  obtain⟨e,m,k,f,hm,v,R⟩:=P.at_ ((oZ _ _).mp hc);rw[v];rfl
 |false =>
  rw[vh]
  .rfl
  .intro z;rw[aE] at z;obtain⟨m,hm,e⟩:=ar.mp z;have:mR L x=true:=(oZ _ _).mpr (by rw[P.names,<-Sum.inr.inj e];grind)
   grind
def Lz.ZH(h:Lz T nb nd pp L M N c)(x):qh (.str x) (.ref nd) T=.ok (.bl (!mR L x)) T:=by show rg true _ _ _=_;unfold rg;rw[h.mz.d];show Out.ok (PV.bl (Fj true (p4 (M.map Ô) (ap x)).isSome)) _=_;rw[Áp h.pr];rfl
def Ke(x):qh (.str x) (LS (Yq pp)) T=.ok (.bl (!oJ pp x)) T:=by
 rw[ET rfl (by grind) rfl]
 congr 3
 rw[ci,decide_eq_true_iff,(mF _).mem_iff,sQ]
def QA(a)(h:Lz T nb nd pp L M N c)(H:Ho L N)(hG:∀x∈G,mR L x=true)(x k) :
  wf a [LS (Yq pp),.ref nd,LS G,.str x,.str k] T=.ok (Hq (!decide (G=[])) (decide (G=[])&&!(oJ pp x||mR L x)) (decide (G=[])&&(oJ pp x||mR L x)&&!mR L k)) T:=by
 have so:=λy hy=>yw (H.sm y (H.hn y (hG y hy)));have ne:=DK (s:=T) (V:=[]) so (λy hy=>nomatch hy);apply mZ;by_cases z:G=[]
 .rw[Zg z] at ne ⊢;apply mD ((qM (nY ((mK (ma rfl) (rN rfl)).trans ne))).trans rfl);have n1:YO (x2 (j' 3) (j' 1) qh) [Za (LS (Yq pp)),Za (.ref nd),Za (LS G),Za (.str x),Za (.str k)] T=.ok (!mR L x) T:=nY ((mK (ma rfl) (ma rfl)).trans (h.ZH x));have n2:YO (x2 (j' 3) (j' 0) qh) [Za (LS (Yq pp)),Za (.ref nd),Za (LS G),Za (.str x),Za (.str k)] T=.ok (!oJ pp x) T:=nY ((mK (ma rfl) (ma rfl)).trans (Ke x));have Rx:YF (ZL (F' (xC (.bl false)) (F' (xC (.bl false)) (F' (x2 (j' 4) (j' 1) qh) (F' (xC (.bl false)) J'))))) [Za (LS (Yq pp)),Za (.ref nd),Za (LS G),Za (.str x),Za (.str k)] T=.rt (Hq false false (!mR L k)) T:=nT (rN (mf rfl (mf rfl (mf ((mK (ma rfl) (ma rfl)).trans (h.ZH k)) (mf rfl rfl)))));cases e1:mR L x with
  |true =>
   rw[e1] at n1;apply mD ((qM (QS n1)).trans rfl)
   simp_all
  |false =>
   rw[e1] at n1;cases e2:oJ pp x with
   |true =>
    rw[e2] at n2;apply mD ((qM (HI n1 n2)).trans rfl);exact Rx
   |false =>
    rw[e2] at n2;refine AM ((wa (HI n1 n2)).trans ?_);rfl
 .rw[Zh z] at ne ⊢;refine AM ((wa (nY ((mK (ma rfl) (rN rfl)).trans ne))).trans ?_);rfl
def Gc(a)(A:Adn a.YG a.Yc a.Yg)(h:Lz T nb nd pp L M N c)(g:Gd L N c)(P:Pp pp N)(W:WG L (U' L) G)(nx:Nm x)(nk:Nm k) :
  ∃T',o6 a [.ref nb,.str x,.str k] T=.ok (Hq (!decide (G=[])) (decide (G=[])&&!(oJ pp x||mR L x)) (decide (G=[])&&(oJ pp x||mR L x)&&!mR L k)) T'/\Gr T T':=by
 have hb:=h.bk;have Sd:=h.lt.2.1;have c1:a.YG∈a.cl:=ai;have c2:a.Yc∈a.cl:=ae _ ai;have c3:a.Yg∈a.cl:=ae _ (ae _ ai);by_cases z:G=[]
 .have ng:Ā L:=by rw[z] at W;exact W.noG
  rw[Zg z];cases e1:(oJ pp x||mR L x) with
  |false =>
   obtain⟨s,e,G1⟩:=Fs a g ng P hb Sd nx e1 (.str k);obtain⟨T',e',G2⟩:=xW a c2 e;rw[Zh (bH A.h1),Zg rfl,Zh A.h3] at e';exact⟨T',e',G1.trans G2⟩
  |true =>
   cases e2:mR L k with
   |false =>
    obtain⟨s,e,G1⟩:=HS a g ng P hb Sd nx e1 nk e2;obtain⟨T',e',G2⟩:=xW a c3 e;rw[Zh (bH A.h2),Zh (bH A.h3),Zg rfl] at e';exact⟨T',e',G1.trans G2⟩
   |true =>
    have hx:x∈Yq pp++U' L:=by rw[di,sQ] at e1;exact e1.elim (λq=>bV _ ((mF _).mem_iff.mpr q)) λq=>aD _ (Yk.mpr q)
    obtain⟨d,zz,s,S,e,G1⟩:=zd a g ng P hb Sd hx (Yk.mpr e2);obtain⟨T',e',G2⟩:=IX a e;exact⟨T',e',G1.trans G2⟩
 .have ng:¬Ā L:=λq=>by obtain⟨h,hh,x,hx,hn⟩:=q G z λh hh=>Yk.mp (W.sl.mem hh);exact hn (W.cl h hh x hx)
  rw[Zh z];have e:=HQ a g.ho (by have:=g.l8;lia) hb Sd ng (.str x) (.str k);obtain⟨T',e',G2⟩:=xW a c1 e;rw[Zg rfl,Zh A.h1,Zh A.h2] at e';exact⟨T',e',(Gr.add _ _).trans G2⟩
def zE(u0:PV)(nb nd:Nat)(P G U:List Str)(u7 u8 u9:Option PV):En:=[Za u0,Za (.ref 0),Za (.ref nb),Za (LS P),Za (.ref nd),Za (LS G),Za (LS U),u7,u8,u9]
def OI(a)(hp:Yv T 0)(h0:0<U.length)(h1:U.length<64)(r1:Z[1]?=Za (Za (.ref 0)))(r6:Z[6]?=Za (Za (LS U))) :
  ∃w x y,w∈U/\x2 (j' 6) (Yb 2 (mH a) (F' (j' 1) (F' (xB (F' (j' 6) J') Zw) J'))) Yo Z T=.ok (.str w) (T.set 0 (.lst [.int x,.int y])):=by
 obtain⟨r,x,y,q0,q1,e⟩:=sj a T 0 U.length hp (by lia) (pj (by lia) (by lia));obtain⟨w,hw,RY⟩:=Fg q0 q1;refine⟨w,x,y,hw,?_⟩;have e2:xB (F' (j' 6) J') Zw Z T=.ok (.int U.length) T:=(Bw (mf (ma r6) rfl)).trans (by have:=Hh (t:=T) (l:=U.map PV.str);rw[ac] at this;exact this)
 exact(mK (ma r6) (mJ (mf (ma r1) (mf e2 rfl)) rfl e)).trans (yM RY)
theorem OQ(a)(A:Adn a.YG a.Yc a.Yg)(g:Gd L N c)(P:Pp pp N)(W:WG L (U' L) G)(h0:0<U.length)(h1:U.length<64)(hU:∀x∈U,Nm x)(u0):∀(l:List PV)(T:K')(u7 u8 u9:Option PV),Lz T nb nd pp L M N c ->
  ∃T' v7 v8 v9,nj (mV (V' 7) (Ag a)) l (zE u0 nb nd (Yq pp) G U u7 u8 u9) T=.nx (zE u0 nb nd (Yq pp) G U v7 v8 v9) T'/\Lz T' nb nd pp L M N c
 |[],T,u7,u8,u9,h=>⟨T,u7,u8,u9,rfl,h⟩
 |q::l,T,u7,u8,u9,h=>by
  obtain⟨w1,R1,y1',m1,e1⟩:=OI a (Z:=zE u0 nb nd (Yq pp) G U (Za q) u8 u9) h.pu h0 h1 rfl rfl;have L1:=h.YB R1 y1';obtain⟨w2,RZ,WB,m2,e2⟩:=OI a (Z:=zE u0 nb nd (Yq pp) G U (Za q) (Za (.str w1)) u9) L1.pu h0 h1 rfl rfl;have L2:=L1.YB RZ WB;obtain⟨T',e3,G3⟩:=Gc a A L2 g P W (hU w1 m1) (hU w2 m2);have L3:=L2.gr G3;have e4:=QA a L3 g.ho (λy hy=>Yk.mp (W.sl.mem hy)) w1 w2;obtain⟨T4,v7,v8,v9,e,L4⟩:=OQ a A g P W h0 h1 hU u0 l T' (Za q) (Za (.str w1)) (Za (.str w2)) L3;refine⟨T4,v7,v8,v9,?_,L4⟩;unfold nj;rw[ot];have bd:Ag a (zE u0 nb nd (Yq pp) G U (Za q) u8 u9) T=.nx (zE u0 nb nd (Yq pp) G U (Za q) (Za (.str w1)) (Za (.str w2))) T':=by apply mD (mM e1);apply mD (mM e2);exact(qM (nY ((mK (mJ (mf (ma rfl) (mf (ma rfl) (mf (ma rfl) rfl))) rfl e3) (mJ (mf (ma rfl) (mf (ma rfl) (mf (ma rfl) (mf (ma rfl) (mf (ma rfl) rfl))))) rfl e4)).trans (Nw _ _ _)))).trans rfl
  have e0:(zE u0 nb nd (Yq pp) G U u7 u8 u9).set 7 (Za q)=zE u0 nb nd (Yq pp) G U (Za q) u8 u9:=rfl
  simp_all
theorem OP(a)(g:Gd L (pp++hs) c)(ng:Ā L)(P:Pp pp (pp++hs))(hL:L.map (·.nm)=hs)(Wa:(pp++hs).Nodup)(hp:pp.length<=8)(F:Fz s nb nd pp L M (pp++hs) c)(G U)(u0)(u7 u8):∀(l:List Str)(t:K')(u9:Option PV),Gr s t->(∀h∈l,h∈U' L) ->
  ∃t' v9,nj (mV (V' 9) (xu a)) (l.map .str) (zE u0 nb nd (Yq pp) G U u7 u8 u9) t=.nx (zE u0 nb nd (Yq pp) G U u7 u8 v9) t'/\Gr s t'
 |[],t,u9,G1,_=>⟨t,u9,rfl,G1⟩
 |h::l,t,u9,G1,hh=>by
  obtain⟨t1,e1,G2⟩:=NN a g ng P hL Wa hp (hh h ai) (F.gr G1);obtain⟨t',v9,e,G3⟩:=OP a g ng P hL Wa hp F G U u0 u7 u8 l t1 (Za (.str h)) (G1.trans G2) λy hy=>hh y (ae _ hy);refine⟨t',v9,?_,G3⟩;rw[am];unfold nj;rw[ot];have bd:xu a (zE u0 nb nd (Yq pp) G U u7 u8 (Za (.str h))) t=.nx (zE u0 nb nd (Yq pp) G U u7 u8 (Za (.str h))) t1:=by exact(qM (yJ (nY (mJ (mf (ma rfl) (mf (ma rfl) (mf (ma rfl) (mf (ma rfl) rfl)))) rfl e1)))).trans rfl
  have e0:(zE u0 nb nd (Yq pp) G U u7 u8 u9).set 9 (Za (.str h))=zE u0 nb nd (Yq pp) G U u7 u8 (Za (.str h)):=rfl
  simp_all
abbrev two:List Str:=["nobody",""]
def Iy:Nm "nobody":=⟨by decide +kernel,by decide +kernel⟩
def Nu:Nm "":=⟨by decide +kernel,by decide +kernel⟩
def Qk(a)(A:Adn a.YG a.Yc a.Yg)(l)(hl:l.length<=63)(hw:Att.Ř l):∃s',BH a [.seq (l.map .int)] ⟨0,[]⟩=.ok (.bl true) s':=by
 obtain⟨x0,y0,e0⟩:=JX a ⟨0,[]⟩ l hl hw;have hP:Yv ((⟨0,[]⟩:K').add (.lst [.int x0,.int y0])) 0:=⟨x0,y0,rfl⟩;have nx1:((⟨0,[]⟩:K').add (.lst [.int x0,.int y0])).nx=1:=rfl;generalize (⟨0,[]⟩:K').add (.lst [.int x0,.int y0])=s1 at *;obtain⟨t,nb,nd,pp,hs,c,L,M,e1,B,hL,WN,p1,p3,h6,c28⟩:=KY a s1 0 (by lia) hP 5 (Zf rfl);obtain⟨g,P⟩:=B.gd WN hL (by lia) (by lia) (by lia);generalize PV.seq (l.map .int)=u at *;have W:=B.w;have L0:Lz t nb nd pp L M (pp++hs) c:=⟨W.pu,W.bk,W.md,W.sh,W.pr,⟨W.i1,W.i2,W.i3,λm hm=>⟨(W.i4 m hm).1,(W.i4 m hm).2.2⟩⟩,W.lt⟩;have l8:=g.l8;obtain⟨G,eG,Ws⟩:=Kw a L0.mz L0.md g.ho l8;have nm:=W.pr.names;have ml:(M.map (·.nm)).length=L.length:=by rw[<-nm,ac]
 have so:∀y∈G,bM y=true:=λy hy=>yw (g.ho.sm y (g.ho.hn y (Yk.mp (Ws.sl.mem hy))));have ne:=λ{T:K'}=>DK (s:=T) (U:=G) (V:=[]) so (λy hy=>nomatch hy);have Ul:(Yq pp++U' L++two).length=pp.length+L.length+2:=by rw[aT,aT,(mF _).length_eq,pF];rfl
 have hU:∀x∈Yq pp++U' L++two,Nm x:=λx hx=>by
  obtain hx|hx:=aW.mp hx
  .refine(WN.sm x ?_).nm;obtain q|q:=aW.mp hx
   .exact bV _ ((mF _).mem_iff.mp q)
   .exact aD _ (by rw[<-hL];exact(mF _).mem_iff.mp q)
  .obtain rfl|hx:=ao.mp hx
   .exact Iy
   .rw[ay.mp hx];exact Nu
 obtain⟨t1,v7,v8,v9,e5,L1⟩:=OQ (U:=Yq pp++U' L++two) a A g P Ws (by rw[Ul];lia) (by rw[Ul];lia) hU u (uT 0 6) t Zb Zb Zb L0;have Rx:∀(s':K')(v:PV),Jq a [Za u,Zb,Zb,Zb,Zb,Zb,Zb,Zb,Zb,Zb] ⟨0,[]⟩=.rt v s'->BH a [u] ⟨0,[]⟩=.ok v s':=λs' v h=>mZ h;have head:∀(o:SO)(q:XS),q (zE u nb nd (Yq pp) G (Yq pp++U' L++two) v7 v8 v9) t1=o ->
   W' (Yh 1 (Yb 1 (oX a) (F' (j' 0) J'))) (W' (ã (Yb 2 (qS a) (F' (j' 1) (F' (xC (.int 5)) J'))) (Zk 3 (Yj (V' 2) (Yj (V' 3) (Yj (V' 4) Zl))))) (W' (Yh 5 (Yb 1 (qR a) (F' (j' 4) J'))) (W' (Yh 6 (x2 (x2 (j' 3) (xB (F' (j' 4) J') m6) YH) (ZL (F' (xC (.str "nobody")) (F' (xC (.str "")) J'))) YH)) (W' (Z7 (Zn (F' (xC (.int 6)) J')) (V' 7) (Ag a)) q)))) [Za u,Zb,Zb,Zb,Zb,Zb,Zb,Zb,Zb,Zb] ⟨0,[]⟩=o:=λo q h=>by
  refine mD (mM (mJ (mf (ma rfl) rfl) rfl e0)) (mD (ÂR (mJ (mf (ma rfl) (mf rfl rfl)) rfl e1)) ?_);apply mD (mM (mJ (mf (ma rfl) rfl) rfl eG));refine mD (mM (v:=LS (Yq pp++U' L++two)) (s':=t) ?_) ?_
  .have e2:=tO L0.md (Dj M) (by lia);rw[<-nm] at e2;refine(mK ((mK (ma rfl) ((Bw (mf (ma rfl) rfl)).trans e2)).trans (HJ (by rw[ac,ac,(mF _).length_eq];have:=pF (L:=L);lia))) (rN (mf rfl (mf rfl rfl)))).trans ?_;rw[HJ (by
    rw[aT,ac,ac,(mF _).length_eq];have:=pF (L:=L);show _+2<=_;lia)]
   show _=Out.ok (PV.lst ((Yq pp++U' L++two).map .str)) t;rw[aA,aA];rfl
  .exact mD (qH (tX (n:=6) rfl (Zf rfl)) e5) h
 by_cases z:G=[]
 .have ng:Ā L:=by rw[z] at Ws;exact Ws.noG
  have F0:Fz (t1.set nd (.Zp (M.map Ô))) nb nd pp L M (pp++hs) c:=by
   obtain⟨i1,i2,i3,i4⟩:=L1.i;obtain⟨l1,l2,l3,l4⟩:=L1.lt;have g0:(t1.set nd (.Zp (M.map Ô))).get nd=Za (.Zp (M.map Ô)):=nz L1.md;refine⟨(mC _ _ i3).trans L1.bk,l2,⟨?_,?_,λm hm=>(mC _ _ (i4 m hm).2).trans (L1.sh m hm),L1.pr⟩,g0,l3,l4⟩
   .show(match(t1.set nd (.Zp (M.map Ô))).get nd with|some (.Yr l)=>Za l|some (.Zp l)=>Za l|_=>Zb)=_;rw[g0]
   .show(match(t1.set nd (.Zp (M.map Ô))).get nd with|some (.lst l)=>Za l|_=>Zb)=_;rw[g0]
  obtain⟨t2,w9,e6,G6⟩:=OP a g ng P hL WN.nd (by lia) F0 G (Yq pp++U' L++two) u v7 v8 (M.map (·.nm)) _ v9 (Gr.refl _) (λh hh=>(mF _).mem_iff.mpr (nm▸hh));refine⟨t2.set nd (.Yr (M.map Ô)),Rx _ _ ?_⟩;unfold Jq;apply head _ _;have Va:=ne (T:=t1);rw[Zg z] at Va;apply mD ((qM (s1:=t1) (nY ((mK (ma rfl) (rN (vs:=[]) rfl)).trans Va))).trans rfl);refine mD (Yp:=zE u nb nd (Yq pp) G (Yq pp++U' L++two) v7 v8 w9) (s':=t2.set nd (.Yr (M.map Ô))) ?_ (nT rfl);unfold Jf;show(match t1.get nd with
   |some (.Yr l')=>(nj (mV (V' 9) (xu a)) (l'.map λkv:Key×PV=>xn kv.1) (zE u nb nd (Yq pp) G (Yq pp++U' L++two) v7 v8 v9) (t1.set nd (.Zp l'))).Ĉ nd
   |_=>.bad)=_
  rw[L1.md];show(nj (mV (V' 9) (xu a)) ((M.map Ô).map λkv:Key×PV=>xn kv.1) (zE u nb nd (Yq pp) G (Yq pp++U' L++two) v7 v8 v9) (t1.set nd (.Zp (M.map Ô)))).Ĉ nd=_;rw[vo,e6];show(match Ϲ nd t2 with
   |some s'=>SO.nx _ s'
   |none=>.bad)=_
  unfold Ϲ;rw[(F0.gr G6).dz]
 .refine⟨t1,Rx _ _ ?_⟩;unfold Jq;apply head _ _;have Va:=ne (T:=t1);rw[Zh z] at Va;exact AM ((wa (s1:=t1) (nY ((mK (ma rfl) (rN (vs:=[]) rfl)).trans Va))).trans (nT rfl))
end
def NC{K}{a}{H}{c}{ns}{Q}{E}(hl:ns.length<=63)(hw:Att.Ř ns)(ht:bI K aV "rules"=Za Zb/\Adn a.YG a.Yc a.Yg)(hO:Ow H)(hS:YY K H c (ns.map V.int))(k:∀v H',v=.bl true->Q v H'):Y4 K a.Ye 1 (BH a) [.ref c] H Q E:=by
 obtain⟨s',e⟩:=Qk a ht.2 ns hl hw;have S0:SR K a.Ye H ⟨λ_=>c,λ_=>[],[]⟩ ⟨0,[]⟩:=by
  refine⟨iC,(by intro n hn;cases hn),(by grind),(by grind),(by grind),(by intro z hz;cases hz),λP q t=>?_⟩;obtain⟨x,hx,c',h1,h2⟩:=t;simp[Fi,ay] at hx;subst hx;unfold PySem.W.tabIn at h1
  simp_all
 have R0:∀(l:List Int),Yd K H ⟨λ_=>c,λ_=>[],[]⟩ ⟨0,[]⟩ (l.map V.int) (l.map PV.int):=λl=>by
  induction l with
  |nil=>exact .nil
  |cons x r ih=>exact .cons .int ih
 have pu:ĥ (⟨λ_=>c,λ_=>[],[]⟩:Mp) ⟨0,[]⟩ c:=⟨(by grind),by intro n hn;cases hn⟩;have hr:Rep K H ⟨λ_=>c,λ_=>[],[]⟩ ⟨0,[]⟩ (.ref c) (.seq (ns.map .int)):=by
  refine .seq ?_ (R0 ns);rcases hS with(h|h)|h
  .obtain z|⟨o,xs,z⟩:=hO c
   .grind
   .grind
  .exact .inl ⟨h,pu⟩
  .exact .inr h
 refine⟨rfl,[.seq (ns.map .int)],⟨0,[]⟩,_,.cons hr .nil,S0,?_⟩;rw[e]
 rintro u H' m' _ _ ⟨⟩
 exact k _ _ rfl
open PyProof.Rows
structure Gxa(K:aa)(x:Str)(X:ag):Prop where
 n:bI K aV x=Za (Za (.ref X))
 e:Exc K X
def gxa{K:aa}{x:Str}{X:ag}(n:bI K aV x=Za (Za (.ref X)))(a:fC K X ϑ "ValueError.__new__"=true)(b:aK K (.ref X) "__getattribute__"=Za (Za (.builtin "BaseException.__getattribute__")))(c:aK K (.ref X) "__getattr__"=Za Zb)(d:aK K (.ref X) "__class__"=Za (Za (.builtin "object.__class__")))(e:cI K (.builtin "object.__class__") "__get__"=Za (Za (.builtin "getset_descriptor.__get__")))(f:fI K (.builtin "object.__class__")=Za true)(g:bF K X (.type "object")=Za true)(h:bF K X (.type "BaseException")=Za true):Gxa K x X:=⟨n,⟨ÁM a,b,c,d,e,f,g,h⟩,a⟩
structure Gk(K:aa)(o w h u c1 c2 c3 c4 c5 c6:ag):Prop where
 t1:bF K w (.ref o)=Za true
 t2:bF K h (.ref o)=Za true
 t3:bF K u (.ref o)=Za true
 a1:cQ K (.ref w) [.ref c1,.ref c2,.ref c3,.ref c4,.ref c5,.ref c6]=Za false
 a2:cQ K (.ref h) [.ref c1,.ref c2,.ref c3,.ref c4,.ref c5,.ref c6]=Za false
 a3:cQ K (.ref u) [.ref c1,.ref c2,.ref c3,.ref c4,.ref c5,.ref c6]=Za false
 na:cQ K (.type "NoneType") [.ref c1,.ref c2,.ref c3,.ref c4,.ref c5,.ref c6]=Za false
 w1:aY K (.ref w) (.ref w)=Za true
 w2:aY K (.ref h) (.ref w)=Za false
 w3:aY K (.ref u) (.ref w)=Za false
 nw:aY K (.type "NoneType") (.ref w)=Za false
 h1:aY K (.ref w) (.ref h)=Za false
 h2:aY K (.ref h) (.ref h)=Za true
 h3:aY K (.ref u) (.ref h)=Za false
 nh:aY K (.type "NoneType") (.ref h)=Za false
 o1:aY K (.ref w) (.ref u)=Za false
 o2:aY K (.ref h) (.ref u)=Za false
 o3:aY K (.ref u) (.ref u)=Za true
 no:aY K (.type "NoneType") (.ref u)=Za false
structure Gxw(K:aa)(X:ag):Prop where
 b:aK K (.ref X) "__getattribute__"=Za (Za (.builtin "BaseException.__getattribute__"))
 c:aK K (.ref X) "__getattr__"=Za Zb
 d:aK K (.ref X) "__class__"=Za (Za (.builtin "object.__class__"))
 e:cI K (.builtin "object.__class__") "__get__"=Za (Za (.builtin "getset_descriptor.__get__"))
 f:fI K (.builtin "object.__class__")=Za true
 g:bF K X (.type "object")=Za true
 h:bF K X (.type "BaseException")=Za true
structure Gwh(K:aa)(C Zi:ag):Prop where
 ex:Jr K C=true
 mo:(PySem.W.clsIn K C).map (·.mro)=Za (.ref C::.ref Zi::ϑ)
 rd:lP K Zi (.type "type")=true
 fi:lR K (.ref Zi) (.type "type") "__init__"=Za (.val (.builtin "ValueError.__init__"))
 me:bF K C (.ref C)=Za true
 hd:cZ K C=true
 sa:aK K (.ref C) "__setattr__"=Za (Za (.builtin "object.__setattr__"))
 gr:aK K (.ref C) "group"=Za Zb
 ga:cI K (.ref Zi) "__getattribute__"=Za (Za (.builtin "type.__getattribute__"))
 kw:bW K (.ref C)=true
structure Gw(K:aa)(C:ag):Prop where
 n:bI K aV "Ways"=Za (Za (.ref C))
 p:ed K C cx=true
 h:cZ K C=true
 o:gc K C=true
 s:aK K (.ref C) "__setattr__"=Za (Za (.builtin "object.__setattr__"))
 m:fJ K C=true
 k:bW K (.ref C)=true
 a:aK K (.ref C) "bottom"=Za Zb
 b:aK K (.ref C) "top_of"=Za Zb
def all_mk{l:gH}{w}{K}{h}{mg}{fa}(X:K.In h)(G:h.Ns aV mg)(hfa:mg "law"=Za (.ref fa)){Rm R4 Sk RT Rw RA R5 RU R3 Rn BK WY}(x0z:Gxa K "OwnError" Rm)(x1z:Gxa K "NoName" R4)(x2z:Gxa K "Twice" Sk)(x3z:Gxa K "TooMany" RT)(x4z:Gxa K "NoHolder" Rw)(x5z:Gxa K "NoHouse" RA)(x6z:Gxa K "NoLoss" R5)(x7z:Gxa K "NoShare" RU)(S9:bI K aV "NoText"=Za (Za (.ref R3)))(Ą:bI K aV "Whole"=Za (Za (.ref Rn)))(gk:Gk K Rm Rn Rw RA R5 R4 RU R3 RT Sk)(gn:Adn Rn Rw RA)(gv:Gxw K Rn)(gh:Gwh K Rn Rm)(jw:Gm K Rn "__init__" "Whole.__init__" tj)(cb:Gb K BK)(cw:Gw K WY)(c0z:Gt K "ZERO" 0 1)(c1z:Gt K "ONE" 1 1)(u0z:Gi K "LONGEST_NAME" 8)(u1z:Gi K "MOST_PERSONS" 6)(u2z:Gi K "MOST_HOUSES" 8)(z0z:Gz K "len")(z1z:Gz K "range")(z2z:Gz K "all")(z3z:Gz K "int")(z4z:Gz K "abs")(z5z:Gz K "sorted")(z6z:Gz K "tuple")(z7z:Gz K "list")(z8z:Gz K "str")(z9z:Gz K "bool")(Wz:Gz K "isinstance")(Wx:Gz K "ValueError")(Ww:Gz K "any")(Wv:Gz K "set")(Wu:Gz K "max")(UX:Gz K "dict")(T8:Gz K "enumerate")(Wt:Gz K "sum")(T7:Gz K "zip")(j0:Gf K "is_name" vk)(j1:Gf K "need_loss" uk)(j2:Gf K "common_divisor" pW)(j3:Gf K "plus" Gu)(j4:Gf K "minus" Dc)(j5:Gf K "is_above" vW)(j6:Gm K BK "__init__" "Book.__init__" uz)(j7:Gm K BK "is_house" "Book.is_house" qy)(j8:Gm K BK "is_holder" "Book.is_holder" pX)(j9:Gm K BK "need_house" "Book.need_house" pH)(j10:Gm K BK "need_holder" "Book.need_holder" o8)(j11:Gm K BK "need_new_name" "Book.need_new_name" oM)(j12:Gm K BK "person" "Book.person" rJ)(j13:Gm K BK "house" "Book.house" tu)(j14:Gm K BK "sale" "Book.sale" uy)(j15:Gm K BK "persons" "Book.persons" qU)(j16:Gm K BK "houses" "Book.houses" rK)(j17:Gm K BK "shares" "Book.shares" qf)(j18:Gf K "_law_mixed" sY)(j19:Gf K "_law_purse" sW)(j20:Gf K "_law_draw" uw)(j21:Gf K "_law_divisor" qT)(j22:Gf K "_law_made" ur)(j23:Gf K "_law_names" sX)(j24:Gf K "_law_number" rG)(j25:Gf K "_law_part" uq)(j26:Gf K "_law_sold" um)(j27:Gf K "_law_built" tf)(j28:Gf K "lowest" Ar)(j29:Gf K "cleared" xJ)(j30:Gf K "solved" Ap)(j31:Gf K "is_held_within" pV)(j32:Gf K "whole_group" rF)(j33:Gf K "need_no_whole_group" oF)(j34:Gf K "cut" L7)(j35:Gf K "all_cut" xK)(j36:Gf K "owning" Aq)(j37:Gf K "agreement" ul)(j38:Gm K WY "__init__" "Ways.__init__" ux)(j39:Gf K "through" xI)(j40:Gf K "_law_whole" sU)(j41:Gf K "_law_group" sZ)(j42:Gf K "_law_sum" vX)(j43:Gf K "_law_times" sV)(j44:Gf K "_law_held" ut)(j45:Gf K "_law_is_fraction" o7)(j46:Gf K "_law_caught" rH)(j47:Gf K "_law_from" uu)(j48:Gf K "_law_due" vY)(j49:Gf K "law" L6)(zr:Gz K "rules")
  :∃(a:Yl)(fd:cj),(bI K aV "rules"=Za Zb/\Adn a.YG a.Yc a.Yg)/\(∀(s:aw)(v:af),jI s fd ⟨[v],[]⟩ [("_law_script",v)])/\∀base:bi,K.In base->base.Ns aV mg->YD l.prog w K mg base (Y7 l.prog w) 11 fa fd ["_law_script"] (Y4 K a.Ye 1 (BH a)):=by
 have g:=λ{x v}=>@jD _ _ _ x v X G;obtain⟨n0,e0⟩:=x0z;obtain⟨n1,e1⟩:=x1z;obtain⟨n2,e2⟩:=x2z;obtain⟨n3,e3⟩:=x3z;obtain⟨n4,e4⟩:=x4z;obtain⟨n5,e5⟩:=x5z;obtain⟨n6,e6⟩:=x6z;obtain⟨n7,e7⟩:=x7z;obtain⟨o0,_,_,_,_,_,p0,l0⟩:=c0z;obtain⟨o1,_,_,_,_,_,p1,l1⟩:=c1z;obtain⟨t0,y0⟩:=u0z;obtain⟨t1,y1⟩:=u1z;obtain⟨t2,y2⟩:=u2z;obtain⟨f,fd,n,U⟩:=j49;cases hfa.symm.trans (g n);let a:Yl:=⟨Rm,R4,Sk,RT,Rw,RA,R5,RU,R3,Rn,BK,o0,o1,WY,t0,t1,t2,λ_ _=>false⟩;have T:Txt K mg a:=⟨z0z.at_ X G,z1z.at_ X G,z2z.at_ X G,z3z.at_ X G,z4z.at_ X G,z5z.at_ X G,z6z.at_ X G,z7z.at_ X G,z8z.at_ X G,z9z.at_ X G,Wz.at_ X G,Wx.at_ X G,Ww.at_ X G,Wv.at_ X G,Wu.at_ X G,g n0,g n1,g n2,g n3,g n4,g n5,g n6,g n7,g S9,g Ą,e0,e1,e2,e3,e4,e5,e6,e7,g y0,g y1,g y2,g p0,g p1,
  ⟨_,_,_,l0,rfl,rfl,(show 2<=aH by decide),.cons ⟨_,rfl⟩ (.cons ⟨_,rfl⟩ .nil)⟩,⟨_,_,_,l1,rfl,rfl,(show 2<=aH by decide),.cons ⟨_,rfl⟩ (.cons ⟨_,rfl⟩ .nil)⟩,⟨cb.p,cb.h,cb.o,cb.s⟩,cb.a,cb.b,cb.c,cb.d,cb.e⟩
 obtain⟨fw,dw,nw,iw,Uw⟩:=jw;have ZW:Ew K Rn Rm fw:=⟨gh.ex,nw,beq_iff_eq.mp iw,gh.me,gh.mo,gh.hd,gh.sa,gh.gr,gh.ga,gh.rd,gh.kw,gh.fi⟩;have XW:Exw K Rn:=⟨ZW.ob,gv.b,gv.c,gv.d,gv.e,gv.f,gv.g,gv.h⟩;have Sn:∀{P:ag->Prop},P Rn->P Rw->P RA->∀c∈a.cl,P c:=λh1 h2 h3 c hc=>by
  obtain rfl|hc:=ao.mp hc
  .exact h1
  .obtain rfl|hc:=ao.mp hc
   .exact h2
   .rw[ay.mp hc];exact h3
 have EO:=e4.toExw;have EH:=e5.toExw;have WA:∀{c:ag},Za true=Za (decide (c=c)):=λ{c}=>by rw[Zg rfl]
 have no:∀{c d:ag},c≠d->Za false=Za (decide (c=d)):=λh=>by rw[Zh h]
 have T2:T2z K a:=⟨Sn ⟨XW,gk.t1⟩ ⟨EO,gk.t2⟩ ⟨EH,gk.t3⟩,Sn ⟨XW,gk.a1⟩ ⟨EO,gk.a2⟩ ⟨EH,gk.a3⟩,gk.na,
  Sn ⟨XW,gk.w1.trans WA⟩ ⟨EO,gk.w2.trans (no (bH gn.h1))⟩ ⟨EH,gk.w3.trans (no (bH gn.h2))⟩,gk.nw,
  Sn ⟨XW,gk.h1.trans (no gn.h1)⟩ ⟨EO,gk.h2.trans WA⟩ ⟨EH,gk.h3.trans (no (bH gn.h3))⟩,gk.nh,
  Sn ⟨XW,gk.o1.trans (no gn.h2)⟩ ⟨EO,gk.o2.trans (no gn.h3)⟩ ⟨EH,gk.o3.trans WA⟩,gk.no⟩
 refine⟨a,fd,⟨zr.z,gn⟩,λs v=>?_,λbase _ _=>?_⟩
 .obtain⟨_,_,_,_,_,_,_,_,_,rfl,_,_⟩:=U.ex;exact .of_eq rfl
 have Y:Yz K mg a:=⟨T,_,X,G⟩;have WW:Wy K mg a:=⟨⟨cw.p,cw.h,cw.o,cw.s⟩,cw.a,cw.b,g cw.n,cw.m,cw.k⟩;have WH:Wh l.prog w K mg base "Whole" a.YG 2:=⟨⟨Rm,fw,dw,ZW,A9 ZW Uw T,Uw.binds (by first|exact bd1|exact bd2|exact bd3|exact bd4|exact bd5|exact bd6|exact bd0)⟩,g Ą⟩;have N:=λ{x st k ps sp}=>@Gf.fn l.prog w K mg base _ x st ps sp k X G;have M:=λ{x q st k ps sp}=>@Gm.mt l.prog w K mg base x q st BK ps sp k T.cl;have r0:=N j0 λU=>FN U T  ;have r1:=N j1 λU=>CN U T  ;have r2:=N j2 λU=>P8 U T  ;have d2:=Fn.imp r2 (MD (K:=K) (a:=a));have r3:=N j3 λU=>Np U T  r2;have r4:=N j4 λU=>Kb U T  r3;have r5:=N j5 λU=>Kd U T  ;have k0:=j6.bk (P:=l.prog) (w:=w) (base:=base) X G cb λU=>Nq U T;have r7:=M j7 λU=>Ed U T  ;have r8:=M j8 λU=>CO U T  r7;have r9:=M j9 λU=>Ba U T  r7;have d9:=Mt.imp r9 (yS (a:=a));have TN:=M j10 λU=>yZ U T  r8;have d10:=Mt.imp TN (yv (a:=a));have U5:=M j11 λU=>Ec U T  r0 r8;have UI:=M j12 λU=>Ir U T  U5;have d12:=Mt.imp UI (Fx (a:=a));have V1:=M j13 λU=>Kc U T  U5 TN r1;have d13:=Mt.imp V1 (HV (a:=a));have r14:=M j14 λU=>No U T  r9 TN r5 r4 r3;have d14:=Mt.imp r14 (JK (a:=a));have r15:=M j15 λU=>FM U T  ;have d15:=Mt.imp r15 (D6 (a:=a));have r16:=M j16 λU=>Iv U T  ;have X4:=Mt.imp r16 (Fy (a:=a));have r17:=M j17 λU=>Iq U T  r9;have d17:=Mt.imp r17 (Fw (a:=a));have d18:tJ l.prog w K mg base a:=Bg Y j18  ;have d19:tH l.prog w K mg base a:=Be Y j19  d18;have UV:oA l.prog w K mg base a:=CW Y j20  ;have d21:pM l.prog w K mg base a:=yA Y j21  ;have Wq:pA l.prog w K mg base a:=CT Y j22  d21;have d23:tI l.prog w K mg base a:=Bf Y j23 (T8.at_ X G) UV;have d24:rT l.prog w K mg base a:=y7 Y j24  UV;have d25:uI l.prog w K mg base a:=CS Y j25  UV Wq;have d26:uH l.prog w K mg base a:=CQ Y j26  d25 d14 Wq UV;have d27:tL l.prog w K mg base a:=Bi Y j27  UV d23 k0 d12 d13 d24 d26;have d28:AF l.prog w K mg base a:=Iu Y j28  d2;have d29:xY l.prog w K mg base a:=FO Y j29 (T7.at_ X G) ;have d30:AD l.prog w K mg base a:=Ip Y j30 (T8.at_ X G) d29;have d31:pZ l.prog w K mg base a:=wk Y j31  d17;have d32:rS l.prog w K mg base a:=yY Y j32  X4 d31;have d33:oG l.prog w K mg base a:=sD Y j33 WH  d32;have d34:Mo l.prog w K mg base a:=P9 Y j34 (UX.at_ X G) d2;have d35:xZ l.prog w K mg base a:=FP Y j35 (UX.at_ X G) d34 X4 d17;have d36:AE l.prog w K mg base a:=Is Y j36 (Wt.at_ X G) ;have d37:uG l.prog w K mg base a:=CP Y j37  d36;have d38:uL l.prog w K mg base a:=CY Y WW j38 (T8.at_ X G) (T7.at_ X G) d33 X4 d35 d30 d37 d15;have d39:vx l.prog w K mg base a:=FL Y j39 WW  d38 d10 d9 d28;have d40:tF l.prog w K mg base a:=Bb Y j40  ;have d41:tK l.prog w K mg base a:=Bh Y j41  ;have d42:tU l.prog w K mg base a:=Ee Y j42  Wq;have d43:tG l.prog w K mg base a:=Bc Y j43  Wq;have d44:uJ l.prog w K mg base a:=CU Y j44  d42 d43;have d45:o9 l.prog w K mg base a:=uW Y j45  d40 d21;have d46:rV l.prog w K mg base a:=y8 Y j46 T2  d39;have d47:uK l.prog w K mg base a:=CV Y j47 (T7.at_ X G) d39 d42 d45 d44;have d48:we l.prog w K mg base a:=Ef Y j48  ;exact P7 T U  d19 d27 d41 UV d46 d48 d47
def Lb(K:aa):Sp:=λvs H Q E=>∃(c:ag)(ns:List Int),vs=[.ref c]/\ns.length<=63/\Att.Ř ns/\Ow H/\YY K H c (ns.map V.int)/\(∀v H',v=.bl true->Q v H')
def Qx{K}{a}(ht:bI K aV "rules"=Za Zb/\Adn a.YG a.Yc a.Yg)(vs)(H)(Q)(E)(h:Lb K vs H Q E):Y4 K a.Ye 1 (BH a) vs H Q E:=by obtain⟨c,ns,rfl,hl,hw,hO,hS,k⟩:=h;exact NC hl hw ht hO hS k
def walk{l:gH}{q}{Sc}{XP}{YP}{d:DefRec}{K:Params->aa}(hn:l.most=Za 63)(VF:d.params.defaults=[])(hY:∀(w:aX)(h:bi),YP w h->(K w.params).In h)(F:∀(w:aX)(mg:Str->Option af)(fa:ag)(h:bi),(K w.params).In h->h.Ns aV mg->mg d.name=Za (.ref fa) ->
   ∃(a:Yl)(fd:cj),(bI (K w.params) aV "rules"=Za Zb/\Adn a.YG a.Yc a.Yg)/\(∀(s:aw)(u:af),jI s fd ⟨[u],[]⟩ [("_law_script",u)])/\∀base:bi,(K w.params).In base->base.Ns aV mg->YD l.prog w (K w.params) mg base (Y7 l.prog w) 11 fa fd ["_law_script"] (Y4 (K w.params) a.Ye 1 (BH a))) :
  lA q Sc XP YP l.row.toRowW d [] (λf vs=>lv f vs) :=
 L2.Ϝ (n:=63) (k:=11) (x:="_law_script") (CX:=λw=>Y7 l.prog w) (sp:=λw=>Lb (K w.params)) hn (by decide) VF ⟨rfl,by decide,by decide⟩ hY
  (λw mg fa h X G hm=>let⟨a,fd,h0,h1,h2⟩:=F w mg fa h X G hm;⟨fd,h1,λbase b1 b2=>(h2 base b1 b2).imp (Qx h0)⟩)
  (λ_ _ c ns hl hw hO hS=>⟨c,ns,rfl,hl,hw,hO,hS,λ_ _ e=>e⟩) λ_ _ _ _ _ z=>by
  obtain⟨_,_,_,_,_,_,_,_,_,_,_,_,_,z⟩:=z;exact z
end My
structure PySem.W.Fast:Prop where
 (tw14551739364209838342 tw15933901424591163838 tw2389229077163990465 tw6249318377866130175 tw15582900312401335363 tw2383674956092331420 tw6113930370278638527 tw16880335756496856750 tw2818421272917898185 tw5311005483229452244 tw9204761996336975842 tw9028426501761566051 tw16391803196828428146 tw16153952195426777532 tw11820204245990876077 tw2771978251110994764 tw8532102448739691490 tw9863963602357325519 tw10598462310356566182 tw7124999183553050783 tw12687166165602796674 tw8478876509755358813 tw14757408030292485166 tw12971033266276154107 tw18437344038040942898 tw3193373502834398074 tw16744628663323867098 tw7304996997199014137 tw13711238777189178040 tw6947084206822519515 tw18210401436829714380 tw4911770317761154337 tw16080089318596387569 tw9196581087103248525 tw9515941587374609407 tw7378266371750678350 tw6025027729428464979 tw8001880311549466712 tw14845253421822615927 tw4375164639972466418 tw13020475532692947500 tw12382419180136628343 tw9987951308657223817 tw7991783549444887576 tw9996296939186820834 tw16524268830681470435 tw10793684048544996276 tw8936553754831266107 tw9132235386094330088 tw12627654280014469331 tw7638027092373876274 tw9539937898301078666 tw17282305519832843595 tw10785185402024993995 tw13913662204271752219 tw1073863057231224394 tw9244121445225563191 tw1529396070959824356 tw3833742184959269822 tw9166421063144910548 tw7939084783118625272 tw1670165818258067334 tw10711658733543694421 tw1828192483505186862 tw17181043830568754155 tw9619043403408769554 tw5962746855575561139 tw3404245854063758373 tw14259963446414540409 tw9302609538110430753 tw7360378839258563031 tw15654963302445897884 tw672680164840135735 tw15721939697978466133 tw7415270658200590821 tw8581426818306647330 tw365503741258940814 tw17443155796681142455 tw14654190865961323413 tw16877134454964714849 tw1459623436236179861 tw2803881865785300702 tw1829256061887807695 tw1500155110665978720 tw15450584257190941091 tw521623643013053576 tw447197461031342760 tw11910245629912646474 tw18161374932950043217 tw15176901523271246361 tw8944317928677314552 tw8090673607348953127 tw7286219663854822213 tw14521713138208170402 tw13761161790030567698 tw812851293874192202 tw2899336585586107513 tw15833410525464462529 tw9486208362092185471 tw5888268573197931902 tw10673477225068110880 tw17690936674220054199 tw126590344071189668 tw7013127798619282991 tw2295718801960842068 tw8844941234478748004 tw5993158358220630857 tw17539391289645590378 tw16549883538192463184 tw10305904904147908154 tw16502078272658603932 tw163110567178543262 tw10011881517215826650 tw4335434579047542765 tw4707956993993843665 tw16605644889266773508 tw4093429892371821590 tw529931282363593494 tw17500790313324795081 tw16892352969055950260 tw6673345381642982043 tw9804427508961460922 tw18166263453298482005 tw2230104218541324967 tw12803243154644510678 tw10603451095177240428 tw18328890543719109746 tw2678651727099351277 tw12686370178700720819 tw12773823649180146478 tw15561539878666517629 tw6217930779391954172 tw15337687990579420802 tw4111082368655446353 tw9787429290104441863 tw10254631050108602956 tw3343084323406907859 tw3510430819610362484 tw5611268080619749456 tw11330936834234806070 tw7860754278244931100 tw14032600764231056541 tw13846085509376420093 tw2728142252479873472 tw11722965870396835152 tw7029679851317751968 tw9283482291365320936 tw11027475556890261487 tw16209674739376066901 tw6319260993117686038 tw6841175151136432928 tw10246879267335433179 tw15808095199686262921 tw14660794411978122731 tw15050822181704730870 tw9190427805812895357 tw16823287052694371687 tw16856689806683527420 tw7771755074147309580 tw2812910733629429510 tw4460904003654809152 tw3538147228603655511 tw14292470165930611458 tw1753705798085424922 tw8508953150205722739 tw6816265265818767295 tw9682919928597335513 tw12947792787416379021 tw13179627379291511114 tw9434531124659852241 tw1816527980839161806 tw3458339242999289545 tw17120519231493741045 tw10018908158247426353 tw9442455881305573633 tw13334730583428277066 tw13527207035972213792 tw4297458502949488141 tw13287864979007477304 tw10927586597412124414 tw18427519283970546597 tw7896340199320344360 tw13288603777750968860 tw11182128379211608584 tw5523932234414023303 tw12521055914648845284 tw13097901474177342411 tw11085955763325057675 tw1159408646551292751 tw14538062491781028609 tw16259127323531241186 tw3189759364265319217 tw14702467504523485696 tw9442440398881363285 tw2113502712099230223 tw16016284329330672902 tw7780442950434634834 tw14833972185120546416 tw499062961316035242 tw6260892383468037544 tw11181665984861691826 tw9140788004015198496 tw7000545299584480386 tw298779436288917836 tw11700079979985774635 tw11542189304354715392 tw11860223340870802742 tw7626051150522853949 tw1730118993991879158 tw8873278663837615241 tw9501674661335364786 tw18384051590212112909 tw13111348256646921165 tw17703199091705582107 tw14542139025107631376 tw15040961550650745177 tw1916821432966954827 tw7210019881994990014 tw4892157733664509852 tw5035357394491102570 tw4229715070855312842 tw11763381921934867116 tw5631962195288014475 tw15710153824173566703 tw327839998721465291 tw5650375600266770981 tw15616320230659227691 tw4585107830478988844 tw2689398753997786213 tw3051787453137555892 tw14208432582323136178 tw12212972014350285478 tw17897507747411763005 tw4575032067808123504 tw11607091010235986997 tw10400936822243267131 tw3313654634290654157 tw14507884394940053194 tw14847909323657195123 tw2460237326636351457 tw14555334674700058359 tw1928309934807902746 tw7974762032984141680 tw5377363828247964831 tw15229924112722816813 tw88903239492436559 tw17378491427737314052 tw7368876385895665108 tw844547567453755072 tw14487974097618853631 tw4602759362052632263 tw14466145508966276651 tw7139047794678788382 tw6466508649680492275 tw5119902205745547038 tw6880478095259746416 tw2853963663413435932 tw236760701403675152 tw7639813246516755671 tw3627981110665999792 tw8396947841889886380 tw15439702311815262123 tw17943818740476031413 tw3211531609964625774 tw12513783219559726048 tw7230003910500555510 tw8251706734875738158 tw14224726226516597321 tw14237676390353666361 tw3942027732368857734 tw715614366598238874 tw10667138375418650067 tw5386411347538940775 tw10328836221871671659 tw5898980798235723417 tw16125967171702286960 tw4188105834898848000 tw9111395008371329952 tw10786630183906869356 tw8651475093652907677 tw2251958257020711269 tw9297065004592533852 tw11084309022453663370 tw1179126947050233881 tw15119992306999148477 tw12245144012986031472 tw14891207249315835517 tw17048482886861495763 tw4706174359257122974 tw6309873321914905964 tw11271479904118471311 tw306758053100740687 tw2983269359308510913 tw7352827854923142786 tw11642128617230393134 tw2557797815738919790 tw16966047764569725873 tw2700137466246526168 tw9832042218160883774 tw11703811333752401792 tw3143045127436903587 tw11453116411373563429 tw6886505399427870858 tw15102893236217044478 tw1035957320048270316 tw8624121475451761896 tw11471363107150361680 tw2672049027882060609 tw17046858556339526252 tw12682366815662285389 tw11998861047578905599 tw343688347043240188 tw8156340185670339963 tw14605779885872608927 tw5285033470617804609 tw16780259979360212982 tw6178407420495941439 tw4684263719454338398 tw2969415809499814299 tw17670751086428009786 tw15546662946668957927 tw236789143205126565 tw3116100530592859180 tw18096209867029797517 tw6199833329790680206 tw6033981623807865398 tw14881437739598228518 tw17455331561739811505 tw10030415067651903524 tw10293237134477061249 tw9033176986541194168 tw6115588028386944951 tw14781269274008382382 tw8747056751859278821 tw11703946425677639415 tw3649793538028190408 tw11399517457151727027 tw11625207506947772387 tw5623959524687953706 tw14036759160368430419 tw16400866342476446424 tw6559159964677254545 tw4224363467481744843 tw2966348429922884964 tw12697762247549113094 tw13270544996571364470 tw14929070028191494886 tw5974923623640133739 tw14579751554822553529 tw10203622334633347172 tw5676350987164565320 tw8084380952025204068 tw11231052759644843594:True)
open PySem.W
set_option maxRecDepth 100000 in
set_option maxHeartbeats 0 in
theorem PySem.Challenge.cw_wholeowners_k13_ways_through_holds : PySem.Challenge.rw_wholeowners_k13_ways_through.Holds := by
 w_on;o_law;k_head;(case hw=>w_witness2)
 k_fill
 refine My.walk (l:=PySem.Challenge.rw_wholeowners_k13_ways_through) rfl rfl (λw h Y=>PySem.W.kIn_of Y) ?F
 case F =>
  intro w mg fa h KX G Vo;apply My.all_mk KX G Vo
  all_goals first
   |(apply L2.gf<;>k_is)
   |(apply L2.gm<;>k_is)
   |(apply My.gxa;(focus k_is);(focus k_exc);all_goals k_is)
   |(apply My.Gk.mk<;>first|k_is|kit_is|kernel_rfl)
   |(apply My.Adn.mk<;>decide)
   |(apply My.Gxw.mk<;>k_is)
   |(apply My.Gwh.mk<;>first|k_is|kernel_rfl)
   |(apply L2.gx;(focus k_is);(focus k_exc);all_goals k_is)
   |(apply L2.gt<;>k_is)
   |(apply L2.gi;k_is)
   |(apply L2.Gz.mk;k_is)
   |(apply L2.Gb.mk<;>k_is)
   |(apply My.Gw.mk<;>k_is)
   |k_is

