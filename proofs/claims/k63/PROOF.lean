import PyProof.Rows.All
import Wide.All
import OpenK.AllK
import Wide.FinOn
import Lean
import PyProof.EqAt
import PyProof.EqKinds
import PyProof.TupleCall
import KE.KLam
import KE.KNest
import PySem.Challenge.RW_wholeowners_k63_whole_what_a_sale_change
import KE.KNestM
import KE.KIsAll
import PyProof.EnumFor
import PyProof.EnumStmt
import PyProof.EnumMake
import PyProof.StrOps2
import PyProof.ZipIter
import PyProof.Rows.SumAny
import PyProof.AttrMissHeap
import KE.KDictOf
import PyProof.SumWalk
import PyProof.DictWalks
import KE.KEqDict
theorem Zf{p}[i:Decidable p](h:decide p=true):p:=of_decide_eq_true h
theorem Zg{p}[i:Decidable p](h:p):decide p=true:=decide_eq_true h
theorem Zh{p}[i:Decidable p](h:¬p):decide p=false:=decide_eq_false h
open Option renaming some→Za,none→Zb
theorem Zc{c:Prop}{h:Decidable c}(k:c){α}{t e:α}:ite c t e=t:=if_pos k
theorem Zd{c:Prop}{h:Decidable c}(k:¬c){α}{t e:α}:ite c t e=e:=if_neg k
open PySem.W renaming Frag->aa,findIn->aU,nsIn->bO,fnOf->bV,keepIn->cD,emptyDict->cE,instObj->dk,plainGet->ee,hasDictIn->fb,makesIn->fK,codeIn->fX,specialIn->gg,plainOver->gh,mroIn->gn,OpenLaw->gC,isFn->gE,hideAll->gG,lookIn->gX,plainGet_of->ii,callWith_K->iA,methodObj->iH,takesIn->i8,takerIn->i9,mg_of->jv,excIn->jw,cellsFrom_some->jH,methodCall_KW->jR,hideAll_get->kh,callWith_K0->ki,of_hideAll->kH,handedIn->kY,WalkO->kZ
open List renaming length_map->ac,mem_cons_of_mem->ae,mem_cons->af,mem_map->ah,mem_cons_self->ai,map_cons->al,mem_singleton->ap,map_append->au,getElem?_eq_getElem->aw,mem_append_right->aA,getElem?_map->aC,length_append->aD,map_map->aH,nodup_cons->aI,mem_append->aJ,size_toArray->aM,mem_append_left->aO,replicate->aR,map_congr_left->aV,getElem?_eq_some_iff->aW,length_cons->aY,mem_filter->bu,range->bw,find?_cons->bF,lookup_cons->bI,nodup_append->bJ,eq_nil_of_length_eq_zero->bT,mem_iff_getElem?->bX,length->b6,getElem_mem->ce,find?_eq_none->cy,length_eq_zero_iff->cB,mem_range->cF,getElem?_append_right->cG,getElem?_eq_none->cJ,not_mem_nil->cK,any_eq_true->cL,any_cons->cO,append_nil->cT,replicate_succ->cY,lookup->de,all_eq_true->dg,pairwise_cons->di,getElem?_append_left->dq,mem_of_getElem?->dy,map_nil->dA,length_singleton->dQ,length_replicate->dR,take_add_one->dX,flatten_cons->dY,length_take->eK,mem_of_find?_eq_some->eO,drop_eq_getElem_cons->eP,filterMap_cons->eQ,find?_some->eV,getElem?_cons_zero->fj,find?_map->fw,drop_eq_nil_of_le->fz,length_filter_le->fI,filter_map->fU,length_pos_iff->fY,getElem?_range->fZ,find?_isSome->gB,take_length->gI,length_drop->gJ,getElem?_replicate->gK,getElem?_cons_succ->gL,filter_cons->gM,take_of_length_le->gS,any_map->gT,nil_append->g5,nodup_nil->iq,map_id->ir,filter_eq_self->iG,sum_cons->iJ,all_cons->iK,ne_nil_of_mem->iN,mem_filterMap->iO,findIdx?_eq_some_iff_getElem->iU,find?_append->i0,ext_getElem?->i6,map_fst_zip->je,of_mem_zip->jm,length_nil->jn,perm_ext_iff_of_nodup->jF,zipWith->kr,range_succ_eq_map->ku,getElem?_set_self->ky,all_map->kA,take_append_drop->kM,cons_lt_cons_iff->kN,mem_of_mem_take->kR,mem_of_mem_drop->kS,getElem?_set_ne->kT,drop_eq_nil_iff->kU,filter_sublist->lg,foldl->lH,append_of_mem->lI
open PySem renaming Value->ag,Addr->ak,wpAny_bind->aq,Shared->ax,starEach->aB,sizeLine->aK,Program->aL,wpAny_pure->aN,wpAny->aS,mainGlobals->bc,World->bh,Expr->bo,Heap->bv,wpAny_mono->bM,bootBuiltins->bN,compareOp->bP,Stmt->bQ,backTo->bY,foldedSetIterable->bZ,FuncData->cq,attributeBase->cz,Around->cA,assignEach->cQ,behindInMarks->cR,keywordEach->cW,mem_of_lookup->dD,lookup_relabel_local->dE,binaryOp->dF,Scope->dH,swapsWith->dM,sysModules->dS,wpAny_passesOwn->ed,Spec->eg,wpAny_holding->ei,wpAny_truthy_bool->eI,wpAny_newObj_type->eJ,backToKw->eR,cLine->eY,Paired->fc,wpAny_comprehension_free->fu,wpAny_Call_Name_kw->fD,tupleKind_room_in1->fE,Keyword->fM,getMethod->fW,wpAny_standAt->f6,sliceBounds->f8,bindArgs->f9,standAt->gv,codeAny->gw,wpAny_pyIter_list->gP,swapsWithSole->gU,swappedStores->gW,reprText->ig,NameKind->im,getItem->iy,call_meets->iz,wpAny_execs_nil->iE,letOwnedTupleGo->iF,strIterType->iP,callWith->iQ,IntMulOk->iT,valueAt->iX,tupleKind->iY,builtinsNs->jf,wpAny_assign_Name->jp,codeAny_mono->jq,callerA->jt,call_meetsIn->ju,BindsTo->jz,PyData->jI,IsPart->jJ,Arguments->jL,sizeLine_eq->jQ,Within->jY,setItem->kf,notedBy->kg,atKey->kG,evalArgs_none->kP,call->kW,assignInOrder->kX,wpAny_Call_method0_late->lv,bindL->lw,bindC->ly,Builtin->lA
open Sum renaming inr->aj,inl->i7
open And renaming intro->am
open Nat renaming le_refl->ao,lt_of_lt_of_le->ay,le_trans->aE,ne_of_lt->aG,lt_of_le_of_lt->aX,zero_le->a7,pow_le_pow_right->b7,lt_succ_of_lt->cj,lt_succ_self->cC,two_pow_pos->cX,le_of_lt->dN,lt_irrefl->dP,le_of_ble_eq_true->dW,le_of_not_lt->eM,zero_add->fF,lcm->fR,le_succ->fS,ne_of_gt->gc,eq_of_mul_eq_mul_left->gA,pow_succ->gY,lt_trans->gZ,pow_add->jk,le_antisymm->jA,mod_two_eq_zero_or_one->jM,mul_assoc->jZ,add_assoc->ka,add_sub_cancel_left->kq,mul_comm->kJ,le_of_eq->kK,add_comm->kL,pow_lt_pow_right->lc,mul_pos->lf,mul_le_mul_left->lE,add_le_add_left->lG
open PySem.Heap renaming get?_push_of_some->ar,lt_size->az,get?_push_size->ba,SameBut->iZ,size_push->jB,get?_update_other->kl
open Int renaming gcd->aF,mul_assoc->aT,mul_le_mul_of_nonneg_right->aZ,mul_comm->br,mul_pos->bx,le_of_lt->bA,gcd_pos_of_ne_zero_right->bG,gcd_dvd_right->cm,emod_lt_of_pos->cN,mul_ediv_cancel_left->cP,emod_nonneg->dB,eq_of_mul_eq_mul_right->eE,toNat_of_nonneg->eT,mul_right_comm->fk,mul_nonpos_of_nonneg_of_nonpos->fm,natCast_dvd_natCast->ft,mul_left_comm->fG,natAbs_dvd_natAbs->fJ,gcd_dvd_left->fQ,neg_mul->gD,ofNat_le->g7,le_trans->g8,natAbs_neg->iC,natAbs_mul->iD,natAbs_natCast->iV,mul_nonpos_of_nonpos_of_nonneg->iW,zero_mul->jb,gcd_mul_left->ji,ediv_eq_of_eq_mul_right->jG,mul_nonneg->jO,le_of_mul_le_mul_right->jP,mul_one->lh,le_refl->li
open Option.some renaming inj->aP
open PySem.Str renaming ofString->aQ,empty->cx
open Bool renaming false_ne_true->a6,eq_iff_iff->bS,and_eq_true->cg,or_eq_true->du,eq_false_iff->dZ,false_and->fA,true_and->iL,false_or->jW
open PySem.PyData renaming strOk->bi,eqv->bH,eqvAll->b5,str->d6,canLay0->ia,depth->iM,canLayAll0->k9
open PySem.Value renaming ref->bj,int->f7,str->io,none->k6,bool->k7
open Rat renaming mul_nonneg->bK,natCast_le_natCast->cH,intCast_natCast->cI,intCast_mul->cU,le_trans->da,mul_le_mul_of_nonneg_left->dL,divInt->ej,divInt_nonneg_iff_of_pos_right->eZ,intCast_lt_intCast->fB,add_zero->fC,intCast_sub->g9,intCast_add->hJ,mul_pos->iu,le_refl->iw,natCast_mul->jo,divInt_eq_divInt_iff->jX,intCast_eq_zero_iff->ke,mul_zero->kC,le_of_lt->kD,divInt_add_divInt->kO
open PySem.NameKind renaming free->bL,cell->ij
open False renaming elim->bR
open PySem.Builtin.Int renaming intBits->bU
open Ne renaming symm->bW
open Classical renaming byContradiction->b8,propDecidable->dC
open Option renaming isSome_map->ci,isSome_iff_exists->dw,isSome_eq_false_iff->d8,isNone_iff_eq_none->eA,map_eq_none_iff->gH,map->kQ,getD_none->lC
open Sum.inr renaming inj->cM
open PyProof.Rows renaming callWith_type1->dG,slot_tuple_getitem->dI,envOfC->fg,AllBare->gR,subscriptTail->jd,assignInOrder_cons->jh
open PySem.Calls renaming callWith_builtin->dJ,spliced_cons->eU,evalArgs_plain->fO,spliced_nil->gu,Name_function_global->jy,Constant_str->la
open PySem.Builtin.Slice renaming slicePlaces->dO,sliceAdjust->fP,sliceApplied->iI
open PySem.Builtin.Tuple renaming tupleExact->dU
open List.cons renaming inj->eB
open ForInStep renaming yield->eL
open True renaming intro->eX
open Or renaming inl->fH,inr->ib
open PySem.Spec renaming ltCps->fL
open PySem.Builtin.List renaming listTooLong->fT
open Array renaming length_toList->fV,getElem?_toList->kB,append_assoc->lr
open PySem.F renaming plainAttrs_list->gy,plainAttrs_dict->gz,slot_list_getattribute->gN,slot_dict_get->gO,excBase_ValueError->jg,slot_dict_getitem->jj,slot_dict_values->jx,slot_list_index->jC,args_dict_get_3->jD,entry_dict_get->jK,slot_dict_pop->jU,slot_list_append->kI,slot_list_pop->lz
open PySem.W.WData renaming int->gF,weightAll->gQ
open PySem.Expr renaming Subscript->ip
open PySem.Paired renaming length->iB,snoc->kj
open PySem.PassesOwn renaming never->iR
open PySem.Obj renaming mapSeq->iS
open PySem.Builtin.Dict renaming updateFrom->ja,pairItems->jc
open Nat.succ renaming inj->jE
open List.Sublist renaming refl->jN
open PySem.SeqAt.EqAt renaming str_int->jS,int_str->jT
open PySem.Around renaming under->jV,under_plainId->ko
open PySem.Heap.DictOf renaming new->km
open PySem.Code renaming isFrame->kn
open PySem.SeqAt renaming EqAt->k8
set_option compiler.extract_closed false
set_option bootstrap.genMatcherCode false
set_option genSizeOf false
noncomputable section
set_option Elab.async false
set_option linter.all false
set_option autoImplicit true
set_option maxRecDepth 100000
namespace L2
open PySem PySem.Spec PyProof.Rows
abbrev Key:=Sum Int Str
def AV:Key->ag->Bool
 |.inl k,v=>Value.isInt k v
 |.inr x,v=>Value.isStrOf x v
def keyH(w:bh):Key->Int
 |.inl k=>hashInt k
 |.inr x=>hashStr w x
def m6:∀{k:Key}{v:ag},AV k v=true->(∃i t,k=i7 i/\v=f7 i t)\/(∃x t,k=aj x/\v=io x t)
 |.inl i,v,h=>by
  obtain⟨t,e⟩:=Value.isInt_shape (k:=i) (v:=v) h;exact .inl ⟨i,t,rfl,e⟩
 |.inr x,v,h=>by obtain⟨t,e⟩:=Value.isStrOf_shape (x:=x) (v:=v) h;exact .inr ⟨x,t,rfl,e⟩
def Hy(i)(t):AV (.inl i) (.int i t)=true:=by simp[AV,Value.isInt]
def Hw(x)(t):AV (.inr x) (.str x t)=true:=by simp[AV,Value.isStrOf]
def Ou(a b):decide ((i7 a:Key)=i7 b)=(a==b):=by
 by_cases e:a=b
 ·subst e;simp
 ·have h:¬(i7 a:Key)=i7 b:=λq=>e (Sum.inl.inj q);rw[Zh h];exact(beq_eq_false_iff_ne.mpr e).symm
def AL(a b):decide ((aj a:Key)=aj b)=decide (a=b):=by
 by_cases e:a=b
 ·subst e;simp
 ·have h:¬(aj a:Key)=aj b:=λq=>e (cM q);rw[Zh h,Zh e]
def Ot(a)(b):decide ((i7 a:Key)=aj b)=false:=Zh (λq=>nomatch q)
def Os(a)(b):decide ((aj a:Key)=i7 b)=false:=Zh (λq=>nomatch q)
def mT(prog:aL)(w:bh):PySem.KeyKind prog w Key where
 is:=AV
 hash:=keyH w
 inj:=λv a b ha hb=>by
  rcases m6 ha with⟨i,t,rfl,rfl⟩|⟨x,t,rfl,rfl⟩
  ·rcases m6 hb with⟨j,u,rfl,e⟩|⟨y,u,rfl,e⟩
   ·injection e with e1 _;rw[e1]
   ·exact nomatch e
  ·rcases m6 hb with⟨j,u,rfl,e⟩|⟨y,u,rfl,e⟩
   ·exact nomatch e
   ·injection e with e1 _;rw[e1]
 byValue:=λk v h=>by rcases m6 h with⟨i,t,rfl,rfl⟩|⟨x,t,rfl,rfl⟩<;>rfl
 pyHash:=λhv h=>by
  rcases m6 hv with⟨i,t,rfl,rfl⟩|⟨x,t,rfl,rfl⟩
  ·exact wpAny_pyHash_int h
  ·exact wpAny_pyHash_str h
 eqBool:=λhu hv h=>by
  rcases m6 hu with⟨i,t,rfl,rfl⟩|⟨x,t,rfl,rfl⟩
  ·rcases m6 hv with⟨j,u,rfl,rfl⟩|⟨y,u,rfl,rfl⟩
   ·rw[Ou] at h;exact wpAny_eqBool_int h
   ·rw[Ot] at h;exact jT i t y u _ _ _ _ h
  ·rcases m6 hv with⟨j,u,rfl,rfl⟩|⟨y,u,rfl,rfl⟩
   ·rw[Os] at h;exact jS x t j u _ _ _ _ h
   ·rw[AL] at h;exact wpAny_eqBool_str h
 «strs»:=λk x t v h=>by
  rcases m6 h with⟨i,u,rfl,e⟩|⟨y,u,rfl,e⟩
  ·exact nomatch e
  ·injection e with e1 _
   subst e1;cases v<;>rfl
def Dr(prog)(w)(i)(t):(mT prog w).is (.inl i) (.int i t)=true:=Hy i t
def Dq(prog)(w)(x)(t):(mT prog w).is (.inr x) (.str x t)=true:=Hw x t
inductive V where
 |non|bl (b:Bool)|int (i:Int)|str (x:Str)|byt (b:Array UInt8)|flt (b:UInt64)|ref (a:ak)|ty (n:String)
 deriving DecidableEq
def RelV:V->ag->Prop
 |.non,u=>u=k6
 |.bl b,u=>u=k7 b
 |.int i,u=>∃t,u=f7 i t
 |.str x,u=>∃t,u=io x t
 |.byt b,u=>∃t,u=Value.bytes b t
 |.flt b,u=>∃t,u=Value.float b t
 |.ref a,u=>u=bj a
 |.ty n,u=>u=Value.type n
abbrev Vals:List V->List ag->Prop:=fc RelV
theorem Vals.length(r:Vals xs us):xs.length=us.length:=iB r
theorem Vals.get:∀{xs:List V}{us:List ag}{i:Nat}{x:V},Vals xs us->xs[i]?=Za x->∃u,us[i]?=Za u/\RelV x u
 |_,_,_,_,.nil,e=>by simp at e
 |_,_,0,_,.cons r _,e=>by simp at e;subst e;exact⟨_,rfl,r⟩
 |_,_,i+1,x,.cons _ t,e=>by obtain⟨u,h1,h2⟩:=Vals.get (i:=i) (x:=x) t (by simpa using e);exact⟨u,by simpa using h1,h2⟩
theorem Vals.set(r:RelV x u):∀{xs:List V}{us:List ag}(i:Nat),Vals xs us->Vals (xs.set i x) (us.set i u)
 |_,_,_,.nil=>.nil
 |_,_,0,.cons _ t=>.cons r t
 |_,_,i+1,.cons q t=>.cons q (Vals.set r i t)
theorem Vals.append:∀{xs ys:List V}{us ws:List ag},Vals xs us->Vals ys ws->Vals (xs++ys) (us++ws)
 |_,_,_,_,.nil,s=>s
 |_,_,_,_,.cons r t,s=>.cons r (Vals.append t s)
theorem Vals.take:∀{xs:List V}{us:List ag}(n:Nat),Vals xs us->Vals (xs.take n) (us.take n)
 |_,_,0,_=>.nil
 |_,_,_+1,.nil=>.nil
 |_,_,n+1,.cons r t=>.cons r (Vals.take n t)
theorem Vals.drop:∀{xs:List V}{us:List ag}(n:Nat),Vals xs us->Vals (xs.drop n) (us.drop n)
 |_,_,0,r=>r
 |_,_,_+1,.nil=>.nil
 |_,_,n+1,.cons _ t=>Vals.drop n t
def RelO:Option V->Option ag->Prop
 |some v,Za u=>RelV v u
 |none,Zb=>True
 |_,_=>False
def KV{κ:Type}:List (κ×V)->List (κ×ag)->Prop:=fc λ(p:κ×V)(q:κ×ag)=>p.1=q.1/\RelV p.2 q.2
def kV:Key->V
 |.inl i=>.int i
 |.inr x=>.str x
inductive HO where
 /-- a list -/
 |lst (xs:List V)
 /-- a tuple (never changes) -/
 |tup (xs:List V)
 /-- a dict whose keys are ints and texts;one whose keys are tuples of ints and texts (the empty one is both) -/
 |dK (kvs:List (Key×V))|dT (kvs:List (List Key×V))
 /-- a set of ints: its members,its size -/
 |set (S:Int->Bool) (n:Nat)
 /-- an instance of the class at C,its dict at dx,its attributes -/
 |ins (C dx:ak) (fs:List (Str×V))
 /-- the dict of the instance at x -/
 |own (x:ak)
 /-- the dict of an exception -/
 |xd (fs:List (Str×V))
 /-- a bound method,f of x -/
 |met (f x:ak)
 /-- a range object lo,lo+1,.. below hi -/
 |rng (lo hi:Int)
 /-- a thing that is known to the object (the script;a dict while a loop walks it): read,never written while it is so -/
 |frz (o:Obj) (u:HO)
 /-- a code object's table -/
 |tbl (ps:Array ag)
 /-- any Q0 thing,by what is true of its one object (a def of one's own: SetO a S n:=HO.ext λh=>..) -/
 |ext (φ:bv->Prop)
abbrev Hp:=ak->Option HO
def upd(H:Hp)(a:ak)(o:HO):Hp:=λb=>if b=a then Za o else H b
def lQ:upd H a o a=Za o:=by unfold upd;rw[Zc rfl]
def lO(h:b≠a):upd H a o b=H b:=by unfold upd;rw[Zd h]
def wI:upd (upd H a o) a u=upd H a u:=by
 funext b;unfold upd;split<;>rfl
def C2{H:Hp}{a b:ak}{o u:HO}(h:H a=Za o)(h':H b=Za u)(d:o≠u):a≠b:=by intro e;subst e;rw[h] at h';exact d (aP h')
def mh{H:Hp}{a b:ak}{o:HO}(h:H a=Za o)(h':H b=Zb):a≠b:=by intro e;subst e;rw[h] at h';cases h'
section
variable(P:aL)(w:bh)
def ObjOk(H:Hp)(h:bv)(a:ak):HO->Prop
 |.lst xs=>xs.length<=aK/\∃(its:List ag)(n:Nat),Vals xs its/\h.get? a=Za { cls:=.type "list",data:=.seq its.toArray n }
 |.tup xs=>xs.length<=aK/\∃its:List ag,Vals xs its/\IsTup h a its.toArray
 |.dK kvs=>kvs.length<=aK/\(a==dS)=false/\∃vs,KV kvs vs/\h.DictOf (mT P w) a vs
 |.dT kvs=>kvs.length<=aK/\(a==dS)=false/\∃xs:List (List Key×ak×ag),
   fc (λ(p:List Key×V)(q:List Key×ak×ag)=>p.1=q.1/\H q.2.1=Za (.tup (p.1.map kV))/\RelV p.2 q.2.2) kvs xs /\
   ∃o es ep,h.get? a=Za o/\o.ExactDict/\o.data=.dict es ep/\es.toList=xs.map (entryOfKey (iY (mT P w)))/\(xs.map (·.1)).Nodup
 |.set S n=>h.SetOf (intKind P w) a S n
 |.ins C dx fs=>H dx=Za (.own a)/\fs.length<=1000/\dx≠a/\h.get? a=Za (dk C dx) /\
   ∃mA,h.Ns1 dx mA/\(∀f,RelO (fs.lookup f) (mA f))/\jY mA (fs.map (·.1))
 |.own _=>∃o,h.get? a=Za o
 |.xd fs=>∃mA,h.Ns1 a mA/\∀f,RelO (fs.lookup f) (mA f)
 |.rng lo hi=>∃t u v,h.get? a=Za { cls:=.type "range",data:=.fields #[.int lo t,.int hi u,.int 1 v] }
 |.frz o u=>h.get? a=Za o/\ObjOk H h a u
 |.tbl ps=>h.get? a=Za { cls:=.none,data:=.fields ps }
 |.met f x=>h.get? a=Za (iH (.ref f) (.ref x))
 |.ext φ=>φ h/\(∃o,h.get? a=Za o)/\∀h1 h2:bv,φ h1->(∀o,h1.get? a=Za o->h2.get? a=Za o)->φ h2
def HOk(H:Hp)(h:bv):Prop:=∀a o,H a=Za o->ObjOk P w H h a o
end
section
variable{P:aL}{w:bh}{H H':Hp}{h h':bv}{a:ak}{o:HO}
theorem ObjOk.lt(x:ObjOk P w H h a o):a<h.objs.size:=by
 cases o with
 |lst xs=>obtain⟨_,_,_,_,e⟩:=x;exact az e
 |tup xs=>obtain⟨_,_,_,p⟩:=x;exact p.lt
 |dK kvs=>obtain⟨_,_,_,_,o,_,_,e,_⟩:=x;exact az e
 |dT kvs=>obtain⟨_,_,_,_,o,_,_,e,_⟩:=x;exact az e
 |set S n=>obtain⟨o,_,_,_,e,_⟩:=x;exact az e
 |ins C dx fs=>obtain⟨_,_,_,e,_⟩:=x;exact az e
 |own y=>obtain⟨_,e⟩:=x;exact az e
 |xd fs=>obtain⟨_,⟨_,_,_,e,_⟩,_⟩:=x;exact az e
 |rng lo hi=>obtain⟨_,_,_,e⟩:=x;exact az e
 |frz ob u=>obtain⟨e,_⟩:=x;exact az e
 |tbl ps=>exact az (show h.get? a=Za _ from x)
 |met f y=>exact az (show h.get? a=Za _ from x)
 |ext φ=>obtain⟨_,⟨_,e⟩,_⟩:=x;exact az e
theorem fc.mapP:∀{la1:List α}{la2:List β},fc F la1 la2->(∀a b,F a b->G a b)->fc G la1 la2
 |_,_,.nil,_=>.nil
 |_,_,.cons r t,f=>.cons (f _ _ r) (fc.mapP t f)
def ObjOk.stay(x:ObjOk P w H h a o)(k:∀b u,(b=a\/H b=Za (.own a))->h.get? b=Za u->h'.get? b=Za u)(ho:∀b,H b=Za (.own a)->H' b=Za (.own a))(ht:∀b xs,H b=Za (.tup xs)->H' b=Za (.tup xs)):ObjOk P w H' h' a o:=by
 induction o with
 |lst xs=>obtain⟨z,its,n,r,e⟩:=x;exact⟨z,its,n,r,k _ _ (.inl rfl) e⟩
 |tup xs=>obtain⟨z,its,r,ob,e,c⟩:=x;exact⟨z,its,r,ob,k _ _ (.inl rfl) e,c⟩
 |dK kvs=>obtain⟨z,y,vs,r,ob,es,ep,e,c⟩:=x;exact⟨z,y,vs,r,ob,es,ep,k _ _ (.inl rfl) e,c⟩
 |dT kvs =>
  obtain⟨z,y,xs,r,ob,es,ep,e,c⟩:=x;exact⟨z,y,xs,fc.mapP r λp q z=>⟨z.1,ht _ _ z.2.1,z.2.2⟩,ob,es,ep,k _ _ (.inl rfl) e,c⟩
 |set S n=>obtain⟨ob,es,ep,t,e,c⟩:=x;exact⟨ob,es,ep,t,k _ _ (.inl rfl) e,c⟩
 |ins C dx fs =>
  obtain⟨d,z,ne,e,mA,⟨od,es,ep,e2,c⟩,r⟩:=x;exact⟨ho _ d,z,ne,k _ _ (.inl rfl) e,mA,⟨od,es,ep,k _ _ (.inr d) e2,c⟩,r⟩
 |own y=>obtain⟨ob,e⟩:=x;exact⟨ob,k _ _ (.inl rfl) e⟩
 |xd fs=>obtain⟨mA,⟨od,es,ep,e,c⟩,r⟩:=x;exact⟨mA,⟨od,es,ep,k _ _ (.inl rfl) e,c⟩,r⟩
 |rng lo hi=>obtain⟨t,u,v,e⟩:=x;exact⟨t,u,v,k _ _ (.inl rfl) e⟩
 |frz ob u ih=>obtain⟨e,q⟩:=x;exact⟨k _ _ (.inl rfl) e,ih q⟩
 |tbl ps =>
  have e:h.get? a=Za { cls:=.none,data:=.fields ps }:=x;show h'.get? a=Za { cls:=.none,data:=.fields ps };exact k a _ (.inl rfl) e
 |met f y =>
  have e:h.get? a=Za (iH (.ref f) (.ref y)):=x;show h'.get? a=Za (iH (.ref f) (.ref y));exact k a _ (.inl rfl) e
 |ext φ=>obtain⟨p,⟨o,e⟩,st⟩:=x;exact⟨st _ _ p λo q=>k _ _ (.inl rfl) q,⟨o,k _ _ (.inl rfl) e⟩,st⟩
theorem HOk.lt(x:HOk P w H h)(e:H a=Za o):a<h.objs.size:=(x a o e).lt
def HOk.fresh(x:HOk P w H h)(e:h.objs.size<=a):H a=none:=by
 cases q:H a with
 |none=>rfl
 |some u=>exact absurd (ay (x.lt q) e) (dP _)
def HOk.kept(x:HOk P w H h)(k:∀b u,h.get? b=Za u->h'.get? b=Za u):HOk P w H h':=λa o e =>
 (x a o e).stay (λb u _ q=>k b u q) (λ_ q=>q) λ_ _ q=>q
def HOk.laid(x:HOk P w H h)(k:∀b u,h.get? b=Za u->h'.get? b=Za u)(hp:h.objs.size<=a)(new:ObjOk P w (upd H a o) h' a o):HOk P w (upd H a o) h':=λb u e=>by
 have hn:=x.fresh hp;by_cases hb:b=a
 ·subst hb;rw[lQ] at e;cases e;exact new
 ·rw[lO hb] at e;exact(x b u e).stay (λc v _ q=>k c v q) (λc q=>by rw[lO (mh q hn)];exact q) λc xs q=>by rw[lO (mh q hn)];exact q
end
def Rd(H:Hp)(a:ak)(u:HO):Prop:=H a=Za u\/∃o,H a=Za (.frz o u)
def Rd.ok(r:Rd H a u)(x:HOk P w H h):ObjOk P w H h a u:=by
 rcases r with r|⟨o,r⟩
 ·exact x a u r
 ·obtain⟨_,q⟩:=x a _ r;exact q
def Mut:Option HO->Prop
 |some (.lst _)=>True
 |some (.dK _)=>True
 |some (.dT _)=>True
 |some (.set _ _)=>True
 |some (.ins _ _ _)=>True
 |some (.ext _)=>True
 |_=>False
section
variable{P:aL}{w:bh}{H:Hp}{h h':bv}{x e:ak}{o':HO}
def HOk.write(ok:HOk P w H h)(mu:Mut (H x))(he:e=x\/H e=Za (.own x))(k:∀b u,b≠e->h.get? b=Za u->h'.get? b=Za u)(SA:∃u,h'.get? e=Za u)(new:ObjOk P w (upd H x o') h' x o'):HOk P w (upd H x o') h':=λb u q=>by
 have SZ:∀c y,H c=Za (.own y)->c≠x:=λc y r z=>by subst z;rw[r] at mu;exact mu
 have UO:∀c xs,H c=Za (.tup xs)->c≠x:=λc xs r z=>by subst z;rw[r] at mu;exact mu
 by_cases hb:b=x
 ·subst hb;rw[lQ] at q;cases q;exact new
 ·rw[lO hb] at q;by_cases hbe:b=e
  ·have q':H b=Za (.own x):=by
    rcases he with z|z
    ·exact absurd (hbe.trans z) hb
    ·rw[hbe];exact z
   rw[q] at q';cases q';obtain⟨v,hv⟩:=SA;exact⟨v,by rw[hbe];exact hv⟩
  ·refine(ok b u q).stay (λc v hc r=>k c v ?_ r) (λc r=>by rw[lO (SZ c b r)];exact r) λc xs r=>by rw[lO (UO c xs r)];exact r
   rcases hc with rfl|hc
   ·exact hbe
   ·rintro rfl
    rcases he with z|z
    ·exact SZ c b hc z
    ·rw[hc] at z;cases z;exact hb rfl
end
structure Un(fs ex:List ak)(H H':Hp)(h h':bv):Prop where
 keep:∀b o,h.get? b=Za o->H b=Zb->b∉fs->b∉ex->h'.get? b=Za o
 slot:∀b o,h.get? b=Za o->H b=Zb->b∈fs->b∉ex->∃sl,h'.get? b=Za { o with slots:=sl }
 free:∀b o,h.get? b=Za o->H b=Zb->b∉ex->H' b=Zb
 there:∀b o,h.get? b=Za o->b∉ex->∃o',h'.get? b=Za o'
 tups:∀b xs,H b=Za (.tup xs)->H' b=Za (.tup xs)
 frzs:∀b o u,H b=Za (.frz o u)->H' b=Za (.frz o u)
 tbls:∀b ps,H b=Za (.tbl ps)->∃PQ,H' b=Za (.tbl (ps++PQ))
section
variable{fs Qp ex Up:List ak}{H H1 H2:Hp}{h h1 h2 h':bv}{a x e:ak}{o:HO}
def Un.any(u:Un fs ex H H1 h h1)(q:h.get? b=Za ob)(n:H b=Zb)(hx:b∉ex):∃sl,h1.get? b=Za { ob with slots:=sl }:=by
 by_cases hb:b∈fs
 ·exact u.slot b ob q n hb hx
 ·exact⟨ob.slots,u.keep b ob q n hb hx⟩
def Un.kept(k:∀b u,h.get? b=Za u->h'.get? b=Za u):Un fs ex H H h h' :=
 ⟨λb ob q _ _ _=>k b ob q,λb ob q _ _ _=>⟨ob.slots,k b ob q⟩,λ_ _ _ n _=>n,λb ob q _=>⟨ob,k b ob q⟩,λ_ _ q=>q,λ_ _ _ q=>q,λ_ ps q=>⟨#[],by rw[q];simp⟩⟩
def Un.refl:Un fs ex H H h h:=Un.kept λ_ _ q=>q
def Un.laid(k:∀b u,h.get? b=Za u->h'.get? b=Za u)(hp:h.objs.size<=a)(hn:H a=Zb):Un fs ex H (upd H a o) h h' where
 keep:=λb u q _ _ _=>k b u q
 slot:=λb u q _ _ _=>⟨u.slots,k b u q⟩
 free:=λb u q n _=>by rw[lO (aG (ay (az q) hp))];exact n
 there:=λb u q _=>⟨u,k b u q⟩
 tups:=λb xs q=>by rw[lO (mh q hn)];exact q
 frzs:=λb u xs q=>by rw[lO (mh q hn)];exact q
 tbls:=λb ps q=>⟨#[],by rw[lO (mh q hn),q];simp⟩
def Un.write(mu:Mut (H x))(he:e=x\/H e=Za (.own x))(k:∀b u,b≠e->h.get? b=Za u->h'.get? b=Za u)(SA:∃u,h'.get? e=Za u):Un fs ex H (upd H x o) h h':=by
 have hx:∀b,H b=Zb->b≠x:=λb n z=>by subst z;rw[n] at mu;exact mu
 have hb:∀b,H b=Zb->b≠e:=λb n z=>by
  subst z;rcases he with r|r
  ·exact hx b n r
  ·rw[n] at r;cases r
 have hm:∀b u,H b=Za u->¬Mut (Za u)->b≠x:=λb u q nm z=>by subst z;rw[q] at mu;exact nm mu
 refine⟨λb u q n _ _=>k b u (hb b n) q,λb u q n _ _=>⟨u.slots,k b u (hb b n) q⟩,λb u q n _=>by rw[lO (hx b n)];exact n,λb u q _=>?_,
  λb xs q=>by rw[lO (hm b _ q λz=>z)];exact q,λb u xs q=>by rw[lO (hm b _ q λz=>z)];exact q,λb ps q=>⟨#[],by rw[lO (hm b _ q λz=>z),q];simp⟩⟩
 by_cases hbe:b=e
 ·subst hbe;exact SA
 ·exact⟨u,k b u hbe q⟩
end
def trk(h:bv)(H:Hp):List ak:=(bw h.objs.size).filter λa=>(H a).isSome
def E8(h:bv)(H:Hp):bv:=gG h (trk h H)
def HB(h)(H):(E8 h H).objs.size=h.objs.size:=PySem.W.hideAll_size _ _
def Jl(e:h.get? b=Za o)(n:H b=Zb):(E8 h H).get? b=Za o :=
 kh _ e λhm=>by have q:(H b).isSome=true:=(bu.mp hm).2;rw[n] at q;simp at q
def LK(e:(E8 h H).get? b=Za o):h.get? b=Za o/\H b=none:=by
 have e':h.get? b=Za o:=kH (trk h H) e;refine⟨e',?_⟩;cases q:H b with
 |none=>rfl
 |some x =>
  have hm:b∈trk h H:=bu.mpr ⟨cF.mpr (az e'),by simp[q]⟩;have z:(E8 h H).get? b=none:=PySem.W.hideAll_none (trk h H) hm;rw[z] at e;cases e
def MM(g h:bv)(L:ak):List (ak×Obj):=(bw h.objs.size).filterMap λa=>if a=L\/(g.get? a).isSome=true then Zb else(h.get? a).map λo=>(a,o)
def pZ(g h:bv)(L d:ak):List (ak×Obj):=(MM g h L).filter λp=>decide (p.1≠d)
structure Mod(K:aa)(mg:Str->Option ag)(base:bv):Prop where
 kin:K.In base
 glob:base.Ns bc mg
 blt:∃mb,base.Ns jf mb/\∀x:Str,x≠"__name__"->mb x=bN x
 nolimit:base.NoLimit
structure Cx where
 prog:aL
 w:bh
 K:aa
 mg:Str->Option ag
 base:bv
 A:cA
 N:List Str
 sa0:ax
 Ha0:Hp
 env:Env
 outer:List Env
 stack:List Env
 ex:List ak
 fn:Str->Bool
 calm:Bool
 pn:List (ak×Obj)
 xe:ag->ax->Prop
def frs(l:List Env):List ak:=l.filterMap (·.frame)
abbrev Cx.fs(X:Cx):List ak:=frs X.outer
def Vis(sc:dH)(x:Str):Prop:=sc.names.lookup x=Za .local\/sc.names.lookup x=Za .cell\/sc.names.lookup x=Za .free
def Loc(sc:dH)(x:Str):Prop:=sc.names.lookup x=Za .local\/sc.names.lookup x=Za .cell
def Look(env:Env)(h:bv)(m:Str->Option ag)(x:Str)(u:ag):Prop :=
 (env.kindOf x=Za .local/\m x=Za u)\/((env.kindOf x=Za .cell\/env.kindOf x=Za .free)/\∃c,env.cells.lookup x=Za c/\h.IsCell c (Za u))
structure Cx.Ok(X:Cx):Prop where
 mod:Mod X.K X.mg X.base
 kind:X.env.scope.kind=.function
 glob:X.env.globals=bc
 blt:X.env.builtins=jf
 above:X.sa0.heap.objs.size<=X.env.locals
 inj:∀x y c,X.env.cells.lookup x=Za c->X.env.cells.lookup y=Za c->x=y
 has:∀x,(X.env.kindOf x=Za .cell\/X.env.kindOf x=Za .free)->∃c,X.env.cells.lookup x=Za c
 cab:∀x c,X.fn x=true->X.env.cells.lookup x=Za c->X.sa0.heap.objs.size<=c
 hd:X.calm=true->X.A.handled=Zb
 frames:X.A.frames=Za X.stack
 stk:X.stack=X.outer\/(X.stack=X.env::X.outer/\X.env.frame=Za X.env.locals)
 exf:∀b∈X.ex,b≠X.env.locals/\∀x c,X.env.cells.lookup x=Za c->c≠b
 bs:∀b o,X.base.get? b=Za o->X.sa0.heap.get? b=Za o/\X.Ha0 b=Zb
 bsz:X.base.objs.size<=X.sa0.heap.objs.size
 noex:∀b o,X.base.get? b=Za o->b∉X.ex
 exfs:∀b∈X.ex,b∉X.fs
 funs:X.sa0.heap.FunFrames X.base X.outer
 frf:∀b∈X.fs,X.Ha0 b=Zb
structure Inv(X:Cx)(Pe:List (ak×Obj))(O:List (Option V))(H:Hp)(s:ax):Prop where
 ok:X.Ok
 os:s.os=X.sa0.os
 bare:gR s.gens
 base:Un X.fs X.ex X.Ha0 H X.sa0.heap s.heap
 loc:∃m,s.heap.Ns X.env.locals m/\∀(i:Nat)(x:Str)(v:V),X.N[i]?=Za x->O[i]?=Za (Za v)->Vis X.env.scope x->∃u,RelV v u/\Look X.env s.heap m x u
 cell:∀x c,X.env.cells.lookup x=Za c->∃v,s.heap.IsCell c v
 free:H X.env.locals=Zb
 freeC:∀x c,X.env.cells.lookup x=Za c->H c=Zb
 pin:∀p∈X.pn++Pe,s.heap.get? p.1=Za p.2/\H p.1=Zb/\p.1≠X.env.locals/\p.1∉X.fs/\∀v,p.2.data≠.cell v
 hok:HOk X.prog X.w H s.heap
 len:O.length=X.N.length
section
variable{X:Cx}{Pe:List (ak×Obj)}{O:List (Option V)}{H H':Hp}{s:ax}{h':bv}
def Cx.Ok.nofr(ok:X.Ok)(e:X.base.get? b=Za o):b∉X.fs:=λhb=>by have:=(ok.funs.mem hb).1;rw[e] at this;cases this
theorem Inv.bs(I:Inv X Pe O H s):∀b o,X.base.get? b=Za o->s.heap.get? b=Za o/\H b=none:=λb o e =>
 ⟨I.base.keep b o (I.ok.bs b o e).1 (I.ok.bs b o e).2 (I.ok.nofr e) (I.ok.noex b o e),I.base.free b o (I.ok.bs b o e).1 (I.ok.bs b o e).2 (I.ok.noex b o e)⟩
def Inv.bk(I:Inv X Pe O H s):∀b o,X.base.get? b=Za o->s.heap.get? b=Za o:=λb o e=>(I.bs b o e).1
theorem Inv.mod(I:Inv X Pe O H s):Mod X.K X.mg X.base:=I.ok.mod
def Inv.kIn(I:Inv X Pe O H s):X.K.In s.heap:=I.ok.mod.kin.keeps I.bk
theorem Inv.lt(I:Inv X Pe O H s):X.env.locals<s.heap.objs.size:=let⟨_,hn,_⟩:=I.loc;hn.lt
def Inv.sz(I:Inv X Pe O H s):X.sa0.heap.objs.size<=s.heap.objs.size:=aE I.ok.above (dN I.lt)
def Inv.nofs(I:Inv X Pe O H s)(h:s.heap.objs.size<=a):a∉X.fs:=λhb=>by obtain⟨_,o,ho,_⟩:=I.ok.funs.mem hb;exact absurd (ay (az ho) (aE I.sz h)) (dP _)
def Inv.cne(I:Inv X Pe O H s):∀x c,X.env.cells.lookup x=Za c->c≠X.env.locals:=λx c e z=>by obtain⟨v,o,ho,hd⟩:=I.cell x c e;obtain⟨m,⟨o',es,ep,Rv,TC,_⟩,_⟩:=I.loc;rw[z,Rv] at ho;cases ho;rw[TC] at hd;cases hd
theorem Inv.funs(I:Inv X Pe O H s):s.heap.FunFrames X.base X.outer:=by
 have all:∀(l:List Env),(∀b∈frs l,b∈X.fs)->X.sa0.heap.FunFrames X.base l->s.heap.FunFrames X.base l:=by
  intro l;induction l with
  |nil=>intro _ _;trivial
  |cons env r ih =>
   intro hs hl;obtain⟨hk,⟨L,o,hf,hn,ho,hd⟩,hr⟩:=hl;have hL:L∈X.fs:=hs L (by unfold frs;rw[eQ,hf];exact ai);obtain⟨sl,e⟩:=I.base.slot L o ho (I.ok.frf L hL) hL λz=>I.ok.exfs L z hL;exact⟨hk,⟨L,_,hf,hn,e,hd⟩,ih (λb hb=>hs b (by unfold frs;rw[eQ,hf];exact ae _ hb)) hr⟩
 exact all X.outer (λ_ hb=>hb) I.ok.funs
theorem Inv.stack(I:Inv X Pe O H s):s.heap.FunFrames X.base X.stack:=by
 rcases I.ok.stk with e|⟨e,hf⟩
 ·rw[e];exact I.funs
 ·rw[e];obtain⟨m,hn,_⟩:=I.loc;refine .cons (by rw[I.ok.kind];decide) hf hn ?_ I.funs;exact Heap.get?_none_of_le (aE I.ok.bsz I.ok.above)
def Inv.stkSub(I:Inv X Pe O H s):∀b∈frs X.stack,b∈X.env.locals::X.fs:=λb hb=>by
 rcases I.ok.stk with e|⟨e,hf⟩
 ·rw[e] at hb;exact ae _ hb
 ·rw[e] at hb;unfold frs at hb;rw[eQ,hf] at hb;exact hb
def Inv.stkFree(I:Inv X Pe O H s):∀b∈frs X.stack,H b=none:=λb hb=>by
 rcases af.mp (I.stkSub b hb) with e|hb
 ·rw[e];exact I.free
 ·obtain⟨_,o,ho,_⟩:=I.ok.funs.mem hb;exact I.base.free b o ho (I.ok.frf b hb) λz=>I.ok.exfs b z hb
def Inv.step{g':Array GenState}{t':Nat}{d':Drawn}{ch:List ak}(I:Inv X Pe O H s)(QZ:∀b∈ch,(b∈X.ex\/X.sa0.heap.objs.size<=b)/\b≠X.env.locals/\(∀x c,X.env.cells.lookup x=Za c->c≠b)/\∀p∈X.pn++Pe,p.1≠b)(keep:∀b o,b≠X.env.locals->b∉X.fs->b∉ch->s.heap.get? b=Za o->H b=Zb->h'.get? b=Za o)(slot:∀b o,b≠X.env.locals->b∈X.fs->b∉ch->s.heap.get? b=Za o->H b=Zb->∃sl,h'.get? b=Za { o with slots:=sl })(free:∀b o,b∉ch->s.heap.get? b=Za o->H b=Zb->H' b=Zb)(there:∀b o,b∉ch->s.heap.get? b=Za o->∃o',h'.get? b=Za o')(tups:∀b xs,H b=Za (.tup xs)->H' b=Za (.tup xs))(frzs:∀b o u,H b=Za (.frz o u)->H' b=Za (.frz o u))(tbls:∀b ps,H b=Za (.tbl ps)->∃PQ,H' b=Za (.tbl (ps++PQ)))(ns:∀m,s.heap.Ns X.env.locals m->h'.Ns X.env.locals m)(hok:HOk X.prog X.w H' h')(hg:gR g') :
  Inv X Pe O H' { s with heap:=h',gens:=g',drawn:=d',toks:=t' }:=by
 have neL:∀b o,X.sa0.heap.get? b=Za o->b≠X.env.locals:=λb o e=>aG (ay (az e) I.ok.above);have Ua:∀b o,X.sa0.heap.get? b=Za o->b∉X.ex->b∉ch:=λb o e hx hb=>by
  rcases(QZ b hb).1 with z|z
  ·exact hx z
  ·exact absurd (ay (az e) z) (dP _)
 have RK:∀x c,X.env.cells.lookup x=Za c->∀v,s.heap.IsCell c v->h'.IsCell c v:=λx c e v ⟨o,ho,hd⟩=>by
  have S7:c∉ch:=λz=>(QZ c z).2.2.1 x c e rfl;by_cases hc:c∈X.fs
  ·obtain⟨sl,q⟩:=slot c o (I.cne x c e) hc S7 ho (I.freeC x c e);exact⟨_,q,hd⟩
  ·exact⟨o,keep c o (I.cne x c e) hc S7 ho (I.freeC x c e),hd⟩
 refine⟨I.ok,I.os,hg,⟨λb o e n hb hx=>?_,λb o e n hb hx=>?_,λb o e n hx=>?_,λb o e hx=>?_,λb xs e=>tups b xs (I.base.tups b xs e),λb o xs e=>frzs b o xs (I.base.frzs b o xs e),λb ps e=>?_⟩,?_,λx c e=>?_,?_,λx c e=>?_,λp hp=>?_,hok,I.len⟩
 ·exact keep b o (neL b o e) hb (Ua b o e hx) (I.base.keep b o e n hb hx) (I.base.free b o e n hx)
 ·obtain⟨sl,e1⟩:=I.base.slot b o e n hb hx;obtain⟨sl',e2⟩:=slot b _ (neL b o e) hb (Ua b o e hx) e1 (I.base.free b o e n hx);exact⟨sl',e2⟩
 ·obtain⟨o',e1⟩:=I.base.there b o e hx;exact free b o' (Ua b o e hx) e1 (I.base.free b o e n hx)
 ·obtain⟨o',e1⟩:=I.base.there b o e hx;exact there b o' (Ua b o e hx) e1
 ·obtain⟨m1,e1⟩:=I.base.tbls b ps e;obtain⟨m2,e2⟩:=tbls b _ e1;exact⟨m1++m2,by rw[e2,lr]⟩
 ·obtain⟨m,hn,hl⟩:=I.loc;refine⟨m,ns m hn,λi x v e1 e2 e3=>?_⟩;obtain⟨u,r,l⟩:=hl i x v e1 e2 e3;refine⟨u,r,?_⟩;rcases l with l|⟨k,c,e,z⟩
  ·exact .inl l
  ·exact .inr ⟨k,c,e,RK x c e _ z⟩
 ·obtain⟨v,z⟩:=I.cell x c e;exact⟨v,RK x c e v z⟩
 ·obtain⟨m,⟨o,_,_,ho,_⟩,_⟩:=I.loc;exact free _ o (λz=>(QZ _ z).2.1 rfl) ho I.free
 ·obtain⟨v,o,ho,hd⟩:=I.cell x c e;exact free c o (λz=>(QZ c z).2.2.1 x c e rfl) ho (I.freeC x c e)
 ·obtain⟨e,n,ne,nf,d⟩:=I.pin p hp;have S7:p.1∉ch:=λz=>(QZ p.1 z).2.2.2 p hp rfl;exact⟨keep p.1 p.2 ne nf S7 e n,free p.1 p.2 S7 e n,ne,nf,d⟩
def Inv.un{t':Nat}(I:Inv X Pe O H s)(u:Un X.fs [] H H' s.heap h')(hok:HOk X.prog X.w H' h'):Inv X Pe O H' { s with heap:=h',toks:=t' }:=by
 obtain⟨m,⟨o,es,ep,ho,r⟩,_⟩:=id I.loc;obtain⟨sl,hL⟩:=u.any ho I.free (by simp);exact I.step (g':=s.gens) (d':=s.drawn) (ch:=[]) (λ_ z=>nomatch z) (λb o _ hb _ e n=>u.keep b o e n hb (by simp)) (λb o _ hb _ e n=>u.slot b o e n hb (by simp)) (λb o _ e n=>u.free b o e n (by simp)) (λb o _ e=>u.there b o e (by simp)) u.tups u.frzs u.tbls (λm' hm=>by obtain⟨o',VA,Uq,Rv,r'⟩:=hm;rw[ho] at Rv;cases Rv;exact⟨_,VA,Uq,hL,r'⟩) hok I.bare
def Inv.call{g':Array GenState}{t':Nat}{d':Drawn}{ch:List ak}(I:Inv X Pe O H s)(u:Un (frs X.stack) ch H H' s.heap h')(hok:HOk X.prog X.w H' h')(hg:gR g')(QZ:∀b∈ch,(b∈X.ex\/X.sa0.heap.objs.size<=b)/\b≠X.env.locals/\(∀x c,X.env.cells.lookup x=Za c->c≠b)/\∀p∈X.pn++Pe,p.1≠b) :
  Inv X Pe O H' { s with heap:=h',gens:=g',drawn:=d',toks:=t' }:=by
 obtain⟨m,⟨o,es,ep,ho,r⟩,_⟩:=id I.loc;obtain⟨sl,hL⟩:=u.any ho I.free λz=>(QZ _ z).2.1 rfl;exact I.step (ch:=ch) QZ (λb o hL hb hc e n=>u.keep b o e n (λz=>(af.mp (I.stkSub b z)).elim hL hb) hc) (λb o _ _ hc e n=>u.any e n hc) (λb o hc e n=>u.free b o e n hc) (λb o hc e=>u.there b o e hc) u.tups u.frzs u.tbls (λm' hm=>by obtain⟨o',VA,Uq,Rv,r'⟩:=hm;rw[ho] at Rv;cases Rv;exact⟨_,VA,Uq,hL,r'⟩) hok hg
def Inv.turned{t':Nat}{it:ak}(I:Inv X Pe O H s)(k:∀b o,b≠it->s.heap.get? b=Za o->h'.get? b=Za o)(hn:H it=Zb)(hL:it≠X.env.locals)(h1:it∈X.ex\/X.sa0.heap.objs.size<=it)(h2:∀x c,X.env.cells.lookup x=Za c->c≠it)(h3:∀p∈X.pn++Pe,p.1≠it):Inv X Pe O H { s with heap:=h',toks:=t' }:=by
 have Q4:∀b u,H b=Za u->b≠it:=λb u e z=>by rw[z,hn] at e;cases e
 refine I.step (g':=s.gens) (d':=s.drawn) (ch:=[it]) (λb hb=>?_) (λb o _ _ hc e _=>k b o (λz=>hc (by simp[z])) e) (λb o _ _ hc e _=>⟨o.slots,k b o (λz=>hc (by simp[z])) e⟩) (λ_ _ _ _ n=>n)
  (λb o hc e=>⟨o,k b o (λz=>hc (by simp[z])) e⟩) (λ_ _ e=>e) (λ_ _ _ e=>e) (λb ps e=>⟨#[],by rw[e];simp⟩) (λm hm=>?_) (λb u e=>?_) I.bare
 ·have e:b=it:=by simpa using hb
  subst e;exact⟨h1,hL,h2,h3⟩
 ·obtain⟨o,es,ep,ho,r⟩:=hm;exact⟨o,es,ep,k _ o (bW hL) ho,r⟩
 ·refine(I.hok b u e).stay (λc v hc q=>k c v ?_ q) (λ_ q=>q) λ_ _ q=>q;rcases hc with z|z
  ·rw[z];exact Q4 b u e
  ·exact Q4 c _ z
def Inv.tok(I:Inv X Pe O H s)(t):Inv X Pe O H { s with toks:=t }:=I.un (h':=s.heap) (t':=t) Un.refl I.hok
theorem Inv.kept(I:Inv X Pe O H s)(k:∀b u,s.heap.get? b=Za u->h'.get? b=Za u):Inv X Pe O H { s with heap:=h',toks:=t' }:=I.un (Un.kept k) (I.hok.kept k)
theorem Inv.laid(I:Inv X Pe O H s)(k:∀b u,s.heap.get? b=Za u->h'.get? b=Za u)(hp:s.heap.objs.size<=a)(new:ObjOk X.prog X.w (upd H a o) h' a o) :
  Inv X Pe O (upd H a o) { s with heap:=h',toks:=t' }:=I.un (Un.laid k hp (I.hok.fresh hp)) (I.hok.laid k hp new)
theorem Inv.write(I:Inv X Pe O H s)(mu:Mut (H x))(he:e=x\/H e=Za (.own x))(k:∀b u,b≠e->s.heap.get? b=Za u->h'.get? b=Za u)(SA:∃u,h'.get? e=Za u)(new:ObjOk X.prog X.w (upd H x o) h' x o):Inv X Pe O (upd H x o) { s with heap:=h',toks:=t' }:=I.un (Un.write mu he k SA) (I.hok.write mu he k SA new)
def Inv.pins_of(I:Inv X Pe O H s)(h:∀p∈pins',s.heap.get? p.1=Za p.2/\H p.1=Zb/\p.1≠X.env.locals/\p.1∉X.fs/\∀v,p.2.data≠.cell v):Inv X pins' O H s :=
 ⟨I.ok,I.os,I.bare,I.base,I.loc,I.cell,I.free,I.freeC,λp hp=>(aJ.mp hp).elim (λz=>I.pin p (aO _ z)) (h p),I.hok,I.len⟩
def D3{N:List Str}(hN:N.Nodup){i j:Nat}{x:Str}(a:N[i]?=Za x)(b:N[j]?=Za x):i=j:=by obtain⟨h1,e1⟩:=aW.mp a;obtain⟨h2,e2⟩:=aW.mp b;exact(List.getElem_inj hN).mp (e1.trans e2.symm)
def xk{M:Model}{A:cA}{E:ag->ax->Prop}{i:Nat}{x:Str}{v:V}{u:ag}{Q:Unit->ax->Prop}(I:Inv X Pe O H s)(hN:X.N.Nodup)(hi:X.N[i]?=Za x)(hx:Loc X.env.scope x)(r:RelV v u)(h:∀s',Inv X Pe (O.set i (Za v)) H s'->(∃a,iZ a s.heap s'.heap/\(a=X.env.locals\/X.env.cells.lookup x=Za a))->Q () s')(hf:X.fn x=true\/X.env.scope.names.lookup x=Za .local:=by first|exact .inl rfl|exact .inr rfl|assumption):aS M A (storeName X.env x u) Q E s:=by
 obtain⟨m,hn,hl⟩:=id I.loc;have Vl:(X.env.scope.kind==.class||(X.env.scope.kind==.module&&X.env.locals != X.env.globals))=false:=by rw[I.ok.kind];rfl
 have hiσ:i<O.length:=by rw[I.len];exact(aW.mp hi).1
 have cne:=I.cne;have QF:∀{a:ak}{h':bv},(∃o,s.heap.get? a=Za o/\H a=Zb)->iZ a s.heap h'->HOk X.prog X.w H h':=λ{a h'} ha hs b ob e=>by
  obtain⟨_,_,RH⟩:=ha;refine(I.hok b ob e).stay (λc w' hc q=>(hs.2 c ?_).trans q) (λ_ q=>q) λ_ _ q=>q
  rintro rfl
  rcases hc with rfl|hc
  ·rw[RH] at e;cases e
  ·rw[RH] at hc;cases hc
 rcases hx with hk|hk
 ·refine wpAny_storeName_local hk hn (λh' Q6 hs=>?_) Vl;obtain⟨oL,_,_,Tj,_⟩:=id hn;refine h _ ⟨I.ok,I.os,I.bare,⟨λb o e n hb hx=>?_,λb o e n hb hx=>?_,I.base.free,λb o e hx=>?_,I.base.tups,I.base.frzs,I.base.tbls⟩,⟨_,Q6,λj y v' e1 e2 e3=>?_⟩,λy c e=>?_,I.free,I.freeC,λp hp=>?_,QF ⟨oL,Tj,I.free⟩ hs,by simpa using I.len⟩ ⟨_,hs,.inl rfl⟩
  ·exact(hs.2 b (aG (ay (az e) I.ok.above))).trans (I.base.keep b o e n hb hx)
  ·obtain⟨sl,e1⟩:=I.base.slot b o e n hb hx;exact⟨sl,(hs.2 b (aG (ay (az e) I.ok.above))).trans e1⟩
  ·obtain⟨o',e1⟩:=I.base.there b o e hx;exact⟨o',(hs.2 b (aG (ay (az e) I.ok.above))).trans e1⟩
  ·by_cases hj:j=i
   ·subst hj;rw[hi] at e1;cases e1;rw[ky hiσ] at e2;cases e2;exact⟨u,r,.inl ⟨hk,by simp⟩⟩
   ·rw[kT (bW hj)] at e2;obtain⟨u',r',q⟩:=hl j y v' e1 e2 e3;refine⟨u',r',?_⟩;rcases q with⟨k,e⟩|⟨k,c,e,z⟩
    ·refine .inl ⟨k,?_⟩;have:y≠x:=λe=>hj (D3 hN e1 (e▸hi));simp[this,e]
    ·exact .inr ⟨k,c,e,z.sameBut hs (cne y c e)⟩
  ·obtain⟨w',z⟩:=I.cell y c e;exact⟨w',z.sameBut hs (cne y c e)⟩
  ·obtain⟨e,n,ne,nf,d⟩:=I.pin p hp;exact⟨(hs.2 p.1 ne).trans e,n,ne,nf,d⟩
 ·have QP:X.fn x=true:=by
   rcases hf with z|z
   ·exact z
   ·rw[z] at hk;cases hk
  obtain⟨c,hc⟩:=I.ok.has x (.inl hk);obtain⟨w',z⟩:=I.cell x c hc;refine wpAny_storeName_cell I.ok.kind hk hc z (λh' hc' hs=>?_);obtain⟨oc,hoc,U7⟩:=id z;refine h { s with heap:=h' } ⟨I.ok,I.os,I.bare,⟨λb o e n hb hx=>?_,λb o e n hb hx=>?_,I.base.free,λb o e hx=>?_,I.base.tups,I.base.frzs,I.base.tbls⟩,⟨m,hn.sameBut hs (bW (cne x c hc)),λj y v' e1 e2 e3=>?_⟩,λy c' e=>?_,I.free,I.freeC,λp hp=>?_,QF ⟨oc,hoc,I.freeC x c hc⟩ hs,by simpa using I.len⟩ ⟨c,hs,.inr hc⟩
  ·exact(hs.2 b (aG (ay (az e) (I.ok.cab x c QP hc)))).trans (I.base.keep b o e n hb hx)
  ·obtain⟨sl,e1⟩:=I.base.slot b o e n hb hx;exact⟨sl,(hs.2 b (aG (ay (az e) (I.ok.cab x c QP hc)))).trans e1⟩
  ·obtain⟨o',e1⟩:=I.base.there b o e hx;exact⟨o',(hs.2 b (aG (ay (az e) (I.ok.cab x c QP hc)))).trans e1⟩
  ·by_cases hj:j=i
   ·subst hj;rw[hi] at e1;cases e1;rw[ky hiσ] at e2;cases e2;exact⟨u,r,.inr ⟨.inl hk,c,hc,hc'⟩⟩
   ·rw[kT (bW hj)] at e2;obtain⟨u',r',q⟩:=hl j y v' e1 e2 e3;refine⟨u',r',?_⟩;rcases q with q|⟨k,c',e,z'⟩
    ·exact .inl q
    ·refine .inr ⟨k,c',e,z'.sameBut hs ?_⟩
     rintro rfl
     exact hj (D3 hN e1 (I.ok.inj _ _ _ e hc▸hi))
  ·by_cases hcc:c'=c
   ·subst hcc;exact⟨_,hc'⟩
   ·obtain⟨w2,z2⟩:=I.cell y c' e;exact⟨w2,z2.sameBut hs hcc⟩
  ·obtain⟨e,n,ne,nf,d⟩:=I.pin p hp;refine⟨(hs.2 p.1 ?_).trans e,n,ne,nf,d⟩;intro q;rw[q,hoc] at e;have q':oc=p.2:=aP e;exact d w' (by rw[<-q'];exact U7)
def uF(I:Inv X Pe O H s)(hN:X.N.Nodup)(hi:X.N[i]?=Za x)(hx:Loc X.env.scope x)(r:RelV v u)(h:∀s',Inv X Pe (O.set i (Za v)) H s'->Q () s')(hf:X.fn x=true\/X.env.scope.names.lookup x=Za .local:=by first|exact .inl rfl|exact .inr rfl|assumption):aS M A (storeName X.env x u) Q E s :=
 xk I hN hi hx r (λs' I' _=>h s' I') hf
def Inv.call'(I:Inv X Pe O H s)(ho:s'.os=s.os)(u:Un (frs X.stack) ch H H' s.heap s'.heap)(hok:HOk X.prog X.w H' s'.heap)(hg:gR s'.gens)(QZ:∀b∈ch,(b∈X.ex\/X.sa0.heap.objs.size<=b)/\b≠X.env.locals/\(∀x c,X.env.cells.lookup x=Za c->c≠b)/\∀p∈X.pn++Pe,p.1≠b):Inv X Pe O H' s':=by
 obtain⟨h',g',d',t',o'⟩:=s';have e:o'=s.os:=ho;subst e;exact I.call (g':=g') (t':=t') (d':=d') u hok hg QZ
end
abbrev XK:=ag->Option ak->Hp->Prop
abbrev St:=List (Option V)
abbrev VK:=V->Hp->Prop
abbrev TE:=St->Hp->VK->Prop
abbrev TT:=St->Hp->(Bool->Hp->Prop)->Prop
abbrev TA:=St->Hp->(List V->Hp->Prop)->Prop
structure Ends where
 nx:St->Hp->Prop
 rt:VK
 bk:St->Hp->Prop:=λ_ _=>False
 ct:St->Hp->Prop:=λ_ _=>False
abbrev TS:=Ends->St->Hp->Prop
def EP(X:Cx)(Pe:List (ak×Obj))(O:St)(Q:VK)(u:ag)(s':ax):Prop:=∃v H',Inv X Pe O H' s'/\RelV v u/\Q v H'
def TP(X:Cx)(Pe:List (ak×Obj))(O:St)(Q:Bool->Hp->Prop)(b:Bool)(s':ax):Prop:=∃H',Inv X Pe O H' s'/\Q b H'
def AP(X:Cx)(Pe:List (ak×Obj))(O:St)(Q:List V->Hp->Prop)(us:List ag)(s':ax):Prop:=∃vs H',Inv X Pe O H' s'/\Vals vs us/\Q vs H'
def SP(X:Cx)(Pe:List (ak×Obj))(D:Ends)(f:Flow)(s':ax):Prop :=
 match f with
 |.next=>∃σ' H',Inv X Pe σ' H' s'/\D.nx σ' H'
 |.brk=>∃σ' H',Inv X Pe σ' H' s'/\D.bk σ' H'
 |.cont=>∃σ' H',Inv X Pe σ' H' s'/\D.ct σ' H'
 |.ret u=>∃v σ' H',Inv X Pe σ' H' s'/\RelV v u/\D.rt v H'
def PE(X:Cx)(e:bo)(t:TE):Prop :=
 ∀(Pe:List (ak×Obj))(s:ax)(O:St)(H:Hp)(Q:VK),Inv X Pe O H s->t O H Q->aS (model X.prog X.w) X.A (eval e X.env) (EP X Pe O Q) X.xe s
def PT(X:Cx)(e:bo)(t:TT):Prop :=
 ∀(Pe:List (ak×Obj))(s:ax)(O:St)(H:Hp)(Q:Bool->Hp->Prop),Inv X Pe O H s->t O H Q->aS (model X.prog X.w) X.A (isTrue e X.env (eval e X.env)) (TP X Pe O Q) X.xe s
def PW(X:Cx)(e:bo)(t:TT):Prop :=
 ∀(whole:Sem ag)(Pe:List (ak×Obj))(s:ax)(O:St)(H:Hp)(Q:Bool->Hp->Prop),Inv X Pe O H s->t O H Q->aS (model X.prog X.w) X.A (isTrue e X.env whole) (TP X Pe O Q) X.xe s
def PW.pt(h:PW X e t):PT X e t:=h _
def PA(X:Cx)(es:List bo)(t:TA):Prop :=
 ∀(pos:Pos)(Pe:List (ak×Obj))(s:ax)(O:St)(H:Hp)(Q:List V->Hp->Prop),Inv X Pe O H s->t O H Q->aS (model X.prog X.w) X.A (spliced (bY pos (aB es X.env))) (AP X Pe O Q) X.xe s
def PS(X:Cx)(st:bQ)(t:TS):Prop :=
 ∀(Pe:List (ak×Obj))(s:ax)(O:St)(H:Hp)(D:Ends),Inv X Pe O H s->t D O H->aS (model X.prog X.w) X.A (exec st X.env) (SP X Pe D) X.xe s
def PSs(X:Cx)(st:List bQ)(t:TS):Prop :=
 ∀(Pe:List (ak×Obj))(s:ax)(O:St)(H:Hp)(D:Ends),Inv X Pe O H s->t D O H->aS (model X.prog X.w) X.A (execs st X.env) (SP X Pe D) X.xe s
def e4b{α β:Sort _}{p q:α->β->Prop}{R:Prop}(k:∀x y,p x y->q x y->R)(h:∃x y,p x y/\q x y):R:=h.elim λx h=>h.elim λy h=>k x y h.1 h.2
def e4{α β:Sort _}{p q r:α->β->Prop}{R:Prop}(k:∀x y,p x y->q x y->r x y->R)(h:∃x y,p x y/\q x y/\r x y):R:=h.elim λx h=>h.elim λy h=>k x y h.1 h.2.1 h.2.2
def e3{α:Sort _}{p q:α->Prop}{R:Prop}(k:∀x,p x->q x->R)(h:∃x,p x/\q x):R:=h.elim λx h=>k x h.1 h.2
def thn(h:aS M A t Q E s)(hQ:∀a s,Q a s->Q' a s):aS M A t Q' E s:=bM h hQ λ_ _ x=>x
section
variable{X:Cx}
def Ig(i:Nat):TE:=λO H Q=>∃v,O[i]?=Za (Za v)/\Q v H
def tC(v:V):TE:=λ_ H Q=>Q v H
abbrev NDb(x:Str):Prop:=(x==("__debug__":Str))=false
def JW(hN:X.N[i]?=Za x)(hv:Vis X.env.scope x)(hd:NDb x:=by decide)(QA:(x==("__classdict__":Str))=false:=by decide):PE X (.Name x pos) (Ig i):=by
 intro Pe s O H Q I h;obtain⟨v,e,h⟩:=h;obtain⟨m,hn,hl⟩:=I.loc;obtain⟨u,r,l⟩:=hl i x v hN e hv;have PK:EP X Pe O Q u s:=⟨v,H,I,r,h⟩;rcases l with⟨hk,hm⟩|⟨hk,c,hc,P7⟩
 ·exact wpAny_Name (wpAny_loadName_local I.ok.kind hk hn hm PK) hd
 ·rcases hk with hk|hk
  ·exact wpAny_Name (wpAny_loadName_cell I.ok.kind hk hc P7 PK) hd
  ·exact wpAny_Name (wpAny_loadName_free I.ok.kind hk hc P7 PK QA) hd
def pe_int{i j pos}:PE X (.Constant (.int i) j pos) (tC (.int i)):=λ_ _ _ H _ I h=>wpAny_Constant_int ⟨.int i,H,I.tok _,⟨_,rfl⟩,h⟩
def pe_bl{b j pos}:PE X (.Constant (.bool b) j pos) (tC (.bl b)):=λ_ _ _ H _ I h=>Constant_bool ⟨.bl b,H,I,rfl,h⟩
def pe_str{x j pos}:PE X (.Constant (.str x) j pos) (tC (.str x)):=λ_ _ _ H _ I h=>la ⟨.str x,H,I.tok _,⟨_,rfl⟩,h⟩
def Gl(X:Cx)(x:Str):Prop:=X.env.kindOf x=Za .globalImplicit
def wX(I:Inv X Pe O H s)(hg:Gl X x)(hm:X.mg x=Za u)(h:Q u s)(hd:NDb x:=by decide):aS (model X.prog X.w) X.A (eval (.Name x pos) X.env) Q E s :=
 jy I.ok.kind hg (Calls.loadGlobal_global (by rw[I.ok.glob];exact I.mod.glob.keeps I.bk) hm h) hd
def AK(I:Inv X Pe O H s)(hg:Gl X x)(hm:X.mg x=Zb)(hv:bN x=Za u)(h:Q u s)(hn:x≠"__name__":=by decide)(hd:NDb x:=by decide):aS (model X.prog X.w) X.A (eval (.Name x pos) X.env) Q E s:=by
 obtain⟨mb,h1,h2⟩:=I.mod.blt;exact jy I.ok.kind hg (Calls.loadGlobal_builtin (by rw[I.ok.glob];exact I.mod.glob.keeps I.bk) hm (by rw[I.ok.blt];exact h1.keeps I.bk) ((h2 x hn).trans hv) h) hd
def rR(hg:Gl X x)(hm:X.mg x=Za u)(r:RelV v u)(hd:NDb x:=by decide):PE X (.Name x pos) (tC v) :=
 λ_ _ _ H _ I h=>wX I hg hm ⟨v,H,I,r,h⟩ hd
variable{a b:bo}{ta tb:TE}{pos:Pos}
def PC(X:Cx)(op:CmpOp)(a b:bo)(t:TE):Prop :=
 ∀(Pe:List (ak×Obj))(s:ax)(O:St)(H:Hp)(Q:VK),Inv X Pe O H s->t O H Q ->
  aS (model X.prog X.w) X.A (eval a X.env) (λv Pr=>aS (model X.prog X.w) X.A (eval b X.env) (λu Qy=>aS (model X.prog X.w) X.A (bP op v u) (EP X Pe O Q) X.xe Qy) X.xe Pr) X.xe s
def IY(b)(h:op≠.In)(h2:op≠.NotIn):cR op b=false:=by
 have e1:(op==CmpOp.In)=false:=by cases op<;>first|rfl|exact absurd rfl h
 have e2:(op==CmpOp.NotIn)=false:=by cases op<;>first|rfl|exact absurd rfl h2
 cases b<;>simp[cR,e1,e2]
def tB(t:TE):TT:=λO H Q=>t O H λx H1=>∃c,x=.bl c/\Q c H1
def JY(h:PC X op a b t)(h1:cR op b=false:=by first|exact IY _ (by decide) (by decide)|rfl):PE X (.Compare a [op] [b] pos) t:=λPe s O H Q I hw=>wpAny_Compare1 (h Pe s O H Q I hw) h1
def vX(h:PE X e t)(he:∀whole,isTrue e X.env whole=(do let v <-whole;gv e.pos;holding [v] (truthy v)):=by intro _;rfl):PT X e (tB t):=by intro Pe s O H Q I hw;refine isTrue_plain (thn (h Pe s O H _ I hw) λv s1=>e4 λx H1 I1 r1 q1=>?_) (he _);obtain⟨d,rfl,q⟩:=q1;cases r1;exact eI ⟨H1,I1,q⟩
variable{tA TW:TT}{pZ:List bo}
def tAnd(t u:TT):TT:=λO H Q=>t O H λc H1=>if c=true then u O H1 Q else Q false H1
def tOr(t u:TT):TT:=λO H Q=>t O H λc H1=>if c=true then Q true H1 else u O H1 Q
def tNot(t:TT):TT:=λO H Q=>t O H λc H1=>Q (!c) H1
def Li(ha:PT X a tA):PW X (.BoolOp .And [a] pos) tA:=by
 intro wh Pe s O H Q I h;refine isTrue_and (thn (ha Pe s O H Q I h) λc s1 e=>?_);cases c with
 |true=>exact isTrue_and_nil e
 |false=>exact e
def JU(ha:PT X a tA):PW X (.BoolOp .Or [a] pos) tA:=by
 intro wh Pe s O H Q I h;refine isTrue_or (thn (ha Pe s O H Q I h) λc s1 e=>?_);cases c with
 |false=>exact isTrue_or_nil e
 |true=>exact e
def NN(ha:PT X a tA)(hb:PW X (.BoolOp .And (b::pZ) pos) TW):PW X (.BoolOp .And (a::b::pZ) pos) (tAnd tA TW):=by
 intro wh Pe s O H Q I h;refine isTrue_and (thn (ha Pe s O H _ I h) λc s1=>e3 λH1 I1 q1=>?_);cases c with
 |true=>exact hb wh Pe s1 O H1 Q I1 q1
 |false=>exact⟨H1,I1,q1⟩
def M5(ha:PT X a tA)(hb:PW X (.BoolOp .Or (b::pZ) pos) TW):PW X (.BoolOp .Or (a::b::pZ) pos) (tOr tA TW):=by
 intro wh Pe s O H Q I h;refine isTrue_or (thn (ha Pe s O H _ I h) λc s1=>e3 λH1 I1 q1=>?_);cases c with
 |true=>exact⟨H1,I1,q1⟩
 |false=>exact hb wh Pe s1 O H1 Q I1 q1
def Ax(ha:PT X a tA):PT X (.UnaryOp .Not a pos) (tNot tA):=by intro Pe s O H Q I h;exact isTrue_not (ha Pe s O H (λc H1=>Q (!c) H1) I h)
def tAndV(ta tb:TE):TE:=λO H Q=>ta O H λx H1=>∃c,x=.bl c/\if c=true then tb O H1 Q else Q (.bl false) H1
def tOrV(ta tb:TE):TE:=λO H Q=>ta O H λx H1=>∃c,x=.bl c/\if c=true then Q (.bl true) H1 else tb O H1 Q
def Fu{op}{t}(h:PE X a t):PE X (.BoolOp op [a] pos) t:=λPe s O H Q I hw=>BoolOp_one (h Pe s O H Q I hw)
def JZ(ha:PE X a ta)(hb:PE X (.BoolOp .And (b::pZ) pos) tb):PE X (.BoolOp .And (a::b::pZ) pos) (tAndV ta tb):=by
 intro Pe s O H Q I h;refine BoolOp_and (thn (ha Pe s O H _ I h) λv s1=>e4 λx H1 I1 r1 q1=>?_);obtain⟨c,rfl,q1⟩:=q1;cases r1;refine eI ?_;cases c with
 |true=>exact hb Pe s1 O H1 Q I1 q1
 |false=>exact⟨.bl false,H1,I1,rfl,q1⟩
def pe_or(ha:PE X a ta)(hb:PE X (.BoolOp .Or (b::pZ) pos) tb):PE X (.BoolOp .Or (a::b::pZ) pos) (tOrV ta tb):=by
 intro Pe s O H Q I h;refine BoolOp_or (thn (ha Pe s O H _ I h) λv s1=>e4 λx H1 I1 r1 q1=>?_);obtain⟨c,rfl,q1⟩:=q1;cases r1;refine eI ?_;cases c with
 |false=>exact hb Pe s1 O H1 Q I1 q1
 |true=>exact⟨.bl true,H1,I1,rfl,q1⟩
def tIf(t:TT)(ta tb:TE):TE:=λO H Q=>t O H λc H1=>if c=true then ta O H1 Q else tb O H1 Q
def IP(hc:PT X c tA)(ha:PE X a ta)(hb:PE X b tb):PE X (.IfExp c a b pos) (tIf tA ta tb):=by
 intro Pe s O H Q I h;refine wpAny_IfExp (thn (hc Pe s O H _ I h) λd s1=>e3 λH1 I1 q1=>?_);cases d with
 |true=>exact ha Pe s1 O H1 Q I1 q1
 |false=>exact hb Pe s1 O H1 Q I1 q1
end
def SqL(K:aa)(H:Hp)(a:ak)(xs:List V):Prop :=
 Rd H a (.lst xs) \/
  ∃(o:Obj)(its:Array ag)(n:Nat),K.lookup a=Za o/\o.cls=.type "list"/\o.dict=Zb/\o.data=.seq its n/\its.size<=aK/\Vals xs its.toList
def SqT(K:aa)(H:Hp)(a:ak)(xs:List V):Prop :=
 Rd H a (.tup xs) \/
  ∃(o:Obj)(its:Array ag)(n:Nat),K.lookup a=Za o/\o.cls=.type "tuple"/\o.data=.seq its n/\its.size<=aK/\Vals xs its.toList
def absV:ag->Option V
 |.none=>Za .non
 |.bool b=>Za (.bl b)
 |.int i _=>Za (.int i)
 |.str x _=>Za (.str x)
 |.bytes b _=>Za (.byt b)
 |.float b _=>Za (.flt b)
 |.ref a=>Za (.ref a)
 |.type n=>Za (.ty n)
 |_=>Zb
def RelV.abs(r:RelV x u):absV u=Za x:=by
 cases x with
 |non=>cases r;rfl
 |bl _=>cases r;rfl
 |int _=>obtain⟨t,rfl⟩:=r;rfl
 |str _=>obtain⟨t,rfl⟩:=r;rfl
 |byt _=>obtain⟨t,rfl⟩:=r;rfl
 |flt _=>obtain⟨t,rfl⟩:=r;rfl
 |ref _=>cases r;rfl
 |ty _=>cases r;rfl
def RelV.inj(r:RelV x u)(q:RelV y u):x=y:=aP (r.abs.symm.trans q.abs)
theorem Vals.inj:∀{xs ys:List V}{us:List ag},Vals xs us->Vals ys us->xs=ys
 |_,_,_,.nil,.nil=>rfl
 |_,_,_,.cons r t,.cons r' t'=>by rw[r.inj r',Vals.inj t t']
section
variable{X:Cx}{Pe:List (ak×Obj)}{O:St}{H:Hp}{s:ax}{a:ak}{xs ys:List V}
def SqL.of{K}(h:H a=Za (.lst xs)):SqL K H a xs:=.inl (.inl h)
def SqT.of{K}(h:H a=Za (.tup xs)):SqT K H a xs:=.inl (.inl h)
def Inv.list(I:Inv X Pe O H s)(h:SqL X.K H a xs):∃its:List ag,Vals xs its/\PlainL s.heap a its.toArray/\xs.length<=aK:=by
 rcases h with h|⟨o,its,n,hk,hc,hd,hs,hz,r⟩
 ·obtain⟨z,its,n,r,e⟩:=h.ok I.hok;exact⟨its,r,⟨_,n,e,rfl,rfl,rfl⟩,z⟩
 ·refine⟨its.toList,r,⟨o,n,I.kIn a o hk,hc,hd,by simpa using hs⟩,?_⟩;have e:=r.length;simp only[fV] at e;lia
def Inv.tuple(I:Inv X Pe O H s)(h:SqT X.K H a xs):∃its:List ag,Vals xs its/\IsTup s.heap a its.toArray/\xs.length<=aK:=by
 rcases h with h|⟨o,its,n,hk,hc,hs,hz,r⟩
 ·obtain⟨z,its,r,p⟩:=h.ok I.hok;exact⟨its,r,p,z⟩
 ·refine⟨its.toList,r,⟨o,I.kIn a o hk,hc,n,by simpa using hs⟩,?_⟩;have e:=r.length;simp only[fV] at e;lia
def Inv.list_inj(I:Inv X Pe O H s)(h:SqL X.K H a xs)(h':SqL X.K H a ys):xs=ys:=by
 obtain⟨its,r,⟨o,n,e,_,_,d⟩,_⟩:=I.list h;obtain⟨its',r',⟨o',n',e',_,_,d'⟩,_⟩:=I.list h';rw[e] at e';cases e';rw[d] at d';injection d' with d1 _
 have:its=its':=by simpa using congrArg Array.toList d1
 subst this;exact r.inj r'
def Inv.tuple_inj(I:Inv X Pe O H s)(h:SqT X.K H a xs)(h':SqT X.K H a ys):xs=ys:=by
 obtain⟨its,r,⟨o,e,_,n,d⟩,_⟩:=I.tuple h;obtain⟨its',r',⟨o',e',_,n',d'⟩,_⟩:=I.tuple h';rw[e] at e';cases e';rw[d] at d';injection d' with d1 _
 have:its=its':=by simpa using congrArg Array.toList d1
 subst this;exact r.inj r'
end
abbrev Cx.wish(X:Cx)(E:ag->ax->Prop):Cx:={ X with xe:=E }
abbrev Cx.nox(X:Cx):Cx:=X.wish λ_ _=>False
theorem Cx.Ok.wish{X:Cx}(ok:X.Ok)(E:ag->ax->Prop):(X.wish E).Ok :=
 ⟨ok.mod,ok.kind,ok.glob,ok.blt,ok.above,ok.inj,ok.has,ok.cab,ok.hd,ok.frames,ok.stk,ok.exf,ok.bs,ok.bsz,ok.noex,ok.exfs,ok.funs,ok.frf⟩
def Cx.Ok.unwish{X:Cx}{E:ag->ax->Prop}(ok:(X.wish E).Ok):X.Ok :=
 ⟨ok.mod,ok.kind,ok.glob,ok.blt,ok.above,ok.inj,ok.has,ok.cab,ok.hd,ok.frames,ok.stk,ok.exf,ok.bs,ok.bsz,ok.noex,ok.exfs,ok.funs,ok.frf⟩
section
variable{X:Cx}{Pe:List (ak×Obj)}{O:St}{H:Hp}{s:ax}{E:ag->ax->Prop}
theorem Inv.wish(I:Inv X Pe O H s)(E:ag->ax->Prop):Inv (X.wish E) Pe O H s:=⟨I.ok.wish E,I.os,I.bare,I.base,I.loc,I.cell,I.free,I.freeC,I.pin,I.hok,I.len⟩
theorem Inv.unwish(I:Inv (X.wish E) Pe O H s):Inv X Pe O H s:=⟨I.ok.unwish,I.os,I.bare,I.base,I.loc,I.cell,I.free,I.freeC,I.pin,I.hok,I.len⟩
theorem SP.unwish(h:SP (X.wish E) Pe D f s'):SP X Pe D f s':=by
 cases f with
 |next=>obtain⟨σ',H',I,q⟩:=h;exact⟨σ',H',I.unwish,q⟩
 |brk=>obtain⟨σ',H',I,q⟩:=h;exact⟨σ',H',I.unwish,q⟩
 |cont=>obtain⟨σ',H',I,q⟩:=h;exact⟨σ',H',I.unwish,q⟩
 |ret u=>obtain⟨v,σ',H',I,r,q⟩:=h;exact⟨v,σ',H',I.unwish,r,q⟩
theorem PSs.nox{st}{t}(h:PSs X.nox st t):PSs X st t:=λPe s O H D I hw =>
 bM (h Pe s O H D (I.wish _) hw) (λ_ _ q=>q.unwish) λ_ _ z=>bR z
end
section
variable{X:Cx}{st:bQ}{pZ:List bQ}{t u:TS}{e:bo}{te:TE}{pos:Pos}
def tNext:TS:=λD O H=>D.nx O H
def tSeq(t u:TS):TS:=λD O H=>t { D with nx:=u D } O H
def pss_nil:PSs X [] tNext:=λ_ _ O H _ I h=>iE ⟨O,H,I,h⟩
def ms(h1:PS X st t)(h2:PSs X pZ u):PSs X (st::pZ) (tSeq t u):=by
 intro Pe s O H D I h;refine wpAny_execs_cons (thn (h1 Pe s O H { D with nx:=u D } I h) λf s1 q=>?_);cases f with
 |next =>
  obtain⟨σ',H',I',q⟩:=q;exact h2 Pe s1 σ' H' D I' q
 |ret v=>exact q
 |brk=>exact q
 |cont=>exact q
def mB(h1:PS X st t):PSs X [st] t:=by
 intro Pe s O H D I h;refine wpAny_execs_cons (thn (h1 Pe s O H D I h) λf s1 q=>?_);cases f with
 |next=>exact iE q
 |ret v=>exact q
 |brk=>exact q
 |cont=>exact q
def Inv.quiet(I:Inv X Pe O H s):interactive X.env=false:=by simp[interactive,I.ok.kind]
def tDrop(te:TE):TS:=λD O H=>te O H λ_ H1=>D.nx O H1
def pK(he:PE X e te)(hs:dM e Zb pos.line X.env=pure false:=by rfl):PS X (.Expr e pos) (tDrop te):=by intro Pe s O H D I h;exact wpAny_Expr_any (thn (he Pe s O H _ I h) λv s1=>e4 λx H1 I1 r1 q1=>⟨O,H1,I1,q1⟩) I.quiet hs
def tRet(te:TE):TS:=λD O H=>te O H D.rt
def qF(he:PE X e te):PS X (.Return (Za e) pos) (tRet te):=by intro Pe s O H D I h;exact wpAny_Return_some (thn (he Pe s O H _ I h) λv s1=>e4 λx H1 I1 r1 q1=>⟨x,O,H1,I1,r1,q1⟩)
def tRetN:TS:=λD _ H=>D.rt .non H
def ps_retN:PS X (.Return Zb pos) tRetN:=λ_ _ O H _ I h=>wpAny_Return_none ⟨.non,O,H,I,rfl,h⟩
def tIfS(c:TT)(t u:TS):TS:=λD O H=>c O H λb H1=>if b=true then t D O H1 else u D O H1
def ww{c}{a b}{tc}(hc:PT X c tc)(ha:PSs X a t)(hb:PSs X b u):PS X (.If c a b pos) (tIfS tc t u):=by
 intro Pe s O H D I h;refine wpAny_If (thn (hc Pe s O H _ I h) λd s1=>e3 λH1 I1 q1=>?_);cases d with
 |true=>exact ha Pe s1 O H1 D I1 q1
 |false=>exact hb Pe s1 O H1 D I1 q1
abbrev TG:=V->St->Hp->(St->Hp->Prop)->Prop
abbrev TGs:=List V->St->Hp->(St->Hp->Prop)->Prop
def PG(X:Cx)(Qc:bo)(t:TG):Prop :=
 ∀(Pe:List (ak×Obj))(s:ax)(O:St)(H:Hp)(v:V)(u:ag)(Q:St->Hp->Prop),Inv X Pe O H s->RelV v u->t v O H Q ->
  aS (model X.prog X.w) X.A (assign Qc X.env u) (λ_ s'=>∃σ' H',Inv X Pe σ' H' s'/\Q σ' H') X.xe s
def PGs(X:Cx)(ts:List bo)(t:TGs):Prop :=
 ∀(Pe:List (ak×Obj))(s:ax)(O:St)(H:Hp)(vs:List V)(us:List ag)(Q:St->Hp->Prop),Inv X Pe O H s->Vals vs us->t vs O H Q ->
  aS (model X.prog X.w) X.A (kX ((cQ ts X.env).map (·.2)) us) (λ_ s'=>∃σ' H',Inv X Pe σ' H' s'/\Q σ' H') X.xe s
abbrev MP:=V->V->V->Hp->(Hp->Prop)->Prop
def PSet(X:Cx)(t:MP):Prop :=
 ∀(Pe:List (ak×Obj))(s:ax)(O:St)(H:Hp)(o i v:V)(ov iv u:ag)(Q:Hp->Prop),Inv X Pe O H s->RelV o ov->RelV i iv->RelV v u->t o i v H Q ->
  aS (model X.prog X.w) X.A (kf ov iv u) (λ_ s'=>∃H',Inv X Pe O H' s'/\Q H') X.xe s
abbrev TIp:=V->V->Hp->VK->Prop
def PIp(X:Cx)(op:Operator)(t:TIp):Prop :=
 ∀(Pe:List (ak×Obj))(s:ax)(O:St)(H:Hp)(x y:V)(v u:ag)(Q:VK),Inv X Pe O H s->RelV x v->RelV y u->t x y H Q ->
  aS (model X.prog X.w) X.A (inplaceOp op v u) (EP X Pe O Q) X.xe s
def Fc(i:Nat):TG:=λv O H Q=>Q (O.set i (Za v)) H
def FW(hN:X.N.Nodup)(hi:X.N[i]?=Za x)(hx:Loc X.env.scope x)(hf:X.fn x=true\/X.env.scope.names.lookup x=Za .local:=by first|exact .inl rfl|exact .inr rfl|assumption):PG X (.Name x pos) (Fc i):=by intro Pe s O H v u Q I r h;exact jp (uF I hN hi hx r (λs' I'=>⟨_,H,I',h⟩) hf)
def gNil:TGs:=λvs O H Q=>vs=[]/\Q O H
def gCons(t:TG)(u:TGs):TGs:=λvs O H Q=>∃v r,vs=v::r/\t v O H λσ' H'=>u r σ' H' Q
def pgs_nil:PGs X [] gNil:=by intro Pe s O H vs us Q I r h;obtain⟨e,h⟩:=h;subst e;cases r;exact assignInOrder_nil ⟨O,H,I,h⟩
def IK{e}{t:TG}{u:TGs}(h1:PG X e t)(h2:PGs X es u)(hs:(cQ (e::es) X.env).map (·.2)=assign e X.env::(cQ es X.env).map (·.2):=by rfl):PGs X (e::es) (gCons t u):=by
 intro Pe s O H vs us Q I r h;obtain⟨v,vr,e1,h⟩:=h;subst e1;cases r with
 |cons r rr =>
  rw[hs];refine jh (thn (h1 Pe s O H _ _ _ I r h) λ_ s1=>e4b λσ1 H1 I1 q1=>?_);exact h2 Pe s1 σ1 H1 _ _ Q I1 rr q1
def gTup(K:aa)(n:Nat)(t:TGs):TG:=λv O H Q=>∃a xs,v=.ref a/\SqT K H a xs/\xs.length=n/\t xs O H Q
def NV{t:TGs}(hc:X.calm=true)(h:PGs X es t)(hn:(cQ es X.env).length=n:=by rfl)(QI:(cQ es X.env).findIdx? (·.1)=none:=by rfl):PG X (.Tuple es k pos) (gTup X.K n t):=by
 intro Pe s O H v u Q I r hw;obtain⟨a,xs,e1,hq,hl,hw⟩:=hw;subst e1;cases r;obtain⟨its,rv,ht,hz⟩:=I.tuple hq;refine assign_Tuple_tuple (I.ok.hd hc) ht (by simp[hn,<-hl,rv.length]) QI λh' hx=>?_;have I1:Inv X Pe O H { s with heap:=h' }:=I.kept (t':=s.toks) λb o e=>hx b o (aG (az e)) e;exact h Pe _ O H xs _ Q I1 (by simpa using rv) hw
def gSub(to ti:TE)(t:MP):TG:=λv O H Q=>to O H λo H1=>ti O H1 λi H2=>t o i v H2 λH3=>Q O H3
def NW{t:MP}(ho:PE X o to)(hi:PE X i ti)(hs:PSet X t)(ha:∀v,assign (.Subscript o i pos) X.env v=(do
   let ov <-holding [v] (eval o X.env);let iv <-holding [v,ov] (eval i X.env)
   gv pos
   holding [v,ov,iv] (kf ov iv v)
   release [v,ov,iv] []):=by intro _;rfl):PG X (.Subscript o i pos) (gSub to ti t):=by
 intro Pe s O H v u Q I r h;rw[ha];refine aq (ei (thn (ho Pe s O H _ I h) λov s1=>e4 λx H1 I1 r1 q1=>?_));refine aq (ei (thn (hi Pe s1 O H1 _ I1 q1) λiv s2=>e4 λy H2 I2 r2 q2=>?_));refine aq (f6 (aq (ei (thn (hs Pe s2 O H2 x y v ov iv u _ I2 r1 r2 r q2) λ_ s3=>e3 λH3 I3 q3=>?_))));exact wpAny_release ⟨O,H3,I3,q3⟩
def MU(te:TE)(g:TG):TS:=λD O H=>te O H λx H1=>g x O H1 D.nx
def JV{tg e}{te}(he:PE X e te)(hg:PG X tg g)(hs:gU [tg] e pos.line X.env=pure false:=by rfl)(hw:gW [tg] e X.env=pure none:=by rfl)(h1:(cQ [tg] X.env).map (·.2)=[assign tg X.env]:=by rfl):PS X (.Assign [tg] e pos) (MU te g):=by
 intro Pe s O H D I h;refine wpAny_Assign_stores (thn (he Pe s O H _ I h) λv s1=>e4 λx H1 I1 r1 q1=>?_) hs hw;rw[h1];exact thn (hg Pe s1 O H1 x v _ I1 r1 q1) λ_ s2 q=>q
def sH{i}{x}{e}{te}{Pu}(hN:X.N.Nodup)(hi:X.N[i]?=Za x)(hx:Loc X.env.scope x)(he:PE X e te)(hs:dM e (Za (.Name x Pu)) pos.line X.env=pure false:=by rfl)(hf:X.fn x=true\/X.env.scope.names.lookup x=Za .local:=by first|exact .inl rfl|exact .inr rfl|assumption) :
  PS X (.Assign [.Name x Pu] e pos) (MU te (Fc i)):=by
 intro Pe s O H D I h;refine wpAny_Assign_Name (thn (he Pe s O H _ I h) λv s1=>e4 λy H1 I1 r1 q1=>?_) hs;exact uF I1 hN hi hx r1 (λs2 I2=>⟨_,H1,I2,q1⟩) hf
def tPar(i j:Nat)(ta:TA):TS:=λD O H=>ta O H λvs H1=>∃v w,vs=[v,w]/\D.nx ((O.set i (Za v)).set j (Za w)) H1
def NQ{kt k2 pt2}(hc:X.calm=true)(hN:X.N.Nodup)(hi:X.N[i]?=Za x)(hj:X.N[j]?=Za y)(Tu:i≠j)(hx:X.env.scope.names.lookup x=Za .local)(hy:X.env.scope.names.lookup y=Za .local)(ha:PA X [a,b] ta)(hw:gW [.Tuple [.Name x px,.Name y py] kt pt] (.Tuple [a,b] k2 pt2) X.env=pure (Za [x,y]))(hs:gU [.Tuple [.Name x px,.Name y py] kt pt] (.Tuple [a,b] k2 pt2) pos.line X.env=pure false:=by rfl) :
  PS X (.Assign [.Tuple [.Name x px,.Name y py] kt pt] (.Tuple [a,b] k2 pt2) pos) (tPar i j ta):=by
 intro Pe s O H D I h;rw[exec_Assign_arm];refine aq (f6 ?_);rw[hs];refine aq (aN ?_);rw[Zd (by decide)];refine aq (Tuple_ (thn (ha _ Pe s O H _ I h) λus s1=>e4 λvs H1 I1 r1 q1=>?_));obtain⟨v,w,e1,q1⟩:=q1;subst e1;obtain⟨u1,u2,rfl,rv,P0⟩:∃u1 u2,us=[u1,u2]/\RelV v u1/\RelV w u2:=by
  cases r1 with
  |cons p q =>
   cases q with
   |cons p' q' =>
    cases q';exact⟨_,_,rfl,p,p'⟩
 refine eJ ?_ (by show 2<=aK;decide);have I2:Inv X Pe O H1 { s1 with heap:=s1.heap.push { cls:=.type "tuple",data:=.seq [u1,u2].toArray } }:=I1.kept (t':=s1.toks) λb o e=>ar _ e;rw[hw];refine aq (aN ?_);show aS (model X.prog X.w) X.A (do rule "assign.swapped-stores";let items <-unpackItems (.ref s1.heap.objs.size) 2 Zb;kX [λv=>bindName X.env y v,λv=>bindName X.env x v] items.reverse;pure Flow.next) _ _ _;refine aq (wpAny_rule (aq (unpackItems_tuple (items:=#[u1,u2]) (I.ok.hd hc) (IsTup.new s1.heap _) λh' QW=>?_)));have I3:=I2.kept (h':=h') (t':=s1.toks) λb o e=>QW b o (aG (az e)) e;show aS _ _ (kX [λv=>bindName X.env y v,λv=>bindName X.env x v] [u2,u1] >>= λ_=>pure Flow.next) _ _ _;refine aq (jh (wpAny_bindName (uF I3 hN hj (.inl hy) P0 (λs2 I4=>?_) (.inr hy))));refine jh (wpAny_bindName (uF I4 hN hi (.inl hx) rv (λs3 I5=>assignInOrder_nil (aN ?_)) (.inr hx)));rw[List.set_comm _ _ (bW Tu)] at I5;exact⟨_,H1,I5,q1⟩
def tAug(i:Nat)(te:TE)(ti:TIp):TS:=λD O H=>∃x,O[i]?=Za (Za x)/\te O H λy H1=>ti x y H1 λz H2=>D.nx (O.set i (Za z)) H2
def NS{e}{te}(hN:X.N.Nodup)(hi:X.N[i]?=Za x)(hx:Loc X.env.scope x)(he:PE X e te)(ho:PIp X op ti)(hf:X.fn x=true\/X.env.scope.names.lookup x=Za .local:=by first|exact .inl rfl|exact .inr rfl|assumption) :
  PS X (.AugAssign (.Name x Pu) op e pos) (tAug i te ti):=by
 intro Pe s O H D I h;obtain⟨v,e1,h⟩:=h;obtain⟨m,hn,hl⟩:=I.loc;have vis:Vis X.env.scope x:=by rcases hx with k|k;exact .inl k;exact .inr (.inl k)
 obtain⟨u,r,l⟩:=hl i x v hi e1 vis;refine wpAny_AugAssign_Name ?_;have go:aS (model X.prog X.w) X.A (eval e X.env) (λw Qy=>aS (model X.prog X.w) X.A (inplaceOp op u w) (λr Pj=>aS (model X.prog X.w) X.A (storeName X.env x r) (λ_=>SP X Pe D .next) X.xe Pj) X.xe Qy) X.xe s:=by refine thn (he Pe s O H _ I h) λw s1=>e4 λy H1 I1 r1 q1=>?_;refine thn (ho Pe s1 O H1 v y u w _ I1 r r1 q1) λz s2=>e4 λzv H2 I2 r2 q2=>?_;exact uF I2 hN hi hx r2 (λs3 I3=>⟨_,H2,I3,q2⟩) hf
 rcases l with⟨hk,hm⟩|⟨hk,c,hc,P7⟩
 ·exact wpAny_loadName_local I.ok.kind hk hn hm go
 ·rcases hk with hk|hk
  ·exact wpAny_loadName_cell I.ok.kind hk hc P7 go
  ·rcases hx with k|k
   ·have:X.env.scope.names.lookup x=Za .free:=hk;rw[k] at this;cases this
   ·have:X.env.scope.names.lookup x=Za .free:=hk;rw[k] at this;cases this
def tAugS(to ti te:TE)(RT:V->V->Hp->VK->Prop)(UA:TIp)(RR:MP):TS:=λD O H=>to O H λo H1=>ti O H1 λi H2=>RT o i H2 λx H3=>te O H3 λy H4=>UA x y H4 λz H5=>RR o i z H5 λH6=>D.nx O H6
def PGet(X:Cx)(t:V->V->Hp->VK->Prop):Prop :=
 ∀(Pe:List (ak×Obj))(s:ax)(O:St)(H:Hp)(o i:V)(ov iv:ag)(Q:VK),Inv X Pe O H s->RelV o ov->RelV i iv->t o i H Q ->
  aS (model X.prog X.w) X.A (iy ov iv) (EP X Pe O Q) X.xe s
def Ll{o i e}{to ti te}(ho:PE X o to)(hi:PE X i ti)(hg:PGet X RT)(he:PE X e te)(hp:PIp X op UA)(hs:PSet X RR)(ha:∀ov iv new,augStore i ov iv new=(do holding [new,ov,iv] (kf ov iv new);release [new,ov,iv] [];pure .next):=by intros;rfl):PS X (.AugAssign (.Subscript o i PX) op e pos) (tAugS to ti te RT UA RR):=by
 intro Pe s O H D I h;refine wpAny_AugAssign_SubscriptAny (thn (ho Pe s O H _ I h) λov s1=>e4 λx1 H1 I1 r1 q1=>?_) ha;refine thn (hi Pe s1 O H1 _ I1 q1) λiv s2=>e4 λx2 H2 I2 r2 q2=>?_;refine thn (hg Pe s2 O H2 x1 x2 ov iv _ I2 r1 r2 q2) λold s3=>e4 λx3 H3 I3 r3 q3=>?_;refine thn (he Pe s3 O H3 _ I3 q3) λv s4=>e4 λx4 H4 I4 r4 q4=>?_;refine thn (hp Pe s4 O H4 x3 x4 old v _ I4 r3 r4 q4) λnew s5=>e4 λx5 H5 I5 r5 q5=>?_;exact thn (hs Pe s5 O H5 x1 x2 x5 ov iv new _ I5 r1 r2 r5 q5) λ_ s6=>e3 λH6 I6 q6=>⟨O,H6,I6,q6⟩
def ipI(f:Int->Int->Int):TIp:=λx y H Q=>∃i j,x=.int i/\y=.int j/\Q (.int (f i j)) H
def J8:PIp X .Add (ipI λi j=>i+j):=by intro Pe s O H x y v u Q I r1 r2 h;obtain⟨i,j,e1,e2,q⟩:=h;subst e1;subst e2;obtain⟨t,rfl⟩:=r1;obtain⟨t',rfl⟩:=r2;exact iadd_int ⟨.int _,H,I.tok _,⟨_,rfl⟩,q⟩
def Nx(c:TT)(tb:TS):TS:=λD O H=>∃W:Nat->St->Hp->Prop,(∃m,W m O H)/\∀m O H,W m O H ->
 c O H λb H1=>if b=true then ∃N:St->Hp->Prop,(∀σ' H',N σ' H'->∃m',m'<m/\W m' σ' H')/\tb { D with nx:=N,ct:=N,bk:=D.nx } O H1 else D.nx O H1
def DV(hp:PassesOwn (model X.prog X.w) X.A X.env X.xe)(hc:PT X c tc)(hb:PSs X body tb):PS X (.While c body [] pos) (Nx tc tb):=by
 intro Pe s O H D I h;obtain⟨W,⟨m0,w0⟩,Qv⟩:=h;refine wpAny_While (codeAny_whileLoop (λn s'=>∃σ' H',Inv X Pe σ' H' s'/\W n σ' H') ?_ m0 ⟨O,H,I,w0⟩)
 rintro n s1 ⟨σ1,H1,I1,w1⟩
 refine ed hp (thn (hc Pe s1 σ1 H1 _ I1 (Qv n σ1 H1 w1)) λb s2=>e3 λH2 I2 q2=>?_);cases b with
 |true =>
  obtain⟨N,hN,q2⟩:=q2;rw[Zc rfl];refine ed hp (thn (hb Pe s2 σ1 H2 _ I2 q2) λf s3 q3=>?_);cases f with
  |next =>
   obtain⟨σ3,H3,I3,n3⟩:=q3;obtain⟨m',hm,w3⟩:=hN σ3 H3 n3;exact⟨m',hm,σ3,H3,I3,w3⟩
  |cont =>
   obtain⟨σ3,H3,I3,n3⟩:=q3;obtain⟨m',hm,w3⟩:=hN σ3 H3 n3;exact⟨m',hm,σ3,H3,I3,w3⟩
  |brk=>exact q3
  |ret v=>exact q3
 |false =>
  rw[Zd a6];exact iE ⟨σ1,H2,I2,q2⟩
end
structure It where
 go:Nat->Hp->Prop
 yld:Nat->Hp->V->Hp->Prop
 stop:Nat->Hp->Prop
def zS(X:Cx)(Pe:List (ak×Obj))(H:Hp)(b:ak):Prop :=
 H b=Zb/\b≠X.env.locals/\b∉X.fs/\(b∈X.ex\/X.sa0.heap.objs.size<=b)/\(∀x c,X.env.cells.lookup x=Za c->c≠b)/\∀p∈X.pn++Pe,p.1≠b
def Inv.fpOk(I:Inv X Pe O H s)(hb:s.heap.objs.size<=b)(hn:H' b=Zb):zS X Pe H' b:=by
 refine⟨hn,gc (ay I.lt hb),I.nofs hb,.inr (aE I.sz hb),λx c e z=>?_,λp hp z=>?_⟩
 ·obtain⟨v,q⟩:=I.cell x c e;exact absurd (ay q.lt (by rw[z];exact hb)) (dP _)
 ·exact absurd (ay (az (I.pin p hp).1) (by rw[z];exact hb)) (dP _)
structure Turn(P:aL)(w:bh)(K:aa)(tg:bo)(J:It)(fp:List ak)(it:ak)(tn:Nat->bv->Prop):Prop where
 mem:it∈fp
 obj:∀i h,tn i h->∀b∈fp,∃o,h.get? b=Za o/\∀v,o.data≠.cell v
 keep:∀i h h',tn i h->(∀b∈fp,∀o,h.get? b=Za o->h'.get? b=Za o)->tn i h'
 item:∀(X:Cx),X.prog=P->X.w=w->X.K=K->X.calm=true->∀(i:Nat)(Pe:List (ak×Obj))(s:ax)(O:St)(H:Hp)(E:ag->ax->Prop),Inv X Pe O H s->(∀b∈fp,zS X Pe H b)->tn i s.heap->J.go i H ->
  aS (model P w) X.A (pyNext (.ref it)) (λr s1=>∃u,r=Za u /\
   aS (model P w) X.A (iF tg (.ref it) u) (λ_ s2=>∃x H',Inv X Pe O H' s2/\RelV x u/\J.yld i H x H'/\tn (i+1) s2.heap/\∀b∈fp,H' b=Zb) E s1) E s
 done:∀(X:Cx),X.prog=P->X.w=w->X.K=K->X.calm=true->∀(i:Nat)(Pe:List (ak×Obj))(s:ax)(O:St)(H:Hp)(E:ag->ax->Prop),Inv X Pe O H s->(∀b∈fp,zS X Pe H b)->tn i s.heap->J.stop i H ->
  aS (model P w) X.A (pyNext (.ref it)) (λr s1=>r=Zb/\Inv X Pe O H s1) E s
 self:∀(A:cA)(i:Nat)(s:ax)(Q:ag->ax->Prop)(E:ag->ax->Prop),tn i s.heap->Q (.ref it) s->aS (model P w) A (pyIter (.ref it)) Q E s
abbrev TI:=St->Hp->(It->Hp->Prop)->Prop
def PIE(X:Cx)(Pe:List (ak×Obj))(O:St)(tg:bo)(R:It->Hp->Prop)(Sv:ag)(s2:ax):Prop :=
 ∃(it:ak)(fp:List ak)(tn:Nat->bv->Prop)(J:It)(H':Hp),Sv=.ref it/\Inv X Pe O H' s2/\Turn X.prog X.w X.K tg J fp it tn/\tn 0 s2.heap/\(∀b∈fp,zS X Pe H' b)/\R J H'
def PI(X:Cx)(tg iter:bo)(wi:TI):Prop :=
 ∀(Pe:List (ak×Obj))(s:ax)(O:St)(H:Hp)(R:It->Hp->Prop),Inv X Pe O H s->wi O H R ->
  aS (model X.prog X.w) X.A (eval iter X.env) (λv s1=>aS (model X.prog X.w) X.A (pyIter v) (PIE X Pe O tg R) X.xe s1) X.xe s
def E9(ho:s.heap.get? it=Za o)(hc:o.cls=.type n)(hd:o.data=.fields vs)(hn:["enumerate","zip","dict_itemiterator","dict_reverseitemiterator","odict_iterator","itertools.zip_longest","itertools.pairwise"].contains n=false)(hQ:Q () s):aS M A (iF tg (.ref it) u) Q E s:=by
 unfold iF;cases tg<;>first
  |exact aN hQ
  | (cases u<;>first
    |exact aN hQ
    | (refine aq (wpAny_load ho ?_)
       rw[hc,hd];show aS M A (if(["enumerate","zip","dict_itemiterator","dict_reverseitemiterator","odict_iterator","itertools.zip_longest","itertools.pairwise"].contains n&&vs[0]?==Za (rawInt _))=true then _ else _) Q E s;rw[Zd (by intro h;rw[hn,fA] at h;cases h)];exact aN hQ))
def Itl(K:aa)(a:ak):It :=
 ⟨λi H=>∃xs x,SqL K H a xs/\xs[i]?=Za x,λi H x H'=>H'=H/\∀xs,SqL K H a xs->xs[i]?=Za x,λi H=>∃xs,SqL K H a xs/\xs.length<=i⟩
def Itt(K:aa)(a:ak):It :=
 ⟨λi H=>∃xs x,SqT K H a xs/\xs[i]?=Za x,λi H x H'=>H'=H/\∀xs,SqT K H a xs->xs[i]?=Za x,λi H=>∃xs,SqT K H a xs/\xs.length<=i⟩
def Itr(lo:Int)(n:Nat):It:=⟨λi _=>i<n,λi H x H'=>H'=H/\x=.int (lo+i),λi _=>n<=i⟩
def Bh{P}{w}{K}{tg}(a it):Turn P w K tg (Itl K a) [it] it (λi h=>h.IsListIter it a i) where
 mem:=by simp
 obj:=λi h st b hb=>by
  have e:b=it:=by simpa using hb
  subst e;obtain⟨o,e,c,d⟩:=st;exact⟨o,e,λv z=>by rw[d] at z;cases z⟩
 keep:=λi h h' st k=>st.at λo e=>k it (by simp) o e
 item:=by intro X hP hw hK hc i Pe s O H E I hf st hg;subst hP hw hK;obtain⟨xs,x,hq,hx⟩:=hg;obtain⟨its,rv,p,hz⟩:=I.list hq;obtain⟨u,hu,ru⟩:=rv.get hx;obtain⟨f0,f1,f2,f3,f4,f5⟩:=hf it (by simp);refine wpAny_pyNext_list_item st p.isList (x:=u) (by simpa using hu) λh' Qt sb=>?_;have I1:Inv X Pe O H { s with heap:=h' }:=I.turned (t':=s.toks) (λb o hb e=>(sb.2 b hb).trans e) f0 f1 f3 f4 f5;obtain⟨o,e,c,d⟩:=id Qt;exact⟨u,rfl,E9 (s:={ s with heap:=h' }) e c d (by decide) ⟨x,H,I1,ru,⟨rfl,λys hy=>by rw[I.list_inj hy hq];exact hx⟩,Qt,λb hb=>(hf b hb).1⟩⟩
 done:=by intro X hP hw hK hc i Pe s O H E I hf st hg;subst hP hw hK;obtain⟨xs,hq,hx⟩:=hg;obtain⟨its,rv,p,hz⟩:=I.list hq;obtain⟨f0,f1,f2,f3,f4,f5⟩:=hf it (by simp);have hl:=rv.length;exact wpAny_pyNext_list_end (I.ok.hd hc) st p.isList (by simp;lia) λh' eb=>⟨rfl,I.turned (t':=s.toks) (λb o hb e=>eb b o hb e) f0 f1 f3 f4 f5⟩
 self:=λ_ _ _ _ _ st h=>wpAny_pyIter_listiter st h
def EB{P}{w}{K}{tg}(a it):Turn P w K tg (Itt K a) [it] it (λi h=>h.IsTupleIter it a i) where
 mem:=by simp
 obj:=λi h st b hb=>by
  have e:b=it:=by simpa using hb
  subst e;obtain⟨o,e,c,d⟩:=st;exact⟨o,e,λv z=>by rw[d] at z;cases z⟩
 keep:=λi h h' st k=>st.at λo e=>k it (by simp) o e
 item:=by intro X hP hw hK hc i Pe s O H E I hf st hg;subst hP hw hK;obtain⟨xs,x,hq,hx⟩:=hg;obtain⟨its,rv,p,hz⟩:=I.tuple hq;obtain⟨u,hu,ru⟩:=rv.get hx;obtain⟨f0,f1,f2,f3,f4,f5⟩:=hf it (by simp);refine wpAny_pyNext_tuple_item st (show s.heap.IsTuple a its.toArray from p) (x:=u) (by simpa using hu) λh' Qt sb=>?_;have I1:Inv X Pe O H { s with heap:=h' }:=I.turned (t':=s.toks) (λb o hb e=>(sb.2 b hb).trans e) f0 f1 f3 f4 f5;obtain⟨o,e,c,d⟩:=id Qt;exact⟨u,rfl,E9 (s:={ s with heap:=h' }) e c d (by decide) ⟨x,H,I1,ru,⟨rfl,λys hy=>by rw[I.tuple_inj hy hq];exact hx⟩,Qt,λb hb=>(hf b hb).1⟩⟩
 done:=by intro X hP hw hK hc i Pe s O H E I hf st hg;subst hP hw hK;obtain⟨xs,hq,hx⟩:=hg;obtain⟨its,rv,p,hz⟩:=I.tuple hq;obtain⟨f0,f1,f2,f3,f4,f5⟩:=hf it (by simp);have hl:=rv.length;exact wpAny_pyNext_tuple_end (I.ok.hd hc) st (show s.heap.IsTuple a its.toArray from p) (by simp;lia) λh' eb=>⟨rfl,I.turned (t':=s.toks) (λb o hb e=>eb b o hb e) f0 f1 f3 f4 f5⟩
 self:=λ_ _ _ _ _ st h=>wpAny_pyIter_tupleiter st h
def EC{P}{w}{K}{tg}(it)(lo)(n):Turn P w K tg (Itr lo n) [it] it (λi h=>IsRangeIter h it (lo+(i:Nat)*1) ((n:Int)-(i:Nat)) 1) where
 mem:=by simp
 obj:=λi h st b hb=>by
  have e:b=it:=by simpa using hb
  subst e;exact⟨_,st,λv z=>by have z':Data.fields _=Data.cell v:=z;cases z'⟩
 keep:=λi h h' st k=>k it (by simp) _ st
 item:=by intro X hP hw hK hc i Pe s O H E I hf st hg;subst hP hw hK;obtain⟨f0,f1,f2,f3,f4,f5⟩:=hf it (by simp);have W:=Walks.range (prog:=X.prog) (w:=X.w) (I.ok.hd hc) it lo 1 n;refine W.item i s _ _ hg st λv h' tk hv Qt kk=>?_;obtain⟨t,rfl⟩:=hv;have I1:Inv X Pe O H { s with heap:=h',toks:=tk }:=I.turned (λb o hb e=>kk b o (by simpa using hb) e) f0 f1 f3 f4 f5;refine⟨_,rfl,E9 (s:={ s with heap:=h',toks:=tk }) (n:="range_iterator") Qt rfl rfl (by decide) ⟨.int (lo+i),H,I1,⟨t,?_⟩,⟨rfl,rfl⟩,Qt,λb hb=>(hf b hb).1⟩⟩;rw[lh]
 done:=by intro X hP hw hK hc i Pe s O H E I hf st hg;subst hP hw hK;obtain⟨f0,f1,f2,f3,f4,f5⟩:=hf it (by simp);exact wpAny_pyNext_range_end (I.ok.hd hc) st (by have:n<=i:=hg;lia) λh' eb=>⟨rfl,I.turned (t':=s.toks) (λb o hb e=>eb b o hb e) f0 f1 f3 f4 f5⟩
 self:=λ_ _ _ _ _ st h=>wpAny_pyIter_rangeiter st h
section
variable{X:Cx}{tg:bo}
def iList(K:aa)(tl:TE):TI:=λO H R=>tl O H λx H1=>∃a,x=.ref a/\(∃xs,SqL K H1 a xs)/\R (Itl K a) H1
def Ln{l}{tl}(hl:PE X l tl):PI X tg l (iList X.K tl):=by
 intro Pe s O H R I h;refine thn (hl Pe s O H _ I h) λv s1=>e4 λx H1 I1 r1 q1=>?_;obtain⟨a,e,⟨xs,hq⟩,q⟩:=q1;subst e;cases r1;obtain⟨its,rv,p,hz⟩:=I1.list hq;refine gP p.isList ?_;refine⟨s1.heap.objs.size,[s1.heap.objs.size],_,_,H1,rfl,I1.kept (t':=s1.toks) λb o e=>ar _ e,Bh a _,⟨_,ba _ rfl,rfl,rfl⟩,λb hb=>?_,q⟩;have e:b=s1.heap.objs.size:=by simpa using hb
 subst e;exact I1.fpOk (ao _) (I1.hok.fresh (ao _))
def IE{Pe}{O}{H}{s}{R:It->Hp->Prop}{E}{lo hi}{t u v}{tk}(I:Inv X Pe O H s)(h1:-(2^62)<=lo)(h2:lo<2^62)(h3:-(2^62)<=hi)(h4:hi<2^62)(q:R (Itr lo (hi-lo).toNat) H):aS (model X.prog X.w) X.A (pyIter (.ref s.heap.objs.size)) (PIE X Pe O tg R) E { s with heap:=s.heap.push { cls:=.type "range",data:=.fields #[.int lo t,.int hi u,.int 1 v] },toks:=tk }:=by
 refine wpAny_pyIter_range (IsRange.new ..) (small_one h1 h2 h3 h4) ?_;have I1:Inv X Pe O H { s with heap:=s.heap.push { cls:=.type "range",data:=.fields #[.int lo t,.int hi u,.int 1 v] },toks:=tk }:=I.kept λb o e=>ar _ e;refine⟨(s.heap.push { cls:=.type "range",data:=.fields #[.int lo t,.int hi u,.int 1 v] }).objs.size,[(s.heap.push { cls:=.type "range",data:=.fields #[.int lo t,.int hi u,.int 1 v] }).objs.size],_,_,H,rfl,
  I1.kept (t':=tk) λb o e=>ar _ e,EC _ lo (hi-lo).toNat,?_,λb hb=>?_,q⟩
 ·have e1:lo+((0:Nat):Int)*1=lo:=by simp
  have e2:(((hi-lo).toNat:Nat):Int)-((0:Nat):Int)=Builtin.Range.rangeSize lo hi 1:=by rw[rangeSize_one];split<;>lia
  show IsRangeIter _ _ (lo+((0:Nat):Int)*1) ((((hi-lo).toNat:Nat):Int)-((0:Nat):Int)) 1;rw[e1,e2];exact ba _ rfl
 ·have e:b=(s.heap.push { cls:=.type "range",data:=.fields #[.int lo t,.int hi u,.int 1 v] }).objs.size:=by simpa using hb
  subst e;exact I1.fpOk (ao _) (I1.hok.fresh (ao _))
def iRng1(ta:TA):TI:=λO H R=>ta O H λvs H1=>∃j:Int,vs=[.int j]/\-(2^62)<=j/\j<2^62/\R (Itr 0 j.toNat) H1
def G8{a}{ta}{p pos}(hg:Gl X "range")(hm:X.mg "range"=Zb)(ha:PA X [a] ta)(hs:aB [a] X.env=[(false,eval a X.env)]:=by rfl):PI X tg (.Call (.Name "range" p) [a] [] pos) (iRng1 ta):=by
 intro Pe s O H R I h;refine Call_ (AK I hg hm boot_range (dG (thn (ha pos Pe s O H _ I h) λus s1=>e4 λvs H1 I1 r1 q1=>?_) hs rfl));obtain⟨j,e,q1,q2,q⟩:=q1;subst e;cases r1 with
 |cons r rr =>
  cases rr;obtain⟨t,rfl⟩:=r;exact call_range_1 (IE I1 (by lia) (by lia) q1 q2 (by simpa using q))
def tFor(wi:TI)(g:TG)(tb:TS):TS:=λD O H=>wi O H λJ H1=>∃W:Nat->Nat->St->Hp->Prop,(∃m,W 0 m O H1)/\∀i m O H,W i m O H ->
 (J.stop i H/\D.nx O H)\/(J.go i H/\∃N:St->Hp->Prop,(∀σ' H',N σ' H'->∃m',m'<m/\W (i+1) m' σ' H')/\∀x H',J.yld i H x H'->g x O H' λσ2 H2=>tb { D with nx:=N,ct:=N,bk:=D.nx } σ2 H2)
def AA(fp:List ak)(h:bv):List (ak×Obj):=fp.filterMap λb=>(h.get? b).map λo=>(b,o)
def tD(hb:b∈fp)(e:h.get? b=Za o):(b,o)∈AA fp h:=iO.mpr ⟨b,hb,by rw[e];rfl⟩
def Hm(hp:p∈AA fp h):p.1∈fp/\h.get? p.1=Za p.2:=by
 obtain⟨b,hb,e⟩:=iO.mp hp;cases q:h.get? b with
 |none=>rw[q] at e;cases e
 |some o =>
  rw[q] at e;have e':(b,o)=p:=aP e;subst e';exact⟨hb,q⟩
def Inv.pinned(I:Inv X Pe O H s)(hf:∀b∈fp,zS X Pe H b)(ho:∀b∈fp,∃o,s.heap.get? b=Za o/\∀v,o.data≠.cell v):Inv X (Pe++AA fp s.heap) O H s :=
 I.pins_of λp hp=>(aJ.mp hp).elim (λz=>I.pin p (aA _ z)) λz=>by obtain⟨hb,e⟩:=Hm z;obtain⟨f0,f1,f2,_⟩:=hf p.1 hb;obtain⟨o,e',d⟩:=ho p.1 hb;rw[e] at e';cases e';exact⟨e,f0,f1,f2,d⟩
def Inv.unpinned(I:Inv X (Pe++pl) O H s):Inv X Pe O H s:=I.pins_of λp hp=>I.pin p (aA _ (aO _ hp))
def NR(hp:PassesOwn (model X.prog X.w) X.A X.env X.xe)(hc:X.calm=true)(hi:PI X tg iter wi)(hg:PG X tg g)(hb:PSs X body tb)(hs:∀x,bZ iter X.env x=pure x:=by intro _;rfl):PS X (.For tg iter body [] pos) (tFor wi g tb):=by
 intro Pe s O H D I h;refine wpAny_For (thn (hi Pe s O H _ I h) λv s1 h1=>thn h1 λSv s2 h2=>?_) hs;obtain⟨it,fp,tn,J,H2,e,I2,T,Qh,f2,W,⟨m0,w0⟩,Qv⟩:=h2;subst e;have Qx:∀{H':Hp},(∀b∈fp,H' b=Zb)->∀b∈fp,zS X Pe H' b:=λhn b hb=>⟨hn b hb,(f2 b hb).2⟩;refine codeAny_forLoop_any (λn s'=>∃i σ' H',Inv X Pe σ' H' s'/\tn i s'.heap/\(∀b∈fp,H' b=Zb)/\W i n σ' H') ?_ m0 ⟨0,O,H2,I2,Qh,λb hb=>(f2 b hb).1,w0⟩
 rintro n s3 ⟨i,σ3,H3,I3,SS,TL,w3⟩
 rcases Qv i n σ3 H3 w3 with⟨stop,qn⟩|⟨go,N,hN,step⟩
 ·refine ed hp (thn (T.done X rfl rfl rfl hc i Pe s3 σ3 H3 X.xe I3 (Qx TL) SS stop) λr s4 ⟨hr,I4⟩=>?_);subst hr;exact iE ⟨σ3,H3,I4,qn⟩
 ·refine ed hp (thn (T.item X rfl rfl rfl hc i Pe s3 σ3 H3 X.xe I3 (Qx TL) SS go) λr s4 ⟨u,hr,h4⟩=>?_);subst hr;refine ed hp (thn h4 λ_ s5=>e4 λx H5 I5 r5 ⟨y5,st5,fr5⟩=>?_);have I5':=I5.pinned (Qx fr5) (T.obj _ _ st5);refine ed hp (thn (hg _ s5 σ3 H5 x u _ I5' r5 (step x H5 y5)) λ_ s6=>e4b λσ6 H6 I6 q6=>?_);refine ed hp (thn (hb _ s6 σ6 H6 _ I6 q6) λf s7 q7=>?_);have again:∀{σ7:St}{H7:Hp},Inv X (Pe++AA fp s5.heap) σ7 H7 s7->N σ7 H7->∃m,m<n/\∃i σ' H',Inv X Pe σ' H' s7/\tn i s7.heap/\(∀b∈fp,H' b=Zb)/\W i m σ' H':=λ{σ7 H7} I7 n7=>by obtain⟨m',hm,w7⟩:=hN σ7 H7 n7;refine⟨m',hm,i+1,σ7,H7,I7.unpinned,T.keep _ _ _ st5 λb hb o e=>(I7.pin (b,o) (aA _ (aA _ (tD hb e)))).1,λb hb=>?_,w7⟩;obtain⟨o,e,d⟩:=T.obj _ _ st5 b hb;exact(I7.pin (b,o) (aA _ (aA _ (tD hb e)))).2.1
  cases f with
  |next=>obtain⟨σ7,H7,I7,n7⟩:=q7;exact again I7 n7
  |cont=>obtain⟨σ7,H7,I7,n7⟩:=q7;exact again I7 n7
  |brk=>obtain⟨σ7,H7,I7,q7⟩:=q7;exact⟨σ7,H7,I7.unpinned,q7⟩
  |ret v=>obtain⟨x7,σ7,H7,I7,r7,q7⟩:=q7;exact⟨x7,σ7,H7,I7.unpinned,r7,q7⟩
end
abbrev R2:=V->V->Hp->VK->Prop
def OpR(X:Cx)(f:ag->ag->Sem ag)(r:R2):Prop :=
 ∀(Pe:List (ak×Obj))(s:ax)(O:St)(H:Hp)(x y:V)(v u:ag)(Q:VK),Inv X Pe O H s->RelV x v->RelV y u->r x y H Q ->
  aS (model X.prog X.w) X.A (f v u) (EP X Pe O Q) X.xe s
def UnR(X:Cx)(f:ag->Sem ag)(r:V->Hp->VK->Prop):Prop :=
 ∀(Pe:List (ak×Obj))(s:ax)(O:St)(H:Hp)(x:V)(v:ag)(Q:VK),Inv X Pe O H s->RelV x v->r x H Q ->
  aS (model X.prog X.w) X.A (f v) (EP X Pe O Q) X.xe s
def CallR(X:Cx)(f:ag)(r:List V->Hp->VK->Prop):Prop :=
 ∀(Pe:List (ak×Obj))(s:ax)(O:St)(H:Hp)(xs:List V)(us:List ag)(Q:VK),Inv X Pe O H s->Vals xs us->r xs H Q ->
  aS (model X.prog X.w) X.A (call f us) (EP X Pe O Q) X.xe s
def tOp(r:R2)(ta tb:TE):TE:=λO H Q=>ta O H λx H1=>tb O H1 λy H2=>r x y H2 Q
def tUn(r:V->Hp->VK->Prop)(ta:TE):TE:=λO H Q=>ta O H λx H1=>r x H1 Q
def rI(C:Int->Int->Prop)(g:Int->Int->V):R2:=λx y H Q=>∃i j,x=.int i/\y=.int j/\C i j/\Q (g i j) H
def rI0(g:Int->Int->V):R2:=λx y H Q=>∃i j,x=.int i/\y=.int j/\Q (g i j) H
def rU(g:Int->V):V->Hp->VK->Prop:=λx H Q=>∃i,x=.int i/\Q (g i) H
section
variable{X:Cx}{a b c:bo}{ta tb tc:TE}{pos:Pos}
def Pc(ha:PE X a ta)(hb:PE X b tb){Pe:List (ak×Obj)}{s:ax}{O:St}{H:Hp}{R:V->V->Hp->Prop}(I:Inv X Pe O H s)(h:ta O H λx H1=>tb O H1 λy H2=>R x y H2){Q:ag->ax->Prop}{f:ag->ag->Sem ag}(hf:∀v u s2 x y H2,Inv X Pe O H2 s2->RelV x v->RelV y u->R x y H2->aS (model X.prog X.w) X.A (f v u) Q X.xe s2) :
  aS (model X.prog X.w) X.A (eval a X.env) (λv Pr=>aS (model X.prog X.w) X.A (eval b X.env) (λu Qy=>aS (model X.prog X.w) X.A (f v u) Q X.xe Qy) X.xe Pr) X.xe s:=by
 refine thn (ha Pe s O H _ I h) λv s1=>e4 λx H1 I1 r1 q1=>?_;refine thn (hb Pe s1 O H1 _ I1 q1) λu s2=>e4 λy H2 I2 r2 q2=>?_;exact hf v u s2 x y H2 I2 r1 r2 q2
def tQ{op:Operator}{r:R2}(ho:OpR X (dF op) r)(ha:PE X a ta)(hb:PE X b tb):PE X (.BinOp a op b pos) (tOp r ta tb):=by intro Pe s O H Q I h;exact wpAny_BinOp (Pc ha hb I h λv u s2 x y H2 I2 rx ry q=>ho Pe s2 O H2 x y v u Q I2 rx ry q)
def M6{op:UnaryOp}{r}(ho:UnR X (unaryOp op) r)(ha:PE X a ta):PE X (.UnaryOp op a pos) (tUn r ta):=by intro Pe s O H Q I h;exact UnaryOp_ (thn (ha Pe s O H _ I h) λv s1=>e4 λx H1 I1 r1 q1=>ho Pe s1 O H1 x v Q I1 r1 q1)
def opI{f:ag->ag->Sem ag}{C:Int->Int->Prop}{g:Int->Int->Int}(rule:∀(i j:Int)(t u:Tok)(s:ax)(Q:ag->ax->Prop)(E:ag->ax->Prop),C i j->Q (.int (g i j) s.toks) { s with toks:=s.toks+1 }->aS (model X.prog X.w) X.A (f (.int i t) (.int j u)) Q E s) :
  OpR X f (rI C λi j=>.int (g i j)):=by
 intro Pe s O H x y v u Q I rx ry h;obtain⟨i,j,rfl,rfl,hc,q⟩:=h;obtain⟨t,rfl⟩:=rx;obtain⟨t',rfl⟩:=ry;exact rule i j t t' s _ _ hc ⟨.int (g i j),H,I.tok _,⟨_,rfl⟩,q⟩
def opI0{f:ag->ag->Sem ag}{g:Int->Int->Int}(rule:∀(i j:Int)(t u:Tok)(s:ax)(Q:ag->ax->Prop)(E:ag->ax->Prop),Q (.int (g i j) s.toks) { s with toks:=s.toks+1 }->aS (model X.prog X.w) X.A (f (.int i t) (.int j u)) Q E s) :
  OpR X f (rI0 λi j=>.int (g i j)):=by
 intro Pe s O H x y v u Q I rx ry h;obtain⟨i,j,rfl,rfl,q⟩:=h;obtain⟨t,rfl⟩:=rx;obtain⟨t',rfl⟩:=ry;exact rule i j t t' s _ _ ⟨.int (g i j),H,I.tok _,⟨_,rfl⟩,q⟩
def Na{f:ag->ag->Sem ag}{g:Int->Int->Bool}(rule:∀(i j:Int)(t u:Tok)(s:ax)(Q:ag->ax->Prop)(E:ag->ax->Prop),Q (.bool (g i j)) s->aS (model X.prog X.w) X.A (f (.int i t) (.int j u)) Q E s) :
  OpR X f (rI0 λi j=>.bl (g i j)):=by
 intro Pe s O H x y v u Q I rx ry h;obtain⟨i,j,rfl,rfl,q⟩:=h;obtain⟨t,rfl⟩:=rx;obtain⟨t',rfl⟩:=ry;exact rule i j t t' s _ _ ⟨.bl (g i j),H,I,rfl,q⟩
def CPow(i j:Int):Prop:=0<=j/\j<=1000000/\i.natAbs<2^64
def CMul(i j:Int):Prop:=(-(2^64)<i/\i<2^64)\/(-(2^64)<j/\j<2^64)
def CMul.ok(h:CMul i j):iT i j:=by
 rcases h with⟨h1,h2⟩|⟨h1,h2⟩
 ·exact .of_left (intBits_le_64 h1 h2)
 ·exact .of_right (intBits_le_64 h1 h2)
def op_add:OpR X (dF .Add) (rI0 λi j=>.int (i+j)):=opI0 λ_ _ _ _ _ _ _ q=>add_int q
def N2:OpR X (dF .Sub) (rI0 λi j=>.int (i-j)):=opI0 λ_ _ _ _ _ _ _ q=>sub_int q
def N6:OpR X (dF .Mult) (rI CMul λi j=>.int (i*j)):=opI λ_ _ _ _ _ _ _ hc q=>mul_int q hc.ok
def J1:OpR X (dF .Mod) (rI (λ_ j=>0<j) λi j=>.int (i%j)):=opI λi j _ _ _ _ _ hc q=>by have h1:(0:Int)<j:=hc;exact mod_int' (by lia) (by rw[Int.fmod_eq_emod_of_nonneg i (by lia)];exact q)
def N4:OpR X (dF .Pow) (rI CPow λi j=>.int (i^j.toNat)):=opI λ_ _ _ _ _ _ _ hc q=>pow_int_small hc.1 hc.2.1 hc.2.2 q
def unI{f:ag->Sem ag}{g:Int->Int}(rule:∀(i:Int)(t:Tok)(s:ax)(Q:ag->ax->Prop)(E:ag->ax->Prop),Q (.int (g i) s.toks) { s with toks:=s.toks+1 }->aS (model X.prog X.w) X.A (f (.int i t)) Q E s) :
  UnR X f (rU λi=>.int (g i)):=by
 intro Pe s O H x v Q I rx h;obtain⟨i,rfl,q⟩:=h;obtain⟨t,rfl⟩:=rx;exact rule i t s _ _ ⟨.int (g i),H,I.tok _,⟨_,rfl⟩,q⟩
def JL:UnR X (unaryOp .USub) (rU λi=>.int (-i)):=unI λ_ _ _ _ _ q=>neg_int q
def scal:V->V->Bool
 |.non,.non=>true|.non,.int _=>true|.int _,.non=>true|.non,.bl _=>true|.bl _,.non=>true|.non,.str _=>true|.str _,.non=>true
 |.int _,.int _=>true|.bl _,.bl _=>true|.str _,.str _=>true|.byt _,.byt _=>true
 |.int _,.str _=>true|.str _,.int _=>true|.bl _,.str _=>true|.str _,.bl _=>true
 |_,_=>false
def rNe:R2:=λx y H Q=>scal x y=true/\Q (.bl (!decide (x=y))) H
def Mq:decide (V.int i=V.int j)=(i==j):=by rw[bS];simp
def OM:decide (V.bl i=V.bl j)=(i==j):=by rw[bS];simp
def Mo:decide (V.str i=V.str j)=(i==j):=by rw[bS];simp
def Mr:decide (V.byt i=V.byt j)=(i.toList==j.toList):=by rw[bS];cases i;cases j;simp
def pz(I:Inv X Pe O H s)(q:Q (.bl k) H)(e:k=k'):EP X Pe O Q (.bool k') s:=by subst e;exact⟨.bl k,H,I,rfl,q⟩
def op_ne:OpR X (bP .NotEq) rNe:=by
 intro Pe s O H x y v u Q I rx ry h;obtain⟨hs,q⟩:=h;cases x with
 |non =>
  cases rx;cases y with
  |non=>cases ry;exact PySem.EqNone.ne_none_none (pz I q (by simp))
  |bl j=>cases ry;exact PySem.EqNone.ne_none_bool (pz I q (by simp))
  |int j=>obtain⟨t',rfl⟩:=ry;exact PySem.EqNone.ne_none_int (pz I q (by simp))
  |str j=>obtain⟨t',rfl⟩:=ry;exact PySem.EqNone.ne_none_str (pz I q (by simp))
  |_=>exact absurd (show false=true from hs) a6
 |bl i =>
  cases rx;cases y with
  |non=>cases ry;exact PySem.EqNone.ne_bool_none (pz I q (by simp))
  |bl j=>cases ry;exact ne_bool (pz I q (congrArg not OM))
  |str j=>obtain⟨t',rfl⟩:=ry;exact PySem.EqMixed.ne_bool_str (pz I q (by simp))
  |_=>exact absurd (show false=true from hs) a6
 |int i =>
  obtain⟨t,rfl⟩:=rx;cases y with
  |non=>cases ry;exact PySem.EqNone.ne_int_none (pz I q (by simp))
  |int j=>obtain⟨t',rfl⟩:=ry;exact ne_int (pz I q (congrArg not Mq))
  |str j=>obtain⟨t',rfl⟩:=ry;exact PySem.EqMixed.ne_int_str (pz I q (by simp))
  |_=>exact absurd (show false=true from hs) a6
 |str i =>
  obtain⟨t,rfl⟩:=rx;cases y with
  |non=>cases ry;exact PySem.EqNone.ne_str_none (pz I q (by simp))
  |bl j=>cases ry;exact PySem.EqMixed.ne_str_bool (pz I q (by simp))
  |int j=>obtain⟨t',rfl⟩:=ry;exact PySem.EqMixed.ne_str_int (pz I q (by simp))
  |str j=>obtain⟨t',rfl⟩:=ry;exact ne_str (pz I q (congrArg not Mo))
  |_=>exact absurd (show false=true from hs) a6
 |byt i =>
  obtain⟨t,rfl⟩:=rx;cases y with
  |byt j=>obtain⟨t',rfl⟩:=ry;exact PySem.W.ne_bytes (pz I q (congrArg not Mr))
  |_=>exact absurd (show false=true from hs) a6
 |_=>cases y<;>exact absurd (show false=true from hs) a6
def M7:OpR X (bP .Lt) (rI0 λi j=>.bl (decide (i<j))):=Na λ_ _ _ _ _ _ _ q=>lt_int q
def M8:OpR X (bP .LtE) (rI0 λi j=>.bl (decide (i<=j))):=Na λ_ _ _ _ _ _ _ q=>le_int q
def M9:OpR X (bP .Gt) (rI0 λi j=>.bl (decide (j<i))):=Na λ_ _ _ _ _ _ _ q=>gt_int q
def KB:OpR X (bP .GtE) (rI0 λi j=>.bl (decide (j<=i))):=Na λ_ _ _ _ _ _ _ q=>ge_int q
def OpR.or(h:OpR X f r)(h':OpR X f r'):OpR X f (λx y H Q=>r x y H Q\/r' x y H Q):=by
 intro Pe s O H x y v u Q I rx ry q;rcases q with q|q
 ·exact h Pe s O H x y v u Q I rx ry q
 ·exact h' Pe s O H x y v u Q I rx ry q
def vh(b)(h:op≠.In:=by decide)(h2:op≠.NotIn:=by decide):cR op b=false:=by
 have e1:(op==CmpOp.In)=false:=by cases op<;>first|rfl|exact absurd rfl h
 have e2:(op==CmpOp.NotIn)=false:=by cases op<;>first|rfl|exact absurd rfl h2
 cases b<;>simp[cR,e1,e2]
def FY{op:CmpOp}{r}(ho:OpR X (bP op) r)(ha:PE X a ta)(hb:PE X b tb)(hm:cR op b=false):PE X (.Compare a [op] [b] pos) (tOp r ta tb):=by intro Pe s O H Q I h;exact wpAny_Compare1 (Pc ha hb I h λv u s2 x y H2 I2 rx ry q=>ho Pe s2 O H2 x y v u Q I2 rx ry q) hm
def tTest(t:TE):TT:=λO H Q=>t O H λx H'=>∃k,x=.bl k/\Q k H'
def ve{op:CmpOp}{r}(ho:OpR X (bP op) r)(ha:PE X a ta)(hb:PE X b tb)(hm:cR op b=false):PT X (.Compare a [op] [b] pos) (tTest (tOp r ta tb)):=by
 intro Pe s O H Q I h;refine wpAny_isTrue_Compare1 (thn (ha Pe s O H _ I h) λv s1=>e4 λx H1 I1 r1 q1=>thn (hb Pe s1 O H1 _ I1 q1) λu s2=>e4 λy H2 I2 r2 q2 =>
  thn (ho Pe s2 O H2 x y v u _ I2 r1 r2 q2) λc s3=>e4 λz H3 I3 r3 ⟨k,e,q3⟩=>?_) hm
 subst e;cases r3;exact eI ⟨H3,I3,q3⟩
def NC(r r':R2)(ta tb tc:TE):TE:=λO H Q=>ta O H λx H1=>tb O H1 λy H2=>r x y H2 λz H3=>∃k,z=.bl k /\
 (if k=true then tc O H3 λw' H4=>r' y w' H4 Q else Q (.bl false) H3)
def DZ(ho:OpR X (bP op) r)(Rv:OpR X (bP op') r')(ha:PE X a ta)(hb:PE X b tb)(hc:PE X c tc)(hm:lastMarks [op,op'] [b,c]=false:=by with_unfolding_all rfl):PE X (.Compare a [op,op'] [b,c] pos) (NC r r' ta tb tc):=by
 intro Pe s O H Q I h;refine Compare_chain (thn (ha Pe s O H _ I h) λv s1=>e4 λx H1 I1 r1 q1=>chain_link (thn (hb Pe s1 O H1 _ I1 q1) λu s2=>e4 λy H2 I2 r2 q2 =>
  thn (ho Pe s2 O H2 x y v u _ I2 r1 r2 q2) λd s3=>e4 λz H3 I3 r3 ⟨k,e,q3⟩=>?_)) hm
 subst e;cases r3;refine eI ?_;cases k with
 |false=>exact ite_ff ⟨.bl false,H3,I3,rfl,q3⟩
 |true=>exact ite_tt (chain_last (thn (hc Pe s3 O H3 _ I3 q3) λw' s4=>e4 λz' H4 I4 r4 q4=>Rv Pe s4 O H4 y z' u w' Q I4 r2 r4 q4))
def wa:(aK:Nat)<2^63:=by rw[jQ];decide
def op_add_str:OpR X (dF .Add) (λx y H Q=>∃i j,x=.str i/\y=.str j/\i.length+j.length<=aK/\Q (.str (i++j)) H):=by intro Pe s O H x y v u Q I rx ry h;obtain⟨i,j,rfl,rfl,hz,q⟩:=h;obtain⟨t,rfl⟩:=rx;obtain⟨t',rfl⟩:=ry;exact add_str (λt' tk=>⟨.str (i++j),H,I.tok _,⟨_,rfl⟩,q⟩) hz
def qH(r:Vals [x] us):∃u,us=[u]/\RelV x u:=by
 cases r with
 |cons r1 r2=>cases r2;exact⟨_,rfl,r1⟩
def MT(r:Vals [x,y] us):∃u w',us=[u,w']/\RelV x u/\RelV y w':=by
 cases r with
 |cons r1 r2 =>
  cases r2 with
  |cons r3 r4=>cases r4;exact⟨_,_,rfl,r1,r3⟩
def JD:CallR X (.builtin "abs") (λxs H Q=>∃i,xs=[.int i]/\Q (.int (if i<0 then -i else i)) H):=by intro Pe s O H xs us Q I r h;obtain⟨i,rfl,q⟩:=h;obtain⟨u,rfl,t,rfl⟩:=qH r;exact call_abs_int λu tk=>⟨.int (if i<0 then -i else i),H,I.tok _,⟨_,rfl⟩,q⟩
def HK:CallR X (.type "int") (λxs H Q=>(∃i,xs=[.int i]/\Q (.int i) H)\/∃k,xs=[.bl k]/\Q (.int (if k then 1 else 0)) H):=by
 intro Pe s O H xs us Q I r h;rcases h with⟨i,rfl,q⟩|⟨k,rfl,q⟩
 ·obtain⟨u,rfl,t,rfl⟩:=qH r;exact call_int_int ⟨.int i,H,I,⟨_,rfl⟩,q⟩
 ·obtain⟨u,rfl,r1⟩:=qH r;cases r1;exact call_int_bool ⟨.int (if k then 1 else 0),H,I.tok _,⟨_,rfl⟩,q⟩
end
structure ObjM(h:bv)(x dx C:ak)(mA:Str->Option ag):Prop where
 obj:h.get? x=Za (dk C dx)
 ns:h.Ns1 dx mA
 ne:dx≠x
def Hu{h:bv}{dx:ak}{mA:Str->Option ag}(n:h.Ns1 dx mA):∃od,h.get? dx=Za od/\∀name,gX name od=Za (mA name):=by
 obtain⟨o,es,ep,ho,hd,hk,_,hm⟩:=n;refine⟨o,ho,λname=>?_⟩;have e:=hm name;unfold nsFind findBy at e;rw[<-Array.find?_toList] at e;unfold gX;rw[hd];dsimp only;split
 ·rename_i y q;rw[q] at e;exact congrArg Za e
 ·rename_i q;rw[q] at e;have a:es.toList.any (·.refKey)=false:=by rw[List.any_eq_false];intro y hy;obtain⟨z,t,R8⟩:=hk y (Array.mem_toList_iff.mp hy);simp[DictEntry.refKey,R8]
  have a':¬es.toList.any (·.refKey)=true:=by rw[a];exact a6
  rw[Zd a'];exact congrArg Za e
def ObjM.look(I:ObjM h x dx C mA):∃od,PySem.W.InstAt h x (dk C dx) C (Za od)/\∀name,gX name od=Za (mA name) :=
 let⟨od,ho,hl⟩:=Hu I.ns
 ⟨od,⟨I.obj,rfl,rfl,ho⟩,hl⟩
section
variable{prog:aL}{w:bh}{A:cA}{E:ag->ax->Prop}{s:ax}{K:aa}{x dx C f:ak}{mA:Str->Option ag}{name:Str}{v:ag}
def L6(X:K.In s.heap)(I:ObjM s.heap x dx C mA)(hg:ee K C name=true)(hh:fb K C=true)(ha:aU K (.ref C) name=Za Zb)(hv:mA name=Za v)(hv':kY v=true)(h:Q v { s with toks:=s.toks+1 }) :
  aS (model prog w) A (getAttr (.ref x) name expr) Q E s:=by
 obtain⟨od,J,hl⟩:=I.look;exact PySem.W.get_value X J (ii hg).1 (PySem.W.findObj_own hh ha rfl (by rw[hl,hv])) hv' h
def Jm(X:K.In s.heap)(I:ObjM s.heap x dx C mA)(hg:ee K C name=true)(hf:aU K (.ref C) name=Za (Za (.ref f)))(ht:gE K (.ref f)=true)(hv:mA name=Zb)(h:Q (.ref f,[.ref x]) s) :
  aS (model prog w) A (fW (.ref x) name pl) Q E s:=by
 obtain⟨od,J,hl⟩:=I.look;exact PySem.W.method_fn X J (ii hg).1 (ii hg).2 hf (beq_iff_eq.mp ht) (by show(gX name od).map (·.isSome)=Za false;rw[hl,hv];rfl) h
def K7(X:K.In s.heap)(I:ObjM s.heap x dx C mA)(hs:aU K (.ref C) "__setattr__"=Za (Za (.builtin "object.__setattr__")))(hp:gh K C=true)(ht:i9 K C name=Za Zb)(hh:fb K C=true)(hw:jY mA ns)(hsz:ns.length<=aK)(h:∀h',ObjM h' x dx C (λy=>if y=name then Za v else mA y)->iZ dx s.heap h'->Q () { s with heap:=h',toks:=s.toks+2 }) :
  aS (model prog w) A (setAttr (.ref x) name v) Q E s:=by
 obtain⟨od,J,hl⟩:=I.look;refine PySem.W.set_plain X J hs (PySem.W.osa_open (s:={ s with toks:=s.toks+1 }) (r:=Zb) X J hp ht λb=>?_);obtain⟨cd,hc,TC⟩:=PySem.W.any_some hh;have hx:s.heap.get? x=Za ⟨.ref C,Za dx,.plain,#[]⟩:=I.obj;refine aq (aN (aq (aq (wpAny_loadPart hx (aq (PySem.W.Looks.here (s:={ s with toks:=s.toks+1 }) (PySem.W.looks_clsIn X hc) ?_))))));rw[TC];refine aN (a:=Za dx) (aq (aN (aq ?_)));refine wpAny_nsSet1 (s:={ s with toks:=s.toks+1 }) I.ns λh' Ug Rt=>?_;obtain⟨oD,esD,epD,hoD,hdD,hcD⟩:=Ug.count (PySem.Within.cons name v hw);refine aq (wpAny_lookBehind hoD (by rw[hdD];exact pastItsLine_dict (aE hcD (by rw[aY];lia))) ?_);exact aN (h _ ⟨(Rt.2 _ (bW I.ne)).trans I.obj,Ug,I.ne⟩ Rt)
def Jd(X:K.In s.heap)(hm:fK K C=true)(hi:aU K (.ref C) "__init__"=Za (Za (.ref f)))(hf:PySem.W.typeIn K (.ref f)=Za (.type "function"))(h:gw (model prog w) (A.under (.builtin "type.__call__" ⟨.ref C::vs,kw⟩)) (.call (.ref f) ⟨.ref (s.heap.objs.size+1)::vs,kw⟩) (PySem.W.InitBack (s.heap.objs.size+1) R)
   {s with heap:=(s.heap.push cE).push (dk C s.heap.objs.size) }) :
  gw (model prog w) A (.call (.ref C) ⟨vs,kw⟩) R s:=by
 obtain⟨hh,g,d,t,os⟩:=s;exact PySem.W.make_core (PySem.W.makes_of X hm) (PySem.W.looks_findIn X hi) (λself=>PySem.W.bind_fn X self hf) (.inl rfl) h
end
def putF(f:Str)(v:V):List (Str×V)->List (Str×V)
 |[]=>[(f,v)]
 |(g,x)::r=>if g=f then(g,v)::r else(g,x)::putF f v r
theorem xP(f g)(v):∀fs:List (Str×V),(putF f v fs).lookup g=if g=f then Za v else fs.lookup g
 |[]=>by
  show de g [(f,v)]=_;by_cases h:g=f
  ·have hb:(g==f)=true:=beq_iff_eq.mpr h;simp only[de,hb,Zc h]
  ·have hb:(g==f)=false:=beq_eq_false_iff_ne.mpr h;simp only[de,hb,Zd h]
 |(k,x)::r=>by
  have ih:=xP f g v r;rw[show putF f v ((k,x)::r)=(if k=f then(k,v)::r else(k,x)::putF f v r) from rfl];by_cases hk:k=f
  ·rw[Zc hk];by_cases h:g=k
   ·have hb:(g==k)=true:=beq_iff_eq.mpr h;simp only[de,hb,Zc (h.trans hk)]
   ·have hb:(g==k)=false:=beq_eq_false_iff_ne.mpr h;simp only[de,hb,Zd (λe:g=f=>h (e.trans hk.symm))]
  ·rw[Zd hk];by_cases h:g=k
   ·have hb:(g==k)=true:=beq_iff_eq.mpr h;simp only[de,hb,Zd (λe:g=f=>hk (h.symm.trans e))]
   ·have hb:(g==k)=false:=beq_eq_false_iff_ne.mpr h;simp only[de,hb];exact ih
theorem xx(f)(v):∀fs:List (Str×V),f∈(putF f v fs).map (·.1)/\∀g,g∈fs.map (·.1)->g∈(putF f v fs).map (·.1)
 |[]=>⟨by simp[putF],λg h=>by simp at h⟩
 |(k,x)::r=>by
  obtain⟨i1,i2⟩:=xx f v r;rw[show putF f v ((k,x)::r)=(if k=f then(k,v)::r else(k,x)::putF f v r) from rfl];by_cases hk:k=f
  ·rw[Zc hk];subst hk;exact⟨by simp,λg h=>by simpa using h⟩
  ·rw[Zd hk];refine⟨?_,λg h=>?_⟩
   ·rw[al];exact ae _ i1
   ·rw[al] at h ⊢;rcases af.mp h with e|e
    ·exact af.mpr (.inl e)
    ·exact ae _ (i2 g e)
theorem ut(f)(v):∀fs:List (Str×V),(putF f v fs).length<=fs.length+1
 |[]=>by simp[putF]
 |(k,x)::r=>by
  have ih:=ut f v r;rw[show putF f v ((k,x)::r)=(if k=f then(k,v)::r else(k,x)::putF f v r) from rfl];by_cases hk:k=f
  ·rw[Zc hk,aY,aY];lia
  ·rw[Zd hk,aY,aY];lia
def RelO.some_of(r:RelO (Za v) o):∃u,o=Za u/\RelV v u:=by
 cases o with
 |none=>exact(show False from r).elim
 |some u=>exact⟨u,rfl,r⟩
def RelO.none_of(r:RelO Zb o):o=none:=by
 cases o with
 |none=>rfl
 |some u=>exact(show False from r).elim
def HD(r:RelV v u):kY u=true:=by
 cases v with
 |non=>cases(show u=k6 from r);rfl
 |bl b=>cases(show u=k7 b from r);rfl
 |int i=>obtain⟨t,e⟩:=(show ∃t,u=f7 i t from r);cases e;rfl
 |str x=>obtain⟨t,e⟩:=(show ∃t,u=io x t from r);cases e;rfl
 |byt b=>obtain⟨t,e⟩:=(show ∃t,u=Value.bytes b t from r);cases e;rfl
 |flt b=>obtain⟨t,e⟩:=(show ∃t,u=Value.float b t from r);cases e;rfl
 |ref a=>cases(show u=bj a from r);rfl
 |ty n=>cases(show u=Value.type n from r);rfl
section
variable{P:aL}{w:bh}{H H':Hp}{h h':bv}{a C dx:ak}{fs Qp:List (Str×V)}
def CJ(hok:HOk P w H h)(e:H a=Za (.ins C dx fs)):∃mA,ObjM h a dx C mA/\(∀f,RelO (fs.lookup f) (mA f))/\jY mA (fs.map (·.1))/\fs.length<=1000/\H dx=Za (.own a):=by obtain⟨d,z,ne,ob,mA,n,r,q⟩:=(show ObjOk P w H h a (.ins C dx fs) from hok a _ e);exact⟨mA,⟨ob,n,ne⟩,r,q,z,d⟩
end
structure Cls(K:aa)(C:ak):Prop where
 pg:ee K C cx=true
 hd:fb K C=true
 po:gh K C=true
 sa:aU K (.ref C) "__setattr__"=Za (Za (.builtin "object.__setattr__"))
def Cls.get{K}{C}(c:Cls K C)(f):ee K C f=true:=c.pg
def NoAttr(K:aa)(C:ak)(f:Str):Prop:=aU K (.ref C) f=Za Zb
def NoAttr.taker{K}{C}{f}(n:NoAttr K C f):i9 K C f=Za none:=by unfold i9;rw[show aU K (.ref C) f=Za Zb from n];rfl
structure Con(K:aa)(C:ak)(f:Str)(v:V)(u:ag):Prop where
 at_:aU K (.ref C) f=Za (Za u)
 rel:RelV v u
 get:gg K u "__get__"=Za Zb
 cp:PySem.W.copiedNames.contains f=false
structure Meth(K:aa)(C:ak)(m:Str)(f:ak):Prop where
 at_:aU K (.ref C) m=Za (Za (.ref f))
 fn:gE K (.ref f)=true
 kp:cD K (.ref f)=true
section
variable{X:Cx}{Pe:List (ak×Obj)}{O:St}{H:Hp}{s:ax}{a C dx:ak}{fs:List (Str×V)}{f:Str}{v:V}{A:cA}{E:ag->ax->Prop}
def Fb(I:Inv X Pe O H s)(e:H a=Za (.ins C dx fs))(c:Cls X.K C)(n:NoAttr X.K C f)(l:fs.lookup f=Za v)(h:∀u s',Inv X Pe O H s'->RelV v u->Q u s'):aS (model X.prog X.w) A (getAttr (.ref a) f b) Q E s:=by
 obtain⟨mA,Zi,r,_,_,_⟩:=CJ I.hok e;obtain⟨u,hu,ru⟩:=RelO.some_of (v:=v) (o:=mA f) (by rw[<-l];exact r f);exact L6 I.kIn Zi (c.get f) c.hd n hu (HD ru) (h u _ (I.tok _) ru)
def zu(I:Inv X Pe O H s)(e:H a=Za (.ins C dx fs))(c:Cls X.K C)(k:Meth X.K C m g)(l:fs.lookup m=Zb)(h:Q (.ref g,[.ref a]) s):aS (model X.prog X.w) A (fW (.ref a) m pl) Q E s:=by
 obtain⟨mA,Zi,r,_,_,_⟩:=CJ I.hok e;have hn:mA m=none:=RelO.none_of (by rw[<-l];exact r m);exact Jm I.kIn Zi (c.get m) k.at_ k.fn hn h
def EH(I:Inv X Pe O H s)(e:H a=Za (.ins C dx fs))(c:Cls X.K C)(n:NoAttr X.K C f)(hl:fs.length<1000)(ry:RelV y u)(h:∀s',Inv X Pe O (upd H a (.ins C dx (putF f y fs))) s'->Q () s'):aS (model X.prog X.w) A (setAttr (.ref a) f u) Q E s:=by
 obtain⟨mA,Zi,r,wi,_,ho⟩:=CJ I.hok e;have hz:(fs.map (·.1)).length<=aK:=by rw[ac,jQ];lia
 refine K7 I.kIn Zi c.sa c.po n.taker c.hd wi hz λh' O' sb=>h _ ?_;have hd:∃o,h'.get? dx=Za o:=let⟨o,_,_,e',_⟩:=O'.ns;⟨o,e'⟩;refine I.write (x:=a) (e:=dx) (by rw[e];exact eX) (.inr ho) (λb q hb z=>(sb.2 b hb).trans z) hd ?_;refine⟨by rw[lO Zi.ne];exact ho,?_,Zi.ne,O'.obj,_,O'.ns,λg=>?_,λg hg=>?_⟩
 ·have:=ut f y fs;lia
 ·show RelO ((putF f y fs).lookup g) (if g=f then Za u else mA g);rw[xP];by_cases q:g=f
  ·rw[Zc q,Zc q];exact ry
  ·rw[Zd q,Zd q];exact r g
 ·by_cases q:g=f
  ·rw[q];exact(xx f y fs).1
  ·refine(xx f y fs).2 g (wi g λz=>hg ?_);show(if g=f then Za u else mA g)=Zb;rw[Zd q];exact z
def Inv.made(I:Inv X Pe O H s):Inv X Pe O (upd (upd H s.heap.objs.size (.own (s.heap.objs.size+1))) (s.heap.objs.size+1) (.ins C s.heap.objs.size []))
  {s with heap:=(s.heap.push cE).push (dk C s.heap.objs.size) }:=by
 have e1:(s.heap.push cE).get? s.heap.objs.size=Za cE:=ba s.heap rfl;have e2:((s.heap.push cE).push (dk C s.heap.objs.size)).get? (s.heap.objs.size+1)=Za (dk C s.heap.objs.size):=by have:=ba (s.heap.push cE) (o:=dk C s.heap.objs.size) rfl;rwa[jB] at this
 have e3:(s.heap.push cE).Ns s.heap.objs.size (λ_=>Zb):=⟨cE,#[],_,e1,rfl,(λe he=>absurd he (by simp)),λ_=>rfl⟩;have I1:=I.laid (a:=s.heap.objs.size) (o:=.own (s.heap.objs.size+1)) (h':=s.heap.push cE) (t':=s.toks) (λb u q=>ar _ q) (ao _) ⟨_,e1⟩;refine I1.laid (a:=s.heap.objs.size+1) (o:=.ins C s.heap.objs.size []) (t':=s.toks) (λb u q=>ar _ q) (kK (jB _ _)) ?_;have ne:s.heap.objs.size≠s.heap.objs.size+1:=aG (cC _);refine⟨by rw[lO ne,lQ],a7 _,ne,e2,λ_=>Zb,(Heap.Ns1.of_empty e3).at λo q=>ar _ q,λ_=>eX,λy hy=>absurd rfl hy⟩
def MJ{f}{s}(hb:cz e f env (eval e env)=eval e env)(h:aS (model prog w) A (eval e env) (λo Pr=>aS (model prog w) A (getAttr o f true) Q E Pr) E s):aS (model prog w) A (eval (.Attribute e f pos) env) Q E s :=
 Attribute_any_ h (by rw[arm_eval_Attribute,hb])
end
def tFld(K:aa)(ta:TE)(f:Str):TE:=λO H Q=>ta O H λx H1=>∃a C dx fs v,x=.ref a/\H1 a=Za (.ins C dx fs)/\Cls K C/\NoAttr K C f/\fs.lookup f=Za v/\Q v H1
def sFld(K:aa)(ta tv:TE)(f:Str):TS:=λD O H=>tv O H λy H1=>ta O H1 λx H2=>∃a C dx fs,x=.ref a/\H2 a=Za (.ins C dx fs)/\Cls K C/\NoAttr K C f/\fs.length<1000 /\
 D.nx O (upd H2 a (.ins C dx (putF f y fs)))
section
variable{X:Cx}{o e value:bo}{f:Str}{pos Pu PX:Pos}{ta tv:TE}
def oH(he:PE X e ta)(hb:cz e f X.env (eval e X.env)=eval e X.env):PE X (.Attribute e f pos) (tFld X.K ta f):=by intro Pe s O H Q I h;refine MJ hb (thn (he Pe s O H _ I h) λu s1=>e4 λx H1 I1 rx ⟨a,C,dx,fs,v,ex,ea,c,n,l,q⟩=>?_);subst ex;obtain rfl:u=bj a:=rx;exact Fb I1 ea c n l λu' s2 I2 ru=>⟨v,H1,I2,ru,q⟩
def yt(ha:PE X o ta)(hv:PE X value tv)(hs:dM value (Za (.Attribute o f Pu)) pos.line X.env=pure false):PS X (.Assign [.Attribute o f Pu] value pos) (sFld X.K ta tv f):=by intro Pe s O H D I h;refine plainObj_wpAny_Assign_Attribute (thn (hv Pe s O H _ I h) λu s1=>e4 λy H1 I1 ry q=>thn (ha Pe s1 O H1 _ I1 q) λov s2=>e4 λx H2 I2 rx ⟨a,C,dx,fs,ex,ea,c,n,l,q2⟩=>?_) hs;subst ex;obtain rfl:ov=bj a:=rx;exact EH I2 ea c n l ry λs3 I3=>⟨O,_,I3,q2⟩
end
section
variable{X:Cx}{Pe:List (ak×Obj)}{O:St}{H:Hp}{s:ax}{A:cA}{E:ag->ax->Prop}{Q:ag->ax->Prop}{c:ag}{b:Bool}
inductive TyOf (K:aa) (H:Hp):V->ag->Prop where
 |non:TyOf K H .non (.type "NoneType")
 |bl (x:Bool):TyOf K H (.bl x) (.type "bool")
 |int (i:Int):TyOf K H (.int i) (.type "int")
 |str (x:Str):TyOf K H (.str x) (.type "str")
 |flt (x:UInt64):TyOf K H (.flt x) (.type "float")
 |lst {a:ak}{xs:List V} (e:H a=Za (.lst xs)):TyOf K H (.ref a) (.type "list")
 |frz {a:ak}{o:Obj}{xs:List V} (e:H a=Za (.frz o (.lst xs))):TyOf K H (.ref a) (.type "list")
 |tup {a:ak}{xs:List V} (e:H a=Za (.tup xs)):TyOf K H (.ref a) (.type "tuple")
 |dK {a:ak}{kvs:List (Key×V)} (e:H a=Za (.dK kvs)):TyOf K H (.ref a) (.type "dict")
 |dT {a:ak}{kvs:List (List Key×V)} (e:H a=Za (.dT kvs)):TyOf K H (.ref a) (.type "dict")
 |ins {a C dx:ak}{fs:List (Str×V)} (e:H a=Za (.ins C dx fs)) (cl:Cls K C) (ha:aU K (.ref C) "__class__"=Za (Za (.builtin "object.__class__")))
   (hn:gg K (.builtin "object.__class__") "__get__"=Za (Za (.builtin "getset_descriptor.__get__"))) (htk:i8 K (.builtin "object.__class__")=Za true)
   (hm:gn K C (.type "object")=Za true):TyOf K H (.ref a) (.ref C)
end
structure Room(k:Nat)(A:cA):Prop where
 hd:A.handled=Zb
 dp:A.depth+3*k+5<recursionLimit
 un:A.units+16*k+200<eY
def Room.mono(r:Room k A)(h:j<=k):Room j A:=⟨r.hd,by have:=r.dp;lia,by have:=r.un;lia⟩
theorem Room.deeper(r:Room (k+1) A)(env:Env):Room k (A.deeper env) :=
 ⟨r.hd,by have:=r.dp;show A.depth+1+3*k+5<_;lia,by have:=r.un;show A.units+3+16*k+200<_;lia⟩
def E5{A:cA}{C:ak}{us:List ag}{kw:List (Str×ag)}:(A.under (.builtin "type.__call__" ⟨.ref C::us,kw⟩)).depth=A.depth+1:=by
 first|rfl|simp[jV,Code.weight,Code.isCreation,Code.isGuard,Code.isCaller,Code.frames,kn,guardIds]
def E4{A:cA}{C:ak}{us:List ag}{kw:List (Str×ag)}:(A.under (.builtin "type.__call__" ⟨.ref C::us,kw⟩)).units=A.units+1:=by
 first|rfl|simp[jV,Code.cUnits,Code.frames,kn]
def Room.make(r:Room (k+1) A)(C:ak)(us:List ag)(kw:List (Str×ag)):Room k (A.under (.builtin "type.__call__" ⟨.ref C::us,kw⟩)) :=
 ⟨r.hd,by have:=r.dp;rw[E5];lia,by have:=r.un;rw[E4];lia⟩
theorem Room.depth(r:Room k A):A.depth<recursionLimit:=by have:=r.dp;lia
theorem Room.units(r:Room k A):A.units+64<eY:=by have:=r.un;lia
def JN:TA:=λ_ H Q=>Q [] H
def Kr(ta:TE)(tr:TA):TA:=λO H Q=>ta O H λx H1=>tr O H1 λxs H2=>Q (x::xs) H2
section
variable{X:Cx}{e:bo}{es:List bo}{te:TE}{t:TA}{pos:Pos}
def pa_nil:PA X [] JN:=λ_ _ _ _ H Q I h=>gu ⟨[],H,I,.nil,h⟩
abbrev SEb(X:Cx)(e:bo)(es:List bo):Prop:=aB (e::es) X.env=(false,eval e X.env)::aB es X.env
def mf(ha:PE X e te)(hr:PA X es t)(hs:SEb X e es:=by rfl):PA X (e::es) (Kr te t):=by intro pos Pe s O H Q I h;rw[hs];show aS _ _ (spliced ((false,eval e X.env)::bY pos (aB es X.env))) _ _ s;refine eU (thn (ha Pe s O H _ I h) λu s1=>e4 λx H1 I1 r1 q1=>?_);exact thn (hr pos Pe s1 O H1 _ I1 q1) λus s2=>e4 λxs H2 I2 r2 q2=>⟨x::xs,H2,I2,.cons r1 r2,q2⟩
def tTup(t:TA):TE:=λO H Q=>t O H λxs H1=>xs.length<=aK/\∀p,H1 p=Zb->Q (.ref p) (upd H1 p (.tup xs))
def tLst(t:TA):TE:=λO H Q=>t O H λxs H1=>xs.length<=aK/\∀p,H1 p=Zb->Q (.ref p) (upd H1 p (.lst xs))
def vY{x1}(h:PA X es t):PE X (.Tuple es x1 pos) (tTup t):=by intro Pe s O H Q I hq;refine wpAny_Tuple_spliced (thn (h pos Pe s O H _ I hq) λus s1=>e4 λxs H1 I1 r ⟨z,q⟩=>⟨by rw[<-r.length];exact z,?_⟩);have hf:H1 s1.heap.objs.size=none:=I1.hok.fresh (ao _);refine⟨.ref s1.heap.objs.size,upd H1 s1.heap.objs.size (.tup xs),I1.laid (t':=s1.toks) (λb u e=>ar _ e) (ao _) ?_,rfl,q _ hf⟩;exact⟨z,us,r,⟨_,ba _ rfl,rfl,_,rfl⟩⟩
def JX(h:PA X es t):PE X (.List es pos) (tLst t):=by intro Pe s O H Q I hq;refine wpAny_List_spliced (thn (h pos Pe s O H _ I hq) λus s1=>e4 λxs H1 I1 r ⟨z,q⟩=>⟨by rw[<-r.length];exact z,?_⟩);have hf:H1 s1.heap.objs.size=none:=I1.hok.fresh (ao _);refine⟨.ref s1.heap.objs.size,upd H1 s1.heap.objs.size (.lst xs),I1.laid (t':=s1.toks) (λb u e=>ar _ e) (ao _) ?_,rfl,q _ hf⟩;exact⟨z,us,0,r,ba _ rfl⟩
end
abbrev Sp:=List V->Hp->VK->XK->Prop
abbrev CXT:=List Env->Hp->ax->XK->ag->ax->Prop
structure Env0(P:aL)(w:bh)(K:aa)(mg:Str->Option ag)(base:bv)(A:cA)(outer:List Env)(s:ax)(H:Hp):Prop where
 frames:A.frames=Za outer
 mod:Mod K mg base
 bs:∀b o,base.get? b=Za o->s.heap.get? b=Za o/\H b=Zb
 bsz:base.objs.size<=s.heap.objs.size
 funs:s.heap.FunFrames base outer
 frf:∀b∈frs outer,H b=Zb
 hok:HOk P w H s.heap
 bare:gR s.gens
def CE(outer:List Env)(P:aL)(w:bh)(H:Hp)(s:ax)(Q:VK)(u:ag)(s':ax):Prop :=
 ∃v H',s'.os=s.os/\gR s'.gens/\Un (frs outer) [] H H' s.heap s'.heap/\HOk P w H' s'.heap/\RelV v u/\Q v H'
def CR(CX:CXT)(outer:List Env)(P:aL)(w:bh)(H:Hp)(s:ax)(Q:VK)(E:XK)(r:Result)(s':ax):Prop :=
 match r with
 |.ok (.ret u)=>CE outer P w H s Q u s'
 |.ok _=>False
 |.error e=>CX outer H s E e s'
structure FnOk(P:aL)(w:bh)(K:aa)(mg:Str->Option ag)(base:bv)(CX:CXT)(k:Nat)(f:ak)(fd:cq)(ps:List Str)(sp:Sp):Prop where
 len:∀vs H Q E,sp vs H Q E->vs.length=ps.length
 run:∀(A:cA)(outer:List Env)(s:ax)(H:Hp)(args:Args)(us:List ag)(vs:List V)(Q:VK)(E:XK),Room k A->Env0 P w K mg base A outer s H->jz s fd args (ps.zip us)->Vals vs us->sp vs H Q E ->
  gw (model P w) A (.call (.ref f) args) (CR CX outer P w H s Q E) s
def FnOk.imp{P}{w}{K}{mg}{base}{CX:CXT}{k}{f}{fd}{ps}{sp So:Sp}(F:FnOk P w K mg base CX k f fd ps sp)(h:∀vs H Q E,So vs H Q E->sp vs H Q E):FnOk P w K mg base CX k f fd ps So :=
 ⟨λvs H Q E q=>F.len vs H Q E (h _ _ _ _ q),λA outer s H args us vs Q E hr he hb hv hs=>F.run A outer s H args us vs Q E hr he hb hv (h _ _ _ _ hs)⟩
def Env0.make{P}{w}{K}{mg}{base}{A}{outer}{s}{H}(e:Env0 P w K mg base A outer s H)(C)(us)(kw) :
  Env0 P w K mg base (A.under (.builtin "type.__call__" ⟨.ref C::us,kw⟩)) outer s H:=⟨by first|exact e.frames|(simpa[jV,Code.envs,kn,pushEnvs] using e.frames),e.mod,e.bs,e.bsz,e.funs,e.frf,e.hok,e.bare⟩
section
variable{X:Cx}{Pe:List (ak×Obj)}{O:St}{H:Hp}{s s':ax}
def Inv.env0(I:Inv X Pe O H s):Env0 X.prog X.w X.K X.mg X.base X.A X.stack s H :=
 ⟨I.ok.frames,I.ok.mod,I.bs,aE I.ok.bsz I.sz,I.stack,I.stkFree,I.hok,I.bare⟩
def Inv.after(I:Inv X Pe O H s)(h:CE X.stack X.prog X.w H s Q u s'):EP X Pe O Q u s':=by obtain⟨v,H',os,bare,un,hok,r,q⟩:=h;obtain⟨hh,g,d,t,os'⟩:=s';obtain rfl:os'=s.os:=os;exact⟨v,H',I.call (h':=hh) (g':=g) (d':=d) (t':=t) (ch:=[]) un hok bare (λb z=>absurd z (by simp)),r,q⟩
end
def Ks(sp:Sp)(Qb:List V)(E:XK)(t:TA):TE:=λO H Q=>t O H λvs H1=>sp (vs++Qb) H1 Q E
def HU(C:ak)(m:Str)(sp:Sp)(Qb:List V)(E:XK)(ta:TE)(t:TA):TE:=λO H Q=>ta O H λx H1=>∃a dx fs,x=.ref a/\H1 a=Za (.ins C dx fs)/\fs.lookup m=Zb /\
 t O H1 λvs H2=>sp (x::(vs++Qb)) H2 Q E
def HV(C:ak)(sp:Sp)(Qb:List V)(E:XK)(t:TA):TE:=λO H Q=>t O H λvs H1=>∀x dx,H1 x=Zb->H1 dx=Zb->dx≠x ->
 sp (.ref x::(vs++Qb)) (upd (upd H1 dx (.own x)) x (.ins C dx [])) (λv H2=>v=.non/\Q (.ref x) H2) E
def Binds(K:aa)(fd:cq)(ps:List Str)(ds:List ag):Prop :=
 ∀(s:ax)(us:List ag),K.In s.heap->(us++ds).length=ps.length->jz s fd ⟨us,[]⟩ (ps.zip (us++ds))
def Binds.all{K}{fd}{ps}(h:∀us:List ag,us.length=ps.length->f9 fd ⟨us,[]⟩=pure (ps.zip us)):Binds K fd ps []:=λs us _ hl=>by rw[cT] at hl ⊢;exact .of_eq (h us hl)
def nZ(CX:CXT)(X:Cx)(E:XK):Prop:=∀(Pe:List (ak×Obj))(O:St)(H:Hp)(s:ax)(e:ag)(s':ax),Inv X Pe O H s->CX X.stack H s E e s'->X.xe e s'
section
variable{X:Cx}{CX:CXT}{k:Nat}{f C:ak}{fd:cq}{ps:List Str}{sp:Sp}{Qb:List V}{ds:List ag}{E:XK}{x m:Str}{p pos Pf:Pos}{e o:bo}{es:List bo}{ta:TE}{t:TA}
def Fs(F:FnOk X.prog X.w X.K X.mg X.base CX k f fd ps sp)(hr:Room k X.A)(hb:Binds X.K fd ps ds)(hd:Vals Qb ds)(hx:nZ CX X E)(I:Inv X Pe O H s)(r:Vals vs us)(h:sp (vs++Qb) H Q E):aS (model X.prog X.w) X.A (call (.ref f) us) (EP X Pe O Q) X.xe s:=by
 have r2:Vals (vs++Qb) (us++ds):=r.append hd;have hl:(us++ds).length=ps.length:=by rw[<-r2.length];exact F.len _ _ _ _ h
 refine wpAny_call (jq (F.run X.A X.stack s H ⟨us,[]⟩ (us++ds) (vs++Qb) Q E hr I.env0 (hb s us I.kIn hl) r2 h) λr s' hq=>?_);cases r with
 |error e=>exact hx Pe O H s e s' I hq
 |ok fl =>
  cases fl with
  |ret u=>exact I.after hq
  |next=>exact bR hq
  |brk=>exact bR hq
  |cont=>exact bR hq
def Lv(F:FnOk X.prog X.w X.K X.mg X.base CX k f fd ps sp)(hr:Room k X.A)(hg:Gl X x)(hm:X.mg x=Za (.ref f))(hk:cD X.K (.ref f)=true)(hb:Binds X.K fd ps ds)(hd:Vals Qb ds)(hx:nZ CX X E)(ha:PA X (e::es) t)(P8:NDb x:=by decide)(he:SEb X e es:=by rfl)(PL:(bY pos (aB es X.env)).any (·.1)=false:=by rfl) :
  PE X (.Call (.Name x p) (e::es) [] pos) (Ks sp Qb E t):=by
 intro Pe s O H Q I h;refine fD (wX I hg hm ?_ P8);refine iA (h₀:=X.base) I.ok.mod.kin hk (thn (ha pos Pe s O H _ I h) λus s1=>e4 λvs H1 I1 r q=>⟨I1.kIn,?_⟩) he PL;exact Fs F hr hb hd hx I1 r q
def Lr(he:PE X o ta)(c:Cls X.K C)(hm:Meth X.K C m f)(F:FnOk X.prog X.w X.K X.mg X.base CX k f fd ps sp)(hr:Room k X.A)(hb:Binds X.K fd ps ds)(hd:Vals Qb ds)(hx:nZ CX X E)(ha:PA X (e::es) t)(QI:SEb X e es:=by rfl)(PL:(bY pos (aB es X.env)).any (·.1)=false:=by rfl)(ht:eval (.Call (.Attribute o m Pf) (e::es) [] pos) X.env=(do
   let ov <-eval o X.env
   gv Pf.atName
   let(f,first) <-holding [ov] (fW ov m pl)
   iQ pos f first (bY pos (aB (e::es) X.env)) (eR pos (cW [] X.env))):=by rfl) :
  PE X (.Call (.Attribute o m Pf) (e::es) [] pos) (HU C m sp Qb E ta t):=by
 intro Pe s O H Q I h;refine jR (pl:=pl) (thn (he Pe s O H _ I h) λu s1=>e4 λx H1 I1 rx ⟨a,dx,fs,ex,ea,l,q⟩=>?_) ht;subst ex;obtain rfl:u=bj a:=rx;refine zu I1 ea c hm l ?_;refine iA (first:=[.ref a]) (h₀:=X.base) I.ok.mod.kin hm.kp (thn (ha pos Pe s1 O H1 _ I1 q) λus s2=>e4 λvs H2 I2 r q2=>⟨I2.kIn,?_⟩) QI PL;exact Fs (us:=.ref a::us) (vs:=.ref a::vs) F hr hb hd hx I2 (.cons rfl r) q2
def IM(he:PE X o ta)(c:Cls X.K C)(hm:Meth X.K C m f)(F:FnOk X.prog X.w X.K X.mg X.base CX k f fd ps sp)(hr:Room k X.A)(hb:Binds X.K fd ps ds)(hd:Vals Qb ds)(hx:nZ CX X E)(ht:eval (.Call (.Attribute o m Pf) [] [] pos) X.env=(do
   let ov <-eval o X.env
   gv Pf.atName
   let(f,first) <-holding [ov] (fW ov m pl)
   iQ pos f first (bY pos (aB [] X.env)) (eR pos (cW [] X.env))):=by rfl) :
  PE X (.Call (.Attribute o m Pf) [] [] pos) (HU C m sp Qb E ta JN):=by
 intro Pe s O H Q I h;refine jR (pl:=pl) (thn (he Pe s O H _ I h) λu s1=>e4 λx H1 I1 rx ⟨a,dx,fs,ex,ea,l,q⟩=>?_) ht;subst ex;obtain rfl:u=bj a:=rx;refine zu I1 ea c hm l ?_;exact ki (first:=[.ref a]) I1.kIn hm.kp (Fs (us:=[.ref a]) (vs:=[.ref a]) F hr hb hd hx I1 (.cons rfl .nil) q)
structure Mk(K:aa)(C f:ak):Prop where
 makes:fK K C=true
 init:aU K (.ref C) "__init__"=Za (Za (.ref f))
 fn:gE K (.ref f)=true
 kp:cD K (.ref C)=true
def DP(M:Mk X.K C f)(F:FnOk X.prog X.w X.K X.mg X.base CX k f fd ps sp)(hr:Room (k+1) X.A)(hb:Binds X.K fd ps ds)(hd:Vals Qb ds)(hx:nZ CX X E)(I:Inv X Pe O H s)(r:Vals vs us)(h:∀x dx,H x=Zb->H dx=Zb->dx≠x->sp (.ref x::(vs++Qb)) (upd (upd H dx (.own x)) x (.ins C dx [])) (λv H2=>v=.non/\Q (.ref x) H2) E) :
  aS (model X.prog X.w) X.A (call (.ref C) us) (EP X Pe O Q) X.xe s:=by
 have hq:=h (s.heap.objs.size+1) s.heap.objs.size (I.hok.fresh (fS _)) (I.hok.fresh (ao _)) (aG (cC _));have I2:=Inv.made (C:=C) I;have r2:Vals (V.ref (s.heap.objs.size+1)::(vs++Qb)) (bj (s.heap.objs.size+1)::(us++ds)):=.cons rfl (r.append hd);have hl:(bj (s.heap.objs.size+1)::us++ds).length=ps.length:=by have e:=r2.length;rw[F.len _ _ _ _ hq] at e;exact e.symm
 refine wpAny_call (Jd (f:=f) I.kIn M.makes M.init (beq_iff_eq.mp M.fn) (jq (F.run _ X.stack _ _ ⟨bj (s.heap.objs.size+1)::us,[]⟩ (bj (s.heap.objs.size+1)::(us++ds)) _ _ E (hr.make C us [])
  (I2.env0.make C us []) (hb _ (bj (s.heap.objs.size+1)::us) I2.kIn hl) r2 hq) λr s' P9=>?_))
 cases r with
 |error e=>exact hx Pe O _ _ e s' I2 P9
 |ok fl =>
  cases fl with
  |ret u =>
   obtain⟨v,H',I3,rv,ev,q3⟩:=I2.after P9;subst ev;exact⟨rv,⟨V.ref (s.heap.objs.size+1),H',I3,rfl,q3⟩⟩
  |next=>exact bR P9
  |brk=>exact bR P9
  |cont=>exact bR P9
def Lu(M:Mk X.K C f)(F:FnOk X.prog X.w X.K X.mg X.base CX k f fd ps sp)(hr:Room (k+1) X.A)(hg:Gl X x)(hm:X.mg x=Za (.ref C))(hb:Binds X.K fd ps ds)(hd:Vals Qb ds)(hx:nZ CX X E)(ha:PA X (e::es) t)(P8:NDb x:=by decide)(he:SEb X e es:=by rfl)(PL:(bY pos (aB es X.env)).any (·.1)=false:=by rfl) :
  PE X (.Call (.Name x p) (e::es) [] pos) (HV C sp Qb E t):=by
 intro Pe s O H Q I h;refine fD (wX I hg hm ?_ P8);refine iA (h₀:=X.base) I.ok.mod.kin M.kp (thn (ha pos Pe s O H _ I h) λus s1=>e4 λvs H1 I1 r q=>⟨I1.kIn,?_⟩) he PL;exact DP M F hr hb hd hx I1 r q
def IN(M:Mk X.K C f)(F:FnOk X.prog X.w X.K X.mg X.base CX k f fd ps sp)(hr:Room (k+1) X.A)(hg:Gl X x)(hm:X.mg x=Za (.ref C))(hb:Binds X.K fd ps ds)(hd:Vals Qb ds)(hx:nZ CX X E)(P8:NDb x:=by decide):PE X (.Call (.Name x p) [] [] pos) (HV C sp Qb E JN):=by
 intro Pe s O H Q I h;refine fD (wX I hg hm ?_ P8);exact ki I.kIn M.kp (DP (us:=[]) M F hr hb hd hx I .nil h)
end
section
variable{X:Cx}{CX:CXT}{k:Nat}{f C:ak}{fd:cq}{ps ks:List Str}{sp:Sp}{E:XK}{x m:Str}{p pos Pf kpos:Pos}{e o:bo}{es:List bo}{kws:List fM}{te ta:TE}{t tk:TA}{nm:Option Str}
structure KBinds(K:aa)(fd:cq)(ps ks:List Str)(g:List ag->List ag->List ag)(gV:List V->List V->List V):Prop where
 to:∀(s:ax)(us ws:List ag),K.In s.heap->(g us ws).length=ps.length->jz s fd ⟨us,ks.zip ws⟩ (ps.zip (g us ws))
 rel:∀{vs:List V}{us:List ag}{zs:List V}{ws:List ag},Vals vs us->Vals zs ws->Vals (gV vs zs) (g us ws)
variable{g:List ag->List ag->List ag}{gV:List V->List V->List V}
end
structure FnScope(N P:List Str)(sc:dH):Prop where
 kind:sc.kind=.function
 co:sc.isCoroutine=false
 gen:sc.isGenerator=false
 nd:N.Nodup
 pre:N.take P.length=P
 par:∀x∈P,sc.names.lookup x=Za .local\/sc.names.lookup x=Za .cell
 nofree:∀y∈sc.names,y.2≠.free
def fsc{N P:List Str}{sc:dH}(h1:sc.kind=.function:=by rfl)(h2:sc.isCoroutine=false:=by rfl)(h3:sc.isGenerator=false:=by rfl)(h4:N.Nodup:=by decide +kernel)(h5:N.take P.length=P:=by rfl)(h6:∀x∈P,sc.names.lookup x=Za .local\/sc.names.lookup x=Za .cell:=by decide +kernel)(h7:∀y∈sc.names,y.2≠.free:=by decide +kernel):FnScope N P sc:=⟨h1,h2,h3,h4,h5,h6,h7⟩
theorem BS{kindOf}{x}:∀{binds:List (Str×ag)}{m:Str->Option ag},(∀v,(x,v)∉binds)->lw kindOf binds m x=m x
 |[],_,_=>rfl
 |(n,v)::r,m,h=>by
  unfold lw;rw[BS λw hw=>h w (ae _ hw)];split
  ·have:x≠n:=by rintro rfl;exact h v ai
   simp[this]
  ·rfl
theorem BV{kindOf}{x}:∀{binds:List (Str×ag)}{m:Str->Option ag},(∀v,(x,v)∉binds)->ly kindOf binds m x=m x
 |[],_,_=>rfl
 |(n,v)::r,m,h=>by
  unfold ly;rw[BV λw hw=>h w (ae _ hw)];split
  ·rfl
  ·have:x≠n:=by rintro rfl;exact h v ai
   simp[this]
theorem BU{kindOf}{x}{v}:∀{P:List Str}{vs:List ag}{i:Nat}{m:Str->Option ag},P.Nodup->P[i]?=Za x->vs[i]?=Za v->kindOf x=Za .local ->
  lw kindOf (P.zip vs) m x=Za v
 |[],_,_,_,_,h,_,_=>by simp at h
 |_::_,[],_,_,_,_,h,_=>by simp at h
 |p::P,w::vs,0,m,nd,h1,h2,hk=>by
  simp at h1 h2;subst h1;subst h2;show lw kindOf ((p,w)::P.zip vs) m p=_;unfold lw;rw[BS λv hv=>(aI.mp nd).1 (jm hv).1,Zc hk];simp
 |p::P,w::vs,i+1,m,nd,h1,h2,hk=>by show lw kindOf ((p,w)::P.zip vs) m x=_;unfold lw;exact BU (i:=i) (aI.mp nd).2 (by simpa using h1) (by simpa using h2) hk
theorem BW{kindOf}{x}{v}:∀{P:List Str}{vs:List ag}{i:Nat}{m:Str->Option ag},P.Nodup->P[i]?=Za x->vs[i]?=Za v->kindOf x≠Za .local ->
  ly kindOf (P.zip vs) m x=Za v
 |[],_,_,_,_,h,_,_=>by simp at h
 |_::_,[],_,_,_,_,h,_=>by simp at h
 |p::P,w::vs,0,m,nd,h1,h2,hk=>by
  simp at h1 h2;subst h1;subst h2;show ly kindOf ((p,w)::P.zip vs) m p=_;unfold ly;rw[BV λv hv=>(aI.mp nd).1 (jm hv).1,Zd hk];simp
 |p::P,w::vs,i+1,m,nd,h1,h2,hk=>by show ly kindOf ((p,w)::P.zip vs) m x=_;unfold ly;exact BW (i:=i) (aI.mp nd).2 (by simpa using h1) (by simpa using h2) hk
def start(N:List Str)(vs:List V):St:=vs.map Za++aR (N.length-vs.length) Zb
def Ei(CX:CXT)(P:aL)(w:bh)(K:aa)(mg:Str->Option ag)(base:bv)(N:List Str)(qual:Str)(scope:dH)(f:ak)(cd:ag)(A:cA)(outer:List Env)(s:ax)(H:Hp)(E:XK):Cx where
 prog:=P
 w:=w
 K:=K
 mg:=mg
 base:=base
 A:=A.deeper (fg qual scope s.heap.objs.size f cd)
 N:=N
 sa0:=s
 Ha0:=H
 env:=fg qual scope s.heap.objs.size f cd
 outer:=outer
 stack:=fg qual scope s.heap.objs.size f cd::outer
 ex:=[]
 calm:=true
 fn:=λ_=>true
 pn:=[]
 xe:=λe s'=>aS (model P w) (A.deeper (fg qual scope s.heap.objs.size f cd)) (leaving (fg qual scope s.heap.objs.size f cd) e) (λ_ UH=>CX outer H s E e UH) (λe' UH=>CX outer H s E e' UH) s'
def Em{sc:dH}{n:Nat}{x:Str}(h:sc.names.lookup x=Za .cell):∃c,(cellsFrom n sc.names []).lookup x=Za c:=by have q:=jH sc.names n [] (.inl h);exact dw.mp q
def HA{CX:CXT}{P:aL}{w:bh}{K:aa}{mg:Str->Option ag}{base:bv}{N ps:List Str}{qual:Str}{scope:dH}{f:ak}{cd:ag}{A:cA}{outer:List Env}{s s1:ax}{H:Hp}{E:XK}{us:List ag}{vs:List V}(S:FnScope N ps scope)(hd:A.handled=Zb)(e0:Env0 P w K mg base A outer s H)(hl:vs.length=ps.length)(r:Vals vs us)(x:InCallC s s.heap.objs.size (lw (fg qual scope s.heap.objs.size f cd).kindOf (ps.zip us) λ_=>Zb) (cellsFrom (s.heap.objs.size+1) scope.names []) (ly (fg qual scope s.heap.objs.size f cd).kindOf (ps.zip us) λ_=>Zb) s1) :
  Inv (Ei CX P w K mg base N qual scope f cd A outer s H E) [] (start N vs) H s1:=by
 have PL:ps.length<=N.length:=by have:=congrArg b6 S.pre;rw[eK] at this;lia
 obtain⟨h1,tk,rfl,hk⟩:=x.done;have S6:∀b:ak,b∉(Ei CX P w K mg base N qual scope f cd A outer s H E).ex:=λb z=>absurd (show b∈([]:List ak) from z) (by simp);refine⟨⟨e0.mod,S.kind,rfl,rfl,ao _,λy z c h1 h2=>?_,λy hy=>?_,λy c _ h=>?_,λ_=>hd,Around.frames_deeper e0.frames,.inr ⟨rfl,rfl⟩,λb z=>absurd z (S6 b),e0.bs,e0.bsz,λb _ _=>S6 b,λb z=>absurd z (S6 b),e0.funs,e0.frf⟩,
  rfl,e0.bare,Un.kept hk,⟨_,x.toInCall.ns,λi y v h1 h2 h3=>?_⟩,λy c h=>⟨_,x.cell y c h⟩,e0.hok.fresh (ao _),λy c h=>?_,λp hp=>absurd (show p∈([]:List (ak×Obj)) from hp) (by simp),e0.hok.kept hk,?_⟩
 ·exact name_of_addr x.apart (dD h1) (dD h2)
 ·have hy:scope.names.lookup y=Za .cell\/scope.names.lookup y=Za .free:=hy;rcases hy with hy|hy
  ·exact Em hy
  ·exact absurd rfl (S.nofree _ (dD hy))
 ·exact dN (x.above y c (dD h))
 ·have hi:i<vs.length:=by
   unfold start at h2;by_cases hi:i<vs.length
   ·exact hi
   ·rw[cG (by simpa using hi)] at h2;rw[gK] at h2;split at h2<;>cases h2
  have ha:vs[i]?=Za v:=by
   unfold start at h2;rw[dq (by simpa using hi),aC] at h2;cases e:vs[i]? with
   |none=>rw[e] at h2;cases h2
   |some a=>rw[e] at h2;cases h2;rfl
  obtain⟨u,hu,rv⟩:=r.get ha;have hp:ps[i]?=Za y:=by rw[<-S.pre,List.getElem?_take_of_lt (by lia)];exact h1
  have ndP:ps.Nodup:=by rw[<-S.pre];exact S.nd.sublist (List.take_sublist _ _)
  refine⟨u,rv,?_⟩;rcases S.par y (dy hp) with k|k
  ·exact .inl ⟨k,BU ndP hp hu k⟩
  ·obtain⟨c,e⟩:=Em (n:=s.heap.objs.size+1) k;refine .inr ⟨.inl k,c,e,?_⟩;have q:=x.cell y c e;rw[BW ndP hp hu (by show scope.names.lookup y≠_;rw[k];decide)] at q;exact q
 ·exact e0.hok.fresh (dN (x.above y c (dD h)))
 ·unfold start;show _=N.length;rw[aD,ac,dR];lia
def Nj{CX:CXT}{P}{w}{K}{mg}{base}{k}{f}{name qual}{params:jL}{body}{scope}{dV kV Qo pm Pn ct oc}{an od}{Ro:Array (Option ag)}{N ps}{sp:Sp}(lk:K.lookup f=Za ⟨oc,od,.func (bV name qual params body scope dV kV Qo pm an Pn ct),Ro⟩)(QA:fX K Pn qual=true)(S:FnScope N ps scope)(len:∀vs H Q E,sp vs H Q E->vs.length=ps.length)(Qr:∀(A:cA)(outer:List Env)(s:ax)(H:Hp)(vs:List V)(Q:VK)(E:XK),Room k (A.deeper (fg qual scope s.heap.objs.size f Pn))->sp vs H Q E ->
   ∃t,PSs (Ei CX P w K mg base N qual scope f Pn A outer s H E) body t/\t { nx:=λ_ H'=>Q .non H',rt:=Q } (start N vs) H) :
  FnOk P w K mg base CX (k+1) f (bV name qual params body scope dV kV Qo pm an Pn ct) ps sp:=by
 refine⟨len,λA outer s H args us vs Q E hr e0 hb r Ri=>?_⟩;have hl:=len _ _ _ _ Ri;have KX:K.In s.heap:=e0.mod.kin.keeps λb o e=>(e0.bs b o e).1;have lim:s.heap.NoLimit:=e0.mod.nolimit.keeps λb o e=>(e0.bs b o e).1;have Tr:∀y∈ps.zip us,scope.names.lookup y.1=Za .local\/(scope.names.lookup y.1=Za .cell/\((cellsFrom (s.heap.objs.size+1) scope.names []).lookup y.1).isSome=true):=λ⟨n,v⟩ hy=>by
  rcases S.par n (jm hy).1 with q|q
  ·exact .inl q
  ·exact .inr ⟨q,jH _ _ _ (.inl q)⟩
 refine codeAny_call_function hr.depth (KX _ _ lk) rfl S.co S.gen rfl (PySem.W.codeRec_of KX QA) (hb _ _ _ _ ?_);refine wpAny_newFunctionEnv_cells S.kind Tr λenv he s1 x=>?_;subst he;refine⟨lim.keeps x.toInCall.keep,codeAny_func ?_⟩;obtain⟨t,ht,hq⟩:=Qr A outer s H vs Q E (hr.deeper _) Ri;have I:Inv (Ei CX P w K mg base N qual scope f Pn A outer s H E) [] (start N vs) H s1:=HA S hr.hd e0 hl r x;refine bM (ht [] s1 (start N vs) H _ I hq) (λfl s' hs=>?_) λe s' hs=>hs;have PK:∀{σ':St}{H':Hp}{v:V}{u:ag},Inv (Ei CX P w K mg base N qual scope f Pn A outer s H E) [] σ' H' s'->RelV v u->Q v H'->CE outer P w H s Q u s' :=
  λ{σ' H' v u} J rv q=>⟨v,H',J.os,J.bare,J.base,J.hok,rv,q⟩
 cases fl with
 |ret u =>
  obtain⟨v,σ',H',J,rv,q⟩:=hs;exact PK J rv q
 |next =>
  obtain⟨σ',H',J,q⟩:=hs;exact PK (v:=V.non) (u:=k6) J rfl q
 |brk =>
  obtain⟨_,_,_,q⟩:=hs;exact bR q
 |cont =>
  obtain⟨_,_,_,q⟩:=hs;exact bR q
section
variable{X:Cx}{x:Str}{p pos:Pos}{e:bo}{es:List bo}{t:TA}{id T:String}{r:List V->Hp->VK->Prop}
def tCB(r:List V->Hp->VK->Prop)(t:TA):TE:=λO H Q=>t O H λvs H1=>r vs H1 Q
def pG(hc:CallR X (.builtin id) r)(hg:Gl X x)(hm:X.mg x=Zb)(hv:bN x=Za (.builtin id))(ha:PA X (e::es) t)(hn:x≠"__name__":=by decide)(P8:NDb x:=by decide)(he:SEb X e es:=by rfl)(PL:(bY pos (aB es X.env)).any (·.1)=false:=by rfl):PE X (.Call (.Name x p) (e::es) [] pos) (tCB r t):=by
 intro Pe s O H Q I h;refine fD (AK I hg hm hv ?_ hn P8);exact PyProof.Rows.callWith_builtin1 (thn (ha pos Pe s O H _ I h) λus s1=>e4 λvs H1 I1 r1 q1=>hc Pe s1 O H1 vs us Q I1 r1 q1) he PL
def Ha(hc:CallR X (.type T) r)(hg:Gl X x)(hm:X.mg x=Zb)(hv:bN x=Za (.type T))(ha:PA X (e::es) t)(hn:x≠"__name__":=by decide)(P8:NDb x:=by decide)(he:SEb X e es:=by rfl)(PL:(bY pos (aB es X.env)).any (·.1)=false:=by rfl):PE X (.Call (.Name x p) (e::es) [] pos) (tCB r t):=by
 intro Pe s O H Q I h;refine fD (AK I hg hm hv ?_ hn P8);exact dG (thn (ha pos Pe s O H _ I h) λus s1=>e4 λvs H1 I1 r1 q1=>hc Pe s1 O H1 vs us Q I1 r1 q1) he PL
end
end L2
namespace HT
open PySem PyProof.Rows
section
open PySem.SeqAt
open PySem.AutoSeq1 (wpAny_loadPart')
open PySem.MeetsSeq PySem.MeetsSeq2 PySem.MeetsSeq3
end
section
variable{prog:aL}{w:bh}{A:cA}{E:ag->ax->Prop}{s:ax}
def sIx(n d:Nat):Option Int->Nat
 |none=>d
 |some v=>if v<0 then(v+(n:Int)).toNat else min v.toNat n
def NJ(n d)(hd:d<=n)(o):sIx n d o<=n:=by
 cases o with
 |none=>exact hd
 |some v =>
  show(if v<0 then(v+(n:Int)).toNat else min v.toNat n)<=n;by_cases hv:v<0
  ·rw[Zc hv];lia
  ·rw[Zd hv];exact Nat.min_le_right _ _
def GE(v:Int)(n d:Nat):(if v<0 then max (v+(n:Int)) 0 else min v (n:Int))=((sIx n d (Za v):Nat):Int):=by
 show(if v<0 then max (v+(n:Int)) 0 else min v (n:Int))=(((if v<0 then(v+(n:Int)).toNat else min v.toNat n):Nat):Int);by_cases hv:v<0
 ·simp only[Zc hv];lia
 ·simp only[Zd hv];lia
def Fj(lo hi:Option Int)(n:Nat):fP lo hi 1 (n:Int)=(((sIx n 0 lo:Nat):Int),((sIx n n hi:Nat):Int)):=by
 have h1:¬((1:Int)<0):=by lia
 unfold fP;simp only[h1,if_false];refine Prod.ext ?_ ?_
 ·cases lo with
  |none=>rfl
  |some v=>exact GE v n 0
 ·cases hi with
  |none=>rfl
  |some v=>exact GE v n n
def ET(i j:Nat):dO (i:Int) (j:Int) 1=j-i:=by
 unfold dO;have h1:(1:Int)>0:=by lia
 simp only[h1,if_true,Int.ediv_one];split<;>lia
def yV(p:jJ v o)(h:Q o s):aS (model prog w) A (Builtin.Slice.slicePartIndex v) Q E s:=by
 cases p with
 |none=>exact slicePart_none h
 |int i t=>exact slicePart_int h
def wM{sl:ak}{vl vu:ag}{lo hi:Option Int}{n:Nat}{Q:Int×Int×Nat->ax->Prop}(hs:s.heap.IsSliceOf sl vl vu .none)(pl:jJ vl lo)(pu:jJ vu hi)(h:Q (((sIx n 0 lo:Nat):Int),1,sIx n n hi-sIx n 0 lo) s):aS (model prog w) A (iI (.ref sl) (pure (n:Int))) Q E s:=by
 obtain⟨os,R4,Se,Uk⟩:=id hs;unfold iI Builtin.Slice.sliceFields;refine aq (aq (wpAny_field R4 Uk (x:=vl) rfl (aq (wpAny_field R4 Uk (x:=vu) rfl (aq (wpAny_field R4 Uk (x:=.none) rfl (aN ?_)))))));refine aq (slicePart_none ?_);show aS _ _ (if((1:Int)==0)=true then _ else _) _ _ s;rw[Zd (by decide)];refine aq (yV pl (aq (yV pu (aq (aN ?_)))));show aS _ _ (match fP lo hi 1 (n:Int) with|(lo,hi)=>pure (lo,(1:Int),dO lo hi 1)) _ _ s;rw[Fj lo hi n];show aS _ _ (pure (((sIx n 0 lo:Nat):Int),(1:Int),dO ((sIx n 0 lo:Nat):Int) ((sIx n n hi:Nat):Int) 1)) _ _ s;rw[ET];exact aN h
def IJ(xs:Array ag)(i k:Nat):((bw k).filterMap λ(m:Nat)=>xs[((i:Int)+(m:Int)*1).toNat]?).toArray=((xs.toList.drop i).take k).toArray:=by
 have e:(λ(m:Nat)=>xs[((i:Int)+(m:Int)*1).toNat]?)=λm=>xs[i+m]?:=by
  funext m
  have:((i:Int)+(m:Int)*1).toNat=i+m:=by lia
  rw[this]
 rw[e];have:=pick_run xs i k;rw[List.filterMap_map] at this;have e2:((λx=>xs[x]?)∘λx=>i+x)=λm=>xs[i+m]?:=rfl;rw[e2] at this;rw[this]
def getItem_tuple_cut{t sl}{items:Array ag}{vl vu}{lo hi}{Q}(ht:IsTup s.heap t items)(hs:s.heap.IsSliceOf sl vl vu .none)(pl:jJ vl lo)(pu:jJ vu hi)(hw:¬(sIx items.size 0 lo=0/\sIx items.size items.size hi=items.size))(h:Q (.ref s.heap.objs.size) { s with heap:=s.heap.push { cls:=.type "tuple",data:=.seq ((items.toList.drop (sIx items.size 0 lo)).take (sIx items.size items.size hi-sIx items.size 0 lo)).toArray } })(hsz:items.size<=aK):aS (model prog w) A (iy (.ref t) (.ref sl)) Q E s:=by
 have QH:sizeOk (.seq ((items.toList.drop (sIx items.size 0 lo)).take (sIx items.size items.size hi-sIx items.size 0 lo)).toArray):=by show((items.toList.drop (sIx items.size 0 lo)).take (sIx items.size items.size hi-sIx items.size 0 lo)).toArray.size<=aK;rw[aM,eK,gJ,fV];lia
 have hj:sIx items.size items.size hi<=items.size:=NJ _ _ (ao _) hi;obtain⟨os,R4,Se,Uk⟩:=id hs;have hTs:s.TypeIs (.ref sl) "slice":=⟨os,R4,Se⟩;unfold iy
 try with_reducible refine ei ?_
 first|refine aq (aN ?_)|skip
 refine aq (wpAny_sequenceKey ht.typeIs (by decide) ?_);refine aq (wpAny_callSpecial?_slot (name:=aQ "__getitem__") ht.typeIs dI
  (wpAny_call_entry dI ht.typeIs entry_tuple_getitem ?_ (args_tuple_getitem _ _)))
 show aS _ _ (Builtin.Tuple.tupleItemsOf (.ref t) >>= _) _ _ s;refine aq (tupleItemsOf_ ht ?_);refine aq (wpAny_typeOf hTs ?_);rw[Zc (by decide)];refine aq (wM hs pl pu ?_);have QJ:¬((((sIx items.size 0 lo:Nat):Int)==0&&(1:Int)==1&&(sIx items.size items.size hi-sIx items.size 0 lo)==items.size)=true):=by intro q;rw[cg,cg] at q;have q1:((sIx items.size 0 lo:Nat):Int)=0:=eq_of_beq q.1.1;have q2:sIx items.size items.size hi-sIx items.size 0 lo=items.size:=eq_of_beq q.2;exact hw ⟨by lia,by lia⟩
 show aS _ _ (if(((sIx items.size 0 lo:Nat):Int)==0&&(1:Int)==1&&(sIx items.size items.size hi-sIx items.size 0 lo)==items.size)=true then _ else _) _ _ s;rw[Zd QJ,IJ]
 first
  |exact aq (m:=dU _) (eJ (aN ⟨_,rfl,aN h⟩) QH)
  |exact aq (m:=dU _) (eJ (aq (aN (aN ⟨_,rfl,aN h⟩))) QH)
  |exact aq (aq (m:=dU _) (eJ (aN (aN ⟨_,rfl,aN h⟩)) QH))
  |exact aq (aq (m:=dU _) (eJ (aN ⟨_,rfl,aN h⟩) QH))
end
end HT
namespace L2
open PySem PySem.Spec PyProof.Rows
abbrev TO:=St->Hp->(Option Int->Hp->Prop)->Prop
def PO(X:Cx)(e:Option bo)(t:TO):Prop :=
 ∀(Pe:List (ak×Obj))(s:ax)(O:St)(H:Hp)(Q:Option Int->Hp->Prop),Inv X Pe O H s->t O H Q ->
  aS (model X.prog X.w) X.A (evalPart e X.env) (λu s'=>∃o H',Inv X Pe O H' s'/\jJ u o/\Q o H') X.xe s
def KZ:TO:=λ_ H Q=>Q Zb H
def tPart(t:TE):TO:=λO H Q=>t O H λx H1=>∃i,x=.int i/\Q (Za i) H1
section
variable{X:Cx}{e:bo}{te:TE}{lo hi:Option bo}{tl th:TO}{pos p2:Pos}
def po_none:PO X Zb KZ:=by intro Pe s O H Q I h;rw[evalPart_none];exact aN ⟨Zb,H,I,.none,h⟩
def Lm(h:PE X e te):PO X (Za e) (tPart te):=by intro Pe s O H Q I hw;rw[evalPart_some];refine thn (h Pe s O H _ I hw) λu s1=>e4 λx H1 I1 r1 q1=>?_;obtain⟨i,rfl,q⟩:=q1;obtain⟨t,rfl⟩:=r1;exact⟨Za i,H1,I1,.int i t,q⟩
def SlR(X:Cx)(r:V->Option Int->Option Int->Hp->VK->Prop):Prop :=
 ∀(Pe:List (ak×Obj))(s:ax)(O:St)(H:Hp)(x:V)(v vl vu:ag)(lo hi:Option Int)(sl:ak)(Q:VK),Inv X Pe O H s->RelV x v->s.heap.IsSliceOf sl vl vu .none->jJ vl lo->jJ vu hi->r x lo hi H Q ->
  ∃T id,typeLookup (.type T) "__getitem__"=pure (Za (.builtin id))/\s.TypeIs v T/\aS (model X.prog X.w) X.A (iy v (.ref sl)) (EP X Pe O Q) X.xe s
def SlR.or(h:SlR X r)(h':SlR X r'):SlR X (λx lo hi H Q=>r x lo hi H Q\/r' x lo hi H Q):=by
 intro Pe s O H x v vl vu lo hi sl Q I rx hs pl pu q;rcases q with q|q
 ·exact h Pe s O H x v vl vu lo hi sl Q I rx hs pl pu q
 ·exact h' Pe s O H x v vl vu lo hi sl Q I rx hs pl pu q
def tSl(r:V->Option Int->Option Int->Hp->VK->Prop)(te:TE)(tl th:TO):TE:=λO H Q=>te O H λx H1=>tl O H1 λl H2=>th O H2 λu H3=>r x l u H3 Q
def IL(hr:SlR X r)(he:PE X e te)(hl:PO X lo tl)(hu:PO X hi th):PE X (.Subscript e (.Slice lo hi Zb p2) pos) (tSl r te tl th):=by intro Pe s O H Q I h;refine Subscript_ (thn (he Pe s O H _ I h) λv s1=>e4 λx H1 I1 r1 q1=>?_);refine wpAny_Slice (thn (hl Pe s1 O H1 _ I1 q1) λvl s2=>e4 λl H2 I2 pl q2=>thn (hu Pe s2 O H2 _ I2 q2) λvu s3=>e4 λu H3 I3 pu q3=>?_);rw[evalPart_none];refine aN ?_;have I4:Inv X Pe O H3 { s3 with heap:=s3.heap.push { cls:=.type "slice",data:=.fields #[vl,vu,.none] } }:=I3.kept (t':=s3.toks) λb ob q=>ar _ q;obtain⟨T,id,hT,ht,hg⟩:=hr Pe { s3 with heap:=s3.heap.push { cls:=.type "slice",data:=.fields #[vl,vu,.none] } } O H3 x v vl vu l u s3.heap.objs.size Q I4 r1 (Heap.IsSliceOf.new ..) pl pu q3;show aS (model X.prog X.w) X.A (jd e (.Slice lo hi Zb p2) v (.ref s3.heap.objs.size)) (EP X Pe O Q) X.xe { s3 with heap:=s3.heap.push { cls:=.type "slice",data:=.fields #[vl,vu,.none] } };exact tail_any (ops:=[.ref s3.heap.objs.size,v]) ht hT hg (by with_unfolding_all rfl)
def GA(xs:List V)(lo hi:Option Int):List V:=(xs.drop (HT.sIx xs.length 0 lo)).take (HT.sIx xs.length xs.length hi-HT.sIx xs.length 0 lo)
def x6(xs)(lo hi):(GA xs lo hi).length<=xs.length:=by unfold GA;rw[eK,gJ];lia
def rSlT(K:aa):V->Option Int->Option Int->Hp->VK->Prop:=λx lo hi H Q=>∃a xs,x=.ref a/\SqT K H a xs /\
 ¬(HT.sIx xs.length 0 lo=0/\HT.sIx xs.length xs.length hi=xs.length)/\∀p,H p=Zb->Q (.ref p) (upd H p (.tup (GA xs lo hi)))
def NG:SlR X (rSlT X.K):=by
 intro Pe s O H x v vl vu lo hi sl Q I rx hs pl pu h;obtain⟨a,xs,rfl,hx,hw,q⟩:=h;cases rx;obtain⟨its,r,ht,hz⟩:=I.tuple hx;have Pi:its.toArray.size=xs.length:=by rw[aM];exact r.length.symm
 refine⟨"tuple",_,dI.lookup,ht.typeIs,?_⟩;refine HT.getItem_tuple_cut ht hs pl pu (by rw[Pi];exact hw) ?_ (by rw[Pi];exact hz);rw[Pi];refine⟨.ref s.heap.objs.size,_,I.laid (t':=s.toks) (o:=.tup (GA xs lo hi)) (λb ob q=>ar _ q) (ao _) ?_,rfl,q _ (I.hok.fresh (ao _))⟩;exact⟨aE (x6 xs lo hi) hz,_,(r.drop (HT.sIx xs.length 0 lo)).take (HT.sIx xs.length xs.length hi-HT.sIx xs.length 0 lo),IsTup.new _ _⟩
end
def ixN(n:Nat)(i:Int):Option Nat:=if 0<=i then(if i<n then Za i.toNat else Zb) else if -(n:Int)<=i then Za (i+n).toNat else Zb
def atI{α:Type}(xs:List α)(i:Int):Option α:=(ixN xs.length i).bind λj=>xs[j]?
def Gg(h:ixN n i=Za j):seqIndex? i n=Za j/\j<n/\-(n:Int)<=i/\i<n:=by
 unfold ixN at h;by_cases h0:0<=i
 ·rw[Zc h0] at h;by_cases h1:i<n
  ·rw[Zc h1] at h;have e:i.toNat=j:=aP h;exact⟨by rw[seqIndex_of h0 h1,e],by lia,by lia,h1⟩
  ·rw[Zd h1] at h;cases h
 ·rw[Zd h0] at h;by_cases h1:-(n:Int)<=i
  ·rw[Zc h1] at h;have e:(i+n).toNat=j:=aP h;exact⟨by rw[seqIndex_neg (by lia) h1,e],by lia,h1,by lia⟩
  ·rw[Zd h1] at h;cases h
def CT(h:atI xs i=Za v):∃j,seqIndex? i xs.length=Za j/\xs[j]?=Za v/\j<xs.length/\-(xs.length:Int)<=i/\i<xs.length:=by
 unfold atI at h;cases e:ixN xs.length i with
 |none=>rw[e] at h;cases h
 |some j =>
  rw[e] at h;obtain⟨h1,h2,h3,h4⟩:=Gg e;exact⟨j,h1,h,h2,h3,h4⟩
def mY{α:Type}{xs:List α}{j:Nat}{v:α}(h:xs[j]?=Za v):atI xs (j:Int)=Za v:=by
 have hj:j<xs.length:=(aW.mp h).1;have e:ixN xs.length (j:Int)=Za j:=by unfold ixN;rw[Zc (by lia),Zc (by lia)];simp
 unfold atI;rw[e];exact h
def GM(b:bo):Prop:=∀o i,subscripted b false o i=operate [o,i] (iy o i)
def IxR(X:Cx)(r:R2):Prop :=
 ∀(value Px:bo)(Pe:List (ak×Obj))(s:ax)(O:St)(H:Hp)(x y:V)(v u:ag)(Q:VK),Inv X Pe O H s->RelV x v->RelV y u->r x y H Q ->
  subscripted Px false v u=operate [v,u] (iy v u)->aS (model X.prog X.w) X.A (jd value Px v u) (EP X Pe O Q) X.xe s
def MtR(X:Cx)(id:String)(r:V->List V->Hp->VK->Prop):Prop :=
 ∀(Pe:List (ak×Obj))(s:ax)(O:St)(H:Hp)(x:V)(xs:List V)(v:ag)(us:List ag)(Q:VK),Inv X Pe O H s->RelV x v->Vals xs us->r x xs H Q ->
  aS (model X.prog X.w) X.A (call (.builtin id) (v::us)) (EP X Pe O Q) X.xe s
section
variable{X:Cx}{a b:bo}{ta tb:TE}{pos:Pos}
def IxR.or(h:IxR X r)(h':IxR X r'):IxR X (λx y H Q=>r x y H Q\/r' x y H Q):=by
 intro value Px Pe s O H x y v u Q I rx ry q hs;rcases q with q|q
 ·exact h value Px Pe s O H x y v u Q I rx ry q hs
 ·exact h' value Px Pe s O H x y v u Q I rx ry q hs
def sd{r}(hr:IxR X r)(ha:PE X a ta)(hb:PE X b tb)(hs:GM b):PE X (.Subscript a b pos) (tOp r ta tb):=by intro Pe s O H Q I h;exact Subscript_ (Pc ha hb I h λv u s2 x y H2 I2 rx ry q=>hr a b Pe s2 O H2 x y v u Q I2 rx ry q (hs _ _))
def O3(K:aa):R2:=λx y H Q=>∃p xs i v,x=.ref p/\y=.int i/\SqL K H p xs/\atI xs i=Za v/\Q v H
def O1(K:aa):R2:=λx y H Q=>∃p xs i v,x=.ref p/\y=.int i/\SqT K H p xs/\atI xs i=Za v/\Q v H
def O2:R2:=λx y H Q=>∃z i c,x=.str z/\y=.int i/\z.length<=aK/\atI z.cps.toList i=Za c/\Q (.str ⟨#[c]⟩) H
def ix_list:IxR X (O3 X.K):=by
 intro value Px Pe s O H x y v u Q I rx ry h hs;obtain⟨p,xs,i,z,rfl,rfl,hq,he,q⟩:=h;cases rx;obtain⟨t,rfl⟩:=ry;obtain⟨its,r,pl,hz⟩:=I.list hq;obtain⟨j,h1,h2,h3,h4,h5⟩:=CT he;obtain⟨w,ew,P0⟩:=r.get h2;have hl:=r.length;have hn:=wa;have PK:EP X Pe O Q w s:=⟨z,H,I,P0,q⟩;by_cases h0:0<=i
 ·have hj:i.toNat=j:=by rw[seqIndex_of h0 h5] at h1;exact aP h1
  exact item_listR pl.isList h0 (by lia) (by rw[hj];simpa using ew) PK hs
 ·have hj:(i+(its.toArray.size:Int)).toNat=j:=by rw[seqIndex_neg (by lia) h4] at h1;rw[aM,<-hl];exact aP h1
  exact subscriptTail_builtinR (x:=w) pl.isList.typeIs slot_list_getitem.lookup
   (wpAny_getItem_list_neg (Q:=λr s'=>r=w/\EP X Pe O Q r s') pl.isList (by lia) (by rw[aM]<;>lia) (by lia) (by rw[hj];simpa using ew) ⟨rfl,PK⟩) hs
def ix_tup:IxR X (O1 X.K):=by
 intro value Px Pe s O H x y v u Q I rx ry h hs;obtain⟨p,xs,i,z,rfl,rfl,hq,he,q⟩:=h;cases rx;obtain⟨t,rfl⟩:=ry;obtain⟨its,r,pl,hz⟩:=I.tuple hq;obtain⟨j,h1,h2,h3,h4,h5⟩:=CT he;obtain⟨w,ew,P0⟩:=r.get h2;have hl:=r.length;have hn:=wa;have PK:EP X Pe O Q w s:=⟨z,H,I,P0,q⟩;exact subscriptTail_builtinR (x:=w) pl.typeIs dI.lookup
  (getItem_tuple (j:=j) (Q:=λr s'=>r=w/\EP X Pe O Q r s') pl (by lia) (by lia) (by rw[aM,<-hl];exact h1) (by simpa using ew) ⟨rfl,PK⟩) hs
def yw:IxR X O2:=by
 intro value Px Pe s O H x y v u Q I rx ry h hs;obtain⟨z,i,c,rfl,rfl,hz,he,q⟩:=h;obtain⟨t,rfl⟩:=rx;obtain⟨t',rfl⟩:=ry;obtain⟨j,h1,h2,h3,h4,h5⟩:=CT he;have hl:z.cps.toList.length=z.length:=by simp[Str.length]
 rw[hl] at h1 h4 h5;have hn:=wa;exact tail_any (typeIs_str s z t) slot_str_getitem.lookup (getItem_str (c:=c) (by have e1:decide (i < -(2^63:Int))=false:=Zh (by lia);have e2:decide (i>=2^63)=false:=Zh (by lia);rw[e1,e2,Bool.or_false]) (by rw[h1];simpa using h2) ⟨.str ⟨#[c]⟩,H,I.tok _,⟨_,rfl⟩,q⟩) hs
def E3(its:List ag)(n j:Nat)(u:ag):iS (·.setIfInBounds j u) { cls:=.type "list",data:=.seq its.toArray n }={ cls:=.type "list",data:=.seq (its.set j u).toArray n }:=by simp[iS]
theorem Inv.lst{Pe}{O}{H}{s}{p}{xs}(I:Inv X Pe O H s)(h:H p=Za (.lst xs)) :
  ∃(its:List ag)(n:Nat),Vals xs its/\s.heap.get? p=Za { cls:=.type "list",data:=.seq its.toArray n }/\xs.length<=aK:=by
 obtain⟨z,its,n,r,e⟩:=I.hok p _ h;exact⟨its,n,r,e,z⟩
def Inv.lstUpd{Pe:List (ak×Obj)}{O:St}{H:Hp}{s:ax}{p:ak}{xs ys:List V}{its its':List ag}{n n':Nat}{f:Obj->Obj}(I:Inv X Pe O H s)(h:H p=Za (.lst xs))(ho:s.heap.get? p=Za { cls:=.type "list",data:=.seq its.toArray n })(hf:f { cls:=.type "list",data:=.seq its.toArray n }={ cls:=.type "list",data:=.seq its'.toArray n' })(r:Vals ys its')(hz:ys.length<=aK)(t:Nat) :
  Inv X Pe O (upd H p (.lst ys)) { s with heap:=s.heap.update p f,toks:=t }:=by
 have e:(s.heap.update p f).get? p=Za { cls:=.type "list",data:=.seq its'.toArray n' }:=by rw[Heap.get?_update_self f ho (by rw[hf]<;>rfl),hf]
 refine I.write (x:=p) (e:=p) (by rw[h];trivial) (.inl rfl) (λb u hb q=>(kl _ _ (bW hb)).trans q) ⟨_,e⟩ ?_;exact⟨hz,its',n',r,e⟩
def MZ:V->V->V->Hp->(Hp->Prop)->Prop:=λo i v H Q=>∃p xs k j,o=.ref p/\i=.int k/\H p=Za (.lst xs)/\ixN xs.length k=Za j/\Q (upd H p (.lst (xs.set j v)))
def set_list:PSet X MZ:=by
 intro Pe s O H o i v ov iv u Q I ro ri rv h;obtain⟨p,xs,k,j,rfl,rfl,hp,hj,q⟩:=h;cases ro;obtain⟨t,rfl⟩:=ri;obtain⟨its,n,r,ho,hz⟩:=I.lst hp;obtain⟨h1,h2,h3,h4⟩:=Gg hj;have hl:=r.length;have hn:=wa;have I':Inv X Pe O (upd H p (.lst (xs.set j v))) { s with heap:=s.heap.update p (iS (·.setIfInBounds j u)) } :=
  I.lstUpd hp ho (E3 its n j u) (r.set rv j) (by rw[List.length_set];exact hz) s.toks
 by_cases h0:0<=k
 ·have hk:k.toNat=j:=by rw[seqIndex_of h0 h4] at h1;exact aP h1
  exact PySem.W.ki_setAt ho h0 (by lia) (by rw[aM,<-hl];exact h4) (by rw[hk];exact⟨_,I',q⟩)
 ·have hk:(k+(its.toArray.size:Int)).toNat=j:=by rw[seqIndex_neg (by lia) h3] at h1;rw[aM,<-hl];exact aP h1
  exact PySem.W.ki_setBack ho (by lia) (by rw[aM,<-hl];exact h3) (by lia) (by rw[hk];exact⟨_,I',q⟩)
def B6(lo hi)(n):(f8 lo hi Zb n).1=((HT.sIx n 0 lo:Nat):Int)/\(f8 lo hi Zb n).2.1=((HT.sIx n n hi:Nat):Int)/\(f8 lo hi Zb n).2.2=1:=by
 refine⟨?_,?_,rfl⟩
 ·cases lo with
  |none=>simp[f8,HT.sIx]
  |some i =>
   simp only[f8,HT.sIx,lC,show(1:Int)>0 by decide,if_true];by_cases h:i<0
   ·simp only[h,if_true]<;>lia
   ·simp only[h,if_false]<;>lia
 ·cases hi with
  |none=>simp[f8,HT.sIx]
  |some i =>
   simp only[f8,HT.sIx,lC,show(1:Int)>0 by decide,if_true];by_cases h:i<0
   ·simp only[h,if_true]<;>lia
   ·simp only[h,if_false]<;>lia
def Ap(its:List ag)(lo hi:Option Int):slicePick its.toArray lo hi Zb=((its.drop (HT.sIx its.length 0 lo)).take (HT.sIx its.length its.length hi-HT.sIx its.length 0 lo)).toArray:=by obtain⟨h1,h2,h3⟩:=B6 lo hi its.toArray.size;unfold slicePick;rw[h1,h2,h3];simp only[sliceRange_one,pick_run,aM]<;>rfl
def rSlL(K:aa):V->Option Int->Option Int->Hp->VK->Prop:=λx lo hi H Q=>∃a xs,x=.ref a/\SqL K H a xs/\∀p,H p=Zb->Q (.ref p) (upd H p (.lst (GA xs lo hi)))
def sl_list:SlR X (rSlL X.K):=by intro Pe s O H x v vl vu lo hi sl Q I rx hs pl pu h;obtain⟨a,xs,rfl,hx,q⟩:=h;cases rx;obtain⟨its,r,ht,hz⟩:=I.list hx;have Pi:=r.length;refine⟨"list",_,slot_list_getitem.lookup,ht.isList.typeIs,?_⟩;refine wpAny_getItem_list_slice ht.isList hs pl pu .none (by simp) ?_ (by rw[aM]<;>lia);rw[Ap,<-Pi];refine⟨.ref s.heap.objs.size,_,I.laid (t':=s.toks) (o:=.lst (GA xs lo hi)) (λb ob q=>ar _ q) (ao _) ?_,rfl,q _ (I.hok.fresh (ao _))⟩;exact⟨aE (x6 xs lo hi) hz,_,0,(r.drop (HT.sIx xs.length 0 lo)).take (HT.sIx xs.length xs.length hi-HT.sIx xs.length 0 lo),ba _ rfl⟩
def tF:V->Bool
 |.non=>true
 |.bl _=>true
 |.int _=>true
 |.str _=>true
 |_=>false
def eqV:V->V->Bool
 |.non,.non=>true
 |.bl a,.bl b=>a==b
 |.bl a,.int b=>(if a then 1 else 0)==b
 |.int a,.bl b=>a==(if b then 1 else 0)
 |.int a,.int b=>a==b
 |.str a,.str b=>a==b
 |_,_=>false
def FA(ry:RelV y u)(rx:RelV x v)(fy:tF y=true)(fx:tF x=true):k8 A s u v (eqV y x):=by
 cases y with
 |non =>
  cases ry;cases x with
  |non=>cases rx;exact SeqAt.EqAt.same _
  |bl b=>cases rx;exact SeqAt.EqAt.none_bool b
  |int b=>obtain⟨t,rfl⟩:=rx;exact SeqAt.EqAt.none_int b t
  |str b=>obtain⟨t,rfl⟩:=rx;exact SeqAt.EqAt.none_str b t
  |_=>exact absurd (show false=true from fx) a6
 |bl a =>
  cases ry;cases x with
  |non=>cases rx;exact SeqAt.EqAt.bool_none a
  |bl b=>cases rx;exact SeqAt.EqAt.bool_bool a b
  |int b=>obtain⟨t,rfl⟩:=rx;exact SeqAt.EqAt.bool_int a b t
  |str b=>obtain⟨t,rfl⟩:=rx;exact SeqAt.EqAt.bool_str a b t
  |_=>exact absurd (show false=true from fx) a6
 |int a =>
  obtain⟨t',rfl⟩:=ry;cases x with
  |non=>cases rx;exact SeqAt.EqAt.int_none a t'
  |bl b=>cases rx;exact SeqAt.EqAt.int_bool a t' b
  |int b=>obtain⟨t,rfl⟩:=rx;exact SeqAt.EqAt.int_int a t' b t
  |str b=>obtain⟨t,rfl⟩:=rx;exact jT a t' b t
  |_=>exact absurd (show false=true from fx) a6
 |str a =>
  obtain⟨t',rfl⟩:=ry;cases x with
  |non=>cases rx;exact SeqAt.EqAt.str_none a t'
  |bl b=>cases rx;exact SeqAt.EqAt.str_bool a t' b
  |int b=>obtain⟨t,rfl⟩:=rx;exact jS a t' b t
  |str b=>obtain⟨t,rfl⟩:=rx;exact SeqAt.EqAt.str_str a t' b t
  |_=>exact absurd (show false=true from fx) a6
 |_=>exact absurd (show false=true from fy) a6
def eqU(x:V)(u:ag):Bool:=match u with
 |.none=>eqV .non x
 |.bool b=>eqV (.bl b) x
 |.int i _=>eqV (.int i) x
 |.str z _=>eqV (.str z) x
 |_=>false
def Kg(r:RelV y u)(f:tF y=true):eqU x u=eqV y x:=by
 cases y with
 |non=>cases r;rfl
 |bl b=>cases r;rfl
 |int i=>obtain⟨t,rfl⟩:=r;rfl
 |str z=>obtain⟨t,rfl⟩:=r;rfl
 |_=>exact absurd (show false=true from f) a6
theorem w5:∀{xs:List V}{us:List ag},Vals xs us->xs.all tF=true->us.any (eqU x)=xs.any λy=>eqV y x
 |_,_,.nil,_=>rfl
 |y::xs,u::us,.cons r t,f=>by rw[iK,cg] at f;rw[cO,cO,Kg r f.1,w5 t f.2]
theorem uL(rx:RelV x v)(fx:tF x=true):∀{xs:List V}{us:List ag},Vals xs us->xs.all tF=true->∀u∈us,k8 A s u v (eqU x u)
 |_,_,.nil,_=>λu hu=>by cases hu
 |y::xs,u::us,.cons r t,f=>λu' hu=>by
  rw[iK,cg] at f;rcases af.mp hu with rfl|hu
  ·rw[Kg r f.1];exact FA r rx f.1 fx
  ·exact uL rx fx t f.2 u' hu
def inV(x:V)(xs:List V):Bool:=xs.any λy=>eqV y x
def rIn(K:aa)(neg:Bool):R2:=λx y H Q=>∃p xs,y=.ref p/\(SqL K H p xs\/SqT K H p xs)/\tF x=true/\xs.all tF=true/\Q (.bl (if neg then !inV x xs else inV x xs)) H
def Hd:OpR X (bP .In) (rIn X.K false):=by
 intro Pe s O H x y v u Q I rx ry h;obtain⟨p,xs,rfl,hq,fx,fs,q⟩:=h;cases ry;rcases hq with hq|hq
 ·obtain⟨its,r,pl,hz⟩:=I.list hq;refine SeqAt.in_listAt (eqU x) pl.isList (λw hw=>uL rx fx r fs w (by simpa using hw)) ⟨.bl _,H,I,rfl,?_⟩;rw[show its.toArray.any (eqU x)=its.any (eqU x) by simp,w5 r fs];exact q
 ·obtain⟨its,r,pl,hz⟩:=I.tuple hq;refine SeqAt.in_tupleAt (eqU x) pl (λw hw=>uL rx fx r fs w (by simpa using hw)) ⟨.bl _,H,I,rfl,?_⟩;rw[show its.toArray.any (eqU x)=its.any (eqU x) by simp,w5 r fs];exact q
def Cg:OpR X (bP .NotIn) (rIn X.K true):=by
 intro Pe s O H x y v u Q I rx ry h;obtain⟨p,xs,rfl,hq,fx,fs,q⟩:=h;cases ry;rcases hq with hq|hq
 ·obtain⟨its,r,pl,hz⟩:=I.list hq;refine SeqAt.notIn_listAt (eqU x) pl.isList (λw hw=>uL rx fx r fs w (by simpa using hw)) ⟨.bl _,H,I,rfl,?_⟩;rw[show its.toArray.any (eqU x)=its.any (eqU x) by simp,w5 r fs];exact q
 ·obtain⟨its,r,pl,hz⟩:=I.tuple hq;refine SeqAt.notIn_tupleAt (eqU x) pl (λw hw=>uL rx fx r fs w (by simpa using hw)) ⟨.bl _,H,I,rfl,?_⟩;rw[show its.toArray.any (eqU x)=its.any (eqU x) by simp,w5 r fs];exact q
def call_len_seq:CallR X (.builtin "len") (λxs H Q=>∃p ys,xs=[.ref p]/\(SqL X.K H p ys\/SqT X.K H p ys)/\Q (.int ys.length) H):=by
 intro Pe s O H xs us Q I r h;obtain⟨p,ys,rfl,hq,q⟩:=h;obtain⟨u,rfl,rx⟩:=qH r;cases rx;have hn:=wa;rcases hq with hq|hq
 ·obtain⟨its,r',pl,hz⟩:=I.list hq;have Pi:=r'.length;exact Calls.call_len_list pl.isList (by simp only[aM]<;>lia) ⟨.int ys.length,H,I.tok _,⟨s.toks+1,by rw[aM,Pi]⟩,q⟩
 ·obtain⟨its,r',pl,hz⟩:=I.tuple hq;have Pi:=r'.length;exact len_tuple pl (by simp only[aM]<;>lia) ⟨.int ys.length,H,I.tok _,⟨s.toks+1,by rw[aM,Pi]⟩,q⟩
def call_len_str:CallR X (.builtin "len") (λxs H Q=>∃z,xs=[.str z]/\z.length<=aK/\Q (.int z.length) H):=by intro Pe s O H xs us Q I r h;obtain⟨z,rfl,hz,q⟩:=h;obtain⟨u,rfl,t,rfl⟩:=qH r;have hn:=wa;exact len_str (by lia) ⟨.int z.length,H,I.tok _,⟨_,rfl⟩,q⟩
def CallR.or(h:CallR X f r)(h':CallR X f r'):CallR X f (λxs H Q=>r xs H Q\/r' xs H Q):=by
 intro Pe s O H xs us Q I rs q;rcases q with q|q
 ·exact h Pe s O H xs us Q I rs q
 ·exact h' Pe s O H xs us Q I rs q
def Ct:CallR X (.type "list") (λxs H Q=>∃p ys,xs=[.ref p]/\(SqL X.K H p ys\/SqT X.K H p ys)/\∀l,H l=Zb->Q (.ref l) (upd H l (.lst ys))):=by
 intro Pe s O H xs us Q I r h;obtain⟨p,ys,rfl,hq,q⟩:=h;obtain⟨u,rfl,rx⟩:=qH r;cases rx;have PK:∀(its:List ag),Vals ys its->ys.length<=aK->∀(h':bv)(c':Nat),(∀b o',s.heap.get? b=Za o'->h'.get? b=Za o') ->
   h'.get? s.heap.objs.size=Za { cls:=.type "list",dict:=Zb,data:=.seq its.toArray c',slots:=#[] }->EP X Pe O Q (.ref s.heap.objs.size) { s with heap:=h' }:=λits r' hz h' c' kp e =>
  ⟨.ref s.heap.objs.size,_,I.laid (t':=s.toks) kp (ao _) (show ObjOk X.prog X.w _ h' _ (.lst ys) from⟨hz,its,c',r',e⟩),rfl,q _ (I.hok.fresh (ao _))⟩
 rcases hq with hq|hq
 ·obtain⟨its,r',pl,hz⟩:=I.list hq;have Pi:=r'.length;obtain⟨o,ho,hc,n,hd⟩:=pl.isList;exact call_list_seq p (.inl rfl) ho hc hd (λh' c' kp e=>PK its r' hz h' c' kp e) (by simp only[aM]<;>lia)
 ·obtain⟨its,r',pl,hz⟩:=I.tuple hq;have Pi:=r'.length;obtain⟨o,ho,hc,n,hd⟩:=pl;exact call_list_seq p (.inr rfl) ho hc hd (λh' c' kp e=>PK its r' hz h' c' kp e) (by simp only[aM]<;>lia)
def AO:CallR X (.type "tuple") (λxs H Q=>∃p ys,xs=[.ref p]/\((SqL X.K H p ys/\∀l,H l=Zb->Q (.ref l) (upd H l (.tup ys)))\/(SqT X.K H p ys/\Q (.ref p) H))):=by
 intro Pe s O H xs us Q I r h;obtain⟨p,ys,rfl,h⟩:=h;obtain⟨u,rfl,rx⟩:=qH r;cases rx;rcases h with⟨hq,q⟩|⟨hq,q⟩
 ·obtain⟨its,r',pl,hz⟩:=I.list hq;have Pi:=r'.length;refine call_tuple_list pl.isList (λh' kp=>?_) (by simp only[aM]<;>lia);have I1:Inv X Pe O H { s with heap:=h' }:=I.kept (t':=s.toks) kp;have I2:Inv X Pe O (upd H h'.objs.size (.tup ys)) { s with heap:=h'.push { cls:=.type "tuple",data:=.seq its.toArray } } :=
   I1.laid (t':=s.toks) (λb o e=>ar _ e) (ao _) (show ObjOk X.prog X.w _ _ _ (.tup ys) from⟨hz,its,r',IsTup.new _ _⟩)
  exact⟨.ref h'.objs.size,_,I2,rfl,q _ (I1.hok.fresh (ao _))⟩
 ·obtain⟨its,r',pl,hz⟩:=I.tuple hq;exact call_tuple_same pl ⟨.ref p,H,I,rfl,q⟩
def tyV(K:aa)(T:String)(x:V)(H:Hp):Prop:=match x with
 |.str _=>T="str"
 |.int _=>T="int"
 |.ref p=>(T="list"/\∃xs,SqL K H p xs)\/(T="tuple"/\∃o,K.lookup p=Za o/\o.cls=.type "tuple"/\o.dict=Zb) \/
   (T="dict"/\((∃kvs,H p=Za (.dK kvs))\/∃kvs,H p=Za (.dT kvs)))\/(T="set"/\∃S n,H p=Za (.set S n))
 |_=>False
def JM(I:Inv X Pe O H s)(r:RelV x v)(ty:tyV X.K T x H) :
  s.TypeIs v T/\∀a,v=.ref a->∃ob,s.heap.get? a=Za ob/\ob.dict=none:=by
 cases x with
 |str z =>
  obtain⟨t,rfl⟩:=r;cases(show T="str" from ty);exact⟨typeIs_str s z t,λ_ e=>nomatch e⟩
 |int i =>
  obtain⟨t,rfl⟩:=r;cases(show T="int" from ty);exact⟨typeIs_int s i t,λ_ e=>nomatch e⟩
 |ref p =>
  cases r;rcases ty with⟨rfl,xs,hq⟩|⟨rfl,o,hk,hc,hd⟩|⟨rfl,hk⟩|⟨rfl,S,n,hk⟩
  ·obtain⟨its,_,pl,_⟩:=I.list hq;refine⟨pl.isList.typeIs,λa e=>?_⟩;cases e;obtain⟨o,n,e,c,hd,_⟩:=pl;exact⟨o,e,hd⟩
  ·refine⟨⟨o,I.kIn p o hk,hc⟩,λa e=>?_⟩;cases e;exact⟨o,I.kIn _ o hk,hd⟩
  ·have z:∃o,s.heap.get? p=Za o/\o.ExactDict:=by
    rcases hk with⟨kvs,hk⟩|⟨kvs,hk⟩
    ·obtain⟨_,_,_,_,o,_,_,e,ex,_⟩:=I.hok p _ hk;exact⟨o,e,ex⟩
    ·obtain⟨_,_,_,_,o,_,_,e,ex,_⟩:=I.hok p _ hk;exact⟨o,e,ex⟩
   obtain⟨o,e,ex⟩:=z;refine⟨⟨o,e,ex.1⟩,λa e2=>?_⟩;cases e2;exact⟨o,e,ex.2.1⟩
  ·obtain⟨o,_,_,_,e,ex,_⟩:=I.hok p _ hk;refine⟨⟨o,e,ex.1⟩,λa e2=>?_⟩;cases e2;exact⟨o,e,ex.2.1⟩
 |_=>exact bR ty
def tBM0(K:aa)(T:String)(r:V->List V->Hp->VK->Prop)(to:TE):TE:=λO H Q=>to O H λx H1=>tyV K T x H1/\r x [] H1 Q
def tBM(K:aa)(T:String)(r:V->List V->Hp->VK->Prop)(to:TE)(t:TA):TE:=λO H Q=>to O H λx H1=>tyV K T x H1/\t O H1 λxs H2=>r x xs H2 Q
variable{o e:bo}{es:List bo}{to:TE}{t:TA}{name:Str}{Pf Pg:Pos}{T id:String}{r:V->List V->Hp->VK->Prop}
def N0(pa:PlainAttrs T)(slot:Slot T name id)(Td:typeOf (.builtin id)=pure (.type "method_descriptor"))(hm:MtR X id r)(ho:PE X o to)(Pz:cz o name X.env (eval o X.env)=eval o X.env:=by rfl)(Py:(Pf.endLine==Pg.line)=true:=by rfl):PE X (.Call (.Attribute o name Pf) [] [] Pg) (tBM0 X.K T r to):=by
 intro Pe s O H Q I h;refine lv Pz Py (thn (ho Pe s O H _ I h) λv s1=>e4 λx H1 I1 r1 ⟨ty,q1⟩=>?_);obtain⟨h1,h2⟩:=JM I1 r1 ty;exact⟨T,id,pa,slot,Td,h1,h2,dJ rfl (kP (hm Pe s1 O H1 x [] v [] Q I1 r1 .nil q1))⟩
def KA(pa:PlainAttrs T)(slot:Slot T name id)(Td:typeOf (.builtin id)=pure (.type "method_descriptor"))(hm:MtR X id r)(ho:PE X o to)(ha:PA X (e::es) t)(Pz:cz o name X.env (eval o X.env)=eval o X.env:=by rfl)(Qz:((bY Pg (aB (e::es) X.env)).all (λx=>!x.1)&&(eR Pg (cW [] X.env)).all (λx=>x.1.isSome)
   && decide ((e::es).length+([]:List fM).length+(if([]:List fM).isEmpty then 0 else 1)<30))=true:=by rfl)(Py:(Pf.endLine==Pg.line)=true:=by rfl)(hs:SEb X e es:=by rfl)(PY:(bY Pg (aB es X.env)).any (·.1)=false:=by rfl) :
  PE X (.Call (.Attribute o name Pf) (e::es) [] Pg) (tBM X.K T r to t):=by
 intro Pe s O H Q I h;refine wpAny_Call_method_late Pz Qz Py rfl (thn (ho Pe s O H _ I h) λv s1=>e4 λx H1 I1 r1 ⟨ty,q1⟩=>?_);obtain⟨h1,h2⟩:=JM I1 r1 ty;refine⟨T,id,pa,slot,Td,h1,h2,?_⟩;have hA:=ha Pg Pe s1 O H1 _ I1 q1;rw[hs] at hA ⊢;refine dJ (by show(false||(bY Pg (aB es X.env)).any (·.1))=false;rw[PY]<;>rfl) (fO ?_);exact thn hA λus s2=>e4 λvs H2 I2 r2 q2=>hm Pe s2 O H2 x vs v us Q I2 r1 r2 q2
end
def MtM(X:Cx)(id:String)(r:V->List V->Hp->VK->Prop):Prop :=
 ∀(Pe:List (ak×Obj))(s:ax)(O:St)(H:Hp)(x:V)(xs:List V)(v:ag)(us:List ag)(Q:VK),Inv X Pe O H s->RelV x v->Vals xs us->r x xs H Q ->
  aS (model X.prog X.w) X.A (call (.builtin id) (v::us)) (EP X Pe O Q) X.xe s
def Vals.one:∀{x:V}{us:List ag},Vals [x] us->∃u,us=[u]/\RelV x u
 |_,_,.cons r .nil=>⟨_,rfl,r⟩
def Vals.zero:∀{us:List ag},Vals [] us->us=[]
 |_,.nil=>rfl
theorem Vals.dropLast(h:Vals xs us):Vals xs.dropLast us.dropLast:=by
 induction h with
 |nil=>exact .nil
 |cons r t ih =>
  cases t with
  |nil=>exact .nil
  |cons q t'=>exact .cons r ih
theorem Vals.rep(h:Vals xs us):∀k:Nat,Vals (aR k xs).flatten (aR k us).flatten
 |0=>.nil
 |k+1=>by rw[cY,cY,dY,dY];exact Vals.append h (Vals.rep h k)
def Fe(l:List α):l.eraseIdx (l.length-1)=l.dropLast:=by
 induction l with
 |nil=>rfl
 |cons a r ih =>
  cases r with
  |nil=>rfl
  |cons b r =>
   have e:(a::b::r).length-1=((b::r).length-1)+1:=by have h1:(a::b::r).length=r.length+2:=rfl;have h2:(b::r).length=r.length+1:=rfl;lia
   rw[e,List.eraseIdx_cons_succ,ih]
   all_goals rfl
theorem BE(its):∀(k:Nat)(Po:List ag),
  lH (λx1 x2=>x1++x2) Po.toArray (aR k its.toArray)=(Po++(aR k its).flatten).toArray
 |0,Po=>by simp
 |k+1,Po=>by
  have e:Po.toArray++its.toArray=(Po++its).toArray:=by simp
  have e2:(Po++its)++(aR k its).flatten=Po++(aR (k+1) its).flatten:=by rw[cY,dY,List.append_assoc]
  rw[<-e2,<-BE its k (Po++its),<-e,cY,List.foldl_cons]
section
variable{X:Cx}{Pe:List (ak×Obj)}{O:St}{H:Hp}{s:ax}{l b:ak}{xs ys zs:List V}
def Inv.lset{its its':List ag}{n:Nat}{f:Array ag->Array ag}{t':Nat}(I:Inv X Pe O H s)(hH:H l=Za (.lst xs))(e:s.heap.get? l=Za { cls:=.type "list",data:=.seq its.toArray n })(hf:f its.toArray=its'.toArray)(hv:Vals ys its')(hz:ys.length<=aK) :
  Inv X Pe O (upd H l (.lst ys)) { s with heap:=s.heap.update l (iS f),toks:=t' }:=by
 have q:=PySem.IsL.update e f;rw[hf] at q;refine I.write (x:=l) (e:=l) (by rw[hH];exact trivial) (.inl rfl) (λb' u hb hu=>(kl s.heap (iS f) (bW hb)).trans hu) ⟨_,q⟩ ?_;exact⟨hz,its',_,hv,q⟩
def Inv.lnew(I:Inv X Pe O H s)(hv:Vals ys its)(hz:ys.length<=aK) :
  Inv X Pe O (upd H s.heap.objs.size (.lst ys)) { s with heap:=s.heap.push { cls:=.type "list",data:=.seq its.toArray },toks:=t' } :=
 I.laid (λ_ _ q=>ar _ q) (ao _) ⟨hz,its,0,hv,ba _ rfl⟩
theorem Inv.fresh(I:Inv X Pe O H s):H s.heap.objs.size=none:=I.hok.fresh (ao _)
def Inv.lstM(I:Inv X Pe O H s)(hH:H l=Za (.lst xs)):xs.length<=aK/\∃(its:List ag)(n:Nat),Vals xs its/\xs.length=its.length/\s.heap.get? l=Za { cls:=.type "list",data:=.seq its.toArray n }:=by obtain⟨z,its,n,r,e⟩:=I.hok l _ hH;exact⟨z,its,n,r,r.length,e⟩
def IX(h:n<=aK):fT n=false:=by unfold fT;exact Zh (by lia)
def Lh:V->List V->Hp->VK->Prop:=λx vs H Q=>∃l xs y,x=.ref l/\vs=[y]/\H l=Za (.lst xs)/\xs.length<aK/\Q .non (upd H l (.lst (xs++[y])))
def Bv:MtM X "list.append" Lh:=by intro Pe s O H x vs v us Q I rx rv h;obtain⟨l,xs,y,rfl,rfl,hH,hz,q⟩:=h;cases rx;obtain⟨u,rfl,ru⟩:=rv.one;obtain⟨z,its,n,r,hl,e⟩:=I.lstM hH;refine iz kI ⟨_,e,rfl⟩ F.entry_list_append (F.args_list_append_2 _ _) (PySem.list_append l its.toArray n u (by rw[aM];lia)) ⟨e,?_⟩;refine⟨.non,_,I.lset (its':=its++[u]) hH e (by simp) (r.append (.cons ru .nil)) ?_,rfl,q⟩;rw[aD,dQ];lia
def rPop:V->List V->Hp->VK->Prop:=λx vs H Q=>∃l xs y,x=.ref l/\vs=[]/\H l=Za (.lst xs)/\xs[xs.length-1]?=Za y/\Q y (upd H l (.lst xs.dropLast))
def Om:MtM X "list.pop" rPop:=by
 intro Pe s O H x vs v us Q I rx rv h;obtain⟨l,xs,y,rfl,rfl,hH,hy,q⟩:=h;cases rx;have hus:=rv.zero;subst hus;obtain⟨z,its,n,r,hl,e⟩:=I.lstM hH;obtain⟨u,hu,ru⟩:=r.get hy;have Tb:its.toArray[its.toArray.size-1]?=Za u:=by show its.toArray[its.length-1]?=Za u;rw[<-kB,<-hl];exact hu
 refine iz lz ⟨_,e,rfl⟩ F.entry_list_pop (F.args_list_pop_1 _) (MeetsSeq.list_pop_last l its.toArray n u Tb (by rw[aM];lia)) ⟨e,?_⟩;refine⟨y,_,I.lset (its':=its.dropLast) hH e ?_ r.dropLast ?_,ru,q⟩
 ·show its.toArray.eraseIdxIfInBounds (its.toArray.size-1)=its.dropLast.toArray;rw[aM,List.eraseIdxIfInBounds_toArray,Fe]
 ·rw[List.length_dropLast];lia
def O0:R2:=λx y H Q=>∃l k xs,x=.ref l/\y=.int k/\H l=Za (.lst xs)/\-(2^63)<=k/\k<2^63/\xs.length*k.toNat<=aK /\
 ∀p,H p=Zb->Q (.ref p) (upd H p (.lst (aR k.toNat xs).flatten))
def LU(xs:List α)(k:Nat):(aR k xs).flatten.length=k*xs.length:=by
 induction k with
 |zero=>simp
 |succ k ih=>rw[cY,dY,aD,ih,Nat.succ_mul,kL]
def N3:OpR X (dF .Mult) O0:=by
 intro Pe s O H x y v u Q I rx ry h;obtain⟨l,k,xs,rfl,rfl,hH,h1,h2,hz,q⟩:=h;cases rx;obtain⟨t,rfl⟩:=ry;obtain⟨z,its,n,r,hl,e⟩:=I.lstM hH;have Pi:its.toArray.size*k.toNat<=aK:=by rw[aM,<-hl];exact hz
 have Vm:¬its.toArray.size*k.toNat>(2^63-1)/8:=by
  have:(aK:Nat)<=(2^63-1)/8:=by decide
  lia
 have Vg:¬(!Builtin.List.listFitsIndex k)=true:=by rw[fitsIndex_both h1 h2];exact a6
 have Tn:¬fT (its.toArray.size*k.toNat)=true:=by rw[IX Pi];exact a6
 have Qi:lH (λx1 x2=>x1++x2) #[] (aR (if its.toArray.isEmpty=true then 0 else k.toNat) its.toArray)=(aR k.toNat its).flatten.toArray:=by
  have f0:∀m:Nat,lH (λx1 x2=>x1++x2) #[] (aR m its.toArray)=(aR m its).flatten.toArray:=λm=>by have:=BE its m [];rw[g5] at this;exact this
  rw[f0];cases its with
  |nil=>simp
  |cons a r'=>rw[Zd (by simp)]
 refine wpAny_binaryOp_repeat_ref (T:="list") (U:="int") (by decide) ⟨_,e,rfl⟩ (λs'=>typeIs_int s' k t) noFill_list_mul F.fills_int_mul F.slot_int_rmul repeat_list F.slot_int_index.lookup
  (iz F.slot_int_rmul (typeIs_int s k t) F.entry_int_rmul (F.args_int_rmul_2 _ _) (int___rmul___int_list k t l its.toArray n)
   ⟨e,rfl,⟨_,e,rfl⟩,iz F.slot_list_mul ⟨_,e,rfl⟩ F.entry_list_mul (F.args_list_mul_2 _ _) (AutoListH.list___mul___list_int_3 l its.toArray n k t Vg Vm Tn) ⟨e,?_⟩⟩)
 rw[Qi];exact⟨.ref _,_,I.lnew (t':=s.toks) (r.rep k.toNat) (by rw[LU,kJ];exact hz),rfl,q _ I.fresh⟩
end
section
variable{prog:aL}{w:bh}{A:cA}{E:ag->ax->Prop}{s:ax}
set_option maxRecDepth 100000 in
end
section
variable{X:Cx}
end
open PySem PySem.Spec PyProof.Rows
section
variable{κ:Type}[DecidableEq κ]
def oO(kvs:List (κ×V))(k:κ):Option V:=(kvs.find? λkv=>decide (kv.1=k)).map (·.2)
def qI(kvs:List (κ×V))(k:κ)(v:V):List (κ×V) :=
 if(kvs.any λkv=>decide (kv.1=k))=true then kvs.map (λkv=>if kv.1=k then(kv.1,v) else kv) else kvs++[(k,v)]
def yn(kvs:List (κ×V))(k:κ):List (κ×V):=kvs.filter λkv=>decide (kv.1≠k)
def wm{p:κ×V}{r}{k:κ}(e:p.1=k):oO (p::r) k=Za p.2:=by simp[oO,bF,e]
def wn{p:κ×V}{r}{k:κ}(e:¬p.1=k):oO (p::r) k=oO r k:=by simp[oO,bF,e]
theorem zU(k:κ):∀kvs:List (κ×V),(kvs.any λkv=>decide (kv.1=k))=(oO kvs k).isSome
 |[]=>rfl
 |p::r=>by
  rw[cO];by_cases e:p.1=k
  ·simp only[wm e,Zg e,Bool.true_or,Option.isSome_some]
  ·rw[wn e,Zh e,jW];exact zU k r
def qX(kvs)(k:κ)(v):(qI kvs k v).length<=kvs.length+1:=by
 unfold qI;split
 ·rw[ac];lia
 ·rw[aD,aY,jn];lia
def uJ{kvs}{k:κ}(v)(h:oO kvs k=Zb):qI kvs k v=kvs++[(k,v)]:=by unfold qI;rw[zU,h];exact Zd (by decide)
def RelO.isSome_eq(r:RelO o u):o.isSome=u.isSome:=by
 cases o with
 |none=>cases u with
  |none=>rfl
  |some _=>exact(show False from r).elim
 |some _=>cases u with
  |none=>exact(show False from r).elim
  |some _=>rfl
theorem RelO.getD(r:RelO o u)(rd:RelV d d'):RelV (o.getD d) (u.getD d'):=by
 cases o with
 |none=>cases u with
  |none=>exact rd
  |some _=>exact(show False from r).elim
 |some _=>cases u with
  |none=>exact(show False from r).elim
  |some _=>exact r
def KV.val{kvs}{vs}(r:KV kvs vs)(k:κ):RelO (oO kvs k) (iX vs k):=by
 unfold KV at r;induction r with
 |nil=>exact eX
 |@cons p q ps qs h t ih =>
  obtain⟨h1,h2⟩:=h;by_cases e:p.1=k
  ·have e':q.1=k:=h1.symm.trans e;have b:iX (q::qs) k=Za q.2:=by simp[iX,bF,e']
   rw[wm e,b];exact h2
  ·have e':¬q.1=k:=λz=>e (h1.trans z);have b:iX (q::qs) k=iX qs k:=by simp[iX,bF,e']
   rw[wn e,b];exact ih
theorem KV.any(r:KV kvs vs)(k:κ):(kvs.any λkv=>decide (kv.1=k))=vs.any λkv=>decide (kv.1=k):=by
 unfold KV at r;induction r with
 |nil=>rfl
 |cons h t ih=>rw[cO,cO,ih,h.1]
def KV.repl(r:KV kvs vs)(k:κ)(ry:RelV y u) :
  KV (kvs.map λkv=>if kv.1=k then(kv.1,y) else kv) (vs.map λkv=>if kv.1=k then(kv.1,u) else kv):=by
 unfold KV at r ⊢;induction r with
 |nil=>exact .nil
 |@cons p q ps qs h t ih =>
  rw[al,al];refine .cons ?_ ih;obtain⟨h1,h2⟩:=h;by_cases e:p.1=k
  ·rw[Zc e,Zc (h1.symm.trans e)];exact⟨h1,ry⟩
  ·rw[Zd e,Zd (λz=>e (h1.trans z))];exact⟨h1,h2⟩
def KV.put(r:KV kvs vs)(k:κ)(ry:RelV y u):KV (qI kvs k y) (stored vs k u):=by
 unfold qI stored;rw[r.any k];by_cases e:(vs.any λkv=>decide (kv.1=k))=true
 ·rw[Zc e,Zc e];exact r.repl k ry
 ·rw[Zd e,Zd e];exact kj r ⟨rfl,ry⟩
def KV.drop(r:KV kvs vs)(k:κ):KV (yn kvs k) (without vs k):=by
 unfold KV at r ⊢;unfold yn without;induction r with
 |nil=>exact .nil
 |@cons p q ps qs h t ih =>
  obtain⟨h1,h2⟩:=h;rw[gM,gM];by_cases e:p.1=k
  ·have a:¬decide (p.1≠k)=true:=by simp[e]
   have b:¬decide (q.1≠k)=true:=by simp[h1.symm.trans e]
   rw[Zd a,Zd b];exact ih
  ·have e':¬q.1=k:=λz=>e (h1.trans z);have a:decide (p.1≠k)=true:=by simp[e]
   have b:decide (q.1≠k)=true:=by simp[e']
   rw[Zc a,Zc b];exact .cons ⟨h1,h2⟩ ih
def KV.keys{kvs:List (κ×V)}{vs:List (κ×ag)}(r:KV kvs vs):kvs.map (·.1)=vs.map (·.1):=by
 unfold KV at r;induction r with
 |nil=>rfl
 |cons h t ih=>rw[al,al,ih,h.1]
theorem KV.length(r:KV kvs vs):kvs.length=vs.length:=iB r
def Js(kvs)(k:κ):(yn kvs k).length<=kvs.length:=fI _ _
end
def yk(r:RelV (kV k) u):(mT P w).is k u=true:=by
 cases k with
 |inl i=>obtain⟨t,e⟩:=(show ∃t,u=f7 i t from r);subst e;exact Dr P w i t
 |inr x=>obtain⟨t,e⟩:=(show ∃t,u=io x t from r);subst e;exact Dq P w x t
theorem Bx:∀{ks:List Key}{us:List ag},Vals (ks.map kV) us->ItemsAre (mT P w) ks us
 |[],_,r=>by rw[dA] at r;cases r;exact .nil
 |k::ks,_,r=>by
  rw[al] at r;cases r with
  |cons h t=>exact .cons (yk h) (Bx t)
abbrev KT(H:Hp):List (List Key×V)->List (List Key×ak×ag)->Prop:=fc λp q=>p.1=q.1/\H q.2.1=Za (.tup (p.1.map kV))/\RelV p.2 q.2.2
def KT.val{H}{kvs}{xs}(r:KT H kvs xs)(k):RelO (oO kvs k) ((kG xs k).map (·.2)):=by
 induction r with
 |nil=>exact eX
 |@cons p q ps qs h t ih =>
  obtain⟨h1,_,h2⟩:=h;by_cases e:p.1=k
  ·have e':q.1=k:=h1.symm.trans e;have b:kG (q::qs) k=Za q.2:=by simp[kG,bF,e']
   rw[wm e,b];exact h2
  ·have e':¬q.1=k:=λz=>e (h1.trans z);have b:kG (q::qs) k=kG qs k:=by simp[kG,bF,e']
   rw[wn e,b];exact ih
def KT.repl(r:KT H kvs xs)(k)(ry:RelV y u) :
  KT H (kvs.map λkv=>if kv.1=k then(kv.1,y) else kv) (xs.map (putAt k u)):=by
 induction r with
 |nil=>exact .nil
 |@cons p q ps qs h t ih =>
  rw[al,al];refine .cons ?_ ih;obtain⟨h1,h2,h3⟩:=h;unfold putAt;by_cases e:p.1=k
  ·rw[Zc e,Zc (h1.symm.trans e)];exact⟨h1,h2,ry⟩
  ·rw[Zd e,Zd (λz=>e (h1.trans z))];exact⟨h1,h2,h3⟩
def KT.put(r:KT H kvs xs)(k)(hb:H b=Za (.tup (k.map kV)))(ry:RelV y u) :
  KT H (qI kvs k y) (storedH xs k b u):=by
 have e:(kvs.any λkv=>decide (kv.1=k))=(kG xs k).isSome:=by rw[zU,(r.val k).isSome_eq,ci]
 unfold qI storedH;rw[e];by_cases q:(kG xs k).isSome=true
 ·rw[Zc q,Zc q];exact r.repl k ry
 ·rw[Zd q,Zd q];exact kj r ⟨rfl,hb,ry⟩
def KT.keeps(r:KT H kvs xs)(ht:∀b ys,H b=Za (.tup ys)->H' b=Za (.tup ys)):KT H' kvs xs :=
 fc.mapP r λ_ _ z=>⟨z.1,ht _ _ z.2.1,z.2.2⟩
section
variable{P:aL}{w:bh}{H:Hp}{h:bv}{a:ak}
def MY(ok:HOk P w H h)(e:Rd H a u):ObjOk P w H h a u:=e.ok ok
def tH(ok:HOk P w H h)(e:Rd H a (.dK kvs)):kvs.length<=aK/\(a==dS)=false/\∃vs,KV kvs vs/\h.DictOf (mT P w) a vs :=
 show ObjOk P w H h a (.dK kvs) from MY ok e
def KJ(ok:HOk P w H h)(e:H a=Za (.dK kvs)):kvs.length<=aK/\(a==dS)=false/\∃vs,KV kvs vs/\h.DictOf (mT P w) a vs:=tH ok (.inl e)
def yv(ok:HOk P w H h)(e:H a=Za (.tup (ks.map kV))):(iY (mT P w)).is h ks a:=by obtain⟨_,its,r,o,h1,h2,n,h3⟩:=(show ObjOk P w H h a (.tup (ks.map kV)) from ok a _ e);exact⟨o,its.toArray,n,h1,h2,h3,by simpa using Bx r⟩
def AY(ok:HOk P w H h)(e:Rd H a (.dT kvs)):kvs.length<=aK/\(a==dS)=false /\
  ∃xs,KT H kvs xs/\h.DictOfH (iY (mT P w)) a xs:=by
 obtain⟨z,y,xs,r,o,es,ep,h1,h2,h3,h4,h5⟩:=(show ObjOk P w H h a (.dT kvs) from MY ok e);refine⟨z,y,xs,r,o,es,ep,h1,h2,h3,h4,λx hx=>?_,h5⟩;have all:∀{l:List (List Key×V)}{m:List (List Key×ak×ag)},KT H l m->∀x∈m,(iY (mT P w)).is h x.1 x.2.1:=by
  intro l m q;induction q with
  |nil=>intro x hx;exact nomatch hx
  |@cons p q ps qs hq t ih =>
   intro x hx;rcases af.mp hx with e|hx
   ·subst e;exact yv ok (by rw[<-hq.1];exact hq.2.1)
   ·exact ih x hx
 exact all r x hx
def dt_of(ok:HOk P w H h)(e:H a=Za (.dT kvs)):kvs.length<=aK/\(a==dS)=false /\
  ∃xs,KT H kvs xs/\h.DictOfH (iY (mT P w)) a xs:=AY ok (.inl e)
end
def DGet(H:Hp)(a:ak)(y:V)(r:Option V):Prop :=
 (∃kvs k,Rd H a (.dK kvs)/\y=kV k/\r=oO kvs k)\/∃kvs k b,Rd H a (.dT kvs)/\y=.ref b/\H b=Za (.tup (k.map kV))/\r=oO kvs k
def DPut(H:Hp)(a:ak)(y v:V)(H':Hp):Prop :=
 (∃kvs k,H a=Za (.dK kvs)/\y=kV k/\kvs.length<aK/\H'=upd H a (.dK (qI kvs k v))) \/
 ∃kvs k b,H a=Za (.dT kvs)/\y=.ref b/\H b=Za (.tup (k.map kV))/\kvs.length<aK/\H'=upd H a (.dT (qI kvs k v))
theorem DGet.k{H}{a}{kvs}{k}(e:H a=Za (.dK kvs)):DGet H a (kV k) (oO kvs k):=.inl ⟨kvs,k,.inl e,rfl,rfl⟩
def DGet.t{H}{a b}{kvs}{k}(e:H a=Za (.dT kvs))(eb:H b=Za (.tup (k.map kV))):DGet H a (.ref b) (oO kvs k):=.inr ⟨kvs,k,b,.inl e,rfl,eb,rfl⟩
theorem DPut.k{H}{a}{kvs}{k}{v}(e:H a=Za (.dK kvs))(hl:kvs.length<aK):DPut H a (kV k) v (upd H a (.dK (qI kvs k v))):=.inl ⟨kvs,k,e,rfl,hl,rfl⟩
def DPut.t{H}{a b}{kvs}{k}{v}(e:H a=Za (.dT kvs))(eb:H b=Za (.tup (k.map kV)))(hl:kvs.length<aK) :
  DPut H a (.ref b) v (upd H a (.dT (qI kvs k v))):=.inr ⟨kvs,k,b,e,rfl,eb,hl,rfl⟩
section
variable{X:Cx}{Pe:List (ak×Obj)}{O:St}{H:Hp}{s:ax}{a:ak}{y v:V}{u r:ag}{o:Option V}{A:cA}{E:ag->ax->Prop}
def Inv.big(I:Inv X Pe O H s):dS<s.heap.objs.size:=by have h:bc<s.heap.objs.size:=(I.mod.glob.keeps I.bk).lt;exact gZ (by decide) h
def BJ(hu:A.units+1<eY)(I:Inv X Pe O H s)(g:DGet H a y (Za v))(ry:RelV y u)(h:∀w' s',Inv X Pe O H s'->RelV v w'->Q w' s') :
  aS (model X.prog X.w) A (iy (.ref a) u) Q E s:=by
 rcases g with⟨kvs,k,e,ey,l⟩|⟨kvs,k,b,e,ey,eb,l⟩
 ·subst ey;obtain⟨z,hd,vs,rel,dd⟩:=tH I.hok e;obtain⟨w',hw,P0⟩:=RelO.some_of (v:=v) (o:=iX vs k) (by rw[l];exact rel.val k);exact wpAny_getItem_of (yk ry) dd.mapOf hw (h w' _ (I.tok _) P0)
 ·subst ey;cases(show u=bj b from ry);obtain⟨z,hd,xs,rel,dd⟩:=AY I.hok e;obtain⟨w',hw,P0⟩:=RelO.some_of (v:=v) (o:=(kG xs k).map (·.2)) (by rw[l];exact rel.val k);obtain⟨p,hp,hp2⟩:=Option.map_eq_some_iff.mp hw;refine wpAny_getItem_heap (fE hu) (yv I.hok eb) dd hp ?_;rw[hp2];exact h w' _ (I.tok _) P0
def d_in(hu:A.units+1<eY)(I:Inv X Pe O H s)(g:DGet H a y o)(ry:RelV y u)(h:∀s',Inv X Pe O H s'->Q (.bool o.isSome) s') :
  aS (model X.prog X.w) A (bP .In u (.ref a)) Q E s:=by
 rcases g with⟨kvs,k,e,ey,l⟩|⟨kvs,k,b,e,ey,eb,l⟩
 ·subst ey;obtain⟨z,hd,vs,rel,dd⟩:=tH I.hok e;refine wpAny_in_of (yk ry) hd dd.mapOf ?_;rw[<-(rel.val k).isSome_eq,<-l];exact h _ (I.tok _)
 ·subst ey;cases(show u=bj b from ry);obtain⟨z,hd,xs,rel,dd⟩:=AY I.hok e;refine wpAny_in_heap (fE hu) (yv I.hok eb) hd dd ?_;have q:=(rel.val k).isSome_eq;rw[ci] at q;rw[<-q,<-l];exact h _ (I.tok _)
def ME(hu:A.units+1<eY)(I:Inv X Pe O H s)(g:DGet H a y o)(ry:RelV y u)(h:∀s',Inv X Pe O H s'->Q (.bool (!o.isSome)) s') :
  aS (model X.prog X.w) A (bP .NotIn u (.ref a)) Q E s:=by
 rcases g with⟨kvs,k,e,ey,l⟩|⟨kvs,k,b,e,ey,eb,l⟩
 ·subst ey;obtain⟨z,hd,vs,rel,dd⟩:=tH I.hok e;refine wpAny_notIn_of (yk ry) hd dd.mapOf ?_;rw[<-(rel.val k).isSome_eq,<-l];exact h _ (I.tok _)
 ·subst ey;cases(show u=bj b from ry);obtain⟨z,hd,xs,rel,dd⟩:=AY I.hok e;refine wpAny_notIn_heap (fE hu) (yv I.hok eb) hd dd ?_;have q:=(rel.val k).isSome_eq;rw[ci] at q;rw[<-q,<-l];exact h _ (I.tok _)
def zH(I:Inv X Pe O H s)(mu:Mut (H a))(hs:iZ a s.heap h')(he:∃q,h'.get? a=Za q)(new:ObjOk X.prog X.w (upd H a ob) h' a ob) :
  Inv X Pe O (upd H a ob) { s with heap:=h',toks:=t' } :=
 I.write (x:=a) (e:=a) mu (.inl rfl) (λb q hb z=>(hs.2 b hb).trans z) he new
def De(z:kvs.length<=aK)(hd:(a==dS)=false)(rel:KV kvs vs)(dd:h'.DictOf (mT P w) a vs) :
  ObjOk P w H' h' a (.dK kvs):=⟨z,hd,vs,rel,dd⟩
def BI(hu:A.units+1<eY)(I:Inv X Pe O H s)(g:DPut H a y v H')(ry:RelV y u)(rv:RelV v r)(h:∀s',Inv X Pe O H' s'->Q () s') :
  aS (model X.prog X.w) A (kf (.ref a) u r) Q E s:=by
 rcases g with⟨kvs,k,e,ey,l,eH⟩|⟨kvs,k,b,e,ey,eb,l,eH⟩
 ·subst ey eH;obtain⟨z,hd,vs,rel,dd⟩:=KJ I.hok e;have hz:vs.length<=aK:=by rw[<-rel.length];exact z
  have hl:(qI kvs k v).length<=aK:=by have:=qX kvs k v;lia
  refine wpAny_setItem_pairs (hsz:=hz) (yk ry) dd λh' Rm hs=>h _ ?_;have he:∃q,h'.get? a=Za q:=let⟨q,_,_,hq,_⟩:=Rm;⟨q,hq⟩;exact zH I (by rw[e];exact eX) hs he (De hl hd (rel.put k rv) Rm)
 ·subst ey eH;cases(show u=bj b from ry);obtain⟨z,hd,xs,rel,dd⟩:=dt_of I.hok e;have hz:xs.length<=aK:=by rw[<-iB rel];exact z
  have hl:(qI kvs k v).length<=aK:=by have:=qX kvs k v;lia
  refine wpAny_setItem_heap (hsz:=hz) (fE hu) (yv I.hok eb) dd λh' Rm hs=>h _ ?_;obtain⟨q,es,ep,hq,h2,h3,h4,_,h5⟩:=Rm;refine zH I (by rw[e];exact eX) hs ⟨q,hq⟩ ⟨hl,hd,_,(rel.put k eb rv).keeps λc ys ec=>?_,q,es,ep,hq,h2,h3,h4,h5⟩;rw[lO (C2 ec e (λz=>nomatch z))];exact ec
end
section
variable{X:Cx}{Pe:List (ak×Obj)}{O:St}{H:Hp}{s:ax}{a:ak}{kvs:List (Key×V)}{k:Key}{u:ag}{A:cA}{E:ag->ax->Prop}
def d_pop(I:Inv X Pe O H s)(e:H a=Za (.dK kvs))(ry:RelV (kV k) u)(l:oO kvs k=Za v)(hm:PQ=[]\/∃x,PQ=[x])(h:∀w' s',Inv X Pe O (upd H a (.dK (yn kvs k))) s'->RelV v w'->Q w' s'):aS (model X.prog X.w) A (call (.builtin "dict.pop") (.ref a::u::PQ)) Q E s:=by
 obtain⟨z,hd,vs,rel,dd⟩:=KJ I.hok e;obtain⟨w',hw,P0⟩:=RelO.some_of (v:=v) (o:=iX vs k) (by rw[<-l];exact rel.val k);have hp:(keyPart u).isSome=true:=by
  cases k with
  |inl i=>obtain⟨t,q⟩:=(show ∃t,u=f7 i t from ry);subst q;rfl
  |inr x=>obtain⟨t,q⟩:=(show ∃t,u=io x t from ry);subst q;rfl
 have ha:argsOk "dict.pop" ⟨.ref a::u::PQ,[]⟩:=by
  rcases hm with q|⟨x,q⟩
  ·subst q;exact PySem.F.args_dict_pop_2 _ _
  ·subst q;exact PySem.F.args_dict_pop_3 _ _ _
 refine ju jU dd.typeIs PySem.F.entry_dict_pop ha (meets_dict_pop_there (mT X.prog X.w) a (yk ry) PQ hm hp)
  ⟨vs,w',dd,by rw[<-rel.length];exact z,hw,λh' Rm hs=>h w' _ ?_ P0⟩
 have he:∃q,h'.get? a=Za q:=let⟨q,_,_,hq,_⟩:=Rm;⟨q,hq⟩;exact zH I (by rw[e];exact eX) hs he (De (aE (Js kvs k) z) hd (rel.drop k) Rm)
def Nr(I:Inv X Pe O H s)(e:Rd H a (.dK kvs))(h:∀t s',Inv X Pe O H s'->Q (.int kvs.length t) s'):aS (model X.prog X.w) A (call (.builtin "len") [.ref a]) Q E s:=by obtain⟨z,hd,vs,rel,dd⟩:=tH I.hok e;refine call_len_dict hd dd (by rw[<-rel.length];rw[jQ] at z;lia) ?_;rw[<-rel.length];exact h _ _ (I.tok _)
end
def Pd(i:bo):Prop:=∀ov iv,subscripted i false ov iv=operate [ov,iv] (iy ov iv)
def K0{prog}{w}{A}{E}{s}{env:Env}{value Px}{pos}{T id:String}{Q}(hl:typeLookup (.type T) "__getitem__"=pure (Za (.builtin id)))(hs:Pd Px)(h:aS (model prog w) A (eval value env) (λo Pr=>aS (model prog w) A (eval Px env) (λi Qy=>Qy.TypeIs o T/\aS (model prog w) A (iy o i) Q E Qy) E Pr) E s) :
  aS (model prog w) A (eval (.Subscript value Px pos) env) Q E s:=by
 refine Subscript_ (bM h (λo Pr TK=>bM TK (λi Qy TJ=>?_) λ_ _ x=>x) λ_ _ x=>x);obtain⟨hT,TJ⟩:=TJ;unfold jd;refine aq ?_;rw[getitemInPython_of_ne hT.not_modules];refine aq (wpAny_specialOf hT hl ?_);have PK:aS (model prog w) A (subscripted Px false o i) (λr Pj=>aS (model prog w) A (letTemporaryGo value o r >>= λ_=>pure r) Q E Pj) E Qy:=by rw[hs o i];exact wpAny_operating (bM TJ (λr Pj SC=>aq (wpAny_letTemporaryGo (aN SC))) λ_ _ x=>x)
 first
  |exact aN (aq PK)
  |exact aq (aN (aq PK))
  |exact aq PK
def xZ(I:Inv X Pe O H s)(g:DGet H a y o):s.TypeIs (.ref a) "dict":=by
 rcases g with⟨kvs,k,e,_,_⟩|⟨kvs,k,b,e,_,_,_⟩
 ·obtain⟨_,_,vs,_,dd⟩:=tH I.hok e;exact dd.typeIs
 ·obtain⟨_,_,xs,_,dd⟩:=AY I.hok e;exact dd.typeIs
def tDGet(td ty:TE):TE:=λO H Q=>td O H λx H1=>ty O H1 λy H2=>∃a v,x=.ref a/\DGet H2 a y (Za v)/\Q v H2
def tDIn(ty td:TE):TE:=λO H Q=>ty O H λy H1=>td O H1 λx H2=>∃a o,x=.ref a/\DGet H2 a y o/\Q (.bl o.isSome) H2
def MW(td ty tv:TE):TS:=λD O H=>tv O H λv H1=>td O H1 λx H2=>ty O H2 λy H3=>∃a H4,x=.ref a/\DPut H3 a y v H4/\D.nx O H4
section
variable{X:Cx}{o i e value:bo}{pos Pu PX:Pos}{td ty tv:TE}
def rS(hu:X.A.units+1<eY)(ho:PE X o td)(hi:PE X i ty)(hs:Pd i):PE X (.Subscript o i pos) (tDGet td ty):=by intro Pe s O H Q I h;refine K0 jj.lookup hs (thn (ho Pe s O H _ I h) λu s1=>e4 λx H1 I1 rx q1=>thn (hi Pe s1 O H1 _ I1 q1) λiv s2=>e4 λy H2 I2 ry ⟨a,v,ex,g,q2⟩=>?_);subst ex;obtain rfl:u=bj a:=rx;exact⟨xZ I2 g,BJ hu I2 g ry λw' s3 I3 P0=>⟨v,H2,I3,P0,q2⟩⟩
def J0(hu:X.A.units+1<eY)(hi:PE X i ty)(ho:PE X o td):PC X .In i o (tDIn ty td):=by intro Pe s O H Q I h;refine thn (hi Pe s O H _ I h) λiv s1=>e4 λy H1 I1 ry q1=>thn (ho Pe s1 O H1 _ I1 q1) λu s2=>e4 λx H2 I2 rx ⟨a,ov,ex,g,q2⟩=>?_;subst ex;obtain rfl:u=bj a:=rx;exact d_in hu I2 g ry λs3 I3=>⟨.bl ov.isSome,H2,I3,rfl,q2⟩
def rQ(hu:X.A.units+1<eY)(ho:PE X o td)(hi:PE X i ty)(hv:PE X value tv)(hs:dM value (Za (.Subscript o i Pu)) pos.line X.env=pure false) :
  PS X (.Assign [.Subscript o i Pu] value pos) (MW td ty tv):=by
 intro Pe s O H D I h;refine wpAny_Assign_Subscript (thn (hv Pe s O H _ I h) λr s1=>e4 λv H1 I1 rv q1=>thn (ho Pe s1 O H1 _ I1 q1) λu s2=>e4 λx H2 I2 rx q2=>thn (hi Pe s2 O H2 _ I2 q2) λiv s3=>e4 λy H3 I3 ry ⟨a,H4,ex,g,q3⟩=>?_) hs;subst ex;obtain rfl:u=bj a:=rx;exact BI hu I3 g ry rv λs4 I4=>⟨O,H4,I4,q3⟩
def Eh(h:bv)(hb:dS<h.objs.size):ObjOk P w H (h.push { cls:=.type "dict",data:=.dict #[] }) h.objs.size (.dK []) :=
 ⟨a7 _,beq_eq_false_iff_ne.mpr (bW (aG hb)),[],.nil,km h⟩
def Jr(h:bv)(hb:dS<h.objs.size):ObjOk P w H (h.push { cls:=.type "dict",data:=.dict #[] }) h.objs.size (.dT []) :=
 ⟨a7 _,beq_eq_false_iff_ne.mpr (bW (aG hb)),[],.nil,_,#[],0,ba _ rfl,⟨rfl,rfl,rfl⟩,rfl,rfl,iq⟩
def NB:TE:=λ_ H Q=>∀p,H p=Zb->Q (.ref p) (upd H p (.dK []))
def NA:TE:=λ_ H Q=>∀p,H p=Zb->Q (.ref p) (upd H p (.dT []))
def pe_dnewK:PE X (.Dict [] [] pos) NB:=λPe s O H Q I h =>
 wpAny_Dict_empty ⟨.ref s.heap.objs.size,_,I.laid (a:=s.heap.objs.size) (o:=.dK []) (t':=s.toks) (λ_ _ q=>ar _ q) (ao _) (Eh s.heap I.big),rfl,h _ (I.hok.fresh (ao _))⟩
def pe_dnewT:PE X (.Dict [] [] pos) NA:=λPe s O H Q I h =>
 wpAny_Dict_empty ⟨.ref s.heap.objs.size,_,I.laid (a:=s.heap.objs.size) (o:=.dT []) (t':=s.toks) (λ_ _ q=>ar _ q) (ao _) (Jr s.heap I.big),rfl,h _ (I.hok.fresh (ao _))⟩
end
def Fl:List (TE×TE)->St->Hp->(List (V×V)->Hp->Prop)->Prop
 |[],_,H,Q=>Q [] H
 |(tk,tv)::r,O,H,Q=>tk O H λx H1=>tv O H1 λy H2=>Fl r O H2 λps H3=>Q ((x,y)::ps) H3
abbrev VV:List (V×V)->List (ag×ag)->Prop:=fc λp q=>RelV p.1 q.1/\RelV p.2 q.2
def PPs(X:Cx)(pos:Pos)(keys:List (Option bo))(Ql:List bo)(RS:List (TE×TE)):Prop :=
 ∀(Pe:List (ak×Obj))(s:ax)(O:St)(H:Hp)(Q:List (V×V)->Hp->Prop),Inv X Pe O H s->Fl RS O H Q ->
  aS (model X.prog X.w) X.A (evalPairs (pairTrees keys Ql X.env pos)) (λvs s'=>∃ps H',Inv X Pe O H' s'/\VV ps vs/\Q ps H') X.xe s
def FV:PPs X pos [] [] []:=λPe s O H Q I h=>pairTrees_nil_walk ⟨[],H,I,.nil,h⟩
def DX(hk:PE X k tk)(hv:PE X v tv)(hr:PPs X pos ks vs RS) :
  PPs X pos (Za k::ks) (v::vs) ((tk,tv)::RS):=λPe s O H Q I h =>
 pairTrees_cons_walk (thn (hk Pe s O H _ I h) λu s1=>e4 λx H1 I1 rx q1=>thn (hv Pe s1 O H1 _ I1 q1) λw2 s2=>e4 λy H2 I2 ry q2 =>
  thn (hr Pe s2 O H2 _ I2 q2) λws s3=>e4 λps H3 I3 rel q3=>⟨(x,y)::ps,H3,I3,.cons ⟨rx,ry⟩ rel,q3⟩)
def AJ(kvs PQ:List (Key×V)):List (Key×V):=PQ.foldl (λPo kv=>qI Po kv.1 kv.2) kvs
def KV.merge:∀{PQ:List (Key×V)}{rs:List (Key×ag)}{kvs:List (Key×V)}{vs:List (Key×ag)},KV PQ rs->KV kvs vs->KV (AJ kvs PQ) (merged vs rs):=by
 intro PQ rs kvs vs r;unfold KV at r;induction r generalizing kvs vs with
 |nil=>intro q;exact q
 |@cons p q ps qs h t ih =>
  intro r0;have e:KV (qI kvs p.1 p.2) (stored vs q.1 q.2):=by have:=r0.put p.1 h.2;rw[<-h.1];exact this
  exact ih e
theorem vk:∀(PQ kvs:List (Key×V)),(AJ kvs PQ).length<=kvs.length+PQ.length
 |[],kvs=>by show kvs.length<=kvs.length+0;lia
 |p::r,kvs=>by have h1:=vk r (qI kvs p.1 p.2);have h2:=qX kvs p.1 p.2;show(AJ (qI kvs p.1 p.2) r).length<=_;rw[aY];lia
theorem zO:∀{kvs:List (Key×V)}{ws:List (ag×ag)},VV (kvs.map λkv=>(kV kv.1,kv.2)) ws->∃rs,Carries (mT P w) ws rs/\KV kvs rs
 |[],_,r=>by rw[dA] at r;cases r;exact⟨[],eX,.nil⟩
 |p::kvs,_,r=>by
  rw[al] at r;cases r with
  |@cons a b as bs h t =>
   obtain⟨rs,c,q⟩:=zO (P:=P) (w:=w) t;obtain⟨b1,b2⟩:=b;exact⟨(p.1,b2)::rs,⟨yk h.1,rfl,c⟩,.cons ⟨rfl,h.2⟩ q⟩
def tDisp(RS:List (TE×TE)):TE:=λO H Q=>∀p,H p=Zb->Fl RS O (upd H p (.dK [])) λps H2=>H2 p=Za (.dK [])/\∃kvs:List (Key×V),ps=kvs.map (λkv=>(kV kv.1,kv.2))/\kvs.length<=15/\Q (.ref p) (upd H2 p (.dK (AJ [] kvs)))
def FX(h:PPs X pos keys Ql RS)(Sh:keys.all (·.isSome)=true)(hl:keys.length=Ql.length)(h0:keys≠[])(h15:keys.length<=15):PE X (.Dict keys Ql pos) (tDisp RS):=by
 intro Pe s O H Q I q;have hn:=I.hok.fresh (ao s.heap.objs.size);have I1:=I.laid (a:=s.heap.objs.size) (o:=.dK []) (h':=s.heap.push { cls:=.type "dict",data:=.dict #[] }) (t':=s.toks) (λ_ _ q=>ar _ q) (ao _) (Eh s.heap I.big);refine wpAny_Dict_walk (knd:=mT X.prog X.w) Sh hl h0 h15 (thn (h Pe _ O _ _ I1 (q _ hn)) λws s2=>e4 λps H2 I2 rel ⟨e,kvs,ep,lk,q2⟩=>?_);subst ep;obtain⟨rs,c,rk⟩:=zO (P:=X.prog) (w:=X.w) rel;obtain⟨z,hd,QV,r0,dd⟩:=KJ I2.hok e;cases r0;refine⟨rs,c,dd,λh' Rm hs=>⟨.ref s.heap.objs.size,_,?_,rfl,q2⟩⟩;have hz:(AJ [] kvs).length<=aK:=by have h1:=vk kvs [];rw[jn] at h1;rw[jQ];lia
 have he:∃q,h'.get? s.heap.objs.size=Za q:=let⟨q,_,_,hq,_⟩:=Rm;⟨q,hq⟩;exact zH I2 (by rw[e];exact eX) hs he (De hz hd (rk.merge .nil) Rm)
structure M1(X:Cx)(o:bo)(m:Str)(Pf:Pos)(e:bo)(Pg:Pos):Prop where
 base:cz o m X.env (eval o X.env)=eval o X.env
 few:((bY Pg (aB [e] X.env)).all (λx=>!x.1)&&(eR Pg (cW [] X.env)).all (λx=>x.1.isSome)
  && decide (([e]:List bo).length+([]:List fM).length+(if([]:List fM).isEmpty then 0 else 1)<30))=true
 line:(Pf.endLine==Pg.line)=true
 trees:bY Pg (aB [e] X.env)=[(false,eval e X.env)]
structure M2(X:Cx)(o:bo)(m:Str)(Pf:Pos)(e f:bo)(Pg:Pos):Prop where
 base:cz o m X.env (eval o X.env)=eval o X.env
 few:((bY Pg (aB [e,f] X.env)).all (λx=>!x.1)&&(eR Pg (cW [] X.env)).all (λx=>x.1.isSome)
  && decide (([e,f]:List bo).length+([]:List fM).length+(if([]:List fM).isEmpty then 0 else 1)<30))=true
 line:(Pf.endLine==Pg.line)=true
 trees:bY Pg (aB [e,f] X.env)=[(false,eval e X.env),(false,eval f X.env)]
def IsD(H:Hp)(a:ak):Prop:=(∃kvs,Rd H a (.dK kvs))\/∃kvs,Rd H a (.dT kvs)
def Fz(I:Inv X Pe O H s)(d:IsD H a) :
  s.TypeIs (.ref a) "dict"/\(∀b,bj a=.ref b->∃ob,s.heap.get? b=Za ob/\ob.dict=Zb)/\(a==dS)=false:=by
 rcases d with⟨kvs,e⟩|⟨kvs,e⟩
 ·obtain⟨_,hd,vs,_,dd⟩:=tH I.hok e;refine⟨dd.typeIs,λb q=>?_,hd⟩;cases q;obtain⟨ob,_,_,h1,h2,_⟩:=dd;exact⟨ob,h1,h2.2.1⟩
 ·obtain⟨_,hd,xs,_,dd⟩:=AY I.hok e;refine⟨dd.typeIs,λb q=>?_,hd⟩;cases q;obtain⟨ob,_,_,h1,h2,_⟩:=dd;exact⟨ob,h1,h2.2.1⟩
section
variable{X:Cx}{Pe:List (ak×Obj)}{O:St}{H:Hp}{s:ax}{a:ak}{y d:V}{u r:ag}{o:Option V}{A:cA}{E:ag->ax->Prop}
def OR(hu:A.units+1<eY)(I:Inv X Pe O H s)(g:DGet H a y o)(ry:RelV y u)(rd:RelV d r)(h:∀w' s',Inv X Pe O H s'->RelV (o.getD d) w'->Q w' s') :
  aS (model X.prog X.w) A (call (.builtin "dict.get") [.ref a,u,r]) Q E s:=by
 rcases g with⟨kvs,k,e,ey,l⟩|⟨kvs,k,b,e,ey,eb,l⟩
 ·subst ey;obtain⟨z,hd,vs,rel,dd⟩:=tH I.hok e;refine ju gO dd.typeIs jK (jD _ _ _) (meets_dict_get_default (mT X.prog X.w) a (yk ry) hd r) ⟨_,dd.mapOf,h _ _ (I.tok _) ?_⟩;rw[l];exact(rel.val k).getD rd
 ·subst ey;cases(show u=bj b from ry);obtain⟨z,hd,xs,rel,dd⟩:=AY I.hok e;refine ju gO dd.typeIs jK (jD _ _ _) (meetsH_dict_get_default (iY (mT X.prog X.w)) a b hd r) ⟨fE hu,k,xs,yv I.hok eb,dd,h _ _ (I.tok _) ?_⟩;rw[l];exact(rel.val k).getD rd
end
def JO(td ty tx:TE):TE:=λO H Q=>td O H λx H1=>∃a,x=.ref a/\IsD H1 a/\ty O H1 λy H2=>tx O H2 λz H3=>∃o,DGet H3 a y o/\Q (o.getD z) H3
def Nz(td ty:TE):TE:=λO H Q=>td O H λx H1=>∃a,x=.ref a/\IsD H1 a/\ty O H1 λy H2=>∃kvs k v,H2 a=Za (.dK kvs)/\y=kV k/\oO kvs k=Za v/\Q v (upd H2 a (.dK (yn kvs k)))
section
variable{X:Cx}{o e f:bo}{Pf Pg:Pos}{td ty tx:TE}
def z7(hu:X.A.units+1<eY)(ho:PE X o td)(he:PE X e ty)(hf:PE X f tx)(m:M2 X o "get" Pf e f Pg):PE X (.Call (.Attribute o "get" Pf) [e,f] [] Pg) (JO td ty tx):=by
 intro Pe s O H Q I h;refine wpAny_Call_method m.base m.few m.line gz gO PySem.F.type_dict_get (thn (ho Pe s O H _ I h) λu s1=>e4 λx H1 I1 rx ⟨a,ex,d,q1⟩=>?_);subst ex;obtain rfl:u=bj a:=rx;obtain⟨t1,t2,_⟩:=Fz I1 d;refine⟨t1,t2,?_⟩;rw[m.trees];refine dJ rfl (fO (eU (thn (he Pe s1 O H1 _ I1 q1) λiv s2=>e4 λy H2 I2 ry q2 =>
  eU (thn (hf Pe s2 O H2 _ I2 q2) λfv s3=>e4 λz H3 I3 rz ⟨ov,g,q3⟩=>gu ?_))))
 exact OR hu I3 g ry rz λw' s4 I4 P0=>⟨_,H3,I4,P0,q3⟩
def DY(ho:PE X o td)(he:PE X e ty)(m:M1 X o "pop" Pf e Pg):PE X (.Call (.Attribute o "pop" Pf) [e] [] Pg) (Nz td ty):=by intro Pe s O H Q I h;refine wpAny_Call_method m.base m.few m.line gz jU PySem.F.type_dict_pop (thn (ho Pe s O H _ I h) λu s1=>e4 λx H1 I1 rx ⟨a,ex,d,q1⟩=>?_);subst ex;obtain rfl:u=bj a:=rx;obtain⟨t1,t2,_⟩:=Fz I1 d;refine⟨t1,t2,?_⟩;rw[m.trees];refine dJ rfl (fO (eU (thn (he Pe s1 O H1 _ I1 q1) λiv s2=>e4 λy H2 I2 ry ⟨kvs,k,v,ea,ey,l,q2⟩=>gu ?_)));subst ey;exact d_pop I2 ea ry l (.inl rfl) λw' s3 I3 P0=>⟨v,_,I3,P0,q2⟩
end
section
variable{X:Cx}{Pe:List (ak×Obj)}{O:St}{H:Hp}{s:ax}{a:ak}{kvs:List (Key×V)}{A:cA}{E:ag->ax->Prop}
end
section
variable{X:Cx}{Pe:List (ak×Obj)}{O:St}{H:Hp}{s:ax}{a:ak}{y:V}{u:ag}{A:cA}{E:ag->ax->Prop}
end
end L2
namespace Att
open PySem PySem.W PySem.Calls PyProof.Rows
def ym:∀(ns:List Int)(vs:List ag),WellAll P h vs (ns.map gF)->IntsAre vs ns:=by
 intro ns;induction ns with
 |nil =>
  intro vs w;rw[dA] at w;cases w;exact .nil
 |cons n ns ih =>
  intro vs w;rw[al] at w;cases w with
  |cons a b =>
   cases a;exact .cons _ _ (ih _ b)
def GW{l:gC}{n}(hn:l.most=Za n){P:Params}{h}{args}{RQ}(Ru:l.row.toRowW.claim.pre args=true)(U2:WellAll P h RQ args) :
  ∃a vs ns,RQ=[bj a]/\args=[WData.list (ns.map gF)]/\h.get? a=Za { cls:=.type "list",data:=.seq vs.toArray }/\IntsAre vs ns/\ns.length<=n:=by
 have hsh:WShape.hasAll [] args [.list .int]=true:=(pre_splitW Ru).1;have hc:l.pre.holds [] { args:=args }=true:=(pre_splitW Ru).2;obtain⟨d,r,rfl,h1,h2⟩:=hasAllW_cons hsh;obtain rfl:=hasAllW_nil h2;obtain⟨xs,rfl,h3⟩:=hasW_list h1;obtain⟨ns,rfl⟩:=items_int h3;have Pi:ns.length<=n:=by
  unfold OpenLaw.pre at hc;have h4:(WTm.not (.lt (.lit (.int (n:Int))) (.len (.arg 0)))).holds [] { args:=[.list (ns.map .int)] }=true:=by have h4:=(holds_andW hc).1;rw[hn] at h4;exact h4
  have h5:=condW_of h4 (w_not (w_lt w_lit (w_len_list (w_arg rfl))));rw[ac] at h5;refine eM λq=>?_;have q':(n:Int)<((ns.length:Nat):Int):=by lia
  first
   |(rw[Zg q'] at h5;exact absurd h5 (by decide))
   |(simp at h5;lia)
 cases U2 with
 |cons w1 w2 =>
  cases w2;cases w1 with
  |list ho Sh=>exact⟨_,_,ns,rfl,rfl,ho,ym ns _ Sh,Pi⟩
def G4(l:gC)(args):l.row.toRowW.claim.post args (.bool true) args=true :=
 postW_of (r:=l.row.toRowW) (X:=(true==true))
  (show WShape.has [] (.bool true) .bool=true by first|rfl|decide|simp[WShape.has,WShape.arms,WShape.armsAll])
  (show(WTm.eq .res (.lit (.bool true))).value [] { args:=args,res:=Za (.bool true),after:=args }=Za (.bool (true==true)) from w_eq_bool (w_res rfl) w_lit) rfl
section
variable{prog:aL}{w:bh}{A:cA}{E:ag->ax->Prop}{s:ax}{K:aa}
end
end Att
namespace L2
open PySem PySem.Spec PyProof.Rows
theorem Bf:∀{vs:List ag}{ns:List Int},IntsAre vs ns->Vals (ns.map V.int) vs
 |_,_,.nil=>.nil
 |_,_,.cons n t h=>.cons ⟨t,rfl⟩ (Bf h)
def MQ(H:Hp):Prop:=∀b,H b=Zb\/∃o xs,H b=Za (.frz o (.lst xs))
def Jj{P}{w}{K}{mg mb}{CX:CXT}{k}{fa a}{fd}{x}{sp:Sp}{Pr}{vs}{ns}(KX:K.In Pr.heap)(Qq:Pr.heap.Ns bc mg)(hb:Pr.heap.Ns jf mb)(hbb:∀x:Str,x≠"__name__"->mb x=bN x)(Vb:Pr.heap.NoLimit)(hg:Pr.gens=#[])(ha:Pr.heap.get? a=Za { cls:=.type "list",data:=.seq vs.toArray })(hi:IntsAre vs ns)(hl:ns.length<=aK)(hr:Room k jt)(F:∀base:bv,K.In base->base.Ns bc mg->FnOk P w K mg base CX k fa fd [x] sp)(TD:∀(s:ax)(u:ag),jz s fd ⟨[u],[]⟩ [(x,u)])(Ri:∀H:Hp,MQ H->SqL K H a (ns.map V.int)->sp [.ref a] H (λv _=>v=.bl true) λ_ _ _=>False)(Vw:∀H e s',CX [] H Pr (λ_ _ _=>False) e s'->False) :
  gw (model P w) jt (.call (.ref fa) ⟨[.ref a],[]⟩) (λr s'=>r=.ok (.ret (.bool true))/\OldK Pr.heap s'.heap/\s'.os=Pr.os/\gR s'.gens) Pr:=by
 have rv:=Bf hi;have UT:=hi.length;have TU:∀H:Hp,MQ H->SqL K H a (ns.map V.int)->HOk P w H Pr.heap->(∀b,H b≠Zb->b=a)->(H a≠Zb->K.lookup a=Zb) ->
   gw (model P w) jt (.call (.ref fa) ⟨[.ref a],[]⟩) (λr s'=>r=.ok (.ret (.bool true))/\OldK Pr.heap s'.heap/\s'.os=Pr.os/\gR s'.gens) Pr:=by
  intro H hO hS hok hA hK;have QL:∀{b:ak}{o:Obj},Pr.heap.get? b=Za o->H b=Zb->(E8 Pr.heap H).get? b=Za o:=λe n=>Jl e n;have S6:∀{b:ak}{o:Obj}{es:Array DictEntry}{ep:Nat},Pr.heap.get? b=Za o->o.data=.dict es ep->H b=none:=λ{b o es ep} e d=>by
   cases q:H b with
   |none=>rfl
   |some u =>
    have e':b=a:=hA b (by rw[q];simp);subst e';rw[ha] at e;cases e;have d':Data.seq vs.toArray _=Data.dict es ep:=d;cases d'
  have T9:∀{b:ak}{m:Str->Option ag},Pr.heap.Ns b m->(E8 Pr.heap H).Ns b m:=λ{b m} ⟨o,es,ep,e,d,r⟩=>⟨o,es,ep,QL e (S6 e d),d,r⟩;have hKb:K.In (E8 Pr.heap H):=λb o e=>QL (KX b o e) (by
   cases q:H b with
   |none=>rfl
   |some u =>
    have e':b=a:=hA b (by rw[q];simp);subst e';rw[hK (by rw[q];simp)] at e;cases e)
  have hM:Mod K mg (E8 Pr.heap H):=⟨hKb,T9 Qq,⟨mb,T9 hb,hbb⟩,let⟨mc,h1,h2⟩:=Vb;⟨mc,T9 h1,h2⟩⟩;have e0:Env0 P w K mg (E8 Pr.heap H) jt [] Pr H:=⟨rfl,hM,λb o e=>LK e,kK (HB _ _),trivial,λb hb=>absurd (show b∈([]:List ak) from hb) (by simp),hok,.of_eq hg⟩;refine jq ((F _ hKb (T9 Qq)).run jt [] Pr H ⟨[.ref a],[]⟩ [.ref a] [.ref a] _ _ hr e0 (TD Pr (.ref a)) (.cons rfl .nil) (Ri H hO hS)) λr s' h=>?_;cases r with
  |error e=>exact(Vw H e s' h).elim
  |ok fl =>
   cases fl with
   |next=>exact bR h
   |brk=>exact bR h
   |cont=>exact bR h
   |ret u =>
    obtain⟨v,H',os,bare,un,U6,r',q⟩:=h;have q':v=.bl true:=q;subst q';obtain rfl:u=k7 true:=r';refine⟨rfl,OldK.of_keep λb o e=>?_,os,bare⟩;cases q:H b with
    |none=>exact un.keep b o e q (by intro z;exact absurd (show b∈([]:List ak) from z) (by simp)) (by simp)
    |some u =>
     rcases hO b with z|⟨ob,xs,z⟩
     ·rw[q] at z;cases z
     ·have z2:=un.frzs b ob _ z;obtain⟨e1,_⟩:=hok b _ z;obtain⟨e2,_⟩:=U6 b _ z2;rw[e] at e1;cases e1;exact e2
 cases hk:K.lookup a with
 |some o =>
  have e:=KX a o hk;rw[ha] at e;cases e;refine TU (λ_=>Zb) (λ_=>.inl rfl) (.inr ⟨_,vs.toArray,_,hk,rfl,rfl,rfl,by rw[aM,UT];exact hl,by simpa using rv⟩) (λb u z=>by have z':(Zb:Option HO)=Za u:=z;cases z') (λb z=>absurd rfl z) λz=>absurd rfl z
 |none =>
  refine TU (λb=>if b=a then Za (.frz { cls:=.type "list",data:=.seq vs.toArray } (.lst (ns.map V.int))) else Zb) (λb=>?_) (.inl (.inr ⟨{ cls:=.type "list",data:=.seq vs.toArray },Zc rfl⟩)) (λb u z=>?_) (λb z=>?_) λ_=>hk
  ·by_cases hb:b=a
   ·exact .inr ⟨_,_,Zc hb⟩
   ·exact .inl (Zd hb)
  ·by_cases hb:b=a
   ·have z':=(Zc hb).symm.trans z;cases z';subst hb;exact⟨ha,by rw[ac];exact hl,vs,_,rv,ha⟩
   ·have z':=(Zd hb).symm.trans z;cases z'
  ·by_cases hb:b=a
   ·exact hb
   ·exact absurd (Zd hb) z
def nQ(s:bQ)(j:Nat):bQ:=match s with
 |.ClassDef _ _ _ body _ _ _ _ _ _ _=>body.getD j (.Pass ⟨0,0,0,0⟩)
 |_=>.Pass ⟨0,0,0,0⟩
def ou(s:bQ):jL:=match s with
 |.FunctionDef _ a _ _ _ _ _ _ _ _=>a
 |_=>{ posonlyargs:=[],args:=[],vararg:=Zb,kwonlyargs:=[],kw_defaults:=[],kwarg:=Zb,defaults:=[] }
def nI(s:bQ):List bQ:=match s with
 |.FunctionDef _ _ b _ _ _ _ _ _ _=>b
 |_=>[]
def lR(s:bQ):dH:=match s with
 |.FunctionDef _ _ _ _ _ _ sc _ _ _=>sc
 |_=>{ kind:=.function,names:=[],isGenerator:=false,isCoroutine:=false }
abbrev E0:XK:=λ_ _ _=>False
structure Fun(K:aa)(x qual:Str)(st:bQ)(f:ak)(fd:cq):Prop where
 ex:∃(oc:ag)(od:Option ak)(kV Qo pm:ag)(an:Option ak)(Pn ct:ag)(Ro:Array (Option ag)),
  fd=bV x qual (ou st) (nI st) (lR st) .none kV Qo pm an Pn ct/\K.lookup f=Za ⟨oc,od,.func fd,Ro⟩/\fX K Pn qual=true
 kp:cD K (.ref f)=true
section
variable{P:aL}{w:bh}{K:aa}{mg:Str->Option ag}{base:bv}
def Fun.binds{x qual}{st}{f}{fd}{ps}(F:Fun K x qual st f fd)(h:∀(kV Qo pm:ag)(an:Option ak)(Pn ct:ag)(us:List ag),us.length=ps.length->f9 (bV x qual (ou st) (nI st) (lR st) .none kV Qo pm an Pn ct) ⟨us,[]⟩=pure (ps.zip us)):Binds K fd ps []:=by
 obtain⟨oc,od,kV,Qo,pm,an,Pn,ct,Ro,rfl,lk,QA⟩:=F.ex;exact .all (h kV Qo pm an Pn ct)
def Kb{x qual}{st}{f}{oc}{od an}{Ro:Array (Option ag)}{kV Qo pm Pn ct}(l:K.lookup f=Za ⟨oc,od,.func (bV x qual (ou st) (nI st) (lR st) .none kV Qo pm an Pn ct),Ro⟩)(c:fX K Pn qual=true)(k:cD K (.ref f)=true):Fun K x qual st f (bV x qual (ou st) (nI st) (lR st) .none kV Qo pm an Pn ct):=⟨⟨oc,od,kV,Qo,pm,an,Pn,ct,Ro,rfl,l,c⟩,k⟩
end
def oi(hr:Room k A):A.units+1<eY:=aX (lG (by decide:1<=64) _) hr.units
section
variable{X:Cx}
def pv(i)(hN:X.N[i]?=Za x:=by rfl)(hv:Vis X.env.scope x:=by first|exact fH rfl|exact ib (fH rfl)|exact ib (ib rfl))(hd:NDb x:=by decide)(QA:(x==("__classdict__":Str))=false:=by decide):PE X (.Name x pos) (Ig i):=JW hN hv hd QA
def BQ:CallR X (.builtin "len") (λxs H Q=>∃a kvs,xs=[V.ref a]/\H a=Za (.dK kvs)/\Q (.int kvs.length) H):=by intro Pe s O H xs us Q I r h;obtain⟨a,kvs,rfl,ha,q⟩:=h;obtain⟨u,rfl,ru⟩:=qH r;cases ru;exact Nr I (.inl ha) λt s' I'=>⟨.int kvs.length,H,I',⟨t,rfl⟩,q⟩
end
def LY{A B:Prop}(h:B):if false=true then A else B:=by rw[Zd a6];exact h
def LX{A B:Prop}(h:A):if true=true then A else B:=by rw[Zc rfl];exact h
def vm{c A B:Prop}[Decidable c](h1:c->A)(h2:¬c->B):if c then A else B:=by
 by_cases h:c
 ·rw[Zc h];exact h1 h
 ·rw[Zd h];exact h2 h
def Same(H H':Hp):Prop:=∀b o,H b=Za o->H' b=Za o
def Same.trans(a:Same H H1)(b:Same H1 H2):Same H H2:=λc o h=>b c o (a c o h)
def Same.free(e:Same H H')(h:H' l=Option.none):H l=Option.none:=by
 cases q:H l with
 |none=>rfl
 |some o =>
  rw[e l o q] at h;cases h
def Same.seq{K}{H H'}{a}{xs}(e:Same H H')(h:SqL K H a xs):SqL K H' a xs:=by
 rcases h with(h|⟨o,h⟩)|h
 ·exact .inl (.inl (e _ _ h))
 ·exact .inl (.inr ⟨o,e _ _ h⟩)
 ·exact .inr h
section
variable{κ:Type}[DecidableEq κ]
theorem wV:∀{l:List κ}{k:κ},l.Nodup->¬k∈l->(l++[k]).Nodup
 |[],k,_,_=>by simp
 |a::r,k,h,hk=>by
  obtain⟨h1,h2⟩:=aI.mp h;show(a::(r++[k])).Nodup;refine aI.mpr ⟨λm=>?_,wV h2 λm=>hk (af.mpr (ib m))⟩;rcases aJ.mp m with q|q
  ·exact h1 q
  ·exact hk (af.mpr (fH (ap.mp q).symm))
end
def ff:(bL==bL)=true:=rfl
def qP(cells:List (Str×ak)):List (Str×im)->List (Str×ak)->List (Str×ak)
 |[],cs=>cs
 |(n,k)::r,cs=>qP cells r (if k==.free then(n,(cells.lookup n).getD 0)::cs else cs)
theorem xF(env:Env):∀(names:List (Str×im))(cs:List (Str×ak)),(∀y∈names,y.2=.free->∃c,env.cells.lookup y.1=Za c) ->
  (forIn names cs λ(x:Str×im)(r:List (Str×ak))=>match x with
   |(name,kind)=>if(kind==.free)=true then(do let c <-cellOf env name;pure (eL ((name,c)::r))) else pure (eL r):Sem (List (Str×ak)))=pure (qP env.cells names cs)
 |[],cs,_=>rfl
 |(n,k)::r,cs,h=>by
  rw[List.forIn_cons];by_cases hk:k=.free
  ·subst hk;obtain⟨c,hc⟩:=h (n,.free) ai rfl;have hc:env.cells.lookup n=Za c:=hc;have ih:=xF env r ((n,c)::cs) λy hy=>h y (ae _ hy);have e1:qP env.cells ((n,bL)::r) cs=qP env.cells r ((n,c)::cs):=by
    show qP env.cells r (if(bL==bL)=true then(n,(env.cells.lookup n).getD 0)::cs else cs)=_;rw[Zc ff,hc]
    all_goals rfl
   rw[e1,<-ih];have e2:cellOf env n=pure c:=by unfold cellOf;rw[hc]
   simp only[beq_self_eq_true,if_true,e2];rfl
  ·have hb:(k==bL)=false:=by simpa using hk
   have ih:=xF env r cs λy hy=>h y (ae _ hy);have e1:qP env.cells ((n,k)::r) cs=qP env.cells r cs:=by show qP env.cells r (if(k==bL)=true then(n,(env.cells.lookup n).getD 0)::cs else cs)=_;rw[hb,Zd a6]
   rw[e1,<-ih];simp only[hb];rfl
def pR(h:∀y∈scope.names,y.2=.free->∃c,env.cells.lookup y.1=Za c):closureFor scope env=pure (qP env.cells scope.names []):=by have e:=xF env scope.names [] h;unfold closureFor;refine Eq.trans ?_ (congrArg (λm:Sem (List (Str×ak))=>m >>= pure) e);rfl
theorem Ek:∀(names:List (Str×im))(cs:List (Str×ak)),(∀z∈names,z.2=.free->∃c,cells.lookup z.1=Za c)->(∀z d,cs.lookup z=Za d->cells.lookup z=Za d) ->
  (qP cells names cs).lookup y=Za c->cells.lookup y=Za c
 |[],cs,_,Se,h=>Se y c h
 |(n,k)::r,cs,hf,Se,h=>by
  refine Ek r _ (λz hz=>hf z (ae _ hz)) ?_ h;by_cases hk:k=.free
  ·subst hk;obtain⟨d,hd⟩:=hf (n,.free) ai rfl;have hd:cells.lookup n=Za d:=hd;intro z d' hz;rw[Zc ff,hd] at hz;by_cases e:z=n
   ·subst e;rw[bI] at hz;simp only[beq_self_eq_true] at hz;rw[hd];exact hz
   ·have hb:(z==n)=false:=by simpa using e
    rw[bI] at hz;simp only[hb] at hz;exact Se z d' hz
  ·have hb:(k==bL)=false:=by simpa using hk
   rw[hb,Zd a6];exact Se
theorem zN:∀(names:List (Str×im))(cs:List (Str×ak)),(cs.lookup y).isSome=true->((qP cells names cs).lookup y).isSome=true
 |[],cs,h=>h
 |(n,k)::r,cs,h=>by
  refine zN r _ ?_;by_cases hk:(k==bL)=true
  ·rw[Zc hk,bI];cases z:(y==n)
   ·exact h
   ·rfl
  ·rw[Zd hk];exact h
theorem BP:∀(names:List (Str×im))(cs:List (Str×ak)),(y,bL)∈names->((qP cells names cs).lookup y).isSome=true
 |(n,k)::r,cs,h=>by
  rcases af.mp h with e|e
  ·cases e;refine zN r _ ?_;rw[Zc ff,bI];simp
  ·exact BP r _ e
def blk(X:Cx)(scope:dH)(cl:List (Str×ak))(C:ak)(Nb:List Str)(Pj:ax)(Pk:Hp)(fp:List ak):Cx where
 prog:=X.prog
 w:=X.w
 K:=X.K
 mg:=X.mg
 base:=X.base
 A:=X.A
 N:=Nb
 sa0:=Pj
 Ha0:=Pk
 env:=compEnvC scope cl C X.env
 outer:=X.stack
 stack:=X.stack
 ex:=fp
 fn:=λ_=>false
 calm:=true
 pn:=[]
 xe:=λ_ _=>False
structure CompOk(N:List Str)(TN:dH)(scope:dH)(x:Str)(fr:List Str)(ix:List Nat):Prop where
 kind:scope.kind=.function
 cell:∀y∈scope.names,y.2≠.cell
 loc:scope.names.lookup x=Za .local
 nm:∀y∈scope.names,y.2=.local->scope.names.lookup y.1=Za .local
 free:∀y∈scope.names,y.2=.free->TN.names.lookup y.1=Za .cell
 nd:(x::fr).Nodup
 idx:∀p∈fr.zip ix,N[p.2]?=Za p.1
 frs:∀y∈fr,scope.names.lookup y=Za .free/\TN.names.lookup y=Za .cell
 len:ix.length=fr.length
def cok{N:List Str}{e c:dH}{x:Str}{fr:List Str}{ix:List Nat}(h1:c.kind=.function:=by rfl)(h2:∀y∈c.names,y.2≠.cell:=by decide +kernel)(h3:c.names.lookup x=Za .local:=by rfl)(h4:∀y∈c.names,y.2=.local->c.names.lookup y.1=Za .local:=by decide +kernel)(h5:∀y∈c.names,y.2=.free->e.names.lookup y.1=Za .cell:=by decide +kernel)(h6:(x::fr).Nodup:=by decide +kernel)(h7:∀p∈fr.zip ix,N[p.2]?=Za p.1:=by decide +kernel)(h8:∀y∈fr,c.names.lookup y=Za .free/\e.names.lookup y=Za .cell:=by decide +kernel)(h9:ix.length=fr.length:=by rfl):CompOk N e c x fr ix:=⟨h1,h2,h3,h4,h5,h6,h7,h8,h9⟩
def Pa{X:Cx}{N ps:List Str}{e c:dH}{x:Str}{fr:List Str}{ix:List Nat}(S:FnScope N ps e)(h0:X.N=N:=by rfl)(Vy:X.env.scope=e:=by rfl)(h1:c.kind=.function:=by rfl)(h2:∀y∈c.names,y.2≠.cell:=by decide +kernel)(h3:c.names.lookup x=Za .local:=by rfl)(h4:∀y∈c.names,y.2=.local->c.names.lookup y.1=Za .local:=by decide +kernel)(h5:∀y∈c.names,y.2=.free->e.names.lookup y.1=Za .cell:=by decide +kernel)(h6:(x::fr).Nodup:=by decide +kernel)(h7:∀p∈fr.zip ix,N[p.2]?=Za p.1:=by decide +kernel)(h8:∀y∈fr,c.names.lookup y=Za .free/\e.names.lookup y=Za .cell:=by decide +kernel)(h9:ix.length=fr.length:=by rfl):CompOk X.N X.env.scope c x fr ix:=by rw[h0,Vy];exact⟨h1,h2,h3,h4,h5,h6,h7,h8,h9⟩
def capt(ix:List Nat)(O:St):St:=ix.map λi=>(O[i]?).getD Zb
def Fk(X:Cx)(PB:List bo)(t:TT):Prop :=
 ∀(Pe:List (ak×Obj))(s:ax)(O:St)(H:Hp)(Q:Bool->Hp->Prop),Inv X Pe O H s->t O H Q ->
  aS (model X.prog X.w) X.A (forIn PB true λc r=>if r=true then do let ok <-isTrue c X.env (eval c X.env);pure (eL ok) else pure (eL r)) (TP X Pe O Q) X.xe s
def tYes:TT:=λ_ H Q=>Q true H
def z6:Fk X [] tYes:=λPe s O H Q I h=>aN ⟨H,I,h⟩
def II(h:PT X c t):Fk X [c] t:=by intro Pe s O H Q I hq;rw[List.forIn_cons];refine aq ?_;rw[Zc rfl];refine aq (thn (h Pe s O H Q I hq) λb s1 h1=>aN ?_);show aS _ _ (forIn [] b _) _ _ _;rw[List.forIn_nil];exact aN h1
def CompB(J:It)(tc:TT)(te:TE)(cap:St)(D:ak)(H1:Hp)(Q:VK):Prop :=
 ∃Pv:Nat->Nat->List V->Hp->Prop,(∃m,Pv 0 m [] (upd H1 D (.lst [])))/\∀i m ys H2,Pv i m ys H2 ->
  (J.stop i H2/\H2 D=Za (.lst ys)/\Q (.ref D) H2)\/(J.go i H2/\∀x H3,J.yld i H2 x H3->tc (Za x::cap) H3 λb H4=>if b=true then
   te (Za x::cap) H4 λv H5=>H5 D=Za (.lst ys)/\ys.length<aK/\∃m',m'<m/\Pv (i+1) m' (ys++[v]) (upd H5 D (.lst (ys++[v])))
   else ∃m',m'<m/\Pv (i+1) m' ys H4)
def HW(wi:TI)(ix:List Nat)(tc:TT)(te:TE):TE:=λO H Q=>wi O H λJ H1=>∀D,H1 D=Zb->CompB J tc te (capt ix O) D H1 Q
section
variable{X:Cx}{PD iter:bo}{PB:List bo}{x:Str}{px pos:Pos}{scope:dH}{wi:TI}{tc:TT}{te:TE}{fr:List Str}{ix:List Nat}
theorem qh{env:Env}(hk:env.scope.kind=.function):∀{names:List (Str×im)}{y:Str},names.lookup y=Za .free->env.scope.names.lookup y=Za .cell ->
  (names.map λ(n,k)=>if(k==bL&&env.scope.kind==.function&&env.kindOf n==Za .cell) then(n,ij) else(n,k)).lookup y=Za .cell
 |[],_,h,_=>by simp at h
 |(n,k)::r,y,h,hc=>by
  have ih:=@qh env hk r y;show de y ((if(k==bL&&env.scope.kind==.function&&env.kindOf n==Za .cell)=true then(n,ij) else(n,k))::_)=_;cases hx:y==n with
  |true =>
   simp only[bI,hx] at h;cases h;have e:y=n:=by simpa using hx
   subst e;have e2:env.kindOf y=Za .cell:=hc;rw[Zc (by rw[hk,e2];rfl),bI];simp
  |false =>
   simp only[bI,hx] at h;split
   ·simp only[bI,hx];exact ih h hc
   ·simp only[bI,hx];exact ih h hc
def JB{ix:List Nat}{O:St}{k:Nat}{v:V}(h:(capt ix O)[k]?=Za (Za v)):∃i,ix[k]?=Za i/\O[i]?=Za (Za v):=by
 unfold capt at h;rw[aC] at h;cases e:ix[k]? with
 |none=>rw[e] at h;cases h
 |some i =>
  rw[e] at h;refine⟨i,rfl,?_⟩;have h2:(O[i]?).getD Zb=Za v:=aP h;cases q:O[i]? with
  |none=>rw[q] at h2;cases h2
  |some o=>rw[q] at h2;exact congrArg Za h2
def Nw(X:Cx)(Pe:List (ak×Obj))(C:ak):Prop:=C≠X.env.locals/\X.sa0.heap.objs.size<=C/\(∀y c,X.env.cells.lookup y=Za c->c≠C)/\∀p∈X.pn++Pe,p.1≠C
end
section
variable{prog:aL}{w:bh}{A:cA}{R:Result->ax->Prop}{s:ax}
def Fg(I:Nat->ax->Prop)(Qv:∀n s,I n s->aS (model prog w) A (pyNext it) (λr Pr=>match r with
   |none=>R (.ok .next) Pr
   |some v=>aS (model prog w) A (iF Qc it v) (λ_ sa0=>aS (model prog w) A (assign Qc env v) (λ_ Qy =>
     aS (model prog w) A (forIn PB true λc r=>if r=true then do let ok <-isTrue c env (eval c env);pure (eL ok) else pure (eL r)) (λok Pj =>
      if ok=true then aS (model prog w) A (eval PD env) (λx Sq =>
       aS (model prog w) A (call (.builtin "list.append") [Po,x]) (λ_ sa5=>∃m,m<n/\I m sa5) (kg (model prog w) A env λe s'=>R (.error e) s') Sq) (kg (model prog w) A env λe s'=>R (.error e) s') Pj
      else ∃m,m<n/\I m Pj) (kg (model prog w) A env λe s'=>R (.error e) s') Qy) (kg (model prog w) A env λe s'=>R (.error e) s') sa0) (kg (model prog w) A env λe s'=>R (.error e) s') Pr) (kg (model prog w) A env λe s'=>R (.error e) s') s)(n:Nat)(h:I n s) :
  gw (model prog w) A (.compLoop (.ListComp PD [⟨Qc,iter,PB,0⟩] scope pos) 0 it Po env) R s:=by
 refine codeAny_loop rfl I (λn s hI=>?_) n h;show aS _ A ((compTurn (.ListComp PD [⟨Qc,iter,PB,0⟩] scope pos) 0 it Po env).onRaise (λx=>do noteFrame x env;theTreesLotGoes x)) _ _ s;refine wpAny_noted ?_;rw[compTurn_list];refine aq (f6 (aq (bM (Qv n s hI) (λr Pr TK=>?_) λ_ _ h'=>h')));cases r with
 |none=>exact aN TK
 |some v =>
  refine aq (bM TK (λ_ sa0 h₀=>?_) λ_ _ h'=>h');refine aq (bM h₀ (λ_ Qy TJ=>aq (bM TJ (λok Pj SC=>?_) λ_ _ h'=>h')) λ_ _ h'=>h');cases ok with
  |false=>exact aN ⟨rfl,SC⟩
  |true =>
   exact aq (aq (bM SC (λx Sq ha4=>aq (bM ha4 (λ_ sa5 hb5=>aN (aN ⟨rfl,hb5⟩)) λ_ _ h'=>h')) λ_ _ h'=>h'))
end
structure CompOkG(N:List Str)(TN:dH)(scope:dH)(xs fr:List Str)(ix:List Nat):Prop where
 kind:scope.kind=.function
 cell:∀y∈scope.names,y.2≠.cell
 nm:∀y∈scope.names,y.2=.local->scope.names.lookup y.1=Za .local
 free:∀y∈scope.names,y.2=.free->TN.names.lookup y.1=Za .cell
 nd:(xs++fr).Nodup
 idx:∀p∈fr.zip ix,N[p.2]?=Za p.1
 frs:∀y∈fr,scope.names.lookup y=Za .free/\TN.names.lookup y=Za .cell
 len:ix.length=fr.length
def cokG{X:Cx}{N ps:List Str}{e c:dH}{xs fr:List Str}{ix:List Nat}(S:FnScope N ps e)(h0:X.N=N:=by rfl)(Vy:X.env.scope=e:=by rfl)(h1:c.kind=.function:=by rfl)(h2:∀y∈c.names,y.2≠.cell:=by decide +kernel)(h4:∀y∈c.names,y.2=.local->c.names.lookup y.1=Za .local:=by decide +kernel)(h5:∀y∈c.names,y.2=.free->e.names.lookup y.1=Za .cell:=by decide +kernel)(h6:(xs++fr).Nodup:=by decide +kernel)(h7:∀p∈fr.zip ix,N[p.2]?=Za p.1:=by decide +kernel)(h8:∀y∈fr,c.names.lookup y=Za .free/\e.names.lookup y=Za .cell:=by decide +kernel)(h9:ix.length=fr.length:=by rfl):CompOkG X.N X.env.scope c xs fr ix:=by rw[h0,Vy];exact⟨h1,h2,h4,h5,h6,h7,h8,h9⟩
def Di(J:It)(gt:TG)(k:Nat)(tc:TT)(te:TE)(cap:St)(D:ak)(H1:Hp)(Q:VK):Prop :=
 ∃Pv:Nat->Nat->List V->St->Hp->Prop,(∃m,Pv 0 m [] (aR k Zb++cap) (upd H1 D (.lst [])))/\∀i m ys σ2 H2,Pv i m ys σ2 H2 ->
  (J.stop i H2/\H2 D=Za (.lst ys)/\Q (.ref D) H2)\/(J.go i H2/\∀x H3,J.yld i H2 x H3->gt x σ2 H3 λσ3 H3'=>tc σ3 H3' λb H4=>if b=true then
   te σ3 H4 λv H5=>H5 D=Za (.lst ys)/\ys.length<aK/\∃m',m'<m/\Pv (i+1) m' (ys++[v]) σ3 (upd H5 D (.lst (ys++[v])))
   else ∃m',m'<m/\Pv (i+1) m' ys σ3 H4)
def Fm(wi:TI)(ix:List Nat)(gt:TG)(k:Nat)(tc:TT)(te:TE):TE:=λO H Q=>wi O H λJ H1=>∀D,H1 D=Zb->Di J gt k tc te (capt ix O) D H1 Q
section
variable{X:Cx}{PD iter tg:bo}{PB:List bo}{pos:Pos}{scope:dH}{wi:TI}{tc:TT}{te:TE}{gt:TG}{xs fr:List Str}{ix:List Nat}
def vJ{PR:ag->ak->Result->ax->Prop}{Pe:List (ak×Obj)}{O:St}{H2:Hp}{s2:ax}{it:ak}{fp:List ak}{tn:Nat->bv->Prop}{J:It}{Q:VK}(hc:X.calm=true)(S:CompOkG X.N X.env.scope scope xs fr ix)(hg:∀cl C Pj Pk fp,PG (blk X scope cl C (xs++fr) Pj Pk fp) tg gt)(ht:∀cl C Pj Pk fp,Fk (blk X scope cl C (xs++fr) Pj Pk fp) PB tc)(he:∀cl C Pj Pk fp,PE (blk X scope cl C (xs++fr) Pj Pk fp) PD te)(Pl:∀y∈scope.names,y.2=.free->∃c,X.env.cells.lookup y.1=Za c)(I2:Inv X Pe O H2 s2)(T:Turn X.prog X.w X.K tg J fp it tn)(Qh:tn 0 s2.heap)(f2:∀b∈fp,zS X Pe H2 b)(q2:∀D,H2 D=Zb->Di J gt xs.length tc te (capt ix O) D H2 Q)(Sc:∀D C H' s',Inv X Pe O H' s'->H' C=Zb->Nw X Pe C->(∃m,s'.heap.Ns C m)->Q (.ref D) H'->PR (.ref D) C (.ok .next) s') :
  aS (model X.prog X.w) X.A (newList []) (λPo Pj=>aS (model X.prog X.w) X.A (newFunctionEnv scope X.env.globals (qP X.env.cells scope.names []) [] X.env.qual Zb .none (Za X.env)) (λRe Sq =>
   gw (model X.prog X.w) X.A (.compStart (.ListComp PD [⟨tg,iter,PB,0⟩] scope pos) 0 (.ref it) Po { Re with scope:=relabel scope X.env }) (PR Po Re.locals) Sq) X.xe Pj) X.xe s2:=by
 refine eJ ?_;have hD:H2 s2.heap.objs.size=none:=I2.hok.fresh (ao _);have I3:Inv X Pe O (upd H2 s2.heap.objs.size (.lst [])) { s2 with heap:=s2.heap.push { cls:=.type "list",dict:=Zb,data:=.seq ([]:List ag).toArray } } :=
  I2.lnew (its:=[]) (t':=s2.toks) (.nil) (a7 _)
 obtain⟨Pv,⟨m0,p0⟩,Qv⟩:=q2 s2.heap.objs.size hD;generalize hD':s2.heap.objs.size=D at *;generalize hs3:({ s2 with heap:=s2.heap.push { cls:=.type "list",dict:=Zb,data:=.seq ([]:List ag).toArray } }:ax)=s3 at *;have Tt:∀b o,s2.heap.get? b=Za o->s3.heap.get? b=Za o:=λb o e=>by rw[<-hs3];exact ar _ e
 have hH3:∀b,b≠D->(upd H2 D (.lst [])) b=H2 b:=λb hb=>lO hb;have f3:∀b∈fp,zS X Pe (upd H2 D (.lst [])) b/\b<s3.heap.objs.size:=λb hb=>by obtain⟨o,e,_⟩:=T.obj _ _ Qh b hb;have Ps:=az e;refine⟨⟨?_,(f2 b hb).2⟩,az (Tt b o e)⟩;rw[hH3 b (by rw[<-hD'];exact aG Ps)];exact(f2 b hb).1
 have SS:tn 0 s3.heap:=T.keep _ _ _ Qh λb hb o e=>Tt b o e;refine wpAny_newFunctionEnv S.cell (by intro y hy;simp at hy) (λh4 U8 U4=>?_) S.kind;generalize hC:s3.heap.objs.size=C at *;let X':Cx:=blk X scope (qP X.env.cells scope.names []) C (xs++fr) s3 (upd H2 D (.lst [])) fp;have QB:∀y c,(qP X.env.cells scope.names []).lookup y=Za c->X.env.cells.lookup y=Za c:=λy c e=>Ek scope.names [] Pl (λz d hz=>by simp at hz) e;have Rc:∀y,(y,bL)∈scope.names->∃c,(qP X.env.cells scope.names []).lookup y=Za c:=λy hy=>dw.mp (BP scope.names [] hy);have Su:∀b o,s3.heap.get? b=Za o->h4.get? b=Za o:=λb o e=>U4.extBut b o (by rw[<-hC];exact aG (az e)) (ar _ e);have QG:∀(l:List (Str×im)) y k,(l.map λ(n,k)=>if(k==bL&&X.env.scope.kind==.function&&X.env.kindOf n==Za .cell) then(n,ij) else(n,k)).lookup y=Za k->(k=.cell\/k=.free) ->
   (∀z∈l,z.2≠.cell)->(y,bL)∈l:=by
  intro l;induction l with
  |nil=>intro y k e _ _;simp at e
  |cons z r ih =>
   intro y k e hk hn;obtain⟨n,kz⟩:=z;rw[al] at e;by_cases hy:y=n
   ·subst hy;have:kz=.free:=by
     by_cases hkz:kz=.free
     ·exact hkz
     ·exfalso;have hb:(kz==bL)=false:=by simpa using hkz
      simp only[hb,fA,Bool.false_eq_true,if_false,bI,beq_self_eq_true] at e;have e':kz=k:=aP e;rcases hk with z|z
      ·exact hn (y,kz) ai (e'.trans z)
      ·exact hkz (e'.trans z)
    rw[this];exact ai
   ·have hb:(y==n)=false:=by simpa using hy
    refine ae _ (ih y k ?_ hk λz hz=>hn z (ae _ hz));have e:de y ((if(kz==bL&&X.env.scope.kind==.function&&X.env.kindOf n==Za .cell)=true then(n,ij) else(n,kz))::_)=Za k:=e;by_cases hq:(kz==bL&&X.env.scope.kind==.function&&X.env.kindOf n==Za .cell)=true
    ·rw[Zc hq,bI] at e;simp only[hb] at e;exact e
    ·rw[Zd hq,bI] at e;simp only[hb] at e;exact e
 have ok':X'.Ok:=by
  refine⟨I3.ok.mod,S.kind,I3.ok.glob,I3.ok.blt,?_,λy z c e1 e2=>I3.ok.inj y z c (QB y c e1) (QB z c e2),λy hy=>?_,λy c e _=>(by cases e),λ_=>I3.ok.hd hc,I3.ok.frames,.inl rfl,λb hb=>⟨?_,λy c e=>(f3 b hb).1.2.2.2.2.1 y c (QB y c e)⟩,I3.bs,aE I3.ok.bsz I3.sz,λb o e hb=>?_,λb hb z=>?_,I3.stack,I3.stkFree⟩
  ·show s3.heap.objs.size<=C;rw[hC];exact ao _
  ·rcases hy with hy|hy
   ·exact Rc y (QG scope.names y _ hy (.inl rfl) S.cell)
   ·exact Rc y (QG scope.names y _ hy (.inr rfl) S.cell)
  ·exact aG (f3 b hb).2
  ·rcases(f3 b hb).1.2.2.2.1 with z|z
   ·exact I3.ok.noex b o e z
   ·exact absurd (ay (az e) (aE I3.ok.bsz z)) (dP _)
  ·rcases af.mp (I3.stkSub b z) with z|z
   ·exact(f3 b hb).1.2.1 z
   ·exact(f3 b hb).1.2.2.1 z
 have RA:∀{h':bv}{m:Str->Option ag},(∀b o,s3.heap.get? b=Za o->(∃v,o.data=.cell v)->h'.get? b=Za o)->∀(k:Nat)(y:Str)(v:V),fr[k]?=Za y->(capt ix O)[k]?=Za (Za v)->∃u,RelV v u/\Look X'.env h' m y u:=by
  intro h' m hkc k y v hy hv;obtain⟨i,hix,hσ⟩:=JB hv;have UZ:(y,i)∈fr.zip ix:=by refine dy (i:=k) ?_;rw[List.getElem?_zip_eq_some];exact⟨hy,hix⟩
  have hN:X.N[i]?=Za y:=S.idx (y,i) UZ;obtain⟨hfr,P7⟩:=S.frs y (dy hy);obtain⟨m3,hn3,hl3⟩:=I3.loc;obtain⟨u,ru,l⟩:=hl3 i y v hN hσ (.inr (.inl P7));refine⟨u,ru,?_⟩;rcases l with⟨kd,_⟩|⟨_,c,ec,ic⟩
  ·have kd:X.env.scope.names.lookup y=Za .local:=kd;rw[P7] at kd;cases kd
  ·refine .inr ⟨.inl (qh I3.ok.kind hfr P7),c,?_,?_⟩
   ·obtain⟨c',e'⟩:=Rc y (dD hfr);have:=QB y c' e';rw[ec] at this;cases this;exact e'
   ·obtain⟨o,ho,hd⟩:=ic;exact⟨o,hkc c o ho ⟨_,hd⟩,hd⟩
 have hNd:X'.N.Nodup:=S.nd;have US:(aR xs.length Zb++capt ix O).length=X'.N.length:=by show _=(xs++fr).length;unfold capt;rw[aD,aD,dR,ac,S.len]
 have I4:Inv X' [] (aR xs.length Zb++capt ix O) (upd H2 D (.lst [])) { s3 with heap:=h4,toks:=s3.toks+([]:List (Str×ag)).length }:=by
  refine⟨ok',rfl,I3.bare,Un.kept Su,⟨_,U8,λk y v e1 e2 e3=>?_⟩,λy c e=>?_,?_,λy c e=>I3.freeC y c (QB y c e),λp hp=>?_,I3.hok.kept Su,US⟩
  ·have e1:(xs++fr)[k]?=Za y:=e1;by_cases hk:k<xs.length
   ·rw[dq (by rw[dR];exact hk),gK,Zc hk] at e2;cases e2
   ·have hk:xs.length<=k:=eM hk;rw[cG hk] at e1;rw[cG (by rw[dR];exact hk),dR] at e2;exact RA (λb o e _=>Su b o e) (k-xs.length) y v e1 e2
  ·obtain⟨v,o,ho,hd⟩:=I3.cell y c (QB y c e);exact⟨v,o,Su c o ho,hd⟩
  ·exact I3.hok.fresh (by show s3.heap.objs.size<=C;rw[hC];exact ao _)
  ·exact absurd (show p∈([]:List (ak×Obj)) from hp) (by simp)
 have Qx:∀{H':Hp}{b:ak},b∈fp->H' b=Zb->zS X' [] H' b:=λ{H' b} hb hn=>by
  refine⟨hn,?_,?_,.inl hb,λy c e=>(f3 b hb).1.2.2.2.2.1 y c (QB y c e),λp hp=>absurd (show p∈([]:List (ak×Obj)) from hp) (by simp)⟩
  ·exact aG (f3 b hb).2
  ·intro z;rcases af.mp (I3.stkSub b z) with z|z
   ·exact(f3 b hb).1.2.1 z
   ·exact(f3 b hb).1.2.2.1 z
 have QZ:∀b∈fp,(b∈X.ex\/X.sa0.heap.objs.size<=b)/\b≠X.env.locals/\(∀y c,X.env.cells.lookup y=Za c->c≠b)/\∀p∈X.pn++Pe,p.1≠b:=λb hb =>
  ⟨(f3 b hb).1.2.2.2.1,(f3 b hb).1.2.1,(f3 b hb).1.2.2.2.2.1,(f3 b hb).1.2.2.2.2.2⟩
 have PK:∀{σ':St}{H':Hp}{s':ax},Inv X' [] σ' H' s'->Q (.ref D) H'->PR (.ref D) C (.ok .next) s':=λ{σ' H' s'} I' q'=>by
  obtain⟨m',Q6,_⟩:=I'.loc;have J:=I3.call' (s':=s') (ch:=fp) I'.os I'.base I'.hok I'.bare QZ;refine Sc D C H' s' J I'.free ⟨?_,?_,λy c e=>?_,λp hp=>?_⟩ ⟨m',Q6⟩ q'
  ·rw[<-hC];exact gc I3.lt
  ·rw[<-hC];exact I3.sz
  ·obtain⟨v,z⟩:=I3.cell y c e;rw[<-hC];exact aG z.lt
  ·rw[<-hC];exact aG (az (I3.pin p hp).1)
 have loop:gw (model X.prog X.w) X.A (.compLoop (.ListComp PD [⟨tg,iter,PB,0⟩] scope pos) 0 (.ref it) (.ref D) X'.env) (PR (.ref D) C) { s3 with heap:=h4,toks:=s3.toks+([]:List (Str×ag)).length }:=by
  refine Fg (λn s'=>∃i ys σ5 H',Inv X' [] σ5 H' s'/\tn i s'.heap/\(∀b∈fp,H' b=Zb)/\Pv i n ys σ5 H') ?_ m0 ⟨0,[],_,_,I4,T.keep _ _ _ SS λb hb o e=>Su b o e,λb hb=>(f3 b hb).1.1,p0⟩
  rintro n s5 ⟨i,ys,σ5,H5,I5,st5,fr5,p5⟩
  rcases Qv i n ys σ5 H5 p5 with⟨stop,hd5,qn⟩|⟨go,step⟩
  ·refine bM (T.done X' rfl rfl rfl rfl i [] s5 _ H5 (λ_ _=>False) I5 (λb hb=>Qx hb (fr5 b hb)) st5 stop) (λr s6 ⟨hr,I6⟩=>?_) λ_ _ z=>bR z;subst hr;exact PK I6 qn
  ·refine bM (T.item X' rfl rfl rfl rfl i [] s5 _ H5 (λ_ _=>False) I5 (λb hb=>Qx hb (fr5 b hb)) st5 go) (λr s6 ⟨u,hr,h6⟩=>?_) λ_ _ z=>bR z;subst hr;dsimp only;refine bM h6 (λ_ s6' h6'=>?_) λ_ _ z=>bR z;obtain⟨xv,H6,I6,r6,y6,UD,fr6⟩:=h6';have I6':=I6.pinned (λb hb=>Qx hb (fr6 b hb)) (T.obj _ _ UD);refine bM (hg _ _ _ _ _ _ s6' _ H6 xv u _ I6' r6 (step xv H6 y6)) (λ_ s7 h7=>?_) λ_ _ z=>bR z;obtain⟨σ7,H7,I7,q7⟩:=h7;refine bM (ht _ _ _ _ _ _ s7 _ H7 _ I7 q7) (λb s8=>e3 λH8 I8 q8=>?_) λ_ _ z=>bR z;have back:∀{H9:Hp}{s9:ax}{SJ:List V},Inv X' ([]++AA fp s6'.heap) σ7 H9 s9->(∃m',m'<n/\Pv (i+1) m' SJ σ7 H9) ->
     ∃m,m<n/\∃i ys σ5 H',Inv X' [] σ5 H' s9/\tn i s9.heap/\(∀b∈fp,H' b=Zb)/\Pv i m ys σ5 H':=λ{H9 s9 SJ} I9 h9=>by
    obtain⟨m',hm,p9⟩:=h9;refine⟨m',hm,i+1,SJ,_,H9,I9.unpinned,T.keep _ _ _ UD λb hb o e=>(I9.pin (b,o) (aA _ (aA _ (tD hb e)))).1,λb hb=>?_,p9⟩;obtain⟨o,e,d⟩:=T.obj _ _ UD b hb;exact(I9.pin (b,o) (aA _ (aA _ (tD hb e)))).2.1
   cases b with
   |false =>
    rw[Zd a6] at q8 ⊢;exact back I8 q8
   |true =>
    rw[Zc rfl] at q8 ⊢;refine bM (he _ _ _ _ _ _ s8 _ H8 _ I8 q8) (λw9 s9=>e4 λv9 H9 I9 r9 ⟨hd9,hz9,q9⟩=>?_) λ_ _ z=>bR z;refine bM (Bv (X:=X') _ s9 _ H9 (.ref D) [v9] (.ref D) [w9] (λ_ H'=>H'=upd H9 D (.lst (ys++[v9]))) I9 rfl (.cons r9 .nil) ⟨D,ys,v9,rfl,rfl,hd9,hz9,rfl⟩) (λ_ s10 h10=>?_) λ_ _ z=>bR z;obtain⟨_,H10,I10,_,rfl⟩:=h10;exact back I10 q9
 exact codeAny_compStart_list loop (T.self _ 0 _ _ _ (T.keep _ _ _ SS λb hb o e=>Su b o e) loop)
end
section
variable{X:Cx}{PD iter:bo}{PB:List bo}{x:Str}{px pos:Pos}{scope:dH}{wi:TI}{tc:TT}{te:TE}{fr:List Str}{ix:List Nat}
theorem CompB.g(h:CompB J tc te cap D H1 Q):Di J (Fc 0) 1 tc te cap D H1 Q:=by obtain⟨Pv,⟨m,p⟩,h⟩:=h;refine⟨λi m ys σ2 H2=>Pv i m ys H2/\∃o,σ2=o::cap,⟨m,p,Zb,rfl⟩,λi m ys σ2 H2 ⟨p,o,e⟩=>?_⟩;subst e;refine(h i m ys H2 p).imp id λ⟨g,h⟩=>⟨g,λx H3 y=>?_⟩;have h:=h x H3 y;have e:(∃o,(Za x::cap:St)=o::cap)=True:=eq_true ⟨_,rfl⟩;show tc (Za x::cap) H3 _;simpa only[List.set_cons_zero,e,and_true] using h
def BM{PR:ag->ak->Result->ax->Prop}{Pe:List (ak×Obj)}{O:St}{H2:Hp}{s2:ax}{it:ak}{fp:List ak}{tn:Nat->bv->Prop}{J:It}{Q:VK}(hc:X.calm=true)(S:CompOk X.N X.env.scope scope x fr ix)(ht:∀cl C Pj Pk fp,Fk (blk X scope cl C (x::fr) Pj Pk fp) PB tc)(he:∀cl C Pj Pk fp,PE (blk X scope cl C (x::fr) Pj Pk fp) PD te)(Pl:∀y∈scope.names,y.2=.free->∃c,X.env.cells.lookup y.1=Za c)(I2:Inv X Pe O H2 s2)(T:Turn X.prog X.w X.K (.Name x px) J fp it tn)(Qh:tn 0 s2.heap)(f2:∀b∈fp,zS X Pe H2 b)(q2:∀D,H2 D=Zb->CompB J tc te (capt ix O) D H2 Q)(Sc:∀D C H' s',Inv X Pe O H' s'->H' C=Zb->Nw X Pe C->(∃m,s'.heap.Ns C m)->Q (.ref D) H'->PR (.ref D) C (.ok .next) s') :
  aS (model X.prog X.w) X.A (newList []) (λPo Pj=>aS (model X.prog X.w) X.A (newFunctionEnv scope X.env.globals (qP X.env.cells scope.names []) [] X.env.qual Zb .none (Za X.env)) (λRe Sq =>
   gw (model X.prog X.w) X.A (.compStart (.ListComp PD [⟨.Name x px,iter,PB,0⟩] scope pos) 0 (.ref it) Po { Re with scope:=relabel scope X.env }) (PR Po Re.locals) Sq) X.xe Pj) X.xe s2 :=
 vJ (xs:=[x]) hc ⟨S.kind,S.cell,S.nm,S.free,S.nd,S.idx,S.frs,S.len⟩ (λcl C Pj Pk fp=>FW (i:=0) S.nd rfl (.inl (dE S.loc)) (.inr (dE S.loc))) ht he Pl I2 T Qh f2 (λD hD=>(q2 D hD).g) Sc
def CF(hc:X.calm=true)(S:CompOk X.N X.env.scope scope x fr ix)(hi:PI X (.Name x px) iter wi)(ht:∀cl C Pj Pk fp,Fk (blk X scope cl C (x::fr) Pj Pk fp) PB tc)(he:∀cl C Pj Pk fp,PE (blk X scope cl C (x::fr) Pj Pk fp) PD te)(hs:∀v,bZ iter X.env v=pure v:=by intro _;rfl):PE X (.ListComp PD [⟨.Name x px,iter,PB,0⟩] scope pos) (HW wi ix tc te):=by
 intro Pe s O H Q I h;have Pl:∀y∈scope.names,y.2=.free->∃c,X.env.cells.lookup y.1=Za c:=λy hy hf=>I.ok.has y.1 (.inl (S.free y hy hf));rw[eval_ListComp];refine fu (use:=Zb) rfl hs (pR Pl) S.kind S.nm (thn (hi Pe s O H _ I h) λv s1 h1=>thn h1 λSv s2 h2=>?_);obtain⟨it,fp,tn,J,H2,e,I2,T,Qh,f2,q2⟩:=h2;subst e;refine BM (PR:=λPo C r s'=>compPost (model X.prog X.w) X.A X.xe Zb (EP X Pe O Q) Po C r s') hc S ht he Pl I2 T Qh f2 q2 λD C H' s' I' Sj ⟨b1,b2,b3,b4⟩ Qq q'=>?_;obtain⟨m',Q6⟩:=Qq;refine⟨m',Q6,λh' R1=>⟨.ref D,H',?_,rfl,q'⟩⟩;exact I'.turned (t':=s'.toks) (it:=C) (λb o hb e=>R1.extBut b o hb e) Sj b1 (.inr b2) b3 b4
def y8(hN:X.N.Nodup)(Rx:X.N[i]?=Za y)(Q7:X.env.scope.names.lookup y=Za .local)(hc:X.calm=true)(S:CompOk X.N X.env.scope scope x fr ix)(hi:PI X (.Name x px) iter wi)(ht:∀cl C Pj Pk fp,Fk (blk X scope cl C (x::fr) Pj Pk fp) PB tc)(he:∀cl C Pj Pk fp,PE (blk X scope cl C (x::fr) Pj Pk fp) PD te)(Rs:dM (.ListComp PD [⟨.Name x px,iter,PB,0⟩] scope pos) (Za (.Name y py)) spos.line X.env=pure true:=by rfl)(hs:∀v,bZ iter X.env v=pure v:=by intro _;rfl):PS X (.Assign [.Name y py] (.ListComp PD [⟨.Name x px,iter,PB,0⟩] scope pos) spos) (MU (HW wi ix tc te) (Fc i)):=by
 intro Pe s O H D0 I h;have Pl:∀y∈scope.names,y.2=.free->∃c,X.env.cells.lookup y.1=Za c:=λy hy hf=>I.ok.has y.1 (.inl (S.free y hy hf));rw[exec_Assign_Name_used _ _ _ _ Rs];refine aq (f6 (aq ?_));show aS _ X.A (do let _ <-comprehension (.ListComp PD [⟨.Name x px,iter,PB,0⟩] scope pos) scope X.env _ (newList []) false (eval iter X.env) (Za (assign (.Name y py) X.env))) _ _ s;refine aq (bM (fu (use:=Za (assign (.Name y py) X.env)) (Q:=λ_ s'=>SP X Pe D0 .next s') rfl hs (pR Pl) S.kind S.nm
  (thn (hi Pe s O H _ I h) λv s1 h1=>thn h1 λSv s2 h2=>?_)) (λ_ s' hq=>aN (aN hq)) λ_ _ e=>e)
 obtain⟨it,fp,tn,J,H2,e,I2,T,Qh,f2,q2⟩:=h2;subst e;refine BM (PR:=λPo C r s'=>compPost (model X.prog X.w) X.A X.xe (Za (assign (.Name y py) X.env)) (λ_ s'=>SP X Pe D0 .next s') Po C r s') hc S ht he Pl I2 T Qh f2 q2 λD C H' s' I' Sj ⟨b1,b2,b3,b4⟩ Qq q'=>?_;obtain⟨m',Q6⟩:=Qq;refine jp (xk (v:=.ref D) I' hN Rx (.inl Q7) rfl (λs5 I5 sb=>?_) (.inr Q7));obtain⟨a5,sb,Vp⟩:=sb;have Vv:C≠a5:=by
  rcases Vp with z|z
  ·rw[z];exact b1
  ·exact(b3 _ _ z).symm
 refine⟨m',Q6.sameBut sb Vv,λh' R1=>⟨_,H',?_,q'⟩⟩;exact I5.turned (t':=s5.toks) (it:=C) (λb o hb e=>R1.extBut b o hb e) Sj b1 (.inr b2) b3 b4
end
abbrev bmV:List ag:=[.type "ValueError",.type "Exception",.type "BaseException",.type "object"]
structure Exc(K:aa)(C:ak):Prop where
 ex:jw K C bmV "ValueError.__new__"=true
 ga:aU K (.ref C) "__getattribute__"=Za (Za (.builtin "BaseException.__getattribute__"))
 gt:aU K (.ref C) "__getattr__"=Za Zb
 ha:aU K (.ref C) "__class__"=Za (Za (.builtin "object.__class__"))
 hn:gg K (.builtin "object.__class__") "__get__"=Za (Za (.builtin "getset_descriptor.__get__"))
 ht:i8 K (.builtin "object.__class__")=Za true
 mo:gn K C (.type "object")=Za true
 mb:gn K C (.type "BaseException")=Za true
def Exc.obj{K}{C}{h}(Zj:Exc K C)(X:K.In h):∃bm N nm q bs hdct sn sub ab col dd k0 k1 k2 k3 k5 mN,
  h.get? C=Za (excClassObj nm q C N bs bm hdct sn sub ab col dd k0 k1 k2 k3 k5 "ValueError.__new__")/\h.Ns N mN/\mN "__init__"=Zb/\OwnTail h bmV bm:=by
 have z:=Zj.ex;unfold jw at z;split at z
 case h_2=>cases z
 case h_1 ddv Pn slv lk =>
  split at z
  case h_2=>cases z
  case h_1 D bm a0 a1 a2 a3 nw a5 em es =>
   have z':((((D=C/\nw="ValueError.__new__")/\Pn.hasDel=false)/\PySem.W.tailIn K bmV bm=true)/\PySem.W.nsOkIn K Pn.ns=true)/\bO K Pn.ns "__init__"=Za none:=by simpa only[cg,beq_iff_eq,Bool.not_eq_true'] using z
   obtain⟨⟨⟨⟨⟨eD,eN⟩,Ry⟩,tl⟩,T8⟩,UX⟩:=z';rcases Pn with⟨c1,c2,c3,c4,c5,c6,c7,c8,c9,c10,c11⟩;have em:c3=.ref D::bm:=em;have Ry:c11=false:=Ry;have T8:PySem.W.nsOkIn K c4=true:=T8;have UX:bO K c4 "__init__"=Za none:=UX;subst em Ry eD eN;have esl:slv=#[a0,a1,a2,a3,Za (.builtin "ValueError.__new__"),a5]:=by rcases slv with⟨l⟩;have es:l=_:=es;rw[es]
   subst esl;refine⟨bm,c4,c1,c5,c2,c6,c7,c8,c9,c10,ddv,a0,a1,a2,a3,a5,h.nsMap c4,X _ _ lk,?_,?_,PySem.W.tail_of_in X tl⟩
   ·exact .of_isNs (PySem.W.isNs_of_in X T8)
   ·exact PySem.W.nsMap_none_of_in X T8 UX
def ExcAt(h:bv)(a C:ak):Prop:=∃ox vs,h.get? a=Za ox/\ox.cls=.ref C/\ox.data=.fields vs
def excO(C a:ak):HO:=.ext λh=>ExcAt h a C
section
variable{prog:aL}{w:bh}{A:cA}{E:ag->ax->Prop}{s:ax}{K:aa}{x C:ak}{ox:Obj}
open PySem.W Builtin Builtin.ObjectAttr Builtin.Getset_descriptor in
end
section
variable{K:aa}{C a:ak}
open PySem.W in
end
section
variable{X:Cx}
end
def ObjOk.there(x:ObjOk P w H h a o):∃ob,h.get? a=Za ob:=by
 cases o with
 |lst xs=>obtain⟨_,_,_,_,e⟩:=x;exact⟨_,e⟩
 |tup xs=>obtain⟨_,_,_,ob,e,_⟩:=x;exact⟨ob,e⟩
 |dK kvs=>obtain⟨_,_,_,_,ob,_,_,e,_⟩:=x;exact⟨ob,e⟩
 |dT kvs=>obtain⟨_,_,_,_,ob,_,_,e,_⟩:=x;exact⟨ob,e⟩
 |set S n=>obtain⟨ob,_,_,_,e,_⟩:=x;exact⟨ob,e⟩
 |ins C dx fs=>obtain⟨_,_,_,e,_⟩:=x;exact⟨_,e⟩
 |own y=>exact x
 |xd fs=>obtain⟨_,⟨ob,_,_,e,_⟩,_⟩:=x;exact⟨ob,e⟩
 |rng lo hi=>obtain⟨_,_,_,e⟩:=x;exact⟨_,e⟩
 |frz ob u=>obtain⟨e,_⟩:=x;exact⟨ob,e⟩
 |tbl ps=>exact⟨_,show h.get? a=Za _ from x⟩
 |met f y=>exact⟨_,show h.get? a=Za _ from x⟩
 |ext φ=>exact x.2.1
def CXo(P:aL)(w:bh):CXT:=λouter H s E e s'=>∃(a C:ak)(t:ag)(B:bv)(H':Hp),e=.ref a/\s'.os=s.os/\gR s'.gens/\Un (frs outer) [] H H' s.heap s'.heap/\HOk P w H' s'.heap /\
 Heap.FlyingW B outer a (.ref C) t s'.heap/\(∀b u o,H' b=Za u->s'.heap.get? b=Za o->B.get? b=Za o) /\
 (∀b o,s.heap.get? b=Za o->b∉frs outer->∃o',s'.heap.get? b=Za o'/\B.get? b=Za o')/\E (.ref C) Zb H'
def sI:nZ (CXo P w) X E0:=λ_ _ _ _ _ _ _ h=>by obtain⟨_,_,_,_,_,_,_,_,_,_,_,_,_,z⟩:=h;exact z.elim
def LP(hf:env.frame=Za L)(h:b∈frs (env::outer)):b=L\/b∈frs outer:=by unfold frs at h ⊢;rw[eQ,hf] at h;exact af.mp h
def zw(hf:env.frame=Za L)(h:b∈frs outer):b∈frs (env::outer):=by unfold frs at h ⊢;rw[eQ,hf];exact ae _ h
section
variable{P:aL}{w:bh}{K:aa}{mg:Str->Option ag}{base:bv}{N:List Str}{qual:Str}{scope:dH}{f:ak}{cd:ag}{A:cA}{outer:List Env}{sa0:ax}{Ha0:Hp}{E:XK}
def oT:nZ (CXo P w) (Ei (CXo P w) P w K mg base N qual scope f cd A outer sa0 Ha0 E) E:=by
 intro Pe O H s e s' I h;obtain⟨a,C,t,B,H',rfl,R4,TF,un,hok,fl,UY,SX,hE⟩:=h;have Va:∀b o,sa0.heap.get? b=Za o->b≠sa0.heap.objs.size:=λb o e=>aG (az e);refine wpAny_leaves_onW (L:=sa0.heap.objs.size) (by exact I.ok.frames) rfl fl λh' SF up=>?_;have VB:frs (fg qual scope sa0.heap.objs.size f cd::outer)=sa0.heap.objs.size::frs outer:=rfl;have Qd:∀b o,sa0.heap.get? b=Za o->b∉frs outer->b∉frs (fg qual scope sa0.heap.objs.size f cd::outer):=λb o e n z=>by
  rw[VB] at z;rcases af.mp z with z|z
  ·exact Va b o e z
  ·exact n z
 have ub:Un (frs outer) [] Ha0 H sa0.heap s.heap:=I.base;have old:∀b o,sa0.heap.get? b=Za o->b∉frs outer->∃o',h'.get? b=Za o'/\B.get? b=Za o':=λb o e n=>by obtain⟨o1,e1⟩:=ub.there b o e (by simp);obtain⟨o2,e2,e3⟩:=SX b o1 e1 (Qd b o e n);exact⟨o2,SF.1 b o2 e3,e3⟩
 refine⟨a,C,t,B,H',rfl,R4.trans I.os,TF,⟨λb o e n hb _=>?_,λb o e n hb _=>?_,λb o e n _=>?_,λb o e _=>?_,λb xs e=>un.tups b xs (ub.tups b xs e),λb o u e=>un.frzs b o u (ub.frzs b o u e),λb ps e=>?_⟩,?_,SF,?_,old,hE⟩
 ·have e1:=ub.keep b o e n hb (by simp);have n1:=ub.free b o e n (by simp);have e2:=un.keep b o e1 n1 (Qd b o e hb) (by simp);obtain⟨o2,e3,e4⟩:=SX b o e1 (Qd b o e hb);rw[e2] at e3;cases e3;exact SF.1 b o e4
 ·obtain⟨sl,e1⟩:=ub.slot b o e n hb (by simp);have n1:=ub.free b o e n (by simp);obtain⟨SU,e2⟩:=un.slot b _ e1 n1 (zw rfl hb) (by simp);obtain⟨_,o3,e3,Tk⟩:=fl.2.2.1.mem (show b∈(fg qual scope sa0.heap.objs.size f cd::outer).filterMap (·.frame) from zw rfl hb);obtain⟨sl3,e4⟩:=up b _ e3 Tk;rw[e2] at e3;cases e3;exact⟨sl3,e4⟩
 ·obtain⟨o1,e1⟩:=ub.there b o e (by simp);exact un.free b o1 e1 (ub.free b o e n (by simp)) (by simp)
 ·by_cases hb:b∈frs outer
  ·obtain⟨_,o3,e3,Tk⟩:=fl.2.2.1.mem (show b∈(fg qual scope sa0.heap.objs.size f cd::outer).filterMap (·.frame) from zw rfl hb);obtain⟨sl3,e4⟩:=up b _ e3 Tk;exact⟨_,e4⟩
  ·obtain⟨o',e1,_⟩:=old b o e hb;exact⟨o',e1⟩
 ·obtain⟨m1,e1⟩:=ub.tbls b ps e;obtain⟨m2,e2⟩:=un.tbls b _ e1;exact⟨m1++m2,by rw[e2,lr]⟩
 ·intro b u e;refine(hok b u e).stay (λc v hc q=>?_) (λ_ q=>q) λ_ _ q=>q;rcases hc with z|z
  ·subst z;exact SF.1 _ _ (UY _ u v e q)
  ·exact SF.1 _ _ (UY c _ v z q)
 ·intro b u o e q;obtain⟨o1,q1⟩:∃o1,s'.heap.get? b=Za o1:=by exact(hok b u e).there
  have z:=UY b u o1 e q1;have z2:=SF.1 b o1 z;rw[z2] at q;cases q;exact z
def zR(X:Cx)(E:XK):Prop:=∀(Pe:List (ak×Obj))(O:St)(H:Hp)(s:ax)(a C:ak)(vs:List ag)(h':bv),Inv X Pe O H s->Heap.MadeExcOf s.heap h' a (.ref C) vs->E (.ref C) Zb H->X.xe (.ref a) { s with heap:=h' }
def zi:zR (Ei (CXo P w) P w K mg base N qual scope f cd A outer sa0 Ha0 E) E:=by
 intro Pe O H s a C vs TK I mk hE;have stk:s.heap.FunFrames base (fg qual scope sa0.heap.objs.size f cd::outer):=I.stack;let l:List ak:=frs (fg qual scope sa0.heap.objs.size f cd::outer);have P5:∀env∈(fg qual scope sa0.heap.objs.size f cd::outer),∀b,env.frame=Za b->b∈l:=λenv he b hb=>iO.mpr ⟨env,he,hb⟩;have Uz:∀b o,s.heap.get? b=Za o->b∉l->(gG s.heap l).get? b=Za o:=λb o e n=>kh l e n;have ub:Un (frs outer) [] Ha0 H sa0.heap s.heap:=I.base;have Qd:∀b o,sa0.heap.get? b=Za o->b∉frs outer->b∉l:=λb o e n z=>by
  rcases LP (L:=sa0.heap.objs.size) rfl z with z|z
  ·exact aG (az e) z
  ·exact n z
 have Rn:∀b u,H b=Za u->b∉l:=λb u e z=>by rw[I.stkFree b z] at e;cases e
 refine wpAny_leaves_madeW (L:=sa0.heap.objs.size) (base:=gG s.heap l) (h:=s.heap) (by exact I.ok.frames) rfl (λb o e=>kH l e) (PySem.W.funFrames_hide stk P5) mk λh' t fl tup nt up=>?_;have Qk:∀b o,s.heap.get? b=Za o->b∉l->h'.get? b=Za o:=λb o e n=>fl.1 b o (Uz b o e n);have frame:∀b o,s.heap.get? b=Za o->b∈l->∃sl,h'.get? b=Za { o with slots:=sl }:=λb o e hb=>by obtain⟨_,o3,e3,Tk⟩:=stk.mem hb;rw[e] at e3;cases e3;exact up b o (mk.keeps b o e) Tk
 refine⟨a,C,.ref t,gG s.heap l,H,rfl,I.os,I.bare,⟨λb o e n hb _=>?_,λb o e n hb _=>?_,λb o e n _=>ub.free b o e n (by simp),λb o e _=>?_,ub.tups,ub.frzs,ub.tbls⟩,λb u e=>?_,fl,λb u o e q=>?_,λb o e n=>?_,hE⟩
 ·exact Qk b o (ub.keep b o e n hb (by simp)) (Qd b o e hb)
 ·obtain⟨sl,e1⟩:=ub.slot b o e n hb (by simp);obtain⟨SU,e2⟩:=frame b _ e1 (zw rfl hb);exact⟨SU,e2⟩
 ·obtain⟨o1,e1⟩:=ub.there b o e (by simp);by_cases hb:b∈l
  ·obtain⟨SU,e2⟩:=frame b _ e1 hb;exact⟨_,e2⟩
  ·exact⟨o1,Qk b o1 e1 hb⟩
 ·refine(I.hok b u e).stay (λc v hc q=>?_) (λ_ q=>q) λ_ _ q=>q;rcases hc with z|z
  ·subst z;exact Qk _ v q (Rn _ u e)
  ·exact Qk c v q (Rn c _ z)
 ·obtain⟨o1,q1⟩:=(I.hok b u e).there;have z2:=Qk b o1 q1 (Rn b u e);have q:h'.get? b=Za o:=q;rw[z2] at q;cases q;exact Uz b _ q1 (Rn b u e)
 ·obtain⟨o1,e1⟩:=ub.there b o e (by simp);exact⟨o1,Qk b o1 e1 (Qd b o e n),Uz b o1 e1 (Qd b o e n)⟩
end
section
variable{X:Cx}{C:ak}{x:Str}{np Pg pos:Pos}{e:bo}{te:TE}{E:XK}
def Ny(C:ak)(E:XK)(te:TE):TS:=λ_ O H=>te O H λ_ H1=>E (.ref C) Zb H1
def qg(Zj:Exc X.K C)(hg:Gl X x)(hm:X.mg x=Za (.ref C))(hc:X.calm=true)(ha:PE X e te)(hp:zR X E)(hd:NDb x:=by decide)(he:aB [e] X.env=[(false,eval e X.env)]:=by rfl):PS X (.Raise (Za (.Call (.Name x np) [e] [] Pg)) Zb pos) (Ny C E te):=by
 intro Pe s O H D I h;obtain⟨bm,N,nm,q,bs,hdct,sn,sub,ab,col,dd,k0,k1,k2,k3,k5,mN,hC,hN,hni,T⟩:=Zj.obj I.mod.kin;refine wpAny_Raise_call_subT (C:=C) (nm:=nm) (q:=q) (N:=N) (bs:=bs) (bm:=bm) (hdct:=hdct) (sn:=sn) (sub:=sub) (ab:=ab) (col:=col) (dd:=dd) (k0:=k0) (k1:=k1) (k2:=k2) (k3:=k3) (k5:=k5)
  jg (mN:=mN) (T.hasType jg.hasBase) (I.ok.hd hc) (by rw[he];rfl) hni (wX I hg hm ⟨rfl,?_⟩ hd)
 rw[he];refine fO ?_;show aS _ _ (spliced ((false,eval e X.env)::[])) _ _ s;refine eU (thn (ha Pe s O H _ I h) λu Qy=>e4 λv H2 I2 r2 q2=>?_);refine gu ⟨rfl,?_,I2.bk _ _ hC,hN.keeps I2.bk,T.keeps I2.bk,λh' a mk=>hp Pe O H2 Qy a C _ h' I2 mk q2⟩;show 1<=aK;decide
end
section
variable{M:Model}{A:cA}{E:ag->ax->Prop}{K:aa}{C D e:ak}{oe:Obj}
end
def XO(X:Cx)(Pe:List (ak×Obj))(O:St)(E:XK):ag->ax->Prop:=λe s'=>∃H1 s1,Inv X Pe O H1 s1/\CXo X.prog X.w X.stack H1 s1 E e s'
def PEx(X:Cx)(e:bo)(t:XK->TE):Prop:=∀(Pe:List (ak×Obj))(s:ax)(O:St)(H:Hp)(Q:VK)(E:XK),Inv X Pe O H s->t E O H Q->aS (model X.prog X.w) X.A (eval e X.env) (EP X Pe O Q) (XO X Pe O E) s
def PSx(X:Cx)(st:bQ)(t:XK->TS):Prop:=∀(Pe:List (ak×Obj))(s:ax)(O:St)(H:Hp)(D:Ends)(E:XK),Inv X Pe O H s->t E D O H->aS (model X.prog X.w) X.A (exec st X.env) (SP X Pe D) (XO X Pe O E) s
section
variable{X:Cx}{k:Nat}{f C:ak}{fd:cq}{ps:List Str}{sp:Sp}{Qb:List V}{ds:List ag}{x m:Str}{p pos Pf:Pos}{e o:bo}{es:List bo}{ta:TE}{t:TA}
end
section
variable{X:Cx}{e:bo}{te:XK->TE}{pos:Pos}
def hnd(X:Cx)(a:ak):Cx:={ X with A:=X.A.mark (Za (.ref a)),calm:=false,xe:=λ_ _=>False }
end
section
variable{X:Cx}{body:List bQ}{x n:Str}{np hp pos:Pos}{ba0:bQ}{bs:List bQ}{tb:XK->TS}{th:TS}{D:ak}{i:Nat}
def leS(a b:Str):Bool:=!fL b.cps.toList a.cps.toList
theorem vS:∀a:List Nat,fL a a=false
 |[]=>rfl
 |a::r=>by show(decide (a<a)||(a==a&&fL r r))=false;rw[vS r];simp
theorem ur:∀{a b c:List Nat},fL a b=true->fL b c=true->fL a c=true
 |[],_,[],h1,h2=>by
  cases ‹List Nat› with
  |nil=>exact h1
  |cons x r=>exact absurd (show fL (x::r) []=true from h2) (by intro z;cases z)
 |[],_,_::_,_,_=>rfl
 |a::r,[],_,h1,_=>by cases h1
 |a::r,b::t,[],_,h2=>by cases h2
 |a::r,b::t,c::u,h1,h2=>by
  have h1:(decide (a<b)||(a==b&&fL r t))=true:=h1;have h2:(decide (b<c)||(b==c&&fL t u))=true:=h2;show(decide (a<c)||(a==c&&fL r u))=true;simp only[du,decide_eq_true_eq,cg,beq_iff_eq] at h1 h2 ⊢;rcases h1 with h1|⟨e1,g1⟩
  ·rcases h2 with h2|⟨e2,g2⟩
   ·exact .inl (by lia)
   ·exact .inl (by lia)
  ·rcases h2 with h2|⟨e2,g2⟩
   ·exact .inl (by lia)
   ·exact .inr ⟨e1.trans e2,ur g1 g2⟩
theorem xu:∀a b:List Nat,fL a b=false->fL b a=false->a=b
 |[],[],_,_=>rfl
 |[],_::_,h,_=>by cases h
 |_::_,[],_,h=>by cases h
 |a::r,b::t,h1,h2=>by
  have h1:(decide (a<b)||(a==b&&fL r t))=false:=h1;have h2:(decide (b<a)||(b==a&&fL t r))=false:=h2;simp only[Bool.or_eq_false_iff,decide_eq_false_iff_not,Bool.and_eq_false_iff,beq_eq_false_iff_ne] at h1 h2;have e:a=b:=by lia
  subst e;rw[xu r t (h1.2.resolve_left λz=>z rfl) (h2.2.resolve_left λz=>z rfl)]
def Hv(a b):leS a b=true\/leS b a=true:=by
 unfold leS;cases h:fL b.cps.toList a.cps.toList with
 |false=>exact .inl rfl
 |true =>
  right;cases h2:fL a.cps.toList b.cps.toList with
  |false=>rfl
  |true =>
   have:=ur h h2;rw[vS] at this;cases this
def Jh(h1:leS a b=true)(h2:leS b a=true):a=b:=by unfold leS at h1 h2;have e:=xu b.cps.toList a.cps.toList (by simpa using h1) (by simpa using h2);obtain⟨⟨x⟩⟩:=a;obtain⟨⟨y⟩⟩:=b;have e:y=x:=e;rw[e]
def Bw(h1:leS a b=true)(h2:leS b c=true):leS a c=true:=by
 unfold leS at *;cases h:fL c.cps.toList a.cps.toList with
 |false=>rfl
 |true =>
  exfalso;have h1:fL b.cps.toList a.cps.toList=false:=by simpa using h1
  have h2:fL c.cps.toList b.cps.toList=false:=by simpa using h2
  cases h3:fL b.cps.toList c.cps.toList with
  |true =>
   have:=ur h3 h;rw[h1] at this;cases this
  |false =>
   have e:=xu _ _ h3 h2;rw[e,h] at h1;cases h1
def Ii(x:Str):List Str->List Str
 |[]=>[x]
 |y::r=>if leS x y then x::y::r else y::Ii x r
def srt:List Str->List Str
 |[]=>[]
 |x::r=>Ii x (srt r)
theorem xz(x):∀l,(Ii x l).Perm (x::l)
 |[]=>.refl _
 |y::r=>by
  unfold Ii;split
  ·exact .refl _
  ·exact((xz x r).cons y).trans (.swap x y r)
theorem lY:∀l,(srt l).Perm l
 |[]=>.refl _
 |x::r=>(xz x (srt r)).trans ((lY r).cons x)
theorem xQ(x):∀l,l.Pairwise (λa b=>leS a b=true)->(Ii x l).Pairwise (λa b=>leS a b=true)
 |[],_=>by simp[Ii]
 |y::r,h=>by
  obtain⟨h1,h2⟩:=di.mp h;unfold Ii;split
  ·rename_i Ud;refine di.mpr ⟨λz hz=>?_,h⟩;rcases af.mp hz with rfl|hz
   ·exact Ud
   ·exact Bw Ud (h1 z hz)
  ·rename_i Ud;refine di.mpr ⟨λz hz=>?_,xQ x r h2⟩;rcases af.mp ((xz x r).mem_iff.mp hz) with rfl|hz
   ·exact(Hv z y).resolve_left Ud
   ·exact h1 z hz
theorem pN:∀l,(srt l).Pairwise (λa b=>leS a b=true)
 |[]=>.nil
 |x::r=>xQ x _ (pN r)
theorem pO:∀{l m:List Str},l.Perm m->l.Pairwise (λa b=>leS a b=true)->m.Pairwise (λa b=>leS a b=true)->l=m
 |[],m,p,_,_=>(List.nil_perm.mp p).symm
 |a::l,[],p,_,_=>absurd (List.perm_nil.mp p) (by simp)
 |a::l,b::m,p,h1,h2=>by
  obtain⟨a1,a2⟩:=di.mp h1;obtain⟨b1,b2⟩:=di.mp h2;have e:a=b:=by
   have ha:a∈b::m:=p.mem_iff.mp ai;have hb:b∈a::l:=p.mem_iff.mpr ai;rcases af.mp ha with e|ha
   ·exact e
   ·rcases af.mp hb with e|hb
    ·exact e.symm
    ·exact Jh (a1 b hb) (b1 a ha)
  subst e;rw[pO (List.Perm.cons_inv p) a2 b2]
def Dj(p:l.Perm m):srt l=srt m:=pO ((lY l).trans (p.trans (lY m).symm)) (pN l) (pN m)
def vz(l):(srt l).length=l.length:=(lY l).length_eq
theorem tu:∀(p:Str)(l:List Str),risingS p l=true->(p::l).Pairwise (λa b=>leS a b=true)
 |p,[],_=>List.pairwise_singleton _ _
 |p,x::r,h=>by
  have h:(!fL x.cps.toList p.cps.toList&&risingS x r)=true:=h;rw[cg] at h;have ih:=tu x r h.2;refine di.mpr ⟨λz hz=>?_,ih⟩;rcases af.mp hz with rfl|hz
  ·exact h.1
  ·exact Bw (show leS p x=true from h.1) ((di.mp ih).1 z hz)
def wK:∀(l:List Str),sortedS l=true->l.Pairwise (λa b=>leS a b=true)
 |[],_=>.nil
 |x::r,h=>tu x r h
def J7(p:l.Perm m)(h:sortedS l=true):l=srt m:=pO (p.trans (lY m).symm) (wK l h) (pN m)
theorem yR:∀{ss:List Str}{us:List ag},Vals (ss.map V.str) us->StrsAre us ss
 |[],_,.nil=>.nil
 |x::ss,_,.cons ⟨t,e⟩ r=>by subst e;exact .cons x t (yR r)
theorem CG:∀{ss:List Str}{us:List ag},StrsAre us ss->Vals (ss.map V.str) us
 |_,_,.nil=>.nil
 |_,_,.cons x t r=>.cons ⟨t,rfl⟩ (CG r)
theorem FL:∀(xs:List V)(us:List ag),xs.length=us.length->(∀(j:Nat) x u,xs[j]?=Za x->us[j]?=Za u->RelV x u)->Vals xs us
 |[],[],_,_=>.nil
 |[],_::_,e,_=>by cases e
 |_::_,[],e,_=>by cases e
 |x::xs,u::us,e,h=>.cons (h 0 x u rfl rfl) (FL xs us (jE e) λj y v e1 e2=>h (j+1) y v (by simpa using e1) (by simpa using e2))
def call_sortedL:CallR X (.builtin "sorted") (λxs H Q=>∃p ss,xs=[.ref p]/\SqL X.K H p (ss.map V.str)/\ss.length<64/\∀l,H l=Zb->Q (.ref l) (upd H l (.lst ((srt ss).map V.str)))):=by
 intro Pe s O H xs us Q I r h;obtain⟨p,ss,rfl,hq,hz,q⟩:=h;obtain⟨u,rfl,ru⟩:=qH r;cases ru;obtain⟨its,rv,pl,Sw⟩:=I.list hq;have hS:=yR rv;have hl:its.length=ss.length:=by have:=rv.length;rw[ac] at this;exact this.symm
 refine sorted_strs pl.isList hS (by lia) λout ss' h1 h2 h3=>?_;have e:=J7 h2 h3;subst e;obtain⟨ep,QQ⟩:=sortedAll_at s.heap its out;have hf:H (s.heap.objs.size+1)=none:=I.hok.fresh (fS _);refine⟨.ref _,_,I.laid (t':=s.toks) (λb o e=>sortedAll_old e) (fS _) (o:=.lst ((srt ss).map V.str)) ?_,rfl,q _ hf⟩;refine⟨?_,out.toList,ep,CG h1,?_⟩
 ·rw[ac,vz];exact aE (dN hz) (by decide)
 ·rw[QQ]
def pf(hc:X.calm=true):CallR X (.builtin "sorted") (λxs H Q=>∃p kvs ss,xs=[.ref p]/\Rd H p (.dK kvs)/\kvs.map (·.1)=ss.map aj/\ss.length<64/\∀l,H l=Zb->Q (.ref l) (upd H l (.lst ((srt ss).map V.str)))):=by
 intro Pe s O H xs us Q I r h;obtain⟨p,kvs,ss,rfl,hq,hk,hz,q⟩:=h;obtain⟨u,rfl,ru⟩:=qH r;cases ru;obtain⟨z,RY,vs,rel,dd⟩:=tH I.hok hq;obtain⟨ep,QQ⟩:=dd.dictAt;have Pi:vs.length=ss.length:=by have e1:=rel.length;have e2:=congrArg b6 hk;rw[ac,ac] at e2;lia
 refine Calls.call_function_entry kind_sorted plain_sorted entry_sorted (args_sorted1 _) ?_;unfold Builtin.«sorted»;refine aq (m:=checkCount "sorted" 1 1 _) (aN ?_);refine aq (PySem.W.kdu_collect (A:=X.A.in1) (PySem.W.kdl_dict (knd:=mT X.prog X.w) (kvs:=vs) (ep:=ep) RY) (I.ok.hd hc) QQ (aE (by lia) (show 64<=aK by decide)) λh' tk Po hkp TH=>?_);have hl:Po.toList.length=vs.length:=by rw[fV];exact TH.1
 have hS:StrsAre Po.toList ss:=by
  refine yR (FL _ _ (by rw[ac,hl,Pi]) λj x u e1 e2=>?_);obtain⟨k,y,e3,e4⟩:=TH.2 j u (by rw[<-kB];exact e2);have e5:(vs.map (·.1))[j]?=Za k:=by rw[aC,e3];rfl
  rw[<-rel.keys,hk,aC] at e5;rw[aC] at e1;cases e6:ss[j]? with
  |none=>rw[e6] at e1;cases e1
  |some z =>
   rw[e6] at e1 e5;have e1:V.str z=x:=aP e1;have e5:aj z=k:=aP e5;subst e1 e5;rcases m6 (k:=aj z) (v:=u) e4 with⟨i,t,q1,_⟩|⟨y',t,q1,q2⟩
   ·cases q1
   ·cases q1;exact⟨t,q2⟩
 refine aq (wpAny_newList ?_ (by rw[hl];exact aE (by lia) (show 64<=aK by decide)));have Tj:(h'.push (seqObj "list" Po.toList.toArray 0)).get? h'.objs.size=Za (seqObj "list" Po.toList.toArray 0):=ba _ rfl;refine aq (ei (wpAny_call_entry slot_list_sort ⟨_,Tj,rfl⟩ entry_list_sort (list_sort_treeK strKind_oneLt Tj hS.keysOf (λSL SK pZ e=>keyKind_strs (by rw[<-e];exact hS)) (by lia) λQt a1 a2=>⟨_,rfl,?_⟩) (args_list_sort _)));refine aN ⟨_,rfl,?_⟩;obtain⟨ss',h1,h2,h3⟩:=sorted_out_str hS a1 a2;have e:=J7 h2 h3;subst e;have I1:Inv X Pe O H { s with heap:=h',toks:=tk }:=I.kept hkp;obtain⟨e',Vo⟩:=sortedHeap_at (out:=(arrOf Qt).map (·.2)) Tj;have hf:H h'.objs.size=none:=I1.hok.fresh (ao _);refine⟨.ref _,_,I1.laid (t':=tk) (λb o e=>?_) (ao _) (o:=.lst ((srt ss).map V.str)) ?_,rfl,q _ hf⟩
 ·have Ps:b<h'.objs.size:=az e;refine(sortedHeap_old (aG Ps) (by rw[size_push'];exact cj Ps)).trans ?_;exact ar _ e
 ·refine⟨?_,((arrOf Qt).map (·.2)).toList,e',CG h1,?_⟩
  ·rw[ac,vz];exact aE (dN hz) (by decide)
  ·exact Vo
end
def Its(x:Str):It:=⟨λi _=>i<x.cps.size,λi H v H'=>H'=H/\∃c,x.cps[i]?=Za c/\v=.str ⟨#[c]⟩,λi _=>x.cps.size<=i⟩
def Be(hh:A.handled=Zb)(it)(x)(t):Walks P w A it [it] [it] x.cps.size (SignAt x) (λi h=>h.IsStrIter it (iP x) x t i):=by
 unfold iP;split
 ·exact Walks.strAscii hh it x t
 ·exact Walks.strWide hh it x t
def Io{P}{w}{K}{tg}(it)(x)(t):Turn P w K tg (Its x) [it] it (λi h=>i<=x.cps.size/\h.IsStrIter it (iP x) x t i) where
 mem:=by simp
 obj:=λi h st b hb=>by
  have e:b=it:=by simpa using hb
  subst e;obtain⟨_,o,e,c,d⟩:=st;exact⟨o,e,λv z=>by rw[d] at z;cases z⟩
 keep:=λi h h' st k=>by obtain⟨z,o,e,c,d⟩:=st;exact⟨z,o,k it (by simp) o e,c,d⟩
 item:=by intro X hP hw hK hc i Pe s O H E I hf st hg;subst hP hw hK;obtain⟨f0,f1,f2,f3,f4,f5⟩:=hf it (by simp);refine(Be (I.ok.hd hc) it x t).item i s _ _ hg st.2 λv h' tk hv Qt kk=>?_;obtain⟨c,u,e1,e2⟩:=hv;subst e2;have I1:Inv X Pe O H { s with heap:=h',toks:=tk }:=I.turned (λb o hb e=>kk b o (by simpa using hb) e) f0 f1 f3 f4 f5;obtain⟨o,e,cl,d⟩:=id Qt;refine⟨_,rfl,E9 (s:={ s with heap:=h',toks:=tk }) e cl d ?_ ⟨.str ⟨#[c]⟩,H,I1,⟨u,rfl⟩,⟨rfl,c,e1,rfl⟩,⟨hg,Qt⟩,λb hb=>(hf b hb).1⟩⟩;unfold iP;split<;>decide
 done:=by intro X hP hw hK hc i Pe s O H E I hf st hg;subst hP hw hK;obtain⟨f0,f1,f2,f3,f4,f5⟩:=hf it (by simp);have e:i=x.cps.size:=jA st.1 hg;subst e;exact(Be (I.ok.hd hc) it x t).done s _ _ st.2 λh' tk kk=>⟨rfl,I.turned (λb o hb e=>kk b o (by simpa using hb) e) f0 f1 f3 f4 f5⟩
 self:=λA i s Q E st h=>by
  obtain⟨_,st⟩:=st;unfold iP at st;split at st
  ·exact wpAny_pyIter_striter_ascii st h
  ·exact wpAny_pyIter_striter_wide st h
section
variable{X:Cx}{tg:bo}
def iStr(tl:TE):TI:=λO H R=>tl O H λv H1=>∃x,v=.str x/\R (Its x) H1
def NU{l}{tl}(hl:PE X l tl):PI X tg l (iStr tl):=by
 intro Pe s O H R I h;refine thn (hl Pe s O H _ I h) λv s1=>e4 λy H1 I1 r1 q1=>?_;obtain⟨x,e,q⟩:=q1;subst e;obtain⟨t,rfl⟩:=r1;refine wpAny_pyIter_strU ?_;refine⟨s1.heap.objs.size,[s1.heap.objs.size],_,_,H1,rfl,I1.kept (t':=s1.toks) λb o e=>ar _ e,Io _ x t,⟨a7 _,_,ba _ rfl,rfl,rfl⟩,λb hb=>?_,q⟩;have e:b=s1.heap.objs.size:=by simpa using hb
 subst e;exact I1.fpOk (ao _) (I1.hok.fresh (ao _))
end
section
variable{X:Cx}{Pe:List (ak×Obj)}{O:St}{H:Hp}{s:ax}{d:ak}{kvs:List (Key×V)}{ob:Obj}
def Inv.redo(I:Inv X Pe O H s)(hd:H d=Za u)(n1:∀y,u≠.own y)(n2:∀xs,u≠.tup xs)(n3:∀o v,X.Ha0 d≠Za (.frz o v))(n4:∀ps,u≠.tbl ps)(ok:ObjOk X.prog X.w (upd H d u') s.heap d u'):Inv X Pe O (upd H d u') s:=by
 have ne:∀b v,H b=Za v->v≠u->b≠d:=λb v e hv z=>by subst z;rw[hd] at e;exact hv (aP e).symm
 have nn:∀b,H b=Zb->b≠d:=λb e z=>by subst z;rw[hd] at e;cases e
 refine⟨I.ok,I.os,I.bare,⟨I.base.keep,I.base.slot,λb o e z hx=>?_,I.base.there,λb xs e=>?_,λb o v e=>?_,λb ps e=>?_⟩,I.loc,I.cell,?_,λy c e=>?_,λp hp=>?_,λb v e=>?_,I.len⟩
 ·have:=I.base.free b o e z hx;rw[lO (nn b this)];exact this
 ·have:=I.base.tups b xs e;rw[lO (ne b _ this λz=>n2 xs z.symm)];exact this
 ·have:=I.base.frzs b o v e;have hb:b≠d:=λz=>by subst z;exact n3 o v e
  rw[lO hb];exact this
 ·obtain⟨m,e1⟩:=I.base.tbls b ps e;exact⟨m,by rw[lO (ne b _ e1 λz=>n4 _ z.symm)];exact e1⟩
 ·rw[lO (nn _ I.free)];exact I.free
 ·rw[lO (nn _ (I.freeC y c e))];exact I.freeC y c e
 ·obtain⟨e1,z1,r1⟩:=I.pin p hp;exact⟨e1,by rw[lO (nn _ z1)];exact z1,r1⟩
 ·by_cases hb:b=d
  ·subst hb;rw[lQ] at e;cases e;exact ok
  ·rw[lO hb] at e;exact(I.hok b v e).stay (λc v _ q=>q) (λc q=>by rw[lO (ne c _ q λz=>n1 _ z.symm)];exact q) λc xs q=>by rw[lO (ne c _ q λz=>n2 _ z.symm)];exact q
def dK_ok{H H'}(x:ObjOk P w H h d (.dK kvs)):ObjOk P w H' h d (.dK kvs):=x
def Inv.freeze(I:Inv X Pe O H s)(hd:H d=Za (.dK kvs))(ho:s.heap.get? d=Za ob):Inv X Pe O (upd H d (.frz ob (.dK kvs))) s :=
 I.redo hd (by intro y z;cases z) (by intro y z;cases z) (λo v z=>by rw[I.base.frzs d o v z] at hd;cases hd) (by intro y z;cases z) ⟨ho,dK_ok (I.hok d _ hd)⟩
end
def Itd(d:ak)(ob:Obj)(kvs:List (Key×V)):It :=
 ⟨λi H=>i<kvs.length/\H d=Za (.frz ob (.dK kvs)),λi H v H'=>H'=H/\∃kv,kvs[i]?=Za kv/\v=kV kv.1,λi H=>kvs.length<=i/\H d=Za (.frz ob (.dK kvs))⟩
def Kc(I:Inv X Pe O H s)(hd:H d=Za (.frz ob (.dK kvs)))(he:ob.data=.dict es0 ep) :
  ∃vs,KV kvs vs/\s.heap.DictAt (mT X.prog X.w) d vs ep:=by
 obtain⟨e,z,_,vs,rel,dd⟩:=(show ObjOk X.prog X.w H s.heap d (.frz ob (.dK kvs)) from I.hok d _ hd);obtain⟨Uq,o,es,e1,e2,e3,e4⟩:=dd.dictAt;rw[e] at e1;cases e1;rw[he] at e3;cases e3;exact⟨vs,rel,ob,_,e,e2,he,e4⟩
def Bi{P}{w}{K}{tg}(d it)(ob)(kvs)(es0:Array DictEntry)(ep)(he:ob.data=.dict es0 ep) :
  Turn P w K tg (Itd d ob kvs) [it] it (λi h=>i<=kvs.length/\h.IsKeyIter it d i kvs.length ep) where
 mem:=by simp
 obj:=λi h st b hb=>by
  have e:b=it:=by simpa using hb
  subst e;obtain⟨_,o,e,c,d⟩:=st;exact⟨o,e,λv z=>by rw[d] at z;cases z⟩
 keep:=λi h h' st k=>by obtain⟨z,o,e,c,d⟩:=st;exact⟨z,o,k it (by simp) o e,c,d⟩
 item:=by
  intro X hP hw hK hc i Pe s O H E I hf st hg;subst hP hw hK;obtain⟨f0,f1,f2,f3,f4,f5⟩:=hf it (by simp);obtain⟨hi,hd⟩:=hg;obtain⟨vs,rel,at_⟩:=Kc I hd he;have hl:=rel.length;have hiv:i<vs.length:=by omega
  have R9:s.heap.IsKeyIter it d i vs.length ep:=by rw[<-hl];exact st.2
  refine wpAny_pyNext_dict_item (k:=vs[i].1) (v:=vs[i].2) R9 at_ (by simp[hiv]) λkey h' hk it' sb=>?_;have I1:Inv X Pe O H { s with heap:=h' }:=I.turned (t':=s.toks) (λb o hb e=>(sb.2 b hb).trans e) f0 f1 f3 f4 f5;have R8:kvs[i].1=vs[i].1:=by
   have e1:(kvs.map (·.1))[i]?=(vs.map (·.1))[i]?:=by rw[rel.keys]
   rw[aC,aC,aw hi,aw hiv] at e1;exact aP e1
  obtain⟨o,e,cl,dt⟩:=id it';refine⟨key,rfl,E9 (s:={ s with heap:=h' }) e cl dt (by decide) ⟨kV kvs[i].1,H,I1,?_,⟨rfl,kvs[i],by simp[hi],rfl⟩,⟨hi,by rw[hl];exact it'⟩,λb hb=>(hf b hb).1⟩⟩;rw[R8];have hk:AV vs[i].1 key=true:=hk;rcases m6 hk with⟨z,t,q1,q2⟩|⟨z,t,q1,q2⟩
  ·rw[q1,q2];exact⟨t,rfl⟩
  ·rw[q1,q2];exact⟨t,rfl⟩
 done:=by
  intro X hP hw hK hc i Pe s O H E I hf st hg;subst hP hw hK;obtain⟨f0,f1,f2,f3,f4,f5⟩:=hf it (by simp);obtain⟨hi,hd⟩:=hg;obtain⟨vs,rel,at_⟩:=Kc I hd he;have hl:=rel.length;have R9:s.heap.IsKeyIter it d i vs.length ep:=by rw[<-hl];exact st.2
  exact wpAny_pyNext_dict_end (I.ok.hd hc) R9 at_ (by simp;omega) λh' eb=>⟨rfl,I.turned (t':=s.toks) (λb o hb e=>eb b o hb e) f0 f1 f3 f4 f5⟩
 self:=λA i s Q E st h=>by exact wpAny_pyIter_keyiter st.2 h
section
variable{X:Cx}{tg:bo}
def Nm(x:Str):Prop:=x.length<=100/\∀c∈x.cps.toList,c<16^8
def Bs:OpR X (bP .LtE) (λx y H Q=>∃i j,x=.str i/\y=.str j/\Q (.bl (!decide (j.cps.toList<i.cps.toList))) H):=by intro Pe s O H x y v u Q I rx ry h;obtain⟨i,j,rfl,rfl,q⟩:=h;obtain⟨t,rfl⟩:=rx;obtain⟨t',rfl⟩:=ry;exact PySem.P.le_str ⟨.bl _,H,I,rfl,q⟩
def LO:MtR X "str.join" (λx vs H Q=>∃(z:Str)(p:ak)(ys:List Str),x=.str z/\vs=[.ref p]/\SqL X.K H p (ys.map V.str)/\(ys.map (·.length)).sum+ys.length*z.length<=16777216/\Q (.str (Txt.join z ys)) H):=by intro Pe s O H x vs v us Q I rx rv h;obtain⟨z,p,ys,rfl,rfl,hq,hz,q⟩:=h;obtain⟨t,rfl⟩:=rx;obtain⟨u,rfl,ru⟩:=rv.one;cases ru;obtain⟨its,r,pl,Sw⟩:=I.list hq;exact join_list pl.isList (by simpa using yR r) hz λt' k=>⟨.str _,H,I.tok k,⟨t',rfl⟩,q⟩
def Eo:CallR X (.builtin "all") (λxs H Q=>∃(p:ak)(bs:List Bool),xs=[.ref p]/\SqL X.K H p (bs.map V.bl)/\X.calm=true/\Q (.bl (bs.all id)) H):=by
 intro Pe s O H xs us Q I r h;obtain⟨p,bs,rfl,hq,hc,q⟩:=h;obtain⟨u,rfl,ru⟩:=qH r;cases ru;obtain⟨its,rv,pl,Sw⟩:=I.list hq;have hl:its.length=bs.length:=by have:=rv.length;rw[ac] at this;exact this.symm
 have PH:p≠s.heap.objs.size:=by obtain⟨o,ho,_⟩:=pl.isList;exact aG (az ho)
 refine call_all_walk (gP pl.isList ?_);refine⟨s.heap.objs.size,_,_,its.toArray.size,_,_,λi=>(bs[i]?).getD true,rfl,Walks.list (show X.A.in1.handled=Zb from I.ok.hd hc) _ p PH its.toArray,⟨⟨_,ba _ rfl,rfl,rfl⟩,pl.isList.push _⟩,?_,λh' tk hk=>?_⟩
 ·intro i v s' Q' E' hP hQ;have hP:its.toArray[i]?=Za v:=hP;have hv:its[i]?=Za v:=by simpa using hP
  have hi:i<its.length:=(aW.mp hv).1;obtain⟨u',hu',ru'⟩:=rv.get (i:=i) (x:=.bl bs[i]) (by simp[<-hl,hi]);rw[hv] at hu';cases hu';cases ru';refine eI ?_;have e:(bs[i]?).getD true=bs[i]:=by simp[<-hl,hi]
  rw[<-e];exact hQ
 ·have I1:Inv X Pe O H { s with heap:=h',toks:=tk }:=I.kept λb o e=>hk b o (λz=>by
   have e1:b=s.heap.objs.size:=by simpa using z
   exact absurd (az e) (by rw[e1];exact dP _)) (ar _ e)
  refine⟨.bl _,H,I1,rfl,?_⟩;have e:(bw its.toArray.size).all (λi=>(bs[i]?).getD true)=bs.all id:=by
   rw[aM,hl,bS,dg,dg];constructor
   ·intro z b hb;obtain⟨i,hi,rfl⟩:=List.mem_iff_getElem.mp hb;have:=z i (cF.mpr hi);simpa[hi] using this
   ·intro z i hi;have hi:=cF.mp hi;simpa[hi] using z bs[i] (ce hi)
  rw[e];exact q
def Mc:List V->List V->Bool
 |[],[]=>true
 |x::xs,y::ys=>eqV x y&&Mc xs ys
 |_,_=>false
theorem Eg:∀{xs ys:List V},xs.length=ys.length->Mc xs ys=(bw xs.length).all λi=>eqV ((xs[i]?).getD .non) ((ys[i]?).getD .non)
 |[],[],_=>rfl
 |[],_::_,h=>by cases h
 |_::_,[],h=>by cases h
 |x::xs,y::ys,h=>by show(eqV x y&&Mc xs ys)=_;rw[Eg (jE h),aY,ku,iK,kA];rfl
def E6(rx:Vals xs us)(ry:Vals ys ws)(hl:xs.length=ys.length)(fx:xs.all tF=true)(fy:ys.all tF=true) :
  ∀j (h1:j<us.toArray.size) (h2:j<ws.toArray.size),k8 A s us.toArray[j] ws.toArray[j] (eqV ((xs[j]?).getD .non) ((ys[j]?).getD .non)):=by
 intro j h1 h2;have e1:=rx.length;have e2:=ry.length;have SD:j<xs.length:=by rw[e1];simpa using h1
 have Vx:j<ys.length:=by rw[e2];simpa using h2
 obtain⟨u,hu,ru⟩:=rx.get (i:=j) (x:=xs[j]) (by simp[SD]);obtain⟨w,hw,P0⟩:=ry.get (i:=j) (x:=ys[j]) (by simp[Vx]);have e3:us.toArray[j]=u:=by
  have:us[j]?=Za us.toArray[j]:=by simp[show j<us.length by simpa using h1]
  rw[hu] at this;exact(aP this).symm
 have e4:ws.toArray[j]=w:=by
  have:ws[j]?=Za ws.toArray[j]:=by simp[show j<ws.length by simpa using h2]
  rw[hw] at this;exact(aP this).symm
 rw[e3,e4];have e5:(xs[j]?).getD .non=xs[j]:=by simp[SD]
 have e6:(ys[j]?).getD .non=ys[j]:=by simp[Vx]
 rw[e5,e6];exact FA ru P0 (dg.mp fx _ (ce SD)) (dg.mp fy _ (ce Vx))
def gLst(K:aa)(n:Nat)(t:TGs):TG:=λv O H Q=>∃a xs,v=.ref a/\SqL K H a xs/\xs.length=n/\t xs O H Q
def NX(hc:X.calm=true)(h:PGs X es t)(hn:(cQ es X.env).length=n:=by rfl)(QI:(cQ es X.env).findIdx? (·.1)=none:=by rfl):PG X (.Tuple es k pos) (gLst X.K n t):=by
 intro Pe s O H v u Q I r hw;obtain⟨a,xs,e1,hq,hl,hw⟩:=hw;subst e1;cases r;obtain⟨its,rv,ht,hz⟩:=I.list hq;rw[assign_Tuple];refine aq (f6 ?_);unfold unpack;have hsz:(cQ es X.env).length=its.toArray.size:=by simp[hn,<-hl,rv.length]
 rw[hsz,QI];refine aq (ei (PySem.W.kun_itemsOf (I.ok.hd hc) ht.isList λh' hx=>?_));have I1:Inv X Pe O H { s with heap:=h' }:=I.kept (t':=s.toks) λb o e=>hx b o (aG (az e)) e;exact h Pe _ O H xs _ Q I1 (by simpa using rv) hw
def PJ(X:Cx)(es:List bo)(t:St->Hp->(Hp->Prop)->Prop):Prop:=∀(Pe:List (ak×Obj))(s:ax)(O:St)(H:Hp)(Po:Str)(n:Nat)(Q:Hp->Prop),Inv X Pe O H s->Po.length<=2000*n->n+es.length<=100->t O H Q ->
 Joins (model X.prog X.w) X.A X.xe (evalEach es X.env) Po (λout s1=>out.length<=aK/\∃H',Inv X Pe O H' s1/\Q H') s
def jNil:St->Hp->(Hp->Prop)->Prop:=λ_ H Q=>Q H
def jRep(te:TE)(t:St->Hp->(Hp->Prop)->Prop):St->Hp->(Hp->Prop)->Prop:=λO H Q=>te O H λv H1=>(∃x,v=.str x/\Nm x)/\t O H1 Q
def Az:PJ X [] jNil:=λPe s O H Po n Q I h1 h2 h=>⟨aE h1 (aE (lE 2000 (show n<=100 by simpa using h2)) (by decide)),H,I,h⟩
def zl(a b:Str):(a++b).length=a.length+b.length:=strLen_append a b
def Ay{j pos}(hr:PJ X es t)(hl:c.length<=2000:=by decide):PJ X (.Constant (.str c) j pos::es) t:=by
 intro Pe s O H Po n Q I h1 h2 h;have h2:n+(es.length+1)<=100:=h2;refine la ⟨c,s.toks,rfl,?_,hr Pe _ O H (Po++c) (n+1) Q (I.tok _) ?_ (by lia) h⟩
 ·rw[zl];exact aE (show Po.length+c.length<=2000*101 by lia) (by decide)
 ·rw[zl];lia
def yu(he:PE X e te)(hr:PJ X es t):PJ X (.FormattedValue e 114 Zb pos::es) (jRep te t):=by
 intro Pe s O H Po n Q I h1 h2 h;have h2:n+(es.length+1)<=100:=h2;refine wpAny_FormattedValue_repr (thn (he Pe s O H _ I h) λv s1 ⟨y,H1,I1,r1,⟨x,e1,nm⟩,q1⟩=>?_);subst e1;obtain⟨tk,rfl⟩:=r1;have Pi:(ig x).length<=1002:=aE (PySem.StrLaws.reprText_len x nm.2) (by have:=nm.1;lia);have hsz:(ig x).length<=aK:=aE Pi (by decide);have PK:∀tk s2,Inv X Pe O H1 s2->∃y t',io (ig x) tk=.str y t'/\(Po++y).length<=aK/\Joins (model X.prog X.w) X.A X.xe (evalEach es X.env) (Po++y) (λout s1=>out.length<=aK/\∃H',Inv X Pe O H' s1/\Q H') s2:=λtk s2 I2=>by
  refine⟨_,tk,rfl,?_,hr Pe s2 O H1 _ (n+1) Q I2 ?_ (by lia) q1⟩
  ·rw[zl];exact aE (show Po.length+(ig x).length<=2000*101 by lia) (by decide)
  ·rw[zl];lia
 refine wpAny_pyReprObj_str ?_ hsz;exact wpAny_formatField_str (PK _ _ (I1.tok _)) (PK _ _ ((I1.tok _).tok _)) hsz
def tFs(t:St->Hp->(Hp->Prop)->Prop):TE:=λO H Q=>t O H λH1=>∀x,Q (.str x) H1
def EU{SL SK}{pZ}{pos}{t}(h:PJ X (SL::SK::pZ) t)(hl:(SL::SK::pZ).length<=100:=by decide):PE X (.JoinedStr (SL::SK::pZ) pos) (tFs t):=by
 intro Pe s O H Q I hq;refine wpAny_JoinedStr ?_;have:=h Pe s O H cx 0 (λH1=>∀x,Q (.str x) H1) I (a7 _) (by lia) hq;revert this;generalize evalEach (SL::SK::pZ) X.env=parts;generalize cx=Po;intro this;clear h hl hq I;induction parts generalizing Po s with
 |nil =>
  obtain⟨z,H',I',q⟩:=this;exact⟨z,.str Po,H',I'.tok _,⟨_,rfl⟩,q Po⟩
 |cons p ps ih =>
  refine bM this (λv s1 ⟨y,t,e,z,k⟩=>⟨y,t,e,z,ih _ _ k⟩) λ_ _ z=>z
end
def Fn(P:aL)(w:bh)(K:aa)(mg:Str->Option ag)(base:bv)(x:Str)(k:Nat)(ps:List Str)(sp:Sp):Prop :=
 ∃f fd,FnOk P w K mg base (CXo P w) k f fd ps sp/\mg x=Za (.ref f)/\cD K (.ref f)=true/\Binds K fd ps []
def Mt(P:aL)(w:bh)(K:aa)(mg:Str->Option ag)(base:bv)(C:ak)(m:Str)(k:Nat)(ps:List Str)(sp:Sp):Prop :=
 ∃f fd,FnOk P w K mg base (CXo P w) k f fd ps sp/\Meth K C m f/\Cls K C/\Binds K fd ps []
def MkB(P:aL)(w:bh)(K:aa)(mg:Str->Option ag)(base:bv)(x:Str)(C:ak)(k:Nat)(ps:List Str)(sp:Sp):Prop :=
 ∃f fd,FnOk P w K mg base (CXo P w) k f fd ps sp/\mg x=Za (.ref C)/\Mk K C f/\Binds K fd ps []
section
variable{X:Cx}{k:Nat}{C:ak}{ps:List Str}{sp:Sp}{E:XK}{x m:Str}{p pos Pf:Pos}{e o:bo}{es:List bo}{ta:TE}{t:TA}
def wx(F:Fn X.prog X.w X.K X.mg X.base x k ps sp)(hr:Room k X.A)(hg:Gl X x)(hx:nZ (CXo X.prog X.w) X E)(ha:PA X (e::es) t)(P8:NDb x:=by decide)(he:SEb X e es:=by rfl)(PL:(bY pos (aB es X.env)).any (·.1)=false:=by rfl):PE X (.Call (.Name x p) (e::es) [] pos) (Ks sp [] E t):=by
 obtain⟨f,fd,F,hm,hk,hb⟩:=F;exact Lv F hr hg hm hk hb .nil hx ha P8 he PL
def tw(he:PE X o ta)(M:Mt X.prog X.w X.K X.mg X.base C m k ps sp)(hr:Room k X.A)(hx:nZ (CXo X.prog X.w) X E)(ha:PA X (e::es) t)(QI:SEb X e es:=by rfl)(PL:(bY pos (aB es X.env)).any (·.1)=false:=by rfl)(ht:eval (.Call (.Attribute o m Pf) (e::es) [] pos) X.env=(do
   let ov <-eval o X.env
   gv Pf.atName
   let(f,first) <-holding [ov] (fW ov m pl)
   iQ pos f first (bY pos (aB (e::es) X.env)) (eR pos (cW [] X.env))):=by rfl):PE X (.Call (.Attribute o m Pf) (e::es) [] pos) (HU C m sp [] E ta t):=by
 obtain⟨f,fd,F,hm,c,hb⟩:=M;exact Lr (pl:=pl) he c hm F hr hb .nil hx ha QI PL ht
def NY(he:PE X o ta)(M:Mt X.prog X.w X.K X.mg X.base C m k ps sp)(hr:Room k X.A)(hx:nZ (CXo X.prog X.w) X E)(ht:eval (.Call (.Attribute o m Pf) [] [] pos) X.env=(do
   let ov <-eval o X.env
   gv Pf.atName
   let(f,first) <-holding [ov] (fW ov m pl)
   iQ pos f first (bY pos (aB [] X.env)) (eR pos (cW [] X.env))):=by rfl):PE X (.Call (.Attribute o m Pf) [] [] pos) (HU C m sp [] E ta JN):=by
 obtain⟨f,fd,F,hm,c,hb⟩:=M;exact IM (pl:=pl) he c hm F hr hb .nil hx ht
def NZ(M:MkB X.prog X.w X.K X.mg X.base x C k ps sp)(hr:Room (k+1) X.A)(hg:Gl X x)(hx:nZ (CXo X.prog X.w) X E)(P8:NDb x:=by decide):PE X (.Call (.Name x p) [] [] pos) (HV C sp [] E JN):=by obtain⟨f,fd,F,hm,mk,hb⟩:=M;exact IN mk F hr hg hm hb .nil hx P8
def sJ:OpR X (dF .FloorDiv) (rI (λ_ j=>0<j/\j.natAbs.log2<9000) λi j=>.int (i/j)):=opI λi j _ _ _ _ _ hc q=>by have h1:(0:Int)<j:=hc.1;exact floordiv_int (by lia) (by rw[Int.fdiv_eq_ediv_of_nonneg i (by lia)];exact q) (.inl (PyProof.noPylong_of_log2 hc.2))
end
section
variable{P:aL}{w:bh}{K:aa}{mg:Str->Option ag}{base:bv}
def Fun.okN{x qual}{st}{f}{fd}{N ps}{k}{sp:Sp}(F:Fun K x qual st f fd)(S:FnScope N ps (lR st))(len:∀vs H Q E,sp vs H Q E->vs.length=ps.length)(Qr:∀(Pn:ag)(A:cA)(outer:List Env)(s:ax)(H:Hp)(vs:List V)(Q:VK)(E:XK),Room k (A.deeper (fg qual (lR st) s.heap.objs.size f Pn))->sp vs H Q E ->
   ∃t,PSs (Ei (CXo P w) P w K mg base N qual (lR st) f Pn A outer s H E).nox (nI st) t/\t { nx:=λ_ H'=>Q .non H',rt:=Q } (start N vs) H):FnOk P w K mg base (CXo P w) (k+1) f fd ps sp:=by
 obtain⟨oc,od,kV,Qo,pm,an,Pn,ct,Ro,rfl,lk,QA⟩:=F.ex;refine Nj lk QA S len λA outer s H vs Q E hr Ri=>?_;obtain⟨t,h,q⟩:=Qr Pn A outer s H vs Q E hr Ri;exact⟨t,h.nox,q⟩
def Fun.okX{x qual}{st}{f}{fd}{N ps}{k}{sp:Sp}(F:Fun K x qual st f fd)(S:FnScope N ps (lR st))(len:∀vs H Q E,sp vs H Q E->vs.length=ps.length)(Qr:∀(Pn:ag)(A:cA)(outer:List Env)(s:ax)(H:Hp)(vs:List V)(Q:VK)(E:XK),Room k (A.deeper (fg qual (lR st) s.heap.objs.size f Pn))->sp vs H Q E ->
   ∃t,PSs (Ei (CXo P w) P w K mg base N qual (lR st) f Pn A outer s H E) (nI st) t/\t { nx:=λ_ H'=>Q .non H',rt:=Q } (start N vs) H):FnOk P w K mg base (CXo P w) (k+1) f fd ps sp:=by
 obtain⟨oc,od,kV,Qo,pm,an,Pn,ct,Ro,rfl,lk,QA⟩:=F.ex;exact Nj lk QA S len λA outer s H vs Q E hr Ri=>Qr Pn A outer s H vs Q E hr Ri
end
def GD(n:Nat)(R:Nat->List V->Hp->Prop)(h0:R 0 [] (upd H1 D (.lst [])))(hn:n<=aK)(hD:∀i ys H,R i ys H->H D=Za (.lst ys))(hgo:∀i ys H,i<n->R i ys H->J.go i H)(Tf:∀i ys H x H',i<n->R i ys H->J.yld i H x H'->∀(Kt:VK)(Kf:Hp->Prop),(∀v H5,H5 D=Za (.lst ys)->R (i+1) (ys++[v]) (upd H5 D (.lst (ys++[v])))->Kt v H5)->(∀H4,R (i+1) ys H4->Kf H4) ->
   tc (Za x::cap) H' λb H4=>if b=true then te (Za x::cap) H4 Kt else Kf H4)(Vh:∀ys H,ys.length<=n->R n ys H->J.stop n H/\Q (.ref D) H) :
  CompB J tc te cap D H1 Q:=by
 refine⟨λi m ys H=>i<=n/\m=n-i/\ys.length<=i/\R i ys H,⟨n,a7 _,by simp,a7 _,h0⟩,?_⟩
 rintro i m ys H2 ⟨hi,rfl,hl,r⟩
 by_cases Ps:i<n
 ·refine .inr ⟨hgo i ys H2 Ps r,λx H3 y=>Tf i ys H2 x H3 Ps r y _ _ (λv H5 e r'=>⟨e,by lia,n-(i+1),by lia,Ps,rfl,by rw[aD];simp;lia,r'⟩) λH4 r'=>⟨n-(i+1),by lia,Ps,rfl,by lia,r'⟩⟩
 ·have e:i=n:=by lia
  subst e;obtain⟨h1,h2⟩:=Vh ys H2 hl r;exact .inl ⟨h1,hD i ys H2 r,h2⟩
def Dh:bN "len"=Za (.builtin "len"):=by decide +kernel
def uY:bN "sorted"=Za (.builtin "sorted"):=by decide +kernel
def OX:bN "abs"=Za (.builtin "abs"):=by decide +kernel
def Ko:bN "all"=Za (.builtin "all"):=by decide +kernel
def OW:bN "int"=Za (.type "int"):=by decide +kernel
def JF:bN "tuple"=Za (.type "tuple"):=by decide +kernel
def MI:bN "list"=Za (.type "list"):=by decide +kernel
def OV:bN "str"=Za (.type "str"):=by decide +kernel
end L2
set_option maxHeartbeats 4000000
namespace My
open PySem L2
abbrev Same:=L2.Same
def sF(h:H p=Zb):Same H (upd H p o):=λb u e=>by rw[lO (mh e h)];exact e
def nbT(h:(!b)=true):b=false:=by cases b<;>first|rfl|cases h
def nbF(h:¬(!b)=true):b=true:=by cases b<;>first|rfl|exact absurd rfl h
structure Ent where
 nm:Str
 th:Int
 mr:Int
 ls:Int
 held:List (Str×Int×Int)
structure BA where
 dx:ak
 dp:ak
 dt:ak
 dm:ak
 dl:ak
 dh:ak
def bf(z:BA):List (Str×V):=[(("people":Str),V.ref z.dp),("things_of",.ref z.dt),("mark_of",.ref z.dm),("loss_of",.ref z.dl),("held_of",.ref z.dh)]
def n8{g f:Str}{v:V}{r:List (Str×V)}(h:¬f=g):de f ((g,v)::r)=de f r:=by
 rw[bI];have:(f==g)=false:=by simpa using h
 rw[this]
def wW{f:Str}{v:V}{r:List (Str×V)}:de f ((f,v)::r)=Za v:=by rw[bI];simp
def uZ(z:BA):(bf z).lookup ("people":Str)=Za (V.ref z.dp):=wW
def BX(z:BA):(bf z).lookup ("things_of":Str)=Za (V.ref z.dt):=by unfold bf;rw[n8 (by decide +kernel)];exact wW
def GG(z:BA):(bf z).lookup ("mark_of":Str)=Za (V.ref z.dm):=by unfold bf;rw[n8 (by decide +kernel),n8 (by decide +kernel)];exact wW
def GH(z:BA):(bf z).lookup ("loss_of":Str)=Za (V.ref z.dl):=by unfold bf;rw[n8 (by decide +kernel),n8 (by decide +kernel),n8 (by decide +kernel)];exact wW
def vv(z:BA):(bf z).lookup ("held_of":Str)=Za (V.ref z.dh):=by unfold bf;rw[n8 (by decide +kernel),n8 (by decide +kernel),n8 (by decide +kernel),n8 (by decide +kernel)];exact wW
def tW(z:BA){m:Str}(h1:¬m="people":=by decide +kernel)(h2:¬m="things_of":=by decide +kernel)(h3:¬m="mark_of":=by decide +kernel)(h4:¬m="loss_of":=by decide +kernel)(h5:¬m="held_of":=by decide +kernel):(bf z).lookup m=none:=by unfold bf;rw[n8 h1,n8 h2,n8 h3,n8 h4,n8 h5];rfl
def HeldAt(K:aa)(H:Hp)(p:ak)(l:List (Str×Int×Int)):Prop :=
 ∃ts:List ak,ts.length=l.length/\H p=Za (.dK ((l.zip ts).map λq=>(aj q.1.1,V.ref q.2)))/\∀q∈l.zip ts,SqT K H q.2 [.int q.1.2.1,.int q.1.2.2]
def PmAt(H:Hp)(d:ak)(S:List (Key×V)):Prop:=∃T:List (Key×V),H d=Za (.dK T)/\T.Perm S/\(S.map (·.1)).Nodup
theorem yN:∀{l:List (Key×V)},(l.map (·.1)).Nodup->(oO l k=Za v↔(k,v)∈l)
 |[],_=>⟨λh=>(by cases h),λh=>(by cases h)⟩
 |x::r,h=>by
  obtain⟨h1,h2⟩:=aI.mp h;have ih:=yN (k:=k) (v:=v) h2;unfold oO at ih ⊢;rw[bF];by_cases e:x.1=k
  ·rw[Zg e];constructor
   ·intro q;have q:x.2=v:=aP q;rw[<-q,<-e];exact ai
   ·intro q;rcases af.mp q with q|q
    ·rw[<-q];rfl
    ·exact absurd (ah.mpr ⟨(k,v),q,rfl⟩) (by rw[<-e];exact h1)
  ·rw[Zh e];refine ih.trans ⟨λq=>ae _ q,λq=>?_⟩;rcases af.mp q with q|q
   ·exact absurd (by rw[<-q]) e
   ·exact q
def Dx(p:T.Perm S)(nd:(S.map (·.1)).Nodup)(k:Key):oO T k=oO S k:=by apply Option.ext;intro v;rw[yN ((p.map (·.1)).nodup_iff.mpr nd),yN nd,p.mem_iff]
def PmAt.keep(h:PmAt H d S)(k:∀o,H d=Za o->H' d=Za o):PmAt H' d S:=by obtain⟨T,e,p,n⟩:=h;exact⟨T,k _ e,p,n⟩
def PmAt.dget(h:PmAt H d S)(x:Str):DGet H d (kV (aj x)) (oO S (aj x)):=by obtain⟨T,e,p,n⟩:=h;rw[<-Dx p n];exact DGet.k e
def PmAt.keys{H:Hp}{d:ak}{α:Type}{L:List α}{key:α->Str}{v:α->V}(h:PmAt H d (L.map λe=>((aj (key e):Key),v e))):∃(T:List (Key×V))(ss:List Str),H d=Za (.dK T)/\T.map (·.1)=ss.map aj/\ss.Perm (L.map key):=by
 obtain⟨T,e,p,n⟩:=h;have q:=p.map (·.1);rw[aH] at q;refine⟨T,(T.map (·.1)).map λk=>match k with|.inr s=>s|.inl _=>cx,e,?_,?_⟩
 ·rw[aH];refine((ir _).symm.trans (aV λk hk=>?_));have:=q.mem_iff.mp hk;obtain⟨x,_,rfl⟩:=ah.mp this;rfl
 ·have:=q.map λk:Key=>match k with|.inr s=>s|.inl _=>cx
  have e2:(L.map ((λx=>x.1)∘λe=>((aj (key e):Key),v e))).map (λk:Key=>match k with|.inr s=>s|.inl _=>cx)=L.map key:=by rw[aH];rfl
  rw[e2] at this;exact this
structure BookAt(K:aa)(C:ak)(H:Hp)(b:ak)(z:BA)(Ph:List Str)(L:List (Ent×ak)):Prop where
 ob:H b=Za (.ins C z.dx (bf z))
 pp:H z.dp=Za (.dK (Ph.map λn=>(aj n,.bl true)))
 tt:H z.dt=Za (.dK (L.map λe=>(aj e.1.nm,.int e.1.th)))
 mm:H z.dm=Za (.dK (L.map λe=>(aj e.1.nm,.int e.1.mr)))
 ll:H z.dl=Za (.dK (L.map λe=>(aj e.1.nm,.int e.1.ls)))
 hh:PmAt H z.dh (L.map λe=>(aj e.1.nm,.ref e.2))
 he:∀e∈L,HeldAt K H e.2 e.1.held
 nd:(b::z.dp::z.dt::z.dm::z.dl::z.dh::L.map (·.2)).Nodup
 p6:Ph.length<=6
 h8:L.length<=8
def BFp(b:ak)(z:BA)(L:List (Ent×ak)):List ak:=b::z.dp::z.dt::z.dm::z.dl::z.dh::L.map (·.2)
def va{K}(h:SqT K H t xs)(k:∀c o,H c=Za o->(∃xs,o=.tup xs\/∃ob,o=.frz ob (.tup xs))->H' c=Za o):SqT K H' t xs:=by
 rcases h with(h|⟨ob,h⟩)|h
 ·exact .inl (.inl (k _ _ h ⟨xs,.inl rfl⟩))
 ·exact .inl (.inr ⟨ob,k _ _ h ⟨xs,.inr ⟨ob,rfl⟩⟩⟩)
 ·exact .inr h
def HeldAt.keep{K}(h:HeldAt K H p l)(hp:∀o,H p=Za o->H' p=Za o)(k:∀c o,H c=Za o->(∃xs,o=.tup xs\/∃ob,o=.frz ob (.tup xs))->H' c=Za o):HeldAt K H' p l:=by obtain⟨ts,e1,e2,e3⟩:=h;exact⟨ts,e1,hp _ e2,λq hq=>va (e3 q hq) k⟩
theorem BookAt.keep{K}(B:BookAt K C H b z Ph L)(k:∀c o,H c=Za o->(c∈BFp b z L\/∃xs,o=.tup xs\/∃ob,o=.frz ob (.tup xs))->H' c=Za o):BookAt K C H' b z Ph L:=by refine⟨k _ _ B.ob (.inl (by simp[BFp])),k _ _ B.pp (.inl (by simp[BFp])),k _ _ B.tt (.inl (by simp[BFp])),k _ _ B.mm (.inl (by simp[BFp])),k _ _ B.ll (.inl (by simp[BFp])),B.hh.keep (λo h=>k _ _ h (.inl (by simp[BFp]))),λe he=>?_,B.nd,B.p6,B.h8⟩;refine(B.he e he).keep (λo h=>k _ _ h (.inl ?_)) λc o h x=>k c o h (.inr x);unfold BFp;simp only[af];right;right;right;right;right;right;exact ah.mpr ⟨e,he,rfl⟩
def BookAt.same{K}(B:BookAt K C H b z Ph L)(s:Same H H'):BookAt K C H' b z Ph L:=B.keep λc o h _=>s c o h
def pB(L:List (Ent×ak))(n:Str):Bool:=(L.find? λe=>decide (e.1.nm=n)).isSome
def oF(Ph:List Str)(n:Str):Bool:=(Ph.find? λm=>decide (m=n)).isSome
def rN(l:List α)(key:α->Str)(v:α->V)(n:Str):oO (l.map λe=>((aj (key e):Key),v e)) (aj n)=(l.find? λe=>decide (key e=n)).map v:=by
 unfold oO;rw[fw,Option.map_map];have e:((λkv:Key×V=>decide (kv.1=aj n))∘λe=>((aj (key e):Key),v e))=λe=>decide (key e=n):=by
  funext x
  show decide ((aj (key x):Key)=aj n)=decide (key x=n);rw[AL]
 rw[e];rfl
end My
namespace L2
open PySem PySem.Spec PyProof.Rows
abbrev fzO(o:Obj):HO:=.frz o (.own 0)
section
variable{H:Hp}{cs:List (ak×Obj)}{b:ak}{o:Obj}
end
section
variable{P:aL}{w:bh}{K:aa}{mg:Str->Option ag}{base:bv}{A:cA}{outer:List Env}{s s':ax}{H H2:Hp}{cs:List (ak×Obj)}
end
structure LamOk(scope:dH)(x:Str)(fr:List Str):Prop where
 kind:scope.kind=.function
 co:scope.isCoroutine=false
 gen:scope.isGenerator=false
 cell:∀y∈scope.names,y.2≠.cell
 par:scope.names.lookup x=Za .local
 frs:∀y∈fr,scope.names.lookup y=Za .free
 nd:(x::fr).Nodup
structure CloOk(scope:dH)(fr:List Str)(cl:List (Str×ak))(cs:List (ak×Obj))(Sk:List V):Prop where
 has:∀y,scope.names.lookup y=Za .free->∃c,cl.lookup y=Za c
 inj:∀y z c,cl.lookup y=Za c->cl.lookup z=Za c->y=z
 cel:∀y c,cl.lookup y=Za c->∃o u,cs.lookup c=Za o/\o.data=.cell u
 val:∀(i:Nat)(y:Str)(v:V),fr[i]?=Za y->Sk[i]?=Za v->∃c o u,cl.lookup y=Za c/\cs.lookup c=Za o/\o.data=.cell (Za u)/\RelV v u
 len:Sk.length=fr.length
section
variable{P:aL}{w:bh}{K:aa}{mg:Str->Option ag}{base:bv}{CX:CXT}{k:Nat}{f c':ak}{qual x:Str}{params:jL}{body:bo}{scope:dH}{cl:List (Str×ak)}{cs:List (ak×Obj)}{pm ctv:ag}{fr:List Str}{Sk:List V}{oc:Obj}
end
section
variable{X:Cx}{CX:CXT}{k i:Nat}{x:Str}{p pos:Pos}{e:bo}{es:List bo}{t:TA}{E:XK}
end
section
variable{X:Cx}{CX:CXT}{k:Nat}{f:ak}{fd:cq}{ps:List Str}{sp:Sp}{E:XK}
end
def Nv(H:Hp)(P:ak)(q:Str):Prop:=∃ps,H P=Za (.tbl ps)/\TriplesOk ps.toList/\∀pos c,codeAmong pos ps.toList=Za c->∃c' oc,c=.ref c'/\H c'=Za (fzO oc)/\∃vs tq,oc.data=.fields vs/\vs[1]?=Za (.str q tq)
section
variable{X:Cx}{params:jL}{body:bo}{scope:dH}{pos:Pos}{cd P:ak}{q:Str}
structure LamTxt(K:aa)(mg:Str->Option ag)(base:bv)(cd P:ak):Prop where
 hd:∀h:bv,K.In h->PySem.W.CodeHd h cd P
 nP:P≠bc
 bm:∃bm o,mg "__builtins__"=Za (.ref bm)/\bm≠jf/\bm≠bc/\bm≠P/\base.get? bm=Za o/\o.cls=.type "module"/\o.dict=Za jf/\o.data=.plain
end
def Odd(u:HO):Prop:=(∃ps,u=.tbl ps)\/∃ob x,u=.frz ob (.own x)
def TbS(H H':Hp):Prop:=(∀a ps,H a=Za (.tbl ps)->∃RV,H' a=Za (.tbl RV))/\∀P q,Nv H P q->Nv H' P q
def TbS.of(k:∀a o,H a=Za o->Odd o->H' a=Za o):TbS H H':=⟨λa ps h=>⟨ps,k a _ h (.inl ⟨ps,rfl⟩)⟩,λP q ⟨ps,h,t,g⟩=>⟨ps,k P _ h (.inl ⟨ps,rfl⟩),t,λp c e=>by obtain⟨c',oc,a1,a2,a3⟩:=g p c e;exact⟨c',oc,a1,k c' _ a2 (.inr ⟨oc,0,rfl⟩),a3⟩⟩⟩
def TbS.same(k:Same H H'):TbS H H':=.of λa o h _=>k a o h
theorem TbS.upd(h:H d=Za u)(n:¬Odd u):TbS H (upd H d o):=.of λa o' h' od=>by rw[lO (show a≠d from λz=>by rw[z,h] at h';cases h';exact n od)];exact h'
def E2:¬Odd (.dK kvs):=λz=>by rcases z with⟨_,z⟩|⟨_,_,z⟩<;>cases z
def AI:¬Odd (.lst xs):=λz=>by rcases z with⟨_,z⟩|⟨_,_,z⟩<;>cases z
def no_dT:¬Odd (.dT kvs):=λz=>by rcases z with⟨_,z⟩|⟨_,_,z⟩<;>cases z
def J3:¬Odd (.ins C dx fs):=λz=>by rcases z with⟨_,z⟩|⟨_,_,z⟩<;>cases z
def Oh:¬Odd (.frz ob (.dK kvs)):=λz=>by rcases z with⟨_,z⟩|⟨_,_,z⟩<;>cases z
def Et:List Str:=["rules"]
def Tab(K:aa)(P:ak)(q:Str):Prop:=∃x∈Et,∃c,PySem.W.tabIn K x=Za (c,P)/\q=x++".<locals>.<lambda>"
inductive PV where
 |non|bl (b:Bool)|int (i:Int)|str (x:Str)|tup (l:List PV)|lst (l:List PV)|dct (l:List (Key×PV))|ref (n:Nat)|exc (c:ak)|seq (l:List PV)|clo (a:ak) (vs:List V) (l:List PV)
inductive Cell where
 |lst (l:List PV)|dct (l:List (Key×PV))|book (pp:List Str) (L:List My.Ent)|obj (C:ak) (fs:List (Str×PV))|dfz (l:List (Key×PV))|dtt (l:List (List Key×PV))
structure Sto where
 nx:Nat
 cs:List (Nat×Cell)
structure Mp where
 ad:Nat->ak
 fp:Nat->List ak
 hid:List ak
def ql:List (Nat×Cell)->Nat->Option Cell
 |[],_=>Zb
 |(k,c)::r,n=>if k=n then Za c else ql r n
def tL(n:Nat)(c:Cell):List (Nat×Cell)->List (Nat×Cell)
 |[]=>[]
 |(k,d)::r=>if k=n then(n,c)::r else(k,d)::tL n c r
def CN(n:Nat):List (Nat×Cell)->List (Nat×Cell)
 |[]=>[]
 |(k,d)::r=>if k=n then r else(k,d)::CN n r
def Sto.get(s:Sto)(n:Nat):Option Cell:=ql s.cs n
def Sto.set(s:Sto)(n:Nat)(c:Cell):Sto:=⟨s.nx,tL n c s.cs⟩
def Sto.del(s:Sto)(n:Nat):Sto:=⟨s.nx,CN n s.cs⟩
def Sto.add(s:Sto)(c:Cell):Sto:=⟨s.nx+1,(s.nx,c)::s.cs⟩
theorem oQ:∀{l:List (Nat×Cell)},ql l n=Za c->(n,c)∈l
 |(k,d)::r,h=>by
  unfold ql at h;split at h
  ·rename_i e;cases h;subst e;exact ai
  ·exact ae _ (oQ h)
theorem DJ:∀{l:List (Nat×Cell)},(l.map (·.1)).Nodup->q∈tL n c l->q=(n,c)\/(q∈l/\q.1≠n)
 |(k,d)::r,nd,h=>by
  unfold tL at h;obtain⟨n1,n2⟩:=aI.mp (show(k::r.map (·.1)).Nodup from nd);split at h
  ·rename_i e;rcases af.mp h with h|h
   ·exact .inl h
   ·exact .inr ⟨ae _ h,λz=>n1 (by rw[e,<-z];exact ah.mpr ⟨q,h,rfl⟩)⟩
  ·rename_i e;rcases af.mp h with h|h
   ·subst h;exact .inr ⟨ai,e⟩
   ·rcases DJ n2 h with h|⟨h,h'⟩
    ·exact .inl h
    ·exact .inr ⟨ae _ h,h'⟩
theorem pX:∀{l:List (Nat×Cell)},(tL n c l).map (·.1)=l.map (·.1)
 |[]=>rfl
 |(k,d)::r=>by
  unfold tL;split
  ·rename_i e;simp[e]
  ·simp[pX]
theorem uQ:∀{l:List (Nat×Cell)},q∈CN n l->q∈l
 |(k,d)::r,h=>by
  unfold CN at h;split at h
  ·exact ae _ h
  ·rcases af.mp h with h|h
   ·subst h;exact ai
   ·exact ae _ (uQ h)
theorem Gy:∀{l:List (Nat×Cell)},(l.map (·.1)).Nodup->((CN n l).map (·.1)).Nodup
 |[],_=>iq
 |(k,d)::r,nd=>by
  obtain⟨n1,n2⟩:=aI.mp (show(k::r.map (·.1)).Nodup from nd);unfold CN;split
  ·exact n2
  ·refine aI.mpr ⟨λz=>n1 ?_,Gy n2⟩;obtain⟨q,hq,e⟩:=ah.mp z;exact ah.mpr ⟨q,uQ hq,e⟩
theorem Gv:∀{l:List (Nat×Cell)},(l.map (·.1)).Nodup->q∈CN n l->q.1≠n
 |(k,d)::r,nd,h=>by
  obtain⟨n1,n2⟩:=aI.mp (show(k::r.map (·.1)).Nodup from nd);unfold CN at h;split at h
  ·rename_i e;intro z;exact n1 (by rw[e,<-z];exact ah.mpr ⟨q,h,rfl⟩)
  ·rename_i e;rcases af.mp h with h|h
   ·subst h;exact e
   ·exact Gv n2 h
theorem uw(h:k≠n):∀{l:List (Nat×Cell)},ql (tL n c l) k=ql l k
 |[]=>rfl
 |(j,d)::r=>by
  unfold tL;split
  ·rename_i e;unfold ql;rw[Zd (λz=>h z.symm),Zd (λz=>h (z.symm.trans e))]
  ·unfold ql;split
   ·rfl
   ·exact uw h
theorem xR(h:k≠n):∀{l:List (Nat×Cell)},ql (CN n l) k=ql l k
 |[]=>rfl
 |(j,d)::r=>by
  unfold CN;split
  ·rename_i e
   conv=>rhs;unfold ql
   rw[Zd (λz=>h (z.symm.trans e))]
  ·unfold ql;split
   ·rfl
   ·exact xR h
def Pur(m:Mp)(s:Sto)(a:ak):Prop:=a∉m.hid/\∀n∈s.cs.map (·.1),a∉m.fp n
def KL(K:aa)(a:ak)(xs:List V):Prop:=∃(o:Obj)(its:Array ag)(n:Nat),K.lookup a=Za o/\o.cls=.type "list"/\o.dict=Zb/\o.data=.seq its n/\its.size<=aK/\Vals xs its.toList
def KT'(K:aa)(a:ak)(xs:List V):Prop:=∃(o:Obj)(its:Array ag)(n:Nat),K.lookup a=Za o/\o.cls=.type "tuple"/\o.data=.seq its n/\its.size<=aK/\Vals xs its.toList
mutual
inductive Rep (K:aa) (H:Hp) (m:Mp) (s:Sto):V->PV->Prop
 |non:Rep K H m s .non .non
 |bl {b:Bool}:Rep K H m s (.bl b) (.bl b)
 |int {i:Int}:Rep K H m s (.int i) (.int i)
 |str {x:Str}:Rep K H m s (.str x) (.str x)
 |tup {a:ak}{vs:List V}{l:List PV}:(Rd H a (.tup vs)/\Pur m s a\/KT' K a vs)->Reps K H m s vs l->Rep K H m s (.ref a) (.tup l)
 |lst {a:ak}{vs:List V}{l:List PV}:H a=Za (.lst vs)->Pur m s a->Reps K H m s vs l->Rep K H m s (.ref a) (.lst l)
 |seq {a:ak}{vs:List V}{l:List PV}:((∃o,H a=Za (.frz o (.lst vs)))/\Pur m s a\/KL K a vs)->Reps K H m s vs l->Rep K H m s (.ref a) (.seq l)
 |dct {a:ak}{vs:List (Key×V)}{l:List (Key×PV)}:Rd H a (.dK vs)->Pur m s a->RepKs K H m s vs l->Rep K H m s (.ref a) (.dct l)
 |ref {n:Nat}:n<s.nx->Rep K H m s (.ref (m.ad n)) (.ref n)
 |exc {a c:ak}:H a=Za (excO c a)->Pur m s a->Rep K H m s (.ref a) (.exc c)
 |clo {a:ak}{vs:List V}{l:List PV}:Reps K H m s vs l->Rep K H m s (.ref a) (.clo a vs l)
inductive Reps (K:aa) (H:Hp) (m:Mp) (s:Sto):List V->List PV->Prop
 |nil:Reps K H m s [] []
 |cons {v:V}{p:PV}{vs:List V}{l:List PV}:Rep K H m s v p->Reps K H m s vs l->Reps K H m s (v::vs) (p::l)
inductive RepKs (K:aa) (H:Hp) (m:Mp) (s:Sto):List (Key×V)->List (Key×PV)->Prop
 |nil:RepKs K H m s [] []
 |cons {k:Key}{v:V}{p:PV}{vs:List (Key×V)}{l:List (Key×PV)}:Rep K H m s v p->RepKs K H m s vs l->RepKs K H m s ((k,v)::vs) ((k,p)::l)
end
structure ExtR(H:Hp)(m:Mp)(s:Sto)(H':Hp)(m':Mp)(s':Sto):Prop where
 nx:s.nx<=s'.nx
 ad:∀n,n<s.nx->m'.ad n=m.ad n
 pu:∀a u,Rd H a u->Pur m s a->Rd H' a u/\Pur m' s' a
 el:∀a u,H a=Za u->(∀kvs,u≠.dK kvs)->Pur m s a->H' a=Za u
structure Ext0(H:Hp)(m:Mp)(s:Sto)(H':Hp)(m':Mp)(s':Sto):Prop extends ExtR H m s H' m' s' where
 df:∀n l,n<s.nx->ql s.cs n=Za (.dfz l)->ql s'.cs n=Za (.dfz l)/\∀o,H (m.ad n)=Za o->H' (m.ad n)=Za o
structure Ext(H:Hp)(m:Mp)(s:Sto)(H':Hp)(m':Mp)(s':Sto):Prop extends Ext0 H m s H' m' s' where
 hd:m'.hid=m.hid
 hk:∀a∈m.hid,∀o,H a=Za o->(∀ps,o≠.tbl ps)->H' a=Za o
def Ext.refl:Ext H m s H m s:=⟨⟨⟨ao _,λ_ _=>rfl,λ_ _ h p=>⟨h,p⟩,λ_ _ h _ _=>h⟩,λ_ _ _ h=>⟨h,λ_ h=>h⟩⟩,rfl,λ_ _ _ h _=>h⟩
theorem Ext0.trans(a:Ext0 H m s H1 m1 s1)(b:Ext0 H1 m1 s1 H2 m2 s2):Ext0 H m s H2 m2 s2 :=
 ⟨⟨aE a.nx b.nx,λn h=>(b.ad n (ay h a.nx)).trans (a.ad n h),λc u h p=>let⟨h1,p1⟩:=a.pu c u h p;b.pu c u h1 p1,λc x h n p=>b.el c x (a.el c x h n p) n (a.pu c _ (.inl h) p).2⟩,λn l hn h=>by obtain⟨h1,k1⟩:=a.df n l hn h;obtain⟨h2,k2⟩:=b.df n l (ay hn a.nx) h1;rw[a.ad n hn] at k2;exact⟨h2,λo h=>k2 o (k1 o h)⟩⟩
theorem Ext.trans(a:Ext H m s H1 m1 s1)(b:Ext H1 m1 s1 H2 m2 s2):Ext H m s H2 m2 s2 :=
 ⟨a.toExt0.trans b.toExt0,b.hd.trans a.hd,λc hc o h n=>b.hk c (by rw[a.hd];exact hc) o (a.hk c hc o h n) n⟩
def Rd.same(k:Same H H')(h:Rd H a u):Rd H' a u:=h.elim (λh=>.inl (k _ _ h)) λ⟨o,h⟩=>.inr ⟨o,k _ _ h⟩
def Rd.ne(h:Rd H a u)(hb:H b=Zb):a≠b:=h.elim (λh=>mh h hb) λ⟨_,h⟩=>mh h hb
theorem Ext.same(k:Same H H'):Ext H m s H' m s:=⟨⟨⟨ao _,λ_ _=>rfl,λ_ _ h p=>⟨h.same k,p⟩,λ_ _ h _ _=>k _ _ h⟩,λ_ _ _ h=>⟨h,λo h=>k _ _ h⟩⟩,rfl,λ_ _ _ h _=>k _ _ h⟩
mutual
theorem Rep.ext0{K}{H H'}{m m'}{s s'}(e:ExtR H m s H' m' s'):∀{v:V}{p:PV},Rep K H m s v p->Rep K H' m' s' v p
 |_,_,.non=>.non
 |_,_,.bl=>.bl
 |_,_,.int=>.int
 |_,_,.str=>.str
 |_,_,.tup h r=>.tup (h.imp (λz=>e.pu _ _ z.1 z.2) λz=>z) (Reps.ext0 e r)
 |_,_,.lst h p r=>.lst (e.el _ _ h (by intro _ z;cases z) p) (e.pu _ _ (.inl h) p).2 (Reps.ext0 e r)
 |_,_,.seq h r=>.seq (h.imp (λ⟨⟨o,z⟩,p⟩=>⟨⟨o,e.el _ _ z (by intro _ z;cases z) p⟩,(e.pu _ _ (.inl z) p).2⟩) λz=>z) (Reps.ext0 e r)
 |_,_,.dct h p r=>.dct (e.pu _ _ h p).1 (e.pu _ _ h p).2 (RepKs.ext0 e r)
 |_,_,.ref (n:=n) h=>by rw[<-e.ad _ h];exact .ref (ay h e.nx)
 |_,_,.exc h p=>.exc (e.el _ _ h (by intro _ z;cases z) p) (e.pu _ _ (.inl h) p).2
 |_,_,.clo r=>.clo (Reps.ext0 e r)
theorem Reps.ext0{K}{H H'}{m m'}{s s'}(e:ExtR H m s H' m' s'):∀{v:List V}{p:List PV},Reps K H m s v p->Reps K H' m' s' v p
 |_,_,.nil=>.nil
 |_,_,.cons a b=>.cons (Rep.ext0 e a) (Reps.ext0 e b)
theorem RepKs.ext0{K}{H H'}{m m'}{s s'}(e:ExtR H m s H' m' s'):∀{v:List (Key×V)}{p:List (Key×PV)},RepKs K H m s v p->RepKs K H' m' s' v p
 |_,_,.nil=>.nil
 |_,_,.cons a b=>.cons (Rep.ext0 e a) (RepKs.ext0 e b)
end
def Rep.ext{K}{H H'}{m m'}{s s'}(e:Ext H m s H' m' s'){v}{p}(r:Rep K H m s v p):Rep K H' m' s' v p:=r.ext0 e.toExtR
def Reps.ext{K}{H H'}{m m'}{s s'}(e:Ext H m s H' m' s'){v}{p}(r:Reps K H m s v p):Reps K H' m' s' v p:=r.ext0 e.toExtR
def RepKs.ext{K}{H H'}{m m'}{s s'}(e:Ext H m s H' m' s'){v}{p}(r:RepKs K H m s v p):RepKs K H' m' s' v p:=r.ext0 e.toExtR
mutual
inductive Old (k:Nat):PV->Prop
 |non:Old k .non
 |bl {b:Bool}:Old k (.bl b)
 |int {i:Int}:Old k (.int i)
 |str {x:Str}:Old k (.str x)
 |tup {l:List PV}:Olds k l->Old k (.tup l)
 |lst {l:List PV}:Olds k l->Old k (.lst l)
 |seq {l:List PV}:Olds k l->Old k (.seq l)
 |dct {l:List (Key×PV)}:OldKs k l->Old k (.dct l)
 |ref {n:Nat}:n<k->Old k (.ref n)
 |exc {c:ak}:Old k (.exc c)
 |clo {a:ak}{vs:List V}{l:List PV}:Olds k l->Old k (.clo a vs l)
inductive Olds (k:Nat):List PV->Prop
 |nil:Olds k []
 |cons {p:PV}{l:List PV}:Old k p->Olds k l->Olds k (p::l)
inductive OldKs (k:Nat):List (Key×PV)->Prop
 |nil:OldKs k []
 |cons {q:Key}{p:PV}{l:List (Key×PV)}:Old k p->OldKs k l->OldKs k ((q,p)::l)
end
structure Sub(m:Mp)(s:Sto)(m':Mp)(s':Sto):Prop where
 pu:∀a,Pur m s a->Pur m' s' a
 ad:∀n,n<s'.nx->m'.ad n=m.ad n
mutual
theorem Rep.sub{K}{H}{m m'}{s s'}(e:Sub m s m' s'):∀{v:V}{p:PV},Old s'.nx p->Rep K H m s v p->Rep K H m' s' v p
 |_,_,_,.non=>.non
 |_,_,_,.bl=>.bl
 |_,_,_,.int=>.int
 |_,_,_,.str=>.str
 |_,_,.tup o,.tup h r=>.tup (h.imp (λz=>⟨z.1,e.pu _ z.2⟩) λz=>z) (Reps.sub e o r)
 |_,_,.lst o,.lst h p r=>.lst h (e.pu _ p) (Reps.sub e o r)
 |_,_,.seq o,.seq h r=>.seq (h.imp (λz=>⟨z.1,e.pu _ z.2⟩) λz=>z) (Reps.sub e o r)
 |_,_,.dct o,.dct h p r=>.dct h (e.pu _ p) (RepKs.sub e o r)
 |_,_,.ref o,.ref _=>by rw[<-e.ad _ o];exact .ref o
 |_,_,_,.exc h p=>.exc h (e.pu _ p)
 |_,_,.clo o,.clo r=>.clo (Reps.sub e o r)
theorem Reps.sub{K}{H}{m m'}{s s'}(e:Sub m s m' s'):∀{v:List V}{p:List PV},Olds s'.nx p->Reps K H m s v p->Reps K H m' s' v p
 |_,_,_,.nil=>.nil
 |_,_,.cons o q,.cons a b=>.cons (Rep.sub e o a) (Reps.sub e q b)
theorem RepKs.sub{K}{H}{m m'}{s s'}(e:Sub m s m' s'):∀{v:List (Key×V)}{p:List (Key×PV)},OldKs s'.nx p->RepKs K H m s v p->RepKs K H m' s' v p
 |_,_,_,.nil=>.nil
 |_,_,.cons o q,.cons a b=>.cons (Rep.sub e o a) (RepKs.sub e q b)
end
mutual
theorem Rep.old{K}{H}{m}{s}:∀{v:V}{p:PV},Rep K H m s v p->Old s.nx p
 |_,_,.non=>.non
 |_,_,.bl=>.bl
 |_,_,.int=>.int
 |_,_,.str=>.str
 |_,_,.tup _ r=>.tup (Reps.old r)
 |_,_,.lst _ _ r=>.lst (Reps.old r)
 |_,_,.seq _ r=>.seq (Reps.old r)
 |_,_,.dct _ _ r=>.dct (RepKs.old r)
 |_,_,.ref h=>.ref h
 |_,_,.exc _ _=>.exc
 |_,_,.clo r=>.clo r.old
theorem Reps.old{K}{H}{m}{s}:∀{v:List V}{p:List PV},Reps K H m s v p->Olds s.nx p
 |_,_,.nil=>.nil
 |_,_,.cons a b=>.cons (Rep.old a) (Reps.old b)
theorem RepKs.old{K}{H}{m}{s}:∀{v:List (Key×V)}{p:List (Key×PV)},RepKs K H m s v p->OldKs s.nx p
 |_,_,.nil=>.nil
 |_,_,.cons a b=>.cons (Rep.old a) (RepKs.old b)
end
def RepFs(K:aa)(H:Hp)(m:Mp)(s:Sto)(Qp:List (Str×V))(fs:List (Str×PV)):Prop:=Qp.map (·.1)=fs.map (·.1)/\Reps K H m s (Qp.map (·.2)) (fs.map (·.2))
def RepTs(K:aa)(H:Hp)(m:Mp)(s:Sto)(Qp:List (List Key×V))(fs:List (List Key×PV)):Prop:=Qp.map (·.1)=fs.map (·.1)/\Reps K H m s (Qp.map (·.2)) (fs.map (·.2))
def CellOk(K:aa)(CB:ak)(H:Hp)(m:Mp)(s:Sto)(n:Nat):Cell->Prop
 |.lst l=>m.fp n=[m.ad n]/\∃vs,H (m.ad n)=Za (.lst vs)/\Reps K H m s vs l
 |.dct l=>m.fp n=[m.ad n]/\∃vs,H (m.ad n)=Za (.dK vs)/\RepKs K H m s vs l
 |.dfz l=>m.fp n=[m.ad n]/\∃ob vs,H (m.ad n)=Za (.frz ob (.dK vs))/\RepKs K H m s vs l
 |.book pp L=>∃z L',My.BookAt K CB H (m.ad n) z pp L'/\L'.map (·.1)=L/\m.fp n=My.BFp (m.ad n) z L'
 |.obj C fs=>m.fp n=[m.ad n]/\∃dx Qp,H (m.ad n)=Za (.ins C dx Qp)/\RepFs K H m s Qp fs
 |.dtt l=>m.fp n=[m.ad n]/\∃vs,H (m.ad n)=Za (.dT vs)/\RepTs K H m s vs l
structure SR(K:aa)(CB:ak)(H:Hp)(m:Mp)(s:Sto):Prop where
 nd:(s.cs.map (·.1)).Nodup
 lt:∀n∈s.cs.map (·.1),n<s.nx
 ok:∀q∈s.cs,CellOk K CB H m s q.1 q.2
 dj:∀n∈s.cs.map (·.1),∀k∈s.cs.map (·.1),n≠k->∀a∈m.fp n,a∉m.fp k
 hx:∀n∈s.cs.map (·.1),∀a∈m.fp n,a∉m.hid
 hs:∀a∈m.hid,H a≠Zb/\∀xs o,H a≠Za (.tup xs)/\H a≠Za (.frz o (.tup xs))/\H a≠Za (.frz o (.lst xs))/\∀x,H a≠Za (.frz o (.own x))
 tb:∀P q,Tab K P q->P∈m.hid/\Nv H P q
def SR.tbk{K}{CB}{H H'}{m}{s}(S:SR K CB H m s)(e:TbS H H'):∀P q,Tab K P q->P∈m.hid/\Nv H' P q:=λP q t=>⟨(S.tb P q t).1,e.2 P q (S.tb P q t).2⟩
def CellOk.kind{K}{CB}{H}{m}{s}{n}{c}(h:CellOk K CB H m s n c){a}(ha:a∈m.fp n):∃o,H a=Za o/\(∀xs,o≠.tup xs)/\(∀ob xs,o≠.frz ob (.tup xs)/\o≠.frz ob (.lst xs))/\¬Odd o:=by
 cases c with
 |lst l=>obtain⟨e,vs,h,_⟩:=h;rw[e,ap] at ha;subst ha;exact⟨_,h,(by intro _ z;cases z),(λ_ _=>⟨(by intro z;cases z),(by intro z;cases z)⟩),AI⟩
 |dct l=>obtain⟨e,vs,h,_⟩:=h;rw[e,ap] at ha;subst ha;exact⟨_,h,(by intro _ z;cases z),(λ_ _=>⟨(by intro z;cases z),(by intro z;cases z)⟩),E2⟩
 |dfz l=>obtain⟨e,ob,vs,h,_⟩:=h;rw[e,ap] at ha;subst ha;exact⟨_,h,(by intro _ z;cases z),(λ_ _=>⟨(by intro z;cases z),(by intro z;cases z)⟩),Oh⟩
 |obj C fs=>obtain⟨e,dx,vs,h,_⟩:=h;rw[e,ap] at ha;subst ha;exact⟨_,h,(by intro _ z;cases z),(λ_ _=>⟨(by intro z;cases z),(by intro z;cases z)⟩),J3⟩
 |dtt l=>obtain⟨e,vs,h,_⟩:=h;rw[e,ap] at ha;subst ha;exact⟨_,h,(by intro _ z;cases z),(λ_ _=>⟨(by intro z;cases z),(by intro z;cases z)⟩),no_dT⟩
 |book pp L =>
  obtain⟨z,L',B,_,e⟩:=h;rw[e] at ha;unfold My.BFp at ha;have d:∀{c:ak}{kvs:List (Key×V)},H c=Za (.dK kvs)->∃o,H c=Za o/\(∀xs,o≠.tup xs)/\(∀ob xs,o≠.frz ob (.tup xs)/\o≠.frz ob (.lst xs))/\¬Odd o:=λh=>⟨_,h,(by intro _ z;cases z),(λ_ _=>⟨(by intro z;cases z),(by intro z;cases z)⟩),E2⟩;simp only[af] at ha;rcases ha with rfl|rfl|rfl|rfl|rfl|rfl|ha
  ·exact⟨_,B.ob,(by intro _ z;cases z),(λ_ _=>⟨(by intro z;cases z),(by intro z;cases z)⟩),J3⟩
  ·exact d B.pp
  ·exact d B.tt
  ·exact d B.mm
  ·exact d B.ll
  ·obtain⟨T,e,_⟩:=B.hh;exact d e
  ·obtain⟨q,hq,rfl⟩:=ah.mp ha;obtain⟨ts,_,h2,_⟩:=B.he q hq;exact d h2
def SR.pure_none{K}{CB}{H}{m}{s}(S:SR K CB H m s){a}(h:H a=Zb):Pur m s a:=⟨λz=>(S.hs a z).1 h,λn hn ha=>by obtain⟨q,hq,rfl⟩:=ah.mp hn;obtain⟨o,e,_⟩:=(S.ok q hq).kind ha;rw[h] at e;cases e⟩
def SR.pure_tup{K}{CB}{H}{m}{s}(S:SR K CB H m s){a}{xs}(h:H a=Za (.tup xs)):Pur m s a:=⟨λz=>((S.hs a z).2 xs default).1 h,λn hn ha=>by obtain⟨q,hq,rfl⟩:=ah.mp hn;obtain⟨o,e,k,_⟩:=(S.ok q hq).kind ha;rw[h] at e;cases e;exact k _ rfl⟩
def SR.pure_frz{K}{CB}{H}{m}{s}(S:SR K CB H m s){a}{ob}{xs}(h:H a=Za (.frz ob (.tup xs))\/H a=Za (.frz ob (.lst xs))):Pur m s a:=⟨λz=>h.elim (λh=>((S.hs a z).2 xs ob).2.1 h) λh=>((S.hs a z).2 xs ob).2.2.1 h,λn hn ha=>by
 obtain⟨q,hq,rfl⟩:=ah.mp hn;obtain⟨o,e,_,k,_⟩:=(S.ok q hq).kind ha;rcases h with h|h<;>(rw[h] at e;cases e)
 ·exact(k _ _).1 rfl
 ·exact(k _ _).2 rfl⟩
def SqT.keepX{K}{CB}{H H'}{m m'}{s s'}(S:SR K CB H m s)(e:ExtR H m s H' m' s'){t}{xs}(h:SqT K H t xs):SqT K H' t xs:=by
 rcases h with h|h
 ·exact .inl (e.pu _ _ h (h.elim (λh=>S.pure_tup h) λ⟨_,h⟩=>S.pure_frz (.inl h))).1
 ·exact .inr h
def RepFs.ext{K}{H H'}{m m'}{s s'}(e:ExtR H m s H' m' s'){a}{b}(h:RepFs K H m s a b):RepFs K H' m' s' a b:=⟨h.1,h.2.ext0 e⟩
theorem CellOk.keep{K}{CB}{H H'}{m m'}{s s'}{n}{c}(S:SR K CB H m s)(e:ExtR H m s H' m' s')(k:∀a∈m.fp n,∀o,H a=Za o->H' a=Za o)(ha:m'.ad n=m.ad n)(hf:m'.fp n=m.fp n)(h:CellOk K CB H m s n c):CellOk K CB H' m' s' n c:=by
 cases c with
 |lst l=>obtain⟨e1,vs,h,r⟩:=h;exact⟨by rw[ha,hf];exact e1,vs,by rw[ha];exact k _ (by rw[e1];simp) _ h,r.ext0 e⟩
 |dct l=>obtain⟨e1,vs,h,r⟩:=h;exact⟨by rw[ha,hf];exact e1,vs,by rw[ha];exact k _ (by rw[e1];simp) _ h,r.ext0 e⟩
 |dfz l=>obtain⟨e1,ob,vs,h,r⟩:=h;exact⟨by rw[ha,hf];exact e1,ob,vs,by rw[ha];exact k _ (by rw[e1];simp) _ h,r.ext0 e⟩
 |obj C fs=>obtain⟨e1,dx,vs,h,r⟩:=h;exact⟨by rw[ha,hf];exact e1,dx,vs,by rw[ha];exact k _ (by rw[e1];simp) _ h,RepFs.ext e r⟩
 |dtt l=>obtain⟨e1,vs,h,r⟩:=h;exact⟨by rw[ha,hf];exact e1,vs,by rw[ha];exact k _ (by rw[e1];simp) _ h,⟨r.1,r.2.ext0 e⟩⟩
 |book pp L =>
  obtain⟨z,L',B,e1,e2⟩:=h;rw[e2] at k;have kb:∀a∈My.BFp (m.ad n) z L',∀o,H a=Za o->H' a=Za o:=k;refine⟨z,L',?_,e1,by rw[ha,hf];exact e2⟩;rw[ha];refine⟨kb _ (by simp[My.BFp]) _ B.ob,kb _ (by simp[My.BFp]) _ B.pp,kb _ (by simp[My.BFp]) _ B.tt,kb _ (by simp[My.BFp]) _ B.mm,kb _ (by simp[My.BFp]) _ B.ll,B.hh.keep (λo h=>kb _ (by simp[My.BFp]) _ h),λq hq=>?_,B.nd,B.p6,B.h8⟩;obtain⟨ts,h1,h2,h3⟩:=B.he q hq;refine⟨ts,h1,kb _ ?_ _ h2,λy hy=>(h3 y hy).keepX S e⟩;unfold My.BFp;simp only[af];right;right;right;right;right;right;exact ah.mpr ⟨q,hq,rfl⟩
theorem SR.same{K}{CB}{H H'}{m}{s}(S:SR K CB H m s)(k:Same H H'):SR K CB H' m s :=
 ⟨S.nd,S.lt,λq hq=>(S.ok q hq).keep S (Ext.same k).toExtR (λa _ o h=>k a o h) rfl rfl,S.dj,S.hx,λa ha=>by
  obtain⟨h1,h2⟩:=S.hs a ha;cases e:H a with
  |none=>exact absurd e h1
  |some o =>
   rw[k a o e];rw[e] at h2;exact⟨by simp,h2⟩,S.tbk (.same k)⟩
theorem SR.get{K}{CB}{H}{m}{s}(S:SR K CB H m s){n}{c}(h:s.get n=Za c):CellOk K CB H m s n c:=S.ok _ (oQ h)
def Mp.fput(m:Mp)(n:Nat)(f':List ak):Mp:=⟨m.ad,λj=>if j=n then f' else m.fp j,m.hid⟩
def SR.hsk{K}{CB}{H H'}{m}{s}(S:SR K CB H m s)(k:∀a∈m.hid,∀o,H a=Za o->(∀ps,o≠.tbl ps)->H' a=Za o)(kt:TbS H H'):∀a∈m.hid,H' a≠Zb/\∀xs o,H' a≠Za (.tup xs)/\H' a≠Za (.frz o (.tup xs))/\H' a≠Za (.frz o (.lst xs))/\∀x,H' a≠Za (.frz o (.own x)):=λa ha=>by
 obtain⟨h1,h2⟩:=S.hs a ha;cases e:H a with
 |none=>exact absurd e h1
 |some o =>
  by_cases t:∃ps,o=.tbl ps
  ·obtain⟨ps,t⟩:=t;rw[t] at e;obtain⟨RV,e'⟩:=kt.1 a ps e;rw[e'];exact⟨by simp,λ_ _=>⟨by simp,by simp,by simp,by simp⟩⟩
  rw[k a ha o e λps z=>t ⟨ps,z⟩];rw[e] at h2;exact⟨by simp,h2⟩
def SR.put'{K}{CB}{H}{m}{s}(S:SR K CB H m s){n}{c c'}(hn:s.get n=Za c)(H')(f')(k:∀a o,H a=Za o->a∉m.fp n->H' a=Za o)(Qi:∀a∈f',a∈m.fp n\/H a=Zb)(hok:ExtR H m s H' (m.fput n f') (s.set n c')->CellOk K CB H' (m.fput n f') (s.set n c') n c') :
  SR K CB H' (m.fput n f') (s.set n c')/\ExtR H m s H' (m.fput n f') (s.set n c')/\((∀l,c≠.dfz l)->Ext H m s H' (m.fput n f') (s.set n c')):=by
 have P5:n∈s.cs.map (·.1):=ah.mpr ⟨_,oQ hn,rfl⟩;have hkd:∀a∈m.hid,∀o,H a=Za o->(∀ps,o≠.tbl ps)->H' a=Za o:=λa ha o h _=>k a o h λz=>S.hx n P5 a z ha;have htb:TbS H H':=.of λa o h od=>k a o h λz=>by obtain⟨o',e',_,_,no⟩:=(S.get hn).kind z;rw[h] at e';cases e';exact no od
 have hx:ExtR H m s H' (m.fput n f') (s.set n c'):=by
  refine⟨ao _,λ_ _=>rfl,λa u h p=>?_,λa u h _ p=>k _ _ h (p.2 n P5)⟩;have PH:∃o,H a=Za o:=h.elim (λh=>⟨_,h⟩) λ⟨o,h⟩=>⟨_,h⟩;refine⟨h.elim (λh=>.inl (k _ _ h (p.2 n P5))) λ⟨o,h⟩=>.inr ⟨o,k _ _ h (p.2 n P5)⟩,p.1,λj hj hm=>?_⟩;have hm:a∈(if j=n then f' else m.fp j):=hm;have Rw:j∈s.cs.map (·.1):=by rw[<-pX (n:=n) (c:=c')];exact hj
  by_cases e:j=n
  ·simp only[e,Zc] at hm;rcases Qi a hm with z|z
   ·exact p.2 n P5 z
   ·obtain⟨o,ho⟩:=PH;rw[z] at ho;cases ho
  ·simp only[Zd e] at hm;exact p.2 j Rw hm
 refine⟨⟨?_,?_,λq hq=>?_,λj hj i hi PH a ha hb=>?_,λj hj a ha hb=>?_,S.hsk hkd htb,S.tbk htb⟩,hx,λhnd=>⟨⟨hx,λj l hj h=>?_⟩,rfl,hkd⟩⟩
 ·show((tL n c' s.cs).map (·.1)).Nodup;rw[pX];exact S.nd
 ·intro j hj;have Rw:j∈s.cs.map (·.1):=by rw[<-pX (n:=n) (c:=c')];exact hj
  exact S.lt j Rw
 ·rcases DJ S.nd hq with rfl|⟨hq,PH⟩
  ·exact hok hx
  ·refine(S.ok q hq).keep S hx (λa ha o h=>k a o h (S.dj _ (ah.mpr ⟨q,hq,rfl⟩) _ P5 PH a ha)) rfl ?_;show(if q.1=n then f' else m.fp q.1)=_;rw[Zd PH]
 ·have ha:a∈(if j=n then f' else m.fp j):=ha;have hb:a∈(if i=n then f' else m.fp i):=hb;have Rw:j∈s.cs.map (·.1):=by rw[<-pX (n:=n) (c:=c')];exact hj
  have Sa:i∈s.cs.map (·.1):=by rw[<-pX (n:=n) (c:=c')];exact hi
  have PN:∀j∈s.cs.map (·.1),∀a∈m.fp j,H a≠none:=λj hj a ha z=>by obtain⟨q,hq,rfl⟩:=ah.mp hj;obtain⟨o,e,_⟩:=(S.ok q hq).kind ha;rw[z] at e;cases e
  by_cases e1:j=n
  ·have e2:i≠n:=λz=>PH (e1.trans z.symm);simp only[e1,Zc] at ha;simp only[Zd e2] at hb;rcases Qi a ha with z|z
   ·exact S.dj _ P5 _ Sa (λz=>e2 z.symm) a z hb
   ·exact PN i Sa a hb z
  ·simp only[Zd e1] at ha;by_cases e2:i=n
   ·simp only[e2,Zc] at hb;rcases Qi a hb with z|z
    ·exact S.dj _ Rw _ P5 e1 a ha z
    ·exact PN j Rw a ha z
   ·simp only[Zd e2] at hb;exact S.dj _ Rw _ Sa PH a ha hb
 ·have ha:a∈(if j=n then f' else m.fp j):=ha;have Rw:j∈s.cs.map (·.1):=by rw[<-pX (n:=n) (c:=c')];exact hj
  by_cases e1:j=n
  ·rw[Zc e1] at ha;rcases Qi a ha with z|z
   ·exact S.hx n P5 a z hb
   ·exact(S.hs a hb).1 z
  ·rw[Zd e1] at ha;exact S.hx j Rw a ha hb
 ·have hjn:j≠n:=λz=>by subst z;have h:s.get j=Za (.dfz l):=h;rw[hn] at h;exact hnd l (aP h)
  refine⟨(uw hjn).trans h,λo ho=>?_⟩;obtain⟨e1,_⟩:=S.ok _ (oQ h);exact k _ _ ho (S.dj j (ah.mpr ⟨_,oQ h,rfl⟩) n P5 hjn _ (by rw[e1];simp))
def SR.put{K}{CB}{H}{m}{s}(S:SR K CB H m s){n}{c c'}(hn:s.get n=Za c)(hnd:∀l,c≠.dfz l)(H')(f')(k:∀a o,H a=Za o->a∉m.fp n->H' a=Za o)(Qi:∀a∈f',a∈m.fp n\/H a=Zb)(hok:ExtR H m s H' (m.fput n f') (s.set n c')->CellOk K CB H' (m.fput n f') (s.set n c') n c'):SR K CB H' (m.fput n f') (s.set n c')/\Ext H m s H' (m.fput n f') (s.set n c') :=
 let⟨a,_,b⟩:=S.put' hn H' f' k Qi hok;⟨a,b hnd⟩
def Mp.add(m:Mp)(n:Nat)(p:ak)(f:List ak):Mp:=⟨λj=>if j=n then p else m.ad j,λj=>if j=n then f else m.fp j,m.hid⟩
theorem SR.add{K}{CB}{H}{m}{s}(S:SR K CB H m s){c}(H')(p)(f)(k:Same H H')(hf:∀a∈f,H a=Zb)(hok:Ext H m s H' (m.add s.nx p f) (s.add c)->CellOk K CB H' (m.add s.nx p f) (s.add c) s.nx c) :
  SR K CB H' (m.add s.nx p f) (s.add c)/\Ext H m s H' (m.add s.nx p f) (s.add c):=by
 have Ps:∀j∈s.cs.map (·.1),j≠s.nx:=λj hj=>aG (S.lt j hj);have PN:∀j∈s.cs.map (·.1),∀a∈m.fp j,H a≠none:=λj hj a ha z=>by obtain⟨q,hq,rfl⟩:=ah.mp hj;obtain⟨o,e,_⟩:=(S.ok q hq).kind ha;rw[z] at e;cases e
 have hx:Ext H m s H' (m.add s.nx p f) (s.add c):=by
  refine⟨⟨⟨fS _,λj hj=>?_,λa u h q=>⟨h.same k,q.1,λj hj hm=>?_⟩,λa u h _ _=>k _ _ h⟩,λj l hj h=>⟨?_,λo ho=>k _ _ ho⟩⟩,rfl,λa _ o h _=>k a o h⟩
  rotate_left 2
  ·show ql ((s.nx,c)::s.cs) j=_;unfold ql;rw[Zd (λz=>aG hj z.symm)];exact h
  ·show(if j=s.nx then p else m.ad j)=_;rw[Zd (aG hj)]
  ·have hm:a∈(if j=s.nx then f else m.fp j):=hm;rcases af.mp (show j∈s.nx::s.cs.map (·.1) from hj) with e|hj
   ·rw[Zc e] at hm;have:=hf a hm;rcases h with h|⟨o,h⟩<;>(rw[this] at h;cases h)
   ·rw[Zd (Ps j hj)] at hm;exact q.2 j hj hm
 have QK:∀j∈s.cs.map (·.1),(m.add s.nx p f).fp j=m.fp j:=λj hj=>by show(if j=s.nx then f else m.fp j)=_;rw[Zd (Ps j hj)]
 have QP:(m.add s.nx p f).fp s.nx=f:=by show(if s.nx=s.nx then f else _)=_;rw[Zc rfl]
 refine⟨⟨?_,?_,λq hq=>?_,λj hj i hi PH a ha hb=>?_,λj hj a ha hb=>?_,S.hsk hx.hk (.same k),S.tbk (.same k)⟩,hx⟩
 ·exact aI.mpr ⟨λz=>Ps _ z rfl,S.nd⟩
 ·intro j hj;rcases af.mp (show j∈s.nx::s.cs.map (·.1) from hj) with e|hj
  ·rw[e];exact cC _
  ·exact cj (S.lt j hj)
 ·rcases af.mp (show q∈(s.nx,c)::s.cs from hq) with rfl|hq
  ·exact hok hx
  ·have Ti:q.1∈s.cs.map (·.1):=ah.mpr ⟨q,hq,rfl⟩;exact(S.ok q hq).keep S hx.toExtR (λa ha o h=>k a o h) (hx.ad _ (S.lt _ Ti)) (QK _ Ti)
 ·rcases af.mp (show j∈s.nx::s.cs.map (·.1) from hj) with e|hj<;>rcases af.mp (show i∈s.nx::s.cs.map (·.1) from hi) with e'|hi
  ·exact PH (e.trans e'.symm)
  ·rw[e,QP] at ha;rw[QK i hi] at hb;exact PN i hi a hb (hf a ha)
  ·rw[QK j hj] at ha;rw[e',QP] at hb;exact PN j hj a ha (hf a hb)
  ·rw[QK j hj] at ha;rw[QK i hi] at hb;exact S.dj j hj i hi PH a ha hb
 ·rcases af.mp (show j∈s.nx::s.cs.map (·.1) from hj) with e|hj
  ·rw[e,QP] at ha;exact(S.hs a hb).1 (hf a ha)
  ·rw[QK j hj] at ha;exact S.hx j hj a ha hb
theorem SR.del{K}{CB}{H}{m}{s}(S:SR K CB H m s)(n)(hnd:∀l,s.get n≠Za (.dfz l)):SR K CB H m (s.del n)/\Ext H m s H m (s.del n):=by
 have P5:∀j∈(s.del n).cs.map (·.1),j∈s.cs.map (·.1):=λj hj=>by obtain⟨q,hq,rfl⟩:=ah.mp hj;exact ah.mpr ⟨q,uQ hq,rfl⟩
 have hx:Ext H m s H m (s.del n):=⟨⟨⟨ao _,λ_ _=>rfl,λa u h p=>⟨h,p.1,λj hj=>p.2 j (P5 j hj)⟩,λ_ _ h _ _=>h⟩,λj l hj h=>⟨(xR (λz=>hnd l (by rw[<-z];exact h))).trans h,λo h=>h⟩⟩,rfl,λ_ _ _ h _=>h⟩;exact⟨⟨Gy S.nd,λj hj=>S.lt j (P5 j hj),λq hq=>(S.ok q (uQ hq)).keep S hx.toExtR (λ_ _ _ h=>h) rfl rfl,λj hj i hi=>S.dj j (P5 j hj) i (P5 i hi),λj hj=>S.hx j (P5 j hj),S.hs,S.tb⟩,hx⟩
inductive Out (α:Type) where
 |ok (a:α) (s:Sto)|ex (c:ak) (s:Sto)|bad
noncomputable def Out.bind{α β:Type}(o:Out α)(k:α->Sto->Out β):Out β:=match o with
 |.ok a s=>k a s
 |.ex c s=>.ex c s
 |.bad=>.bad
abbrev En:=List (Option PV)
abbrev XE:=En->Sto->Out PV
abbrev XT:=En->Sto->Out Bool
abbrev XA:=En->Sto->Out (List PV)
inductive SO where
 |nx (Z:En) (s:Sto)|rt (v:PV) (s:Sto)|bk (Z:En) (s:Sto)|ct (Z:En) (s:Sto)|ex (c:ak) (s:Sto)|bad
abbrev XS:=En->Sto->SO
def Post{α β:Type}(K:aa)(CB:ak)(R:Hp->Mp->Sto->β->α->Prop)(E:XK)(o:Out α)(H:Hp)(m:Mp)(s:Sto)(Q:β->Hp->Prop):Prop:=match o with
 |.ok v s'=>∀u H' m',Ext H m s H' m' s'->SR K CB H' m' s'->R H' m' s' u v->Q u H'
 |.ex c s'=>∀H' m',Ext H m s H' m' s'->SR K CB H' m' s'->E (.ref c) Zb H'
 |.bad=>False
def Post.shift{α β:Type}{K}{CB}{R}{E}{o:Out α}{H H1}{m m1}{s s1}{Q:β->Hp->Prop}(e:Ext H m s H1 m1 s1)(h:Post K CB R E o H m s Q):Post K CB R E o H1 m1 s1 Q:=by
 cases o with
 |ok v s'=>exact λu H' m' x S r=>h u H' m' (e.trans x) S r
 |ex c s'=>exact λH' m' x S=>h H' m' (e.trans x) S
 |bad=>exact h
theorem Post.bind{α β α' β':Type}{K}{CB}{R}{R'}{E}{o:Out α}{k:α->Sto->Out α'}{H}{m}{s}{Q:β'->Hp->Prop}{Q1:β->Hp->Prop}(h:Post K CB R' E (o.bind k) H m s Q)(f:∀v s1 u H1 m1,Ext H m s H1 m1 s1->SR K CB H1 m1 s1->R H1 m1 s1 u v->Post K CB R' E (k v s1) H1 m1 s1 Q->Q1 u H1):Post K CB R E o H m s Q1:=by
 cases o with
 |ok v s1=>exact λu H1 m1 x S r=>f v s1 u H1 m1 x S r (Post.shift x h)
 |ex c s'=>exact h
 |bad=>exact h
def Post.here{α β:Type}{K}{CB}{R}{E}{v:α}{H}{m}{s}{Q:β->Hp->Prop}{u:β}(h:Post K CB R E (.ok v s) H m s Q)(S:SR K CB H m s)(r:R H m s u v):Q u H:=h u H m .refl S r
def Post.new{α β:Type}{K}{CB}{R}{E}{v:α}{H}{m}{s}{Q:β->Hp->Prop}{u:β}{p}{o}(h:Post K CB R E (.ok v s) H m s Q)(S:SR K CB H m s)(hp:H p=Zb)(r:Ext H m s (upd H p o) m s->SR K CB (upd H p o) m s->R (upd H p o) m s u v):Q u (upd H p o):=by
 have k:Same H (upd H p o):=My.sF hp;exact h u _ m (.same k) (S.same k) (r (.same k) (S.same k))
structure ER(K:aa)(H:Hp)(m:Mp)(s:Sto)(O:St)(Z:En):Prop where
 len:Z.length=O.length
 at_:∀(i:Nat)(p:PV),Z[i]?=Za (Za p)->∃u,O[i]?=Za (Za u)/\Rep K H m s u p
theorem ER.ext{K}{H H'}{m m'}{s s'}{O}{Z}(h:ER K H m s O Z)(e:Ext H m s H' m' s'):ER K H' m' s' O Z :=
 ⟨h.len,λi p q=>let⟨u,a,b⟩:=h.at_ i p q;⟨u,a,b.ext e⟩⟩
theorem ER.set{K}{H}{m}{s}{O}{Z}{u}{p}(h:ER K H m s O Z)(i)(r:Rep K H m s u p):ER K H m s (O.set i (Za u)) (Z.set i (Za p)):=by
 refine⟨by simp[h.len],λj q e=>?_⟩;rw[List.getElem?_set] at e ⊢;by_cases c:i=j
 ·rw[Zc c] at e ⊢;by_cases d:i<Z.length
  ·rw[Zc d] at e;rw[Zc (by rw[<-h.len];exact d)];cases e;exact⟨u,rfl,r⟩
  ·rw[Zd d] at e;cases e
 ·rw[Zd c] at e ⊢;exact h.at_ j q e
def ER.cons{K}{H}{m}{s}{O}{Z}{u}{p}(h:ER K H m s O Z)(r:Rep K H m s u p):ER K H m s (Za u::O) (Za p::Z):=by
 refine⟨by simp[h.len],λj q e=>?_⟩;cases j with
 |zero=>simp at e;subst e;exact⟨u,rfl,r⟩
 |succ j=>exact h.at_ j q (by simpa using e)
theorem ER.start{K}{H}{m}{s}:∀{vs:List V}{ps:List PV},Reps K H m s vs ps->∀n,ER K H m s (vs.map Za++aR n Zb) (ps.map Za++aR n Zb)
 |_,_,.nil,n=>⟨by simp,λi p e=>by
   have e:(aR n (Zb:Option PV))[i]?=Za (Za p):=by simpa using e
   rw[gK] at e;split at e<;>cases e⟩
 |_,_,.cons a b,n=>(ER.start b n).cons a
def nC(ix:List Nat)(Z:En):En:=ix.map λi=>(Z[i]?).getD Zb
theorem ER.capt{K}{H}{m}{s}{O}{Z}(h:ER K H m s O Z)(ix):ER K H m s (capt ix O) (nC ix Z):=by
 refine⟨by simp[L2.capt,nC],λj q e=>?_⟩;unfold nC at e;unfold L2.capt;rw[aC] at e ⊢;cases c:ix[j]? with
 |none=>rw[c] at e;cases e
 |some i =>
  rw[c] at e;have e:(Z[i]?).getD Zb=Za q:=aP e;cases d:Z[i]? with
  |none=>rw[d] at e;cases e
  |some o =>
   rw[d] at e;have e:o=Za q:=e;subst e;obtain⟨u,h1,h2⟩:=h.at_ i q d;refine⟨u,?_,h2⟩;show Za ((O[i]?).getD Zb)=_;rw[h1];rfl
def TDE(K:aa)(CB:ak)(E:XK)(f:XE):TE:=λO H Q=>∃Z s m,ER K H m s O Z/\SR K CB H m s/\Post K CB (Rep K) E (f Z s) H m s Q
def TDT(K:aa)(CB:ak)(E:XK)(f:XT):TT:=λO H Q=>∃Z s m,ER K H m s O Z/\SR K CB H m s/\Post K CB (λ_ _ _ u v=>u=v) E (f Z s) H m s Q
def TDA(K:aa)(CB:ak)(E:XK)(f:XA):TA:=λO H Q=>∃Z s m,ER K H m s O Z/\SR K CB H m s/\Post K CB (Reps K) E (f Z s) H m s Q
def PostS(K:aa)(CB:ak)(E:XK)(o:SO)(H:Hp)(m:Mp)(s:Sto)(D:Ends):Prop:=match o with
 |.nx ρ' s'=>∀σ' H' m',Ext H m s H' m' s'->SR K CB H' m' s'->ER K H' m' s' σ' ρ'->D.nx σ' H'
 |.rt v s'=>∀u H' m',Ext H m s H' m' s'->SR K CB H' m' s'->Rep K H' m' s' u v->D.rt u H'
 |.bk ρ' s'=>∀σ' H' m',Ext H m s H' m' s'->SR K CB H' m' s'->ER K H' m' s' σ' ρ'->D.bk σ' H'
 |.ct ρ' s'=>∀σ' H' m',Ext H m s H' m' s'->SR K CB H' m' s'->ER K H' m' s' σ' ρ'->D.ct σ' H'
 |.ex c s'=>∀H' m',Ext H m s H' m' s'->SR K CB H' m' s'->E (.ref c) Zb H'
 |.bad=>False
def TDS(K:aa)(CB:ak)(E:XK)(g:XS):TS:=λD O H=>∃Z s m,ER K H m s O Z/\SR K CB H m s/\PostS K CB E (g Z s) H m s D
def oE{K:aa}{CB:ak}{H:Hp}{O:St}{Zj:En->Sto->Mp->Prop}{R:Prop}(k:∀Z s m,ER K H m s O Z->SR K CB H m s->Zj Z s m->R)(h:∃Z s m,ER K H m s O Z/\SR K CB H m s/\Zj Z s m):R:=h.elim λZ h=>h.elim λs h=>h.elim λm h=>k Z s m h.1 h.2.1 h.2.2
structure DE(X:Cx)(CB:ak)(E:XK)(e:bo)(f:XE):Prop where
 pe:PE X e (TDE X.K CB E f)
structure DT(X:Cx)(CB:ak)(E:XK)(e:bo)(f:XT):Prop where
 pt:PT X e (TDT X.K CB E f)
structure DW(X:Cx)(CB:ak)(E:XK)(e:bo)(f:XT):Prop where
 pw:PW X e (TDT X.K CB E f)
structure DA(X:Cx)(CB:ak)(E:XK)(es:List bo)(f:XA):Prop where
 pa:PA X es (TDA X.K CB E f)
structure DS(X:Cx)(CB:ak)(E:XK)(st:bQ)(g:XS):Prop where
 ps:PS X st (TDS X.K CB E g)
structure DSs(X:Cx)(CB:ak)(E:XK)(st:List bQ)(g:XS):Prop where
 pss:PSs X st (TDS X.K CB E g)
def PE.mono(h:PE X e t)(k:∀O H Q,t' O H Q->t O H Q):PE X e t':=λPe s O H Q I q=>h Pe s O H Q I (k O H Q q)
def PT.mono(h:PT X e t)(k:∀O H Q,t' O H Q->t O H Q):PT X e t':=λPe s O H Q I q=>h Pe s O H Q I (k O H Q q)
def PW.mono(h:PW X e t)(k:∀O H Q,t' O H Q->t O H Q):PW X e t':=λw Pe s O H Q I q=>h w Pe s O H Q I (k O H Q q)
def PA.mono(h:PA X e t)(k:∀O H Q,t' O H Q->t O H Q):PA X e t':=λpos Pe s O H Q I q=>h pos Pe s O H Q I (k O H Q q)
def PS.mono(h:PS X e t)(k:∀D O H,t' D O H->t D O H):PS X e t':=λPe s O H D I q=>h Pe s O H D I (k D O H q)
def PSs.mono(h:PSs X e t)(k:∀D O H,t' D O H->t D O H):PSs X e t':=λPe s O H D I q=>h Pe s O H D I (k D O H q)
def xVar(i:Nat)(Z:En)(s:Sto):Out PV:=match Z[i]? with
 |some (Za p)=>.ok p s
 |_=>.bad
def xC(p:PV)(_:En)(s:Sto):Out PV:=.ok p s
def x1(f:XE)(F:PV->Sto->Out PV)(Z:En)(s:Sto):Out PV:=(f Z s).bind F
def x2(f g:XE)(F:PV->PV->Sto->Out PV)(Z:En)(s:Sto):Out PV:=(f Z s).bind λv s1=>(g Z s1).bind λw s2=>F v w s2
def xNil(_:En)(s:Sto):Out (List PV):=.ok [] s
def xCons(f:XE)(g:XA)(Z:En)(s:Sto):Out (List PV):=(f Z s).bind λv s1=>(g Z s1).bind λvs s2=>.ok (v::vs) s2
section
variable{X:Cx}{CB:ak}{E:XK}{a b c e:bo}{es:List bo}{f g h:XE}{fa:XA}{p pos Pf:Pos}{x:Str}
def Op2(K:aa)(CB:ak)(E:XK)(r:R2)(F:PV->PV->Sto->Out PV):Prop:=∀H m s v w x y Q,SR K CB H m s->Rep K H m s x v->Rep K H m s y w->Post K CB (Rep K) E (F v w s) H m s Q->r x y H Q
def Op1(K:aa)(CB:ak)(E:XK)(r:V->Hp->VK->Prop)(F:PV->Sto->Out PV):Prop:=∀H m s v x Q,SR K CB H m s->Rep K H m s x v->Post K CB (Rep K) E (F v s) H m s Q->r x H Q
def OpN(K:aa)(CB:ak)(E:XK)(r:List V->Hp->VK->Prop)(F:List PV->Sto->Out PV):Prop:=∀H m s v x Q,SR K CB H m s->Reps K H m s x v->Post K CB (Rep K) E (F v s) H m s Q->r x H Q
def two{r}{F}(o:Op2 X.K CB E r F){O}{H}{Q}(q:TDE X.K CB E (x2 f g F) O H Q):tOp r (TDE X.K CB E f) (TDE X.K CB E g) O H Q:=by obtain⟨Z,s,m,er,S,P⟩:=q;exact⟨Z,s,m,er,S,P.bind λv s1 u H1 m1 e1 S1 r1 P1=>⟨Z,s1,m1,er.ext e1,S1,P1.bind λw s2 u2 H2 m2 e2 S2 r2 P2=>o H2 m2 s2 v w u u2 Q S2 (r1.ext e2) r2 P2⟩⟩
def lJ(i)(hN:X.N[i]?=Za x:=by rfl)(hv:Vis X.env.scope x:=by first|exact fH rfl|exact ib (fH rfl)|exact ib (ib rfl))(hd:NDb x:=by decide)(QA:(x==("__classdict__":Str))=false:=by decide):DE X CB E (.Name x pos) (xVar i):=⟨(JW hN hv hd QA).mono λO H Q=>oE λZ s m er S P=>by
 unfold xVar at P;split at P
 ·rename_i q hq;obtain⟨u,h1,h2⟩:=er.at_ i q hq;exact⟨u,h1,P.here S h2⟩
 ·exact P.elim⟩
def lT{i}{j}:DE X CB E (.Constant (.int i) j pos) (xC (.int i)):=⟨pe_int.mono λO H Q=>oE λZ s m er S P=>P.here S .int⟩
def Ba{i}{j}:DE X CB E (.Constant (.bool i) j pos) (xC (.bl i)):=⟨pe_bl.mono λO H Q=>oE λZ s m er S P=>P.here S .bl⟩
def FF{i}{j}:DE X CB E (.Constant (.str i) j pos) (xC (.str i)):=⟨pe_str.mono λO H Q=>oE λZ s m er S P=>P.here S .str⟩
def zE(ho:OpR X (dF op) r)(o:Op2 X.K CB E r F)(ha:DE X CB E a f)(hb:DE X CB E b g):DE X CB E (.BinOp a op b pos) (x2 f g F):=⟨(tQ ho ha.pe hb.pe).mono λO H Q q=>two o q⟩
def de_un(ho:UnR X (unaryOp op) r)(o:Op1 X.K CB E r F)(ha:DE X CB E a f):DE X CB E (.UnaryOp op a pos) (x1 f F):=⟨(M6 ho ha.pe).mono λO H Q=>oE λZ s m er S P =>
 ⟨Z,s,m,er,S,P.bind λv s1 u H1 m1 e1 S1 r1 P1=>o H1 m1 s1 v u Q S1 r1 P1⟩⟩
def de_cmp(ho:OpR X (bP op) r)(o:Op2 X.K CB E r F)(ha:DE X CB E a f)(hb:DE X CB E b g)(hm:cR op b=false):DE X CB E (.Compare a [op] [b] pos) (x2 f g F):=⟨(FY ho ha.pe hb.pe hm).mono λO H Q q=>two o q⟩
def xTr(f:XE)(Z:En)(s:Sto):Out Bool:=(f Z s).bind λv s1=>match v with
 |.bl b=>.ok b s1
 |_=>.bad
def TDT.tst{O}{H}{Q}(q:TDT X.K CB E (xTr f) O H Q):TDE X.K CB E f O H λx H1=>∃k,x=.bl k/\Q k H1:=by obtain⟨Z,s,m,er,S,P⟩:=q;refine⟨Z,s,m,er,S,P.bind λv s1 u H1 m1 e1 S1 r1 P1=>?_⟩;cases r1<;>first|exact P1.elim|exact⟨_,rfl,P1.here S1 rfl⟩
def dt_cmp(ho:OpR X (bP op) r)(o:Op2 X.K CB E r F)(ha:DE X CB E a f)(hb:DE X CB E b g)(hm:cR op b=false):DT X CB E (.Compare a [op] [b] pos) (xTr (x2 f g F)):=⟨(ve ho ha.pe hb.pe hm).mono λO H Q q=>two o (TDT.tst q)⟩
def AM(h:DE X CB E e f)(he:∀whole,isTrue e X.env whole=(do let v <-whole;gv e.pos;holding [v] (truthy v)):=by intro _;rfl):DT X CB E e (xTr f):=⟨(vX h.pe he).mono λO H Q q=>TDT.tst q⟩
def xChain(f g h:XE)(F G:PV->PV->Sto->Out PV)(Z:En)(s:Sto):Out PV:=(f Z s).bind λv s1=>(g Z s1).bind λw s2=>(F v w s2).bind λz s3=>match z with
 |.bl true=>(h Z s3).bind λy s4=>G w y s4
 |.bl false=>.ok (.bl false) s3
 |_=>.bad
def xNot(f:XT)(Z:En)(s:Sto):Out Bool:=(f Z s).bind λb s1=>.ok (!b) s1
def xAnd(f g:XT)(Z:En)(s:Sto):Out Bool:=(f Z s).bind λb s1=>if b=true then g Z s1 else .ok false s1
def xOr(f g:XT)(Z:En)(s:Sto):Out Bool:=(f Z s).bind λb s1=>if b=true then .ok true s1 else g Z s1
variable{t u:XT}{pZ:List bo}
def Kj(h:DT X CB E a t):DT X CB E (.UnaryOp .Not a pos) (xNot t):=⟨(Ax h.pt).mono λO H Q=>oE λZ s m er S P =>
 ⟨Z,s,m,er,S,P.bind λv s1 b H1 m1 e1 S1 r1 P1=>by cases r1;exact P1.here S1 rfl⟩⟩
def Me(h:DT X CB E a t):DW X CB E (.BoolOp .And [a] pos) t:=⟨Li h.pt⟩
def Kh(h:DT X CB E a t):DW X CB E (.BoolOp .Or [a] pos) t:=⟨JU h.pt⟩
def OG(h:DT X CB E a t)(k:DW X CB E (.BoolOp .And (b::pZ) pos) u):DW X CB E (.BoolOp .And (a::b::pZ) pos) (xAnd t u):=⟨(NN h.pt k.pw).mono λO H Q=>oE λZ s m er S P =>
 ⟨Z,s,m,er,S,P.bind λv s1 b H1 m1 e1 S1 r1 P1=>by
  cases r1;refine vm (λc=>?_) λc=>?_
  ·rw[Zc c] at P1;exact⟨Z,s1,m1,er.ext e1,S1,P1⟩
  ·rw[Zd c] at P1;exact P1.here S1 rfl⟩⟩
def Np(h:DT X CB E a t)(k:DW X CB E (.BoolOp .Or (b::pZ) pos) u):DW X CB E (.BoolOp .Or (a::b::pZ) pos) (xOr t u):=⟨(M5 h.pt k.pw).mono λO H Q=>oE λZ s m er S P =>
 ⟨Z,s,m,er,S,P.bind λv s1 b H1 m1 e1 S1 r1 P1=>by
  cases r1;refine vm (λc=>?_) λc=>?_
  ·rw[Zc c] at P1;exact P1.here S1 rfl
  ·rw[Zd c] at P1;exact⟨Z,s1,m1,er.ext e1,S1,P1⟩⟩⟩
def DW.dt(h:DW X CB E a t):DT X CB E a t:=⟨h.pw.pt⟩
def xAndV(f g:XE)(Z:En)(s:Sto):Out PV:=(f Z s).bind λv s1=>match v with
 |.bl true=>g Z s1
 |.bl false=>.ok (.bl false) s1
 |_=>.bad
def xOrV(f g:XE)(Z:En)(s:Sto):Out PV:=(f Z s).bind λv s1=>match v with
 |.bl true=>.ok (.bl true) s1
 |.bl false=>g Z s1
 |_=>.bad
def xNotV(f:XE)(Z:En)(s:Sto):Out PV:=(f Z s).bind λv s1=>match v with
 |.bl b=>.ok (.bl (!b)) s1
 |_=>.bad
def ON(h:DE X CB E a f):DE X CB E (.BoolOp op [a] pos) f:=⟨Fu h.pe⟩
def Kl(h:DE X CB E a f)(k:DE X CB E (.BoolOp .And (b::pZ) pos) g):DE X CB E (.BoolOp .And (a::b::pZ) pos) (xAndV f g):=⟨(JZ h.pe k.pe).mono λO H Q=>oE λZ s m er S P =>
 ⟨Z,s,m,er,S,P.bind λv s1 b H1 m1 e1 S1 r1 P1=>by
  cases r1 with
  |bl =>
   rename_i b;cases b
   ·exact⟨_,rfl,LY (P1.here S1 .bl)⟩
   ·exact⟨_,rfl,LX ⟨Z,s1,m1,er.ext e1,S1,P1⟩⟩
  |_=>exact P1.elim⟩⟩
def wj:DA X CB E [] xNil:=⟨pa_nil.mono λO H Q=>oE λZ s m er S P=>P.here S .nil⟩
def lP(ha:DE X CB E e f)(hr:DA X CB E es fa)(hs:SEb X e es:=by rfl):DA X CB E (e::es) (xCons f fa):=⟨(mf ha.pe hr.pa hs).mono λO H Q=>oE λZ s m er S P =>
 ⟨Z,s,m,er,S,P.bind λv s1 u H1 m1 e1 S1 r1 P1=>⟨Z,s1,m1,er.ext e1,S1,P1.bind λw s2 u2 H2 m2 e2 S2 r2 P2=>P2.here S2 (.cons (r1.ext e2) r2)⟩⟩⟩
def lN(ha:DE X CB E e f)(hs:aB [e] X.env=(false,eval e X.env)::aB [] X.env:=by rfl):DA X CB E [e] (xCons f xNil):=lP ha wj hs
theorem Reps.length{K}{H}{m}{s}:∀{vs:List V}{l:List PV},Reps K H m s vs l->vs.length=l.length
 |_,_,.nil=>rfl
 |_,_,.cons _ b=>congrArg Nat.succ b.length
def sz5(h:n<=100000):n<=aK:=aE h (by decide)
def sz6(h:n<100000):n<aK:=ay h (by decide)
def xTup(fa:XA)(Z:En)(s:Sto):Out PV:=(fa Z s).bind λvs s1=>if vs.length<=100000 then .ok (.tup vs) s1 else .bad
def xLst(fa:XA)(Z:En)(s:Sto):Out PV:=(fa Z s).bind λvs s1=>if vs.length<=100000 then .ok (.lst vs) s1 else .bad
def xLstC(fa:XA)(Z:En)(s:Sto):Out PV:=(fa Z s).bind λvs s1=>if vs.length<=100000 then .ok (.ref s1.nx) (s1.add (.lst vs)) else .bad
def rG{x1}(h:DA X CB E es fa):DE X CB E (.Tuple es x1 pos) (xTup fa):=⟨(vY h.pa).mono λO H Q=>oE λZ s m er S P =>
 ⟨Z,s,m,er,S,P.bind λv s1 u H1 m1 e1 S1 r1 P1=>by
  split at P1
  ·rename_i hl;exact⟨by rw[r1.length];exact sz5 hl,λp hp=>P1.new S1 hp λex S'=>.tup (.inl ⟨.inl lQ,S'.pure_tup lQ⟩) (r1.ext ex)⟩
  ·exact P1.elim⟩⟩
def rH(h:DA X CB E es fa):DE X CB E (.List es pos) (xLst fa):=⟨(JX h.pa).mono λO H Q=>oE λZ s m er S P =>
 ⟨Z,s,m,er,S,P.bind λv s1 u H1 m1 e1 S1 r1 P1=>by
  split at P1
  ·rename_i hl;exact⟨by rw[r1.length];exact sz5 hl,λp hp=>P1.new S1 hp λex S'=>.lst lQ (S1.pure_none hp) (r1.ext ex)⟩
  ·exact P1.elim⟩⟩
def SR.newL{K}{H}{m}{s}{vs}{l}{p}(S:SR K CB H m s)(hp:H p=Zb)(r:Reps K H m s vs l):SR K CB (upd H p (.lst vs)) (m.add s.nx p [p]) (s.add (.lst l))/\Ext H m s (upd H p (.lst vs)) (m.add s.nx p [p]) (s.add (.lst l)) :=
 S.add _ p [p] (My.sF hp) (λa ha=>by rw[ap.mp ha];exact hp) λex=>by
  have e1:(m.add s.nx p [p]).ad s.nx=p:=by show(if s.nx=s.nx then p else _)=_;rw[Zc rfl]
  have e2:(m.add s.nx p [p]).fp s.nx=[p]:=by show(if s.nx=s.nx then [p] else _)=_;rw[Zc rfl]
  exact⟨by rw[e1,e2],vs,by rw[e1];exact lQ,r.ext ex⟩
def SR.newD{K}{H H'}{m}{s}{vs}{l}{p}(S:SR K CB H m s)(hp:H p=Zb)(k:Same H H')(hd:H' p=Za (.dK vs))(r:RepKs K H m s vs l):SR K CB H' (m.add s.nx p [p]) (s.add (.dct l))/\Ext H m s H' (m.add s.nx p [p]) (s.add (.dct l)) :=
 S.add _ p [p] k (λa ha=>by rw[ap.mp ha];exact hp) λex=>by
  have e1:(m.add s.nx p [p]).ad s.nx=p:=by show(if s.nx=s.nx then p else _)=_;rw[Zc rfl]
  have e2:(m.add s.nx p [p]).fp s.nx=[p]:=by show(if s.nx=s.nx then [p] else _)=_;rw[Zc rfl]
  exact⟨by rw[e1,e2],vs,by rw[e1];exact hd,r.ext ex⟩
def Mp.add_ad{m:Mp}{n:Nat}{p:ak}{f:List ak}:(m.add n p f).ad n=p:=by show(if n=n then p else _)=_;rw[Zc rfl]
def Rep.new{K:aa}{H:Hp}{m:Mp}{s:Sto}{p:ak}{f:List ak}{c:Cell}:Rep K H (m.add s.nx p f) (s.add c) (.ref p) (.ref s.nx):=by have h:Rep K H (m.add s.nx p f) (s.add c) (.ref ((m.add s.nx p f).ad s.nx)) (.ref s.nx):=.ref (cC _);rw[Mp.add_ad] at h;exact h
def zF(h:DA X CB E es fa):DE X CB E (.List es pos) (xLstC fa):=⟨(JX h.pa).mono λO H Q=>oE λZ s m er S P =>
 ⟨Z,s,m,er,S,P.bind λv s1 u H1 m1 e1 S1 r1 P1=>by
  split at P1
  ·rename_i hl;refine⟨by rw[r1.length];exact sz5 hl,λp hp=>?_⟩;obtain⟨S2,e2⟩:=S1.newL hp r1;exact P1 _ _ _ e2 S2 .new
  ·exact P1.elim⟩⟩
end
end L2
namespace Fra
def Cop(a b:Int):Prop:=aF a b=1
def Low(q:Int×Int):Prop:=0<q.2/\Cop q.1 q.2
def red(q:Int×Int):Int×Int:=(q.1/(aF q.1 q.2:Int),q.2/(aF q.1 q.2:Int))
def Cop.symm(h:Cop a b):Cop b a:=by unfold Cop at *;rw[Int.gcd_comm];exact h
def qO(d:a∣a')(h:Cop a' b):Cop a b:=Nat.Coprime.coprime_dvd_left (fJ.mpr d) h
def zI(h1:Cop a c)(h2:Cop b c):Cop (a*b) c:=by unfold Cop aF at *;rw[iD];exact Nat.Coprime.mul_left h1 h2
def CQ(h:Cop a b)(d:a∣b*c):a∣c:=by have d':=fJ.mpr d;rw[iD] at d';exact fJ.mp (Nat.Coprime.dvd_of_dvd_mul_left h d')
def GC(h:Cop a b):Cop (a+k*b) b:=by
 unfold Cop at *;have g1:(aF (a+k*b) b:Int)∣a+k*b:=fQ ..;have g2:(aF (a+k*b) b:Int)∣b:=cm ..;have g3:(aF (a+k*b) b:Int)∣a:=by
  have:=Int.dvd_sub g1 (Int.dvd_trans g2 (Int.dvd_mul_left k b));have e:a+k*b-k*b=a:=by lia
  rw[e] at this;exact this
 have g4:=Int.dvd_gcd g3 g2;rw[h] at g4;exact Nat.dvd_one.mp g4
def zj(hp:Low p)(hq:Low q)(h:p.1*q.2=q.1*p.2):p=q:=by obtain⟨a,b⟩:=p;obtain⟨c,d⟩:=q;obtain⟨h1,h2⟩:=hp;obtain⟨h3,h4⟩:=hq;simp only at h h1 h2 h3 h4;have d1:b∣d:=CQ h2.symm ⟨c,by rw[h];exact br _ _⟩;have d2:d∣b:=CQ h4.symm ⟨a,by rw[<-h];exact br _ _⟩;have e:b=d:=Int.dvd_antisymm (by lia) (by lia) d1 d2;subst e;have:a=c:=eE (by lia) h;rw[this]
def rP(h:0<q.2):Low (red q)/\(red q).1*q.2=q.1*(red q).2:=by
 obtain⟨a,b⟩:=q;simp only at h;have hg:0<aF a b:=bG _ (by lia);obtain⟨u,hu⟩:(aF a b:Int)∣a:=fQ ..;obtain⟨v,hv⟩:(aF a b:Int)∣b:=cm ..;have eu:a/(aF a b:Int)=u:=jG (by lia) hu;have ev:b/(aF a b:Int)=v:=jG (by lia) hv;have hc:Cop u v:=by
  have e:aF ((aF a b:Int)*u) ((aF a b:Int)*v)=aF a b*aF u v:=by rw[ji];rfl
  rw[<-hu,<-hv] at e;unfold Cop;have:aF a b*aF u v=aF a b*1:=by lia
  exact gA hg this
 have hv0:0<v:=by
  by_cases z:0<v
  ·exact z
  ·have:(aF a b:Int)*v<=0:=fm (by lia) (by lia);lia
 unfold red;simp only;rw[eu,ev];refine⟨⟨hv0,hc⟩,?_⟩;show u*b=a*v;have e1:u*b=u*((aF a b:Int)*v):=by rw[<-hv]
 have e2:a*v=(aF a b:Int)*u*v:=by rw[<-hu]
 rw[e1,e2,br (aF a b:Int) u,aT]
def NL(hp:Low p)(hq:0<q.2)(h:p.1*q.2=q.1*p.2):p=red q:=by
 obtain⟨r1,r2⟩:=rP hq;refine zj hp r1 ?_;have e:p.1*(red q).2*q.2=(red q).1*p.2*q.2:=by rw[fk,h,fk q.1,<-r2,fk]
 exact eE (by lia) e
def addK(p q:Int×Int):Int×Int :=
 let d:Int:=aF p.2 q.2;let t:=p.1*(q.2/d)+q.1*(p.2/d);let e:Int:=aF t d
 (t/e,p.2/d*(q.2/e))
def nL(p q:Int×Int):Int×Int:=red (p.1*q.2+q.1*p.2,p.2*q.2)
def MO(hp:Low p)(hq:Low q):addK p q=nL p q:=by
 obtain⟨n1,b1⟩:=p;obtain⟨n2,b2⟩:=q;obtain⟨h1,h2⟩:=hp;obtain⟨h3,h4⟩:=hq;simp only at h1 h2 h3 h4;unfold addK nL;simp only;have hd:0<aF b1 b2:=bG _ (by lia);obtain⟨u,hu⟩:(aF b1 b2:Int)∣b1:=fQ ..;obtain⟨v,hv⟩:(aF b1 b2:Int)∣b2:=cm ..;have huv:Cop u v:=by
  have e:aF ((aF b1 b2:Int)*u) ((aF b1 b2:Int)*v)=aF b1 b2*aF u v:=by rw[ji];rfl
  rw[<-hu,<-hv] at e;have:aF b1 b2*aF u v=aF b1 b2*1:=by lia
  exact gA hd this
 generalize hD:(aF b1 b2:Int)=d at *;have d0:0<d:=by lia
 subst hu;subst hv;rw[cP _ (by lia:d≠0),cP _ (by lia:d≠0)];have pos:∀{x:Int},0<d*x->0<x:=λ{x} hx=>by
  by_cases z:0<x
  ·exact z
  ·have:d*x<=0:=fm (by lia) (by lia);lia
 have u0:=pos h1;have v0:=pos h3;have VI:Cop (n1*v+n2*u) u:=GC (zI (qO (Int.dvd_refl _) (qO ⟨d,br _ _⟩ h2.symm).symm) huv.symm);have VH:Cop (n1*v+n2*u) v:=by rw[Int.add_comm];exact GC (zI (qO ⟨d,br _ _⟩ h4.symm).symm huv)
 generalize hT:n1*v+n2*u=t at *;have he:0<aF t d:=bG _ (by lia);obtain⟨t',ht⟩:(aF t d:Int)∣t:=fQ ..;obtain⟨e',hE⟩:(aF t d:Int)∣d:=cm ..;have cte:Cop t' e':=by
  have e:aF ((aF t d:Int)*t') ((aF t d:Int)*e')=aF t d*aF t' e':=by rw[ji];rfl
  rw[<-ht,<-hE] at e;have:aF t d*aF t' e'=aF t d*1:=by lia
  exact gA he this
 generalize hG:(aF t d:Int)=g at *;have g0:0<g:=by lia
 have e0:0<e':=by
  by_cases z:0<e'
  ·exact z
  ·have:g*e'<=0:=fm (by lia) (by lia);lia
 have q1:t/g=t':=by rw[ht];exact cP _ (by lia)
 have q2:d*v/g=e'*v:=by rw[hE,aT];exact cP _ (by lia)
 rw[q1,q2];refine NL ⟨bx u0 (bx e0 v0),?_⟩ (bx h1 h3) ?_
 ·have d1:t'∣t:=⟨g,by rw[ht];exact br _ _⟩;exact(zI (qO d1 VI).symm (zI cte.symm (qO d1 VH).symm)).symm
 ·show t'*(d*u*(d*v))=(n1*(d*v)+n2*(d*u))*(u*(e'*v));have e1:n1*(d*v)+n2*(d*u)=d*t:=by rw[<-hT,Int.mul_add,fG,fG n2]
  rw[e1];have e2:d*t*(u*(e'*v))=d*(g*t')*(u*(e'*v)):=by rw[<-ht]
  have e3:t'*(d*u*(d*v))=t'*(d*u*(g*e'*v)):=by rw[<-hE]
  rw[e2,e3];simp only[aT,fG,br]
def Es(hp:Low p)(hq:Low q):Low (nL p q):=(rP (bx hp.1 hq.1)).1
end Fra
namespace L2
open PySem PySem.Spec PyProof.Rows
def lsOf(s:Sto):PV->Option (List PV)
 |.lst l=>Za l
 |.seq l=>Za l
 |.ref n=>match s.get n with
  |some (.lst l)=>Za l
  |_=>Zb
 |_=>Zb
def dcOf(s:Sto):PV->Option (List (Key×PV))
 |.dct l=>Za l
 |.ref n=>match s.get n with
  |some (.dct l)=>Za l
  |some (.dfz l)=>Za l
  |_=>Zb
 |_=>Zb
def kyOf:PV->Option Key
 |.int i=>Za (.inl i)
 |.str x=>Za (.inr x)
 |_=>Zb
def toV:PV->Option V
 |.non=>Za .non
 |.bl b=>Za (.bl b)
 |.int i=>Za (.int i)
 |.str x=>Za (.str x)
 |_=>Zb
def toVs:List PV->Option (List V)
 |[]=>Za []
 |p::l=>match toV p,toVs l with
  |some v,Za vs=>Za (v::vs)
  |_,_=>Zb
def oZ(l:List (Key×PV))(k:Key):Option PV:=(l.find? λkv=>decide (kv.1=k)).map (·.2)
def xN(l:List (Key×PV))(k:Key)(p:PV):List (Key×PV) :=
 if(l.any λkv=>decide (kv.1=k))=true then l.map (λkv=>if kv.1=k then(kv.1,p) else kv) else l++[(k,p)]
def vR(f:PV->Option jI):List PV->Option (List jI)
 |[]=>Za []
 |p::l=>match f p,vR f l with
  |some d,Za ds=>Za (d::ds)
  |_,_=>Zb
def PV.data(s:Sto):Nat->PV->Option jI
 |0,_=>Zb
 |_+1,.non=>Za .none
 |_+1,.bl b=>Za (.bool b)
 |_+1,.int i=>Za (.int i)
 |_+1,.str x=>if bi x=true then Za (.str x) else Zb
 |k+1,.tup l=>(vR (PV.data s k) l).map .tuple
 |k+1,.lst l=>(vR (PV.data s k) l).map .list
 |k+1,.seq l=>(vR (PV.data s k) l).map .list
 |k+1,.ref n=>match s.get n with
  |some (.lst l)=>(vR (PV.data s k) l).map .list
  |_=>Zb
 |_+1,_=>Zb
section
variable{K:aa}{CB:ak}{H:Hp}{m:Mp}{s:Sto}{x y:V}{v w:PV}
def Rep.ls(S:SR K CB H m s)(r:Rep K H m s x v)(e:lsOf s v=Za l):∃a vs,x=.ref a/\SqL K H a vs/\Reps K H m s vs l:=by
 cases r with
 |lst h _ q=>cases e;exact⟨_,_,rfl,SqL.of h,q⟩
 |seq h q=>cases e;exact⟨_,_,rfl,h.elim (λz=>.inl (.inr z.1)) .inr,q⟩
 |ref h =>
  rename_i n;have e:(match s.get n with|some (.lst l)=>Za l|_=>Zb)=Za l:=e;split at e<;>cases e
  rename_i hg;obtain⟨_,vs,h1,h2⟩:=S.get hg;exact⟨_,vs,rfl,SqL.of h1,h2⟩
 |_=>cases e
def Rep.tp(r:Rep K H m s x (.tup l)):∃a vs,x=.ref a/\SqT K H a vs/\Reps K H m s vs l:=by
 cases r with
 |tup h q=>exact⟨_,_,rfl,h.elim (λz=>.inl z.1) .inr,q⟩
def Rep.dc(S:SR K CB H m s)(r:Rep K H m s x v)(e:dcOf s v=Za l):∃a vs,x=.ref a/\Rd H a (.dK vs)/\RepKs K H m s vs l:=by
 cases r with
 |dct h _ q=>cases e;exact⟨_,_,rfl,h,q⟩
 |ref h =>
  rename_i n;have e:(match s.get n with|some (.dct l)=>Za l|some (.dfz l)=>Za l|_=>Zb)=Za l:=e;split at e<;>cases e
  ·rename_i hg;obtain⟨_,vs,h1,h2⟩:=S.get hg;exact⟨_,vs,rfl,.inl h1,h2⟩
  ·rename_i hg;obtain⟨_,ob,vs,h1,h2⟩:=S.get hg;exact⟨_,vs,rfl,.inr ⟨ob,h1⟩,h2⟩
 |_=>cases e
theorem Rep.toV(r:Rep K H m s x v)(e:L2.toV v=Za z):x=z:=by cases r<;>first|cases e;rfl|cases e
theorem Reps.toVs:∀{vs:List V}{l:List PV}{zs:List V},Reps K H m s vs l->L2.toVs l=Za zs->vs=zs
 |_,_,_,.nil,e=>by cases e;rfl
 |_,_,_,.cons a b,e=>by
  unfold L2.toVs at e;split at e<;>cases e
  rename_i h1 h2;rw[a.toV h1,b.toVs h2]
def zV{v}(e:L2.toV v=Za z):tF z=true:=by cases v<;>first|cases e;rfl|cases e
theorem xj:∀{l:List PV}{zs:List V},L2.toVs l=Za zs->zs.all tF=true
 |[],_,e=>by cases e;rfl
 |p::l,_,e=>by
  unfold L2.toVs at e;split at e<;>cases e
  rename_i h1 h2;rw[iK,zV h1,xj h2];rfl
theorem Reps.get:∀{vs:List V}{l:List PV}{i:Nat}{p:PV},Reps K H m s vs l->l[i]?=Za p->∃u,vs[i]?=Za u/\Rep K H m s u p
 |_,_,_,_,.nil,e=>by simp at e
 |_,_,0,_,.cons a _,e=>by simp at e;subst e;exact⟨_,rfl,a⟩
 |_,_,i+1,p,.cons _ b,e=>by obtain⟨u,h1,h2⟩:=b.get (i:=i) (p:=p) (by simpa using e);exact⟨u,by simpa using h1,h2⟩
theorem Reps.atI(r:Reps K H m s vs l)(e:L2.atI l i=Za p):∃u,L2.atI vs i=Za u/\Rep K H m s u p:=by
 unfold L2.atI at e ⊢;rw[r.length];cases c:ixN l.length i with
 |none=>rw[c] at e;cases e
 |some j=>rw[c] at e;exact r.get e
theorem Reps.append:∀{vs ws:List V}{l k:List PV},Reps K H m s vs l->Reps K H m s ws k->Reps K H m s (vs++ws) (l++k)
 |_,_,_,_,.nil,q=>q
 |_,_,_,_,.cons a b,q=>.cons a (b.append q)
theorem Reps.drop:∀{vs:List V}{l:List PV}(n:Nat),Reps K H m s vs l->Reps K H m s (vs.drop n) (l.drop n)
 |_,_,0,r=>r
 |_,_,_+1,.nil=>.nil
 |_,_,n+1,.cons _ b=>b.drop n
theorem Reps.take:∀{vs:List V}{l:List PV}(n:Nat),Reps K H m s vs l->Reps K H m s (vs.take n) (l.take n)
 |_,_,0,_=>.nil
 |_,_,_+1,.nil=>.nil
 |_,_,n+1,.cons a b=>.cons a (b.take n)
theorem Reps.set:∀{vs:List V}{l:List PV}{u:V}{p:PV}(i:Nat),Reps K H m s vs l->Rep K H m s u p->Reps K H m s (vs.set i u) (l.set i p)
 |_,_,_,_,_,.nil,_=>.nil
 |_,_,_,_,0,.cons _ b,r=>.cons r b
 |_,_,_,_,i+1,.cons a b,r=>.cons a (b.set i r)
theorem Reps.strs:∀{vs:List V}{ss:List Str},Reps K H m s vs (ss.map PV.str)->vs=ss.map V.str
 |_,[],.nil=>rfl
 |_,x::ss,.cons a b=>by cases a;rw[Reps.strs (ss:=ss) b];rfl
theorem Reps.ofStrs:∀(ss:List Str),Reps K H m s (ss.map V.str) (ss.map PV.str)
 |[]=>.nil
 |_::r=>.cons .str (Reps.ofStrs r)
theorem RepKs.keys:∀{vs:List (Key×V)}{l:List (Key×PV)},RepKs K H m s vs l->vs.map (·.1)=l.map (·.1)
 |_,_,.nil=>rfl
 |_,_,.cons _ b=>by simp[b.keys]
theorem RepKs.length(r:RepKs K H m s vs l):vs.length=l.length:=by have:=congrArg b6 r.keys;simpa using this
theorem RepKs.val:∀{vs:List (Key×V)}{l:List (Key×PV)}(k:Key),RepKs K H m s vs l->(∀p,oZ l k=Za p->∃u,oO vs k=Za u/\Rep K H m s u p)/\(oZ l k=Zb->oO vs k=Zb)
 |_,_,k,.nil=>⟨λp e=>(by cases e),λ_=>rfl⟩
 |_,_,k,.cons (k:=q) (p:=p0) (v:=v0) a b=>by
  by_cases e:q=k
  ·refine⟨λp h=>⟨v0,wm e,?_⟩,λh=>?_⟩
   ·unfold oZ at h;simp[e] at h;subst h;exact a
   ·unfold oZ at h;simp[e] at h
  ·rw[wn e];have h2:∀{l:List (Key×PV)},oZ ((q,p0)::l) k=oZ l k:=λ{l}=>by unfold oZ;simp[e]
   rw[h2];exact b.val k
theorem RepKs.any(r:RepKs K H m s vs l)(k):(vs.any λkv=>decide (kv.1=k))=l.any λkv=>decide (kv.1=k):=by
 have h:∀{β:Type}(l:List (Key×β)),(l.any λkv=>decide (kv.1=k))=(l.map (·.1)).any λj=>decide (j=k):=λl=>by rw[gT];rfl
 rw[h,h,r.keys]
theorem RepKs.mapput:∀{vs:List (Key×V)}{l:List (Key×PV)}{u:V}{p:PV}(k:Key),RepKs K H m s vs l->Rep K H m s u p->RepKs K H m s (vs.map λkv=>if kv.1=k then(kv.1,u) else kv) (l.map λkv=>if kv.1=k then(kv.1,p) else kv)
 |_,_,_,_,_,.nil,_=>.nil
 |_,_,u,p,k,.cons (k:=q) a b,r=>by
  rw[al,al];by_cases e:q=k
  ·rw[Zc e,Zc e];exact .cons r (b.mapput k r)
  ·rw[Zd e,Zd e];exact .cons a (b.mapput k r)
theorem RepKs.append:∀{vs ws:List (Key×V)}{l k:List (Key×PV)},RepKs K H m s vs l->RepKs K H m s ws k->RepKs K H m s (vs++ws) (l++k)
 |_,_,_,_,.nil,q=>q
 |_,_,_,_,.cons a b,q=>.cons a (b.append q)
def RepKs.put(k)(q:RepKs K H m s vs l)(r:Rep K H m s u p):RepKs K H m s (qI vs k u) (xN l k p):=by
 unfold qI xN;rw[q.any];split
 ·exact q.mapput k r
 ·exact q.append (.cons r .nil)
def qi(r:Rep K H m s x v)(e:kyOf v=Za k):x=kV k:=by cases r<;>first|cases e;rfl|cases e
end
section
variable{X:Cx}{CB:ak}{E:XK}
theorem Reps.readss{sh:ax}{H:Hp}{m:Mp}{s:Sto}{k:Nat}(ih:∀{v:V}{p:PV}{u:ag}{d:jI},Rep X.K H m s v p->RelV v u->PV.data s k p=Za d->(∃as,Reads sh.heap u d as)/\d.canLay0=true/\d.depth<=k) :
  ∀{v:List V}{p:List PV}{u:List ag}{d:List jI},Reps X.K H m s v p->Vals v u->vR (PV.data s k) p=Za d->(∃as,ReadsAll sh.heap u.toArray.toList d as)/\k9 d=true/\PyData.depthAll d<=k
 |_,_,_,_,.nil,.nil,e=>by unfold vR at e;cases e;exact⟨⟨_,.nil⟩,rfl,a7 _⟩
 |_,_,_,_,.cons a b,.cons r rs,e=>by
  unfold vR at e;split at e<;>cases e
  rename_i h1 h2;obtain⟨⟨as,r1⟩,r2,r3⟩:=ih a r h1;obtain⟨⟨bs,q1⟩,q2,q3⟩:=Reps.readss ih b rs h2;refine⟨⟨_,.cons r1 (by simpa using q1)⟩,by unfold k9;rw[r2,q2];rfl,?_⟩;unfold PyData.depthAll;lia
theorem Rep.reads(I:Inv X Pe O H sh)(S:SR X.K CB H m s):∀(k:Nat){v:V}{p:PV}{u:ag}{d:jI},Rep X.K H m s v p->RelV v u->PV.data s k p=Za d ->
  (∃as,Reads sh.heap u d as)/\d.canLay0=true/\d.depth<=k
 |0,_,p,_,_,_,_,e=>by cases p<;>(unfold PV.data at e;cases e)
 |k+1,_,_,_,_,.non,ru,e=>by cases ru;unfold PV.data at e;cases e;exact⟨⟨_,.none⟩,rfl,a7 _⟩
 |k+1,_,_,_,_,.bl,ru,e=>by cases ru;unfold PV.data at e;cases e;exact⟨⟨_,.bool _⟩,rfl,a7 _⟩
 |k+1,_,_,_,_,.int,ru,e=>by obtain⟨t,rfl⟩:=ru;unfold PV.data at e;cases e;exact⟨⟨_,.int _ _⟩,rfl,a7 _⟩
 |k+1,_,_,_,_,.str,ru,e=>by
  obtain⟨t,rfl⟩:=ru;unfold PV.data at e;split at e<;>cases e
  rename_i h;exact⟨⟨_,.str _ _⟩,h,a7 _⟩
 |k+1,_,_,_,_,.tup (l:=l) h q,ru,e=>by
  cases ru;unfold PV.data at e;cases c:vR (PV.data s k) l with
  |none=>rw[c] at e;cases e
  |some ds =>
   rw[c] at e;cases e;obtain⟨its,rv,⟨o,g1,g2,n,g3⟩,_⟩:=I.tuple (h.elim (λz=>(.inl z.1:SqT X.K H _ _)) .inr);obtain⟨⟨as,r1⟩,r2,r3⟩:=Reps.readss (Rep.reads I S k) q rv c;exact⟨⟨_,.tuple g1 g2 g3 r1⟩,by unfold ia;exact r2,by unfold iM;lia⟩
 |k+1,_,_,_,_,.lst (l:=l) h _ q,ru,e=>by
  cases ru;unfold PV.data at e;cases c:vR (PV.data s k) l with
  |none=>rw[c] at e;cases e
  |some ds =>
   rw[c] at e;cases e;obtain⟨its,rv,⟨o,n,g1,g2,_,g3⟩,_⟩:=I.list (SqL.of h);obtain⟨⟨as,r1⟩,r2,r3⟩:=Reps.readss (Rep.reads I S k) q rv c;exact⟨⟨_,.list g1 g2 g3 r1⟩,by unfold ia;exact r2,by unfold iM;lia⟩
 |k+1,_,_,_,_,.seq (l:=l) h q,ru,e=>by
  cases ru;unfold PV.data at e;cases c:vR (PV.data s k) l with
  |none=>rw[c] at e;cases e
  |some ds =>
   rw[c] at e;cases e;obtain⟨its,rv,⟨o,n,g1,g2,_,g3⟩,_⟩:=I.list (h.elim (λz=>(.inl (.inr z.1):SqL X.K H _ _)) .inr);obtain⟨⟨as,r1⟩,r2,r3⟩:=Reps.readss (Rep.reads I S k) q rv c;exact⟨⟨_,.list g1 g2 g3 r1⟩,by unfold ia;exact r2,by unfold iM;lia⟩
 |k+1,_,_,_,_,.dct _ _ _,_,e=>by unfold PV.data at e;cases e
 |k+1,_,_,_,_,.exc _ _,_,e=>by unfold PV.data at e;cases e
 |k+1,_,_,_,_,.clo _,_,e=>by unfold PV.data at e;cases e
 |k+1,_,_,_,_,.ref _,ru,e=>by
  cases ru;unfold PV.data at e;split at e<;>first|cases e|skip
  rename_i l hg;cases c:vR (PV.data s k) l with
  |none=>rw[c] at e;cases e
  |some ds =>
   rw[c] at e;cases e;obtain⟨_,vs,h1,q⟩:=S.get hg;obtain⟨its,rv,⟨o,n,g1,g2,_,g3⟩,_⟩:=I.list (SqL.of h1);obtain⟨⟨as,r1⟩,r2,r3⟩:=Reps.readss (Rep.reads I S k) q rv c;exact⟨⟨_,.list g1 g2 g3 r1⟩,by unfold ia;exact r2,by unfold iM;lia⟩
def Bt(k:Nat)(n:Int):Prop:=n.natAbs<2^k
def Bt.mono(h:Bt k n)(hl:k<=l):Bt l n:=ay h (b7 (by decide) hl)
def Bt.mul(h:Bt k n)(g:Bt l m):Bt (k+l) (n*m):=by
 unfold Bt at *;rw[iD,jk];by_cases z:m.natAbs=0
 ·rw[z,Nat.mul_zero];exact lf (cX k) (cX l)
 ·exact ay (Nat.mul_lt_mul_of_pos_right h (Nat.pos_of_ne_zero z)) (lE _ (dN g))
def Bt.add(h:Bt k n)(g:Bt k m):Bt (k+1) (n+m):=by unfold Bt at *;have:=Int.natAbs_add_le n m;rw[gY];lia
def Bt.neg(h:Bt k n):Bt k (-n):=by unfold Bt at *;rw[iC];exact h
def Bt.div(h:Bt k n):Bt k (n/d):=aX (Int.natAbs_ediv_le_natAbs n d) h
def Bt.dvd(h:Bt k n)(hn:n≠0)(hd:d∣n):Bt k d:=aX (Nat.le_of_dvd (by lia) (fJ.mpr hd)) h
def Bt.log(h:Bt 9000 n)(h0:0<n):n.natAbs.log2<9000:=(Nat.log2_lt (by lia)).mpr h
def Ep(h:Bt 20000 i):bU i<=2^20:=by
 unfold bU;split
 ·exact a7 _
 ·rename_i z;have z:i≠0:=by simpa using z
  have:=(Nat.log2_lt (by lia:i.natAbs≠0)).mpr h;lia
def op_mulB:OpR X (dF .Mult) (rI (λi j=>Bt 20000 i/\Bt 20000 j) λi j=>.int (i*j)):=opI λ_ _ _ _ _ _ _ hc q=>mul_int q (.of_bits (Ep hc.1) (Ep hc.2))
def Ky(K:aa):R2:=λx y H Q=>∃l b xs zs,x=.ref l/\y=.ref b/\SqL K H l xs/\SqL K H b zs/\xs.length+zs.length<=aK/\∀p,H p=Zb->Q (.ref p) (upd H p (.lst (xs++zs)))
def LA:OpR X (dF .Add) (Ky X.K):=by
 intro Pe s O H x y v u Q I rx ry h;obtain⟨l,b,xs,zs,rfl,rfl,hH,hB,hz,q⟩:=h;cases rx;cases ry;obtain⟨its,r,ht,_⟩:=I.list hH;obtain⟨Qm,r2,Te,_⟩:=I.list hB;have l1:=r.length;have l2:=r2.length;obtain⟨⟨cls,dd,data,sl⟩,n,ho,hc,_,hd⟩:=ht;obtain⟨⟨cls2,VF,data2,SU⟩,n2,Q5,RI,_,SB⟩:=Te;simp only at hc hd RI SB;subst hc hd RI SB;refine concat_meets ⟨_,ho,rfl⟩ ⟨_,Q5,rfl⟩ noFill_list_add seq_list_add PySem.F.slot_list_add PySem.F.entry_list_add (PySem.F.args_list_add_2 _ _) (list_addW l b its.toArray Qm.toArray n n2 dd VF sl SU (by rw[aM,aM];lia)) ⟨ho,Q5,?_⟩;have ea:its.toArray++Qm.toArray=(its++Qm).toArray:=by simp
 rw[ea];exact⟨.ref _,_,I.lnew (t':=s.toks) (r.append r2) (by rw[aD];lia),rfl,q _ I.fresh⟩
def NM:V->List V->Hp->VK->Prop:=λx vs H Q=>∃(l:ak)(ss:List Str)(y:Str)(j:Nat),x=.ref l/\vs=[.str y]/\H l=Za (.lst (ss.map V.str))/\ss[j]?=Za y/\(∀m,m<j->ss[m]?≠Za y)/\ss.length<1000/\Q (.int (j:Nat)) H
def Jb:MtM X "list.index" NM:=by
 intro Pe s O H x vs v us Q I rx rv h;obtain⟨l,ss,y,j,rfl,rfl,hH,hj,QJ,Pi,q⟩:=h;cases rx;obtain⟨u,rfl,ru⟩:=rv.one;obtain⟨t,rfl⟩:=ru;obtain⟨z,its,n,r,hl,e⟩:=I.lstM hH;rw[ac] at hl;have UW:∀m (hm:m<its.toArray.size),∃z tz,its.toArray[m]=.str z tz/\ss[m]?=Za z:=λm hm=>by
  have RG:m<ss.length:=by rw[hl];simpa using hm
  obtain⟨u,hu,ru⟩:=r.get (i:=m) (x:=.str ss[m]) (by simp[RG]);obtain⟨tz,rfl⟩:=ru;refine⟨ss[m],tz,?_,by simp[RG]⟩;have:its[m]?=Za its.toArray[m]:=by simp[show m<its.length by simpa using hm]
  rw[hu] at this;exact(aP this).symm
 have jl:j<its.toArray.size:=by have:=(aW.mp hj).1;rw[aM];lia
 refine iz jC ⟨_,e,rfl⟩ PySem.F.entry_list_index (PySem.F.args_list_index_2 _ _)
  (SeqAt.list_indexAt l its.toArray n _ _ (.str y t) (λv=>match v with|.str z _=>decide (z=y)|_=>false) j jl (by rw[aM] at jl;lia) ?_ ?_) ⟨e,λw hw=>?_,⟨.int j,H,I.tok _,⟨_,rfl⟩,q⟩⟩
 ·obtain⟨z',tz,e1,e2⟩:=UW j jl;rw[e1];rw[hj] at e2;exact Zg (aP e2).symm
 ·intro m hm Ps;obtain⟨z',tz,e1,e2⟩:=UW m hm;rw[e1];exact Zh λw=>QJ m Ps (by rw[e2,w])
 ·obtain⟨m,hm,rfl⟩:=Array.getElem_of_mem hw;obtain⟨z',tz,e1,e2⟩:=UW m hm;rw[e1];exact FA (show RelV (.str z') (.str z' tz) from⟨tz,rfl⟩) (show RelV (.str y) (.str y t) from⟨t,rfl⟩) rfl rfl
def O4:R2:=λx y H Q=>∃a v,x=.ref a/\DGet H a y (Za v)/\Q v H
def LW(hu:X.A.units+1<eY):IxR X O4:=by
 intro value Px Pe s O H x y v u Q I rx ry h hs;obtain⟨a,z,rfl,g,q⟩:=h;obtain rfl:v=bj a:=rx;have hT:=xZ I g;unfold jd;refine aq ?_;rw[getitemInPython_of_ne hT.not_modules];refine aq (wpAny_specialOf hT jj.lookup ?_);have PK:aS (model X.prog X.w) X.A (subscripted Px false (.ref a) u) (λr Pj=>aS (model X.prog X.w) X.A (letTemporaryGo value (.ref a) r >>= λ_=>pure r) (EP X Pe O Q) X.xe Pj) X.xe s:=by rw[hs];exact wpAny_operating (bM (BJ hu I g ry λw' s3 I3 P0=>(⟨z,H,I3,P0,q⟩:EP X Pe O Q w' s3)) (λr Pj SC=>aq (wpAny_letTemporaryGo (aN SC))) λ_ _ x=>x)
 first
  |exact aN (aq PK)
  |exact aq (aN (aq PK))
  |exact aq PK
def rInD:R2:=λy x H Q=>∃a o,x=.ref a/\DGet H a y o/\Q (.bl o.isSome) H
def Lg:R2:=λy x H Q=>∃a o,x=.ref a/\DGet H a y o/\Q (.bl (!o.isSome)) H
def EV(hu:X.A.units+1<eY):OpR X (bP .In) rInD:=by intro Pe s O H y x v u Q I ry rx h;obtain⟨a,o,rfl,g,q⟩:=h;obtain rfl:u=bj a:=rx;exact d_in hu I g ry λs3 I3=>⟨.bl o.isSome,H,I3,rfl,q⟩
def AB(hu:X.A.units+1<eY):OpR X (bP .NotIn) Lg:=by intro Pe s O H y x v u Q I ry rx h;obtain⟨a,o,rfl,g,q⟩:=h;obtain rfl:u=bj a:=rx;exact ME hu I g ry λs3 I3=>⟨.bl (!o.isSome),H,I3,rfl,q⟩
def HJ:CallR X (.builtin "len") (λxs H Q=>∃a kvs,xs=[V.ref a]/\Rd H a (.dK kvs)/\Q (.int kvs.length) H):=by intro Pe s O H xs us Q I r h;obtain⟨a,kvs,rfl,ha,q⟩:=h;obtain⟨u,rfl,ru⟩:=qH r;cases ru;exact Nr I ha λt s' I'=>⟨.int kvs.length,H,I',⟨t,rfl⟩,q⟩
def O5(K:aa)(CB:ak)(neg:Bool):R2:=λx y H Q=>∃m s v w d e,SR K CB H m s/\Rep K H m s x v/\Rep K H m s y w/\PV.data s 12 v=Za d/\PV.data s 12 w=Za e/\Q (.bl (if neg then !bH d e else bH d e)) H
def N9{CB}(hu:X.A.units+12<eY):OpR X (bP .Eq) (O5 X.K CB false):=by intro Pe s O H x y v u Q I rx ry h;obtain⟨m,t,p,q,d,e,S,r1,r2,e1,e2,k⟩:=h;obtain⟨⟨as,a1⟩,a2,a3⟩:=r1.reads I S 12 rx e1;obtain⟨⟨bs,b1⟩,b2,b3⟩:=r2.reads I S 12 ry e2;exact SeqAt.rcAt_reads a1 b1 a2 b2 (by lia) _ _ _ _ ⟨.bl _,H,I,rfl,k⟩
def N5{CB}(hu:X.A.units+12<eY):OpR X (bP .NotEq) (O5 X.K CB true):=by intro Pe s O H x y v u Q I rx ry h;obtain⟨m,t,p,q,d,e,S,r1,r2,e1,e2,k⟩:=h;obtain⟨⟨as,a1⟩,a2,a3⟩:=r1.reads I S 12 rx e1;obtain⟨⟨bs,b1⟩,b2,b3⟩:=r2.reads I S 12 ry e2;exact SeqAt.rcNeAt_reads a1 b1 a2 b2 (by lia) _ _ _ _ ⟨.bl _,H,I,rfl,k⟩
end
def qq(i j:Int):Prop:=(Bt 20000 i/\Bt 20000 j)\/CMul i j
def zC(j:Int):Prop:=0<j/\Bt 9000 j
noncomputable instance (i j:Int):Decidable (qq i j):=dC _
noncomputable instance (j:Int):Decidable (zC j):=dC _
def fAdd(v w:PV)(s:Sto):Out PV:=match v,w with
 |.int i,.int j=>.ok (.int (i+j)) s
 |.str x,.str y=>if x.length+y.length<=100000 then .ok (.str (x++y)) s else .bad
 |v,w=>match lsOf s v,lsOf s w with
  |some l,Za k=>if l.length+k.length<=100000 then .ok (.lst (l++k)) s else .bad
  |_,_=>.bad
def fSub(v w:PV)(s:Sto):Out PV:=match v,w with
 |.int i,.int j=>.ok (.int (i-j)) s
 |_,_=>.bad
def fMul(v w:PV)(s:Sto):Out PV:=match v,w with
 |.int i,.int j=>if qq i j then .ok (.int (i*j)) s else .bad
 |.lst l,.int k=>if -(2^63)<=k/\k<2^63/\l.length*k.toNat<=100000 then .ok (.lst (aR k.toNat l).flatten) s else .bad
 |_,_=>.bad
def fDiv(v w:PV)(s:Sto):Out PV:=match v,w with
 |.int i,.int j=>if zC j then .ok (.int (i/j)) s else .bad
 |_,_=>.bad
def fMod(v w:PV)(s:Sto):Out PV:=match v,w with
 |.int i,.int j=>if 0<j then .ok (.int (i%j)) s else .bad
 |_,_=>.bad
def fPow(v w:PV)(s:Sto):Out PV:=match v,w with
 |.int i,.int j=>if 0<=j/\j<=1000000/\i.natAbs<2^64 then .ok (.int (i^j.toNat)) s else .bad
 |_,_=>.bad
def fCmp(p:Int->Int->Bool)(v w:PV)(s:Sto):Out PV:=match v,w with
 |.int i,.int j=>.ok (.bl (p i j)) s
 |_,_=>.bad
abbrev fLt:=fCmp λi j=>decide (i<j)
abbrev fGt:=fCmp λi j=>decide (j<i)
abbrev fGe:=fCmp λi j=>decide (j<=i)
def fEqN(neg:Bool)(v w:PV)(s:Sto):Out PV:=match PV.data s 12 v,PV.data s 12 w with
 |some d,Za e=>.ok (.bl (if neg then !bH d e else bH d e)) s
 |_,_=>.bad
abbrev fEq:=fEqN false
abbrev fNe:=fEqN true
def PV.isNon:PV->Bool
 |.non=>true
 |_=>false
def fIs(v w:PV)(s:Sto):Out PV:=match w with
 |.non=>.ok (.bl v.isNon) s
 |_=>.bad
def fIsnt(v w:PV)(s:Sto):Out PV:=match w with
 |.non=>.ok (.bl (!v.isNon)) s
 |_=>.bad
def Eu(neg b:Bool):Bool:=if neg then !b else b
def qp(neg:Bool)(v w:PV)(s:Sto):Out PV:=match dcOf s w with
 |some l=>match kyOf v with
  |some k=>.ok (.bl (Eu neg (oZ l k).isSome)) s
  |none=>.bad
 |none=>match toV v with
  |none=>.bad
  |some x=>match w with
   |.tup l=>match toVs l with
    |some zs=>.ok (.bl (Eu neg (inV x zs))) s
    |none=>.bad
   |w=>match lsOf s w with
    |some l=>match toVs l with
     |some zs=>.ok (.bl (Eu neg (inV x zs))) s
     |none=>.bad
    |none=>.bad
abbrev fIn:=qp false
abbrev wc:=qp true
def fIx(v w:PV)(s:Sto):Out PV:=match v with
 |.tup l=>match w with
  |.int i=>match atI l i with
   |some p=>.ok p s
   |none=>.bad
  |_=>.bad
 |.str x=>match w with
  |.int i=>match atI x.cps.toList i with
   |some c=>if x.length<=100000 then .ok (.str ⟨#[c]⟩) s else .bad
   |none=>.bad
  |_=>.bad
 |v=>match lsOf s v with
  |some l=>match w with
   |.int i=>match atI l i with
    |some p=>.ok p s
    |none=>.bad
   |_=>.bad
  |none=>match dcOf s v with
   |some l=>match kyOf w with
    |some k=>match oZ l k with
     |some p=>.ok p s
     |none=>.bad
    |none=>.bad
   |none=>.bad
def fNeg(v:PV)(s:Sto):Out PV:=match v with
 |.int i=>.ok (.int (-i)) s
 |_=>.bad
section
variable{X:Cx}{CB:ak}{E:XK}
def o_add:Op2 X.K CB E (λx y H Q=>rI0 (λi j=>V.int (i+j)) x y H Q\/(∃i j,x=V.str i/\y=V.str j/\i.length+j.length<=aK/\Q (V.str (i++j)) H)\/Ky X.K x y H Q) fAdd:=by
 intro H m s v w x y Q S rx ry P;unfold fAdd at P;split at P
 ·cases rx;cases ry;exact .inl ⟨_,_,rfl,rfl,P.here S .int⟩
 ·cases rx;cases ry;split at P
  ·rename_i h;exact .inr (.inl ⟨_,_,rfl,rfl,sz5 h,P.here S .str⟩)
  ·exact P.elim
 ·split at P
  ·rename_i l k h1 h2;split at P
   ·rename_i h;obtain⟨a,vs,rfl,q1,r1⟩:=rx.ls S h1;obtain⟨b,ws,rfl,q2,r2⟩:=ry.ls S h2;exact .inr (.inr ⟨a,b,vs,ws,rfl,rfl,q1,q2,by rw[r1.length,r2.length];exact sz5 h,λp hp=>P.new S hp λex S'=>.lst lQ (S.pure_none hp) ((r1.append r2).ext ex)⟩)
   ·exact P.elim
  ·exact P.elim
def LC:OpR X (dF .Add) (λx y H Q=>rI0 (λi j=>V.int (i+j)) x y H Q\/(∃i j,x=V.str i/\y=V.str j/\i.length+j.length<=aK/\Q (V.str (i++j)) H)\/Ky X.K x y H Q):=op_add.or (op_add_str.or LA)
def o_sub:Op2 X.K CB E (rI0 λi j=>V.int (i-j)) fSub:=by
 intro H m s v w x y Q S rx ry P;unfold fSub at P;split at P
 ·cases rx;cases ry;exact⟨_,_,rfl,rfl,P.here S .int⟩
 ·exact P.elim
theorem Reps.rep{K}{H}{m}{s}{vs}{l}(r:Reps K H m s vs l):∀n,Reps K H m s (aR n vs).flatten (aR n l).flatten
 |0=>.nil
 |n+1=>by rw[cY,cY,dY,dY];exact r.append (r.rep n)
def o_mul:Op2 X.K CB E (λx y H Q=>(rI (λi j=>Bt 20000 i/\Bt 20000 j) (λi j=>V.int (i*j)) x y H Q\/rI CMul (λi j=>V.int (i*j)) x y H Q)\/O0 x y H Q) fMul:=by
 intro H m s v w x y Q S rx ry P;unfold fMul at P;split at P
 ·cases rx;cases ry;split at P
  ·rename_i h;rcases h with h|h
   ·exact .inl (.inl ⟨_,_,rfl,rfl,h,P.here S .int⟩)
   ·exact .inl (.inr ⟨_,_,rfl,rfl,h,P.here S .int⟩)
  ·exact P.elim
 ·split at P
  ·rename_i h;cases rx with
   |lst h1 _ r1 =>
    cases ry;exact .inr ⟨_,_,_,rfl,rfl,h1,h.1,h.2.1,by rw[r1.length];exact sz5 h.2.2,λp hp=>P.new S hp λex S'=>.lst lQ (S.pure_none hp) ((r1.rep _).ext ex)⟩
  ·exact P.elim
 ·exact P.elim
def Ly:OpR X (dF .Mult) (λx y H Q=>(rI (λi j=>Bt 20000 i/\Bt 20000 j) (λi j=>V.int (i*j)) x y H Q\/rI CMul (λi j=>V.int (i*j)) x y H Q)\/O0 x y H Q):=(op_mulB.or N6).or N3
def o_div:Op2 X.K CB E (rI (λ_ j=>0<j/\j.natAbs.log2<9000) λi j=>V.int (i/j)) fDiv:=by
 intro H m s v w x y Q S rx ry P;unfold fDiv at P;split at P
 ·cases rx;cases ry;split at P
  ·rename_i h;exact⟨_,_,rfl,rfl,⟨h.1,h.2.log h.1⟩,P.here S .int⟩
  ·exact P.elim
 ·exact P.elim
def o_mod:Op2 X.K CB E (rI (λ_ j=>0<j) λi j=>V.int (i%j)) fMod:=by
 intro H m s v w x y Q S rx ry P;unfold fMod at P;split at P
 ·cases rx;cases ry;split at P
  ·rename_i h;exact⟨_,_,rfl,rfl,h,P.here S .int⟩
  ·exact P.elim
 ·exact P.elim
def o_pow:Op2 X.K CB E (rI CPow λi j=>V.int (i^j.toNat)) fPow:=by
 intro H m s v w x y Q S rx ry P;unfold fPow at P;split at P
 ·cases rx;cases ry;split at P
  ·rename_i h;exact⟨_,_,rfl,rfl,h,P.here S .int⟩
  ·exact P.elim
 ·exact P.elim
def KD:Op2 X.K CB E (rI0 λi j=>V.bl (p i j)) (fCmp p):=by
 intro H m s v w x y Q S rx ry P;unfold fCmp at P;split at P
 ·cases rx;cases ry;exact⟨_,_,rfl,rfl,P.here S .bl⟩
 ·exact P.elim
def Nc:Op2 X.K CB E (O5 X.K CB neg) (fEqN neg):=by
 intro H m s v w x y Q S rx ry P;unfold fEqN at P;split at P
 ·rename_i d e h1 h2;exact⟨m,s,v,w,d,e,S,rx,ry,h1,h2,P.here S .bl⟩
 ·exact P.elim
def O6(neg:Bool):R2:=λy x H Q=>∃a o,x=.ref a/\DGet H a y o/\Q (.bl (Eu neg o.isSome)) H
def o_in:Op2 X.K CB E (λx y H Q=>O6 neg x y H Q\/rIn X.K neg x y H Q) (qp neg):=by
 intro H m s v w x y Q S rx ry P;unfold qp at P;split at P
 ·rename_i l hl;split at P
  ·rename_i k hk;obtain⟨a,vs,rfl,q,r⟩:=ry.dc S hl;refine .inl ⟨a,oO vs k,rfl,.inl ⟨vs,k,q,qi rx hk,rfl⟩,?_⟩;obtain⟨r1,r2⟩:=r.val k;cases c:oZ l k with
   |none=>rw[r2 c];rw[c] at P;exact P.here S .bl
   |some p=>obtain⟨u,e,_⟩:=r1 p c;rw[e];rw[c] at P;exact P.here S .bl
  ·exact P.elim
 ·split at P
  ·exact P.elim
  ·rename_i z hz;have ez:=rx.toV hz;subst ez;split at P
   ·split at P
    ·rename_i l zs S9;obtain⟨a,vs,rfl,q,r⟩:=ry.tp;have e:=r.toVs S9;subst e;exact .inr ⟨a,vs,rfl,.inr q,zV hz,xj S9,P.here S .bl⟩
    ·exact P.elim
   ·split at P
    ·rename_i l hl;split at P
     ·rename_i zs S9;obtain⟨a,vs,rfl,q,r⟩:=ry.ls S hl;have e:=r.toVs S9;subst e;exact .inr ⟨a,vs,rfl,.inl q,zV hz,xj S9,P.here S .bl⟩
     ·exact P.elim
    ·exact P.elim
def N7(hu:X.A.units+1<eY):OpR X (bP .In) (λx y H Q=>O6 false x y H Q\/rIn X.K false x y H Q):=(EV hu).or Hd
def Hc(hu:X.A.units+1<eY):OpR X (bP .NotIn) (λx y H Q=>O6 true x y H Q\/rIn X.K true x y H Q):=(AB hu).or Cg
def o_ix:Op2 X.K CB E (λx y H Q=>(O1 X.K x y H Q\/O2 x y H Q)\/(O3 X.K x y H Q\/O4 x y H Q)) fIx:=by
 intro H m s v w x y Q S rx ry P;unfold fIx at P;split at P
 ·split at P
  ·split at P
   ·rename_i p hp;cases ry;obtain⟨a,vs,rfl,q,r⟩:=rx.tp;obtain⟨u,e,ru⟩:=r.atI hp;exact .inl (.inl ⟨a,vs,_,u,rfl,rfl,q,e,P.here S ru⟩)
   ·exact P.elim
  ·exact P.elim
 ·split at P
  ·split at P
   ·rename_i c hc;split at P
    ·rename_i hl;cases rx;cases ry;exact .inl (.inr ⟨_,_,c,rfl,rfl,sz5 hl,hc,P.here S .str⟩)
    ·exact P.elim
   ·exact P.elim
  ·exact P.elim
 ·split at P
  ·rename_i l hl;split at P
   ·split at P
    ·rename_i p hp;cases ry;obtain⟨a,vs,rfl,q,r⟩:=rx.ls S hl;obtain⟨u,e,ru⟩:=r.atI hp;exact .inr (.inl ⟨a,vs,_,u,rfl,rfl,q,e,P.here S ru⟩)
    ·exact P.elim
   ·exact P.elim
  ·split at P
   ·rename_i l hl;split at P
    ·rename_i k hk;split at P
     ·rename_i p hp;obtain⟨a,vs,rfl,q,r⟩:=rx.dc S hl;obtain⟨u,e,ru⟩:=(r.val k).1 p hp;exact .inr (.inr ⟨a,u,rfl,.inl ⟨vs,k,q,qi ry hk,e.symm⟩,P.here S ru⟩)
     ·exact P.elim
    ·exact P.elim
   ·exact P.elim
def ix_U(hu:X.A.units+1<eY):IxR X (λx y H Q=>(O1 X.K x y H Q\/O2 x y H Q)\/(O3 X.K x y H Q\/O4 x y H Q)):=(ix_tup.or yw).or (ix_list.or (LW hu))
def o_neg:Op1 X.K CB E (rU λi=>V.int (-i)) fNeg:=by
 intro H m s v x Q S rx P;unfold fNeg at P;split at P
 ·cases rx;exact⟨_,rfl,P.here S .int⟩
 ·exact P.elim
variable{a b c e:bo}{es:List bo}{f g h:XE}{fa:XA}{p pos Pf Pg:Pos}{x:Str}
def nu(ha:DE X CB E a f)(hb:DE X CB E b g):DE X CB E (.BinOp a .Add b pos) (x2 f g fAdd):=zE LC o_add ha hb
def yy(ha:DE X CB E a f)(hb:DE X CB E b g):DE X CB E (.BinOp a .Sub b pos) (x2 f g fSub):=zE N2 o_sub ha hb
def nr(ha:DE X CB E a f)(hb:DE X CB E b g):DE X CB E (.BinOp a .Mult b pos) (x2 f g fMul):=zE Ly o_mul ha hb
def tV(ha:DE X CB E a f)(hb:DE X CB E b g):DE X CB E (.BinOp a .FloorDiv b pos) (x2 f g fDiv):=zE sJ o_div ha hb
def wf(ha:DE X CB E a f)(hb:DE X CB E b g):DE X CB E (.BinOp a .Mod b pos) (x2 f g fMod):=zE J1 o_mod ha hb
def we(ha:DE X CB E a f)(hb:DE X CB E b g):DE X CB E (.BinOp a .Pow b pos) (x2 f g fPow):=zE N4 o_pow ha hb
def OO(ha:DE X CB E a f):DE X CB E (.UnaryOp .USub a pos) (x1 f fNeg):=de_un JL o_neg ha
def hu12(hr:Room k A):A.units+12<eY:=aX (lG (by decide:12<=64) _) hr.units
def mw(ha:DE X CB E a f)(hb:DE X CB E b g)(hr:Room jr X.A:=by assumption)(hs:GM b:=by exact λ_ _=>rfl):DE X CB E (.Subscript a b pos) (x2 f g fIx):=⟨(sd (ix_U (oi hr)) ha.pe hb.pe hs).mono λO H Q q=>two o_ix q⟩
structure CmpR(X:Cx)(CB:ak)(E:XK)(op:CmpOp)(F:PV->PV->Sto->Out PV):Prop where
 ex:∃r,OpR X (bP op) r/\Op2 X.K CB E r F
def c_lt:CmpR X CB E .Lt fLt:=⟨_,M7,KD⟩
def Pb:CmpR X CB E .Gt fGt:=⟨_,M9,KD⟩
def Nt:CmpR X CB E .GtE fGe:=⟨_,KB,KD⟩
def BR(hr:Room jr X.A:=by assumption):CmpR X CB E .Eq fEq:=⟨_,N9 (hu12 hr),Nc⟩
def MH(hr:Room jr X.A:=by assumption):CmpR X CB E .NotEq fNe:=⟨_,N5 (hu12 hr),Nc⟩
def c_in(hr:Room jr X.A:=by assumption):CmpR X CB E .In fIn:=⟨_,N7 (oi hr),o_in⟩
def CS(hr:Room jr X.A:=by assumption):CmpR X CB E .NotIn wc:=⟨_,Hc (oi hr),o_in⟩
def Dg(r:CmpR X CB E op F)(ha:DE X CB E a f)(hb:DE X CB E b g)(hm:cR op b=false:=by first|exact vh _|with_unfolding_all rfl):DE X CB E (.Compare a [op] [b] pos) (x2 f g F):=let⟨_,r1,r2⟩:=r.ex;L2.de_cmp r1 r2 ha hb hm
def oC(r:CmpR X CB E op F)(ha:DE X CB E a f)(hb:DE X CB E b g)(hm:cR op b=false:=by first|exact vh _|with_unfolding_all rfl):DT X CB E (.Compare a [op] [b] pos) (xTr (x2 f g F)):=let⟨_,r1,r2⟩:=r.ex;L2.dt_cmp r1 r2 ha hb hm
abbrev XO':=En->Sto->Out (Option Int)
def TDO(K:aa)(CB:ak)(E:XK)(f:XO'):TO:=λO H Q=>∃Z s m,ER K H m s O Z/\SR K CB H m s/\Post K CB (λ_ _ _ u v=>u=v) E (f Z s) H m s Q
structure DO(X:Cx)(CB:ak)(E:XK)(e:Option bo)(f:XO'):Prop where
 po:PO X e (TDO X.K CB E f)
def xNoP(_:En)(s:Sto):Out (Option Int):=.ok Zb s
def xPart(f:XE)(Z:En)(s:Sto):Out (Option Int):=(f Z s).bind λv s1=>match v with
 |.int i=>.ok (Za i) s1
 |_=>.bad
def PO.mono{e}{t t':TO}(h:PO X e t)(k:∀O H Q,t' O H Q->t O H Q):PO X e t':=λPe s O H Q I q=>h Pe s O H Q I (k O H Q q)
def zB:DO X CB E Zb xNoP:=⟨po_none.mono λO H Q=>oE λZ s m er S P=>P.here S rfl⟩
def zA(h:DE X CB E e f):DO X CB E (Za e) (xPart f):=⟨(Lm h.pe).mono λO H Q=>oE λZ s m er S P=>⟨Z,s,m,er,S,P.bind λv s1 u H1 m1 e1 S1 r1 P1=>by cases r1<;>first|exact P1.elim|exact⟨_,rfl,P1.here S1 rfl⟩⟩⟩
def CP(l:List PV)(lo hi:Option Int):List PV:=(l.drop (HT.sIx l.length 0 lo)).take (HT.sIx l.length l.length hi-HT.sIx l.length 0 lo)
def fSl(v:PV)(lo hi:Option Int)(s:Sto):Out PV:=match v with
 |.tup l=>if HT.sIx l.length 0 lo=0/\HT.sIx l.length l.length hi=l.length then .bad else .ok (.tup (CP l lo hi)) s
 |v=>match lsOf s v with
  |some l=>.ok (.lst (CP l lo hi)) s
  |none=>.bad
def xSl(f:XE)(lo hi:XO')(Z:En)(s:Sto):Out PV:=(f Z s).bind λv s1=>(lo Z s1).bind λl s2=>(hi Z s2).bind λu s3=>fSl v l u s3
def Reps.cut{K}{H}{m}{s}{vs}{l}(r:Reps K H m s vs l)(lo hi):Reps K H m s (GA vs lo hi) (CP l lo hi):=by unfold GA CP;rw[r.length];exact(r.drop _).take _
def Ic{lo hi}{fl fh:XO'}{p2}(ha:DE X CB E a f)(hl:DO X CB E lo fl)(hh:DO X CB E hi fh):DE X CB E (.Subscript a (.Slice lo hi Zb p2) pos) (xSl f fl fh) :=
 ⟨(IL (sl_list.or NG) ha.pe hl.po hh.po).mono λO H Q=>oE λZ s m er S P=>⟨Z,s,m,er,S,P.bind λv s1 u H1 m1 e1 S1 r1 P1=>⟨Z,s1,m1,er.ext e1,S1,P1.bind λl s2 l' H2 m2 e2 S2 r2 P2=>by
  cases r2;refine⟨Z,s2,m2,(er.ext e1).ext e2,S2,P2.bind λk s3 k' H3 m3 e3 S3 r3 P3=>?_⟩;cases r3;have r1:=(r1.ext e2).ext e3;unfold fSl at P3;split at P3
  ·split at P3
   ·exact P3.elim
   ·rename_i hn;obtain⟨a,vs,rfl,q,r⟩:=r1.tp;exact .inr ⟨a,vs,rfl,q,by rw[r.length];exact hn,λp hp=>P3.new S3 hp λex S'=>.tup (.inl ⟨.inl lQ,S'.pure_tup lQ⟩) ((r.cut _ _).ext ex)⟩
  ·split at P3
   ·rename_i l hl;obtain⟨a,vs,rfl,q,r⟩:=r1.ls S3 hl;exact .inl ⟨a,vs,rfl,q,λp hp=>P3.new S3 hp λex S'=>.lst lQ (S3.pure_none hp) ((r.cut _ _).ext ex)⟩
   ·exact P3.elim⟩⟩⟩
def xB(fa:XA)(F:List PV->Sto->Out PV)(Z:En)(s:Sto):Out PV:=(fa Z s).bind F
def nOf(o:OpN X.K CB E r F)(q:TDE X.K CB E (xB fa F) O H Q):tCB r (TDA X.K CB E fa) O H Q:=by obtain⟨Z,s,m,er,S,P⟩:=q;exact⟨Z,s,m,er,S,P.bind λv s1 u H1 m1 e1 S1 r1 P1=>o H1 m1 s1 v u Q S1 r1 P1⟩
structure BltR(X:Cx)(CB:ak)(E:XK)(fv:ag)(F:List PV->Sto->Out PV):Prop where
 ex:∃r,CallR X fv r/\OpN X.K CB E r F
def mD{id:String}{F}(r:BltR X CB E (.builtin id) F)(ha:DA X CB E (e::es) fa)(hg:Gl X x:=by rfl)(hm:X.mg x=none:=by first|exact T.b_len|exact T.b_str|exact T.b_sorted|exact T.b_tuple|exact T.b_int|exact T.b_list|exact T.b_abs|exact T.b_all|exact T.b_any|exact T.b_max|exact T.b_bool|exact T.b_dict)(hv:bN x=Za (.builtin id):=by first|exact Dh|exact uY|exact OX|exact Ko|exact bt_any|exact bt_max)(hn:x≠"__name__":=by decide)(P8:NDb x:=by decide)(hs:SEb X e es:=by rfl)(PL:(bY pos (aB es X.env)).any (·.1)=false:=by rfl):DE X CB E (.Call (.Name x p) (e::es) [] pos) (xB fa F) :=
 let⟨_,r1,r2⟩:=r.ex;⟨(pG r1 hg hm hv ha.pa hn P8 hs PL).mono λO H Q q=>nOf r2 q⟩
def sx(r:BltR X CB E (.type T) F)(ha:DA X CB E (e::es) fa)(hg:Gl X x:=by rfl)(hm:X.mg x=none:=by first|exact T.b_len|exact T.b_str|exact T.b_sorted|exact T.b_tuple|exact T.b_int|exact T.b_list|exact T.b_abs|exact T.b_all|exact T.b_any|exact T.b_max|exact T.b_bool|exact T.b_dict)(hv:bN x=Za (.type T):=by first|exact OV|exact JF|exact OW|exact MI|exact bt_dict)(hn:x≠"__name__":=by decide)(P8:NDb x:=by decide)(hs:SEb X e es:=by rfl)(PL:(bY pos (aB es X.env)).any (·.1)=false:=by rfl):DE X CB E (.Call (.Name x p) (e::es) [] pos) (xB fa F) :=
 let⟨_,r1,r2⟩:=r.ex;⟨(Ha r1 hg hm hv ha.pa hn P8 hs PL).mono λO H Q q=>nOf r2 q⟩
def fLen(vs:List PV)(s:Sto):Out PV:=match vs with
 |[.tup l]=>.ok (.int l.length) s
 |[.str x]=>if x.length<=100000 then .ok (.int x.length) s else .bad
 |[v]=>match lsOf s v with
  |some l=>.ok (.int l.length) s
  |none=>match dcOf s v with
   |some l=>.ok (.int l.length) s
   |none=>.bad
 |_=>.bad
def b_len:BltR X CB E (.builtin "len") fLen:=⟨_,call_len_seq.or (call_len_str.or HJ),by
 intro H m s v x Q S rx P;unfold fLen at P;split at P
 ·cases rx with
  |cons r n =>
   cases n;obtain⟨a,vs,rfl,q,r⟩:=r.tp;rw[<-r.length] at P;exact .inl ⟨a,vs,rfl,.inr q,P.here S .int⟩
 ·cases rx with
  |cons r n =>
   cases n;cases r;split at P
   ·rename_i h;exact .inr (.inl ⟨_,rfl,sz5 h,P.here S .int⟩)
   ·exact P.elim
 ·cases rx with
  |cons r n =>
   cases n;split at P
   ·rename_i l hl;obtain⟨a,vs,rfl,q,r⟩:=r.ls S hl;rw[<-r.length] at P;exact .inl ⟨a,vs,rfl,.inl q,P.here S .int⟩
   ·split at P
    ·rename_i l hl;obtain⟨a,vs,rfl,q,r⟩:=r.dc S hl;rw[<-r.length] at P;exact .inr (.inr ⟨a,vs,rfl,q,P.here S .int⟩)
    ·exact P.elim
 ·exact P.elim⟩
def fAbs(vs:List PV)(s:Sto):Out PV:=match vs with
 |[.int i]=>.ok (.int (if i<0 then -i else i)) s
 |_=>.bad
def b_abs:BltR X CB E (.builtin "abs") fAbs:=⟨_,JD,by
 intro H m s v x Q S rx P;unfold fAbs at P;split at P
 ·cases rx with
  |cons r n=>cases n;cases r;exact⟨_,rfl,P.here S .int⟩
 ·exact P.elim⟩
def fInt(vs:List PV)(s:Sto):Out PV:=match vs with
 |[.int i]=>.ok (.int i) s
 |[.bl b]=>.ok (.int (if b=true then 1 else 0)) s
 |_=>.bad
def b_int:BltR X CB E (.type "int") fInt:=⟨_,HK,by
 intro H m s v x Q S rx P;unfold fInt at P;split at P
 ·cases rx with
  |cons r n=>cases n;cases r;exact .inl ⟨_,rfl,P.here S .int⟩
 ·cases rx with
  |cons r n=>cases n;cases r;exact .inr ⟨_,rfl,P.here S .int⟩
 ·exact P.elim⟩
def fTuple(vs:List PV)(s:Sto):Out PV:=match vs with
 |[v]=>match lsOf s v with
  |some l=>.ok (.tup l) s
  |none=>.bad
 |_=>.bad
def b_tuple:BltR X CB E (.type "tuple") fTuple:=⟨_,AO,by
 intro H m s v x Q S rx P;unfold fTuple at P;split at P
 ·cases rx with
  |cons r n =>
   cases n;split at P
   ·rename_i l hl;obtain⟨a,vs,rfl,q,r⟩:=r.ls S hl;exact⟨a,vs,rfl,.inl ⟨q,λp hp=>P.new S hp λex S'=>.tup (.inl ⟨.inl lQ,S'.pure_tup lQ⟩) (r.ext ex)⟩⟩
   ·exact P.elim
 ·exact P.elim⟩
def fList(vs:List PV)(s:Sto):Out PV:=match vs with
 |[.tup l]=>.ok (.lst l) s
 |[v]=>match lsOf s v with
  |some l=>.ok (.lst l) s
  |none=>.bad
 |_=>.bad
def b_list:BltR X CB E (.type "list") fList:=⟨_,Ct,by
 intro H m s v x Q S rx P;unfold fList at P;split at P
 ·cases rx with
  |cons r n =>
   cases n;obtain⟨a,vs,rfl,q,r⟩:=r.tp;exact⟨a,vs,rfl,.inr q,λp hp=>P.new S hp λex S'=>.lst lQ (S.pure_none hp) (r.ext ex)⟩
 ·cases rx with
  |cons r n =>
   cases n;split at P
   ·rename_i l hl;obtain⟨a,vs,rfl,q,r⟩:=r.ls S hl;exact⟨a,vs,rfl,.inl q,λp hp=>P.new S hp λex S'=>.lst lQ (S.pure_none hp) (r.ext ex)⟩
   ·exact P.elim
 ·exact P.elim⟩
def tP:List PV->Option (List Str)
 |[]=>Za []
 |.str x::l=>(tP l).map (x::·)
 |_=>Zb
theorem uT:∀{l:List PV}{ss:List Str},tP l=Za ss->l=ss.map PV.str
 |[],_,e=>by cases e;rfl
 |p::l,ss,e=>by
  unfold tP at e;split at e
  ·rename_i h;cases h
  ·rename_i x l' h;cases h;cases c:tP l with
   |none=>rw[c] at e;cases e
   |some t=>rw[c] at e;cases e;rw[uT c];rfl
  ·cases e
def vy(ss):tP (ss.map PV.str)=Za ss:=by
 induction ss with
 |nil=>rfl
 |cons x r ih=>rw[al];unfold tP;rw[ih];rfl
def keysOf:List (Key×PV)->Option (List Str)
 |[]=>Za []
 |(.inr x,_)::l=>(keysOf l).map (x::·)
 |_=>Zb
theorem xy:∀{l:List (Key×PV)}{ss:List Str},keysOf l=Za ss->l.map (·.1)=ss.map aj
 |[],_,e=>by cases e;rfl
 |p::l,ss,e=>by
  unfold keysOf at e;split at e
  ·rename_i h;cases h
  ·rename_i x _ l' h;cases h;cases c:keysOf l with
   |none=>rw[c] at e;cases e
   |some t=>rw[c] at e;cases e;rw[al,xy c];rfl
  ·cases e
def mv(vs:List PV)(s:Sto):Out PV:=match vs with
 |[v]=>match lsOf s v with
  |some l=>match tP l with
   |some ss=>if ss.length<64 then .ok (.lst ((srt ss).map PV.str)) s else .bad
   |none=>.bad
  |none=>match dcOf s v with
   |some l=>match keysOf l with
    |some ss=>if ss.length<64 then .ok (.lst ((srt ss).map PV.str)) s else .bad
    |none=>.bad
   |none=>.bad
 |_=>.bad
def b_sorted(hc:X.calm=true):BltR X CB E (.builtin "sorted") mv:=⟨_,call_sortedL.or (pf hc),by
 intro H m s v x Q S rx P;unfold mv at P;split at P
 ·cases rx with
  |cons r n =>
   cases n;split at P
   ·rename_i l hl;split at P
    ·rename_i ss hs;split at P
     ·rename_i Rk;obtain⟨a,vs,rfl,q,r⟩:=r.ls S hl;have e:=uT hs;subst e;rw[r.strs] at q;exact .inl ⟨a,ss,rfl,q,Rk,λp hp=>P.new S hp λex S'=>.lst lQ (S.pure_none hp) (.ofStrs _)⟩
     ·exact P.elim
    ·exact P.elim
   ·split at P
    ·rename_i l hl;split at P
     ·rename_i ss hs;split at P
      ·rename_i Rk;obtain⟨a,vs,rfl,q,r⟩:=r.dc S hl;exact .inr ⟨a,vs,ss,rfl,q,r.keys.trans (xy hs),Rk,λp hp=>P.new S hp λex S'=>.lst lQ (S.pure_none hp) (.ofStrs _)⟩
      ·exact P.elim
     ·exact P.elim
    ·exact P.elim
 ·exact P.elim⟩
def zQ:List PV->Option (List Bool)
 |[]=>Za []
 |.bl x::l=>(zQ l).map (x::·)
 |_=>Zb
theorem zP{K}{H}{m}{s}:∀{vs:List V}{l:List PV}{bs:List Bool},Reps K H m s vs l->zQ l=Za bs->vs=bs.map V.bl
 |_,_,_,.nil,e=>by cases e;rfl
 |_,_,_,.cons (l:=l) a b,e=>by
  unfold zQ at e;split at e
  ·rename_i h;cases h
  ·rename_i h;cases h;cases a;cases c:zQ l with
   |none=>rw[c] at e;cases e
   |some t=>rw[c] at e;cases e;rw[zP b c];rfl
  ·cases e
def fAll(vs:List PV)(s:Sto):Out PV:=match vs with
 |[v]=>match lsOf s v with
  |some l=>match zQ l with
   |some bs=>.ok (.bl (bs.all id)) s
   |none=>.bad
  |none=>.bad
 |_=>.bad
def b_all(hc:X.calm=true):BltR X CB E (.builtin "all") fAll:=⟨_,Eo,by
 intro H m s v x Q S rx P;unfold fAll at P;split at P
 ·cases rx with
  |cons r n =>
   cases n;split at P
   ·rename_i l hl;split at P
    ·rename_i bs hb;obtain⟨a,vs,rfl,q,r⟩:=r.ls S hl;have e:=zP r hb;subst e;exact⟨a,bs,rfl,q,hc,P.here S .bl⟩
    ·exact P.elim
   ·exact P.elim
 ·exact P.elim⟩
def xJoin(f:XE)(fa:XA)(Z:En)(s:Sto):Out PV:=(f Z s).bind λv s1=>match v with
 |.str z=>(fa Z s1).bind λvs s2=>match vs with
  |[w]=>match lsOf s2 w with
   |some l=>match tP l with
    |some ys=>if(ys.map (·.length)).sum+ys.length*z.length<=16777216 then .ok (.str (Txt.join z ys)) s2 else .bad
    |none=>.bad
   |none=>.bad
  |_=>.bad
 |_=>.bad
def Mz(ho:DE X CB E a f)(ha:DA X CB E (e::es) fa)(Pz:cz a "join" X.env (eval a X.env)=eval a X.env:=by rfl)(Qz:((bY Pg (aB (e::es) X.env)).all (λx=>!x.1)&&(eR Pg (cW [] X.env)).all (λx=>x.1.isSome)
   && decide ((e::es).length+([]:List fM).length+(if([]:List fM).isEmpty then 0 else 1)<30))=true:=by rfl)(Py:(Pf.endLine==Pg.line)=true:=by rfl)(hs:SEb X e es:=by rfl)(PY:(bY Pg (aB es X.env)).any (·.1)=false:=by rfl) :
  DE X CB E (.Call (.Attribute a "join" Pf) (e::es) [] Pg) (xJoin f fa) :=
 ⟨(KA PySem.F.plainAttrs_str PySem.F.slot_str_join PySem.F.type_str_join LO ho.pe ha.pa Pz Qz Py hs PY).mono λO H Q=>oE λZ s m er S P=>⟨Z,s,m,er,S,P.bind λv s1 u H1 m1 e1 S1 r1 P1=>by
  split at P1
  ·cases r1;refine⟨rfl,Z,s1,m1,er.ext e1,S1,P1.bind λvs s2 us H2 m2 e2 S2 r2 P2=>?_⟩;split at P2
   ·cases r2 with
    |cons r n =>
     cases n;split at P2
     ·rename_i l hl;split at P2
      ·rename_i ys hy;split at P2
       ·rename_i hz;obtain⟨b,vs,rfl,q,r⟩:=r.ls S2 hl;have e:=uT hy;subst e;rw[r.strs] at q;exact⟨_,b,ys,rfl,rfl,q,hz,P2.here S2 .str⟩
       ·exact P2.elim
      ·exact P2.elim
     ·exact P2.elim
   ·exact P2.elim
  ·exact P1.elim⟩⟩
def xAppend(f:XE)(fa:XA)(Z:En)(s:Sto):Out PV:=(f Z s).bind λv s1=>match v with
 |.ref n=>match s1.get n with
  |some (.lst _)=>(fa Z s1).bind λvs s2=>match vs with
   |[w]=>match s2.get n with
    |some (.lst l)=>if l.length<100000 then .ok .non (s2.set n (.lst (l++[w]))) else .bad
    |_=>.bad
   |_=>.bad
  |_=>.bad
 |_=>.bad
def SR.putL{K}{H}{m}{s}{n}{l l'}{P6}(S:SR K CB H m s)(hn:s.get n=Za (.lst l))(r:Reps K H m s P6 l') :
  SR K CB (upd H (m.ad n) (.lst P6)) (m.fput n [m.ad n]) (s.set n (.lst l'))/\Ext H m s (upd H (m.ad n) (.lst P6)) (m.fput n [m.ad n]) (s.set n (.lst l')):=by
 obtain⟨e1,vs,h1,_⟩:=S.get hn;refine S.put hn (by intro _ z;cases z) _ _ (λa o h ha=>?_) (λa ha=>.inl (by rw[e1];exact ha)) λex=>⟨by show(if n=n then [m.ad n] else m.fp n)=_;rw[Zc rfl];rfl,P6,lQ,r.ext0 ex⟩;rw[e1,ap] at ha;rw[lO ha];exact h
def SR.putD{K}{H}{m}{s}{n}{l l'}{P6}(S:SR K CB H m s)(hn:s.get n=Za (.dct l))(r:RepKs K H m s P6 l') :
  SR K CB (upd H (m.ad n) (.dK P6)) (m.fput n [m.ad n]) (s.set n (.dct l'))/\Ext H m s (upd H (m.ad n) (.dK P6)) (m.fput n [m.ad n]) (s.set n (.dct l')):=by
 obtain⟨e1,vs,h1,_⟩:=S.get hn;refine S.put hn (by intro _ z;cases z) _ _ (λa o h ha=>?_) (λa ha=>.inl (by rw[e1];exact ha)) λex=>⟨by show(if n=n then [m.ad n] else m.fp n)=_;rw[Zc rfl];rfl,P6,lQ,r.ext0 ex⟩;rw[e1,ap] at ha;rw[lO ha];exact h
def BG(ho:DE X CB E a f)(ha:DA X CB E (e::es) fa)(Pz:cz a "append" X.env (eval a X.env)=eval a X.env:=by rfl)(Qz:((bY Pg (aB (e::es) X.env)).all (λx=>!x.1)&&(eR Pg (cW [] X.env)).all (λx=>x.1.isSome)
   && decide ((e::es).length+([]:List fM).length+(if([]:List fM).isEmpty then 0 else 1)<30))=true:=by rfl)(Py:(Pf.endLine==Pg.line)=true:=by rfl)(hs:SEb X e es:=by rfl)(PY:(bY Pg (aB es X.env)).any (·.1)=false:=by rfl) :
  DE X CB E (.Call (.Attribute a "append" Pf) (e::es) [] Pg) (xAppend f fa) :=
 ⟨(KA gy kI PySem.F.type_list_append Bv ho.pe ha.pa Pz Qz Py hs PY).mono λO H Q=>oE λZ s m er S P=>⟨Z,s,m,er,S,P.bind λv s1 u H1 m1 e1 S1 r1 P1=>by
  split at P1
  ·split at P1
   ·rename_i n _ _ hg;obtain⟨_,QV,h0,_⟩:=S1.get hg;cases r1 with
    |ref hn =>
    refine⟨.inl ⟨rfl,QV,SqL.of h0⟩,Z,s1,m1,er.ext e1,S1,P1.bind λvs s2 us H2 m2 e2 S2 r2 P2=>?_⟩;split at P2
    ·cases r2 with
     |cons r n' =>
      cases n';split at P2
      ·rename_i l Tv;split at P2
       ·rename_i hl;obtain⟨f1,vs1,h1,q1⟩:=S2.get Tv;obtain⟨S3,e3⟩:=S2.putL Tv (q1.append (.cons r .nil));rw[<-e2.ad _ hn];exact⟨_,vs1,_,rfl,rfl,h1,by rw[q1.length];exact sz6 hl,P2 _ _ _ e3 S3 .non⟩
       ·exact P2.elim
      ·exact P2.elim
    ·exact P2.elim
   ·exact P1.elim
  ·exact P1.elim⟩⟩
def xGet(f g h:XE)(Z:En)(s:Sto):Out PV:=(f Z s).bind λv s1=>match dcOf s1 v with
 |some _=>(g Z s1).bind λw s2=>(h Z s2).bind λz s3=>match dcOf s3 v with
  |some l=>match kyOf w with
   |some k=>.ok ((oZ l k).getD z) s3
   |none=>.bad
  |none=>.bad
 |none=>.bad
def FH(ho:DE X CB E a f)(he:DE X CB E b g)(hf:DE X CB E c h)(hr:Room jr X.A:=by assumption)(mm:M2 X a "get" Pf b c Pg:=by exact⟨rfl,rfl,rfl,rfl⟩):DE X CB E (.Call (.Attribute a "get" Pf) [b,c] [] Pg) (xGet f g h) :=
 ⟨(z7 (oi hr) ho.pe he.pe hf.pe mm).mono λO H Q=>oE λZ s m er S P=>⟨Z,s,m,er,S,P.bind λv s1 u H1 m1 e1 S1 r1 P1=>by
  split at P1
  ·rename_i l0 R7;obtain⟨a,QV,rfl,q0,_⟩:=r1.dc S1 R7;refine⟨a,rfl,.inl ⟨QV,q0⟩,Z,s1,m1,er.ext e1,S1,P1.bind λw s2 u2 H2 m2 e2 S2 r2 P2=>⟨Z,s2,m2,(er.ext e1).ext e2,S2,P2.bind λz s3 u3 H3 m3 e3 S3 r3 P3=>?_⟩⟩;split at P3
   ·rename_i l hl;split at P3
    ·rename_i k hk;obtain⟨a',vs,ea,q,r⟩:=((r1.ext e2).ext e3).dc S3 hl;cases ea;refine⟨oO vs k,.inl ⟨vs,k,q,qi (r2.ext e3) hk,rfl⟩,?_⟩;obtain⟨v1,v2⟩:=r.val k;cases cc:oZ l k with
     |none=>rw[v2 cc];rw[cc] at P3;exact P3.here S3 r3
     |some p=>obtain⟨u,e,ru⟩:=v1 p cc;rw[e];rw[cc] at P3;exact P3.here S3 ru
    ·exact P3.elim
   ·exact P3.elim
  ·exact P1.elim⟩⟩
def xNewD(_:En)(s:Sto):Out PV:=.ok (.ref s.nx) (s.add (.dct []))
def CO:DE X CB E (.Dict [] [] pos) xNewD:=⟨pe_dnewK.mono λO H Q=>oE λZ s m er S P p hp=>by obtain⟨S2,e2⟩:=S.newD hp (My.sF hp) lQ .nil;exact P _ _ _ e2 S2 .new⟩
end
noncomputable def Out.so{α:Type}(o:Out α)(k:α->Sto->SO):SO:=match o with
 |.ok a s=>k a s
 |.ex c s=>.ex c s
 |.bad=>.bad
def SO.noex:SO->SO
 |.ex _ _=>.bad
 |o=>o
def PostS.shift{K}{CB}{E}{o}{H H1}{m m1}{s s1}{D}(e:Ext H m s H1 m1 s1)(h:PostS K CB E o H m s D):PostS K CB E o H1 m1 s1 D:=by
 cases o with
 |nx=>exact λσ' H' m' x=>h σ' H' m' (e.trans x)
 |rt=>exact λσ' H' m' x=>h σ' H' m' (e.trans x)
 |bk=>exact λσ' H' m' x=>h σ' H' m' (e.trans x)
 |ct=>exact λσ' H' m' x=>h σ' H' m' (e.trans x)
 |ex=>exact λH' m' x=>h H' m' (e.trans x)
 |bad=>exact h
theorem Post.so{α β:Type}{K}{CB}{R}{E}{o:Out α}{k:α->Sto->SO}{H}{m}{s}{D}{Q1:β->Hp->Prop}(h:PostS K CB E (o.so k) H m s D)(f:∀v s1 u H1 m1,Ext H m s H1 m1 s1->SR K CB H1 m1 s1->R H1 m1 s1 u v->PostS K CB E (k v s1) H1 m1 s1 D->Q1 u H1):Post K CB R E o H m s Q1:=by
 cases o with
 |ok v s1=>exact λu H1 m1 x S r=>f v s1 u H1 m1 x S r (PostS.shift x h)
 |ex c s'=>exact h
 |bad=>exact h
def PostS.next{K}{CB}{E}{Z}{H}{m}{s}{D}{O}(h:PostS K CB E (.nx Z s) H m s D)(S:SR K CB H m s)(er:ER K H m s O Z):D.nx O H:=h O H m .refl S er
theorem PostS.noex{K}{CB}{E}{o}{H}{m}{s}{D}(h:PostS K CB E o.noex H m s D):PostS K CB E0 o H m s D:=by cases o<;>first|exact h|exact bR h
def xSet(i:Nat)(f:XE)(Z:En)(s:Sto):SO:=(f Z s).so λv s1=>.nx (Z.set i (Za v)) s1
def xRet(f:XE)(Z:En)(s:Sto):SO:=(f Z s).so λv s1=>.rt v s1
def xRetN(_:En)(s:Sto):SO:=.rt .non s
def xDo(f:XE)(Z:En)(s:Sto):SO:=(f Z s).so λ_ s1=>.nx Z s1
def xIf(t:XT)(g h:XS)(Z:En)(s:Sto):SO:=(t Z s).so λb s1=>if b=true then g Z s1 else h Z s1
def xEnd(Z:En)(s:Sto):SO:=.nx Z s
def xSeq(g h:XS)(Z:En)(s:Sto):SO:=match g Z s with
 |.nx ρ' s'=>h ρ' s'
 |o=>o
section
variable{X:Cx}{CB:ak}{E:XK}{a b c e:bo}{es:List bo}{f g h:XE}{fa:XA}{t:XT}{p pos Pu Pf Pg:Pos}{x:Str}{st:bQ}{pZ QO Qw:List bQ}{u v:XS}
theorem PS.nox{t}(h:PS X.nox st t):PS X st t:=λPe s O H D I hw=>bM (h Pe s O H D (I.wish _) hw) (λ_ _ q=>q.unwish) λ_ _ z=>bR z
def ma(i)(he:DE X CB E e f)(hN:X.N.Nodup:=by exact ‹FnScope _ _ _›.nd)(hi:X.N[i]?=Za x:=by rfl)(hx:Loc X.env.scope x:=by first|exact fH rfl|exact ib rfl)(hs:dM e (Za (.Name x Pu)) pos.line X.env=pure false:=by rfl)(hf:X.fn x=true\/X.env.scope.names.lookup x=Za .local:=by first|exact .inl rfl|exact .inr rfl|assumption):DS X CB E (.Assign [.Name x Pu] e pos) (xSet i f) :=
 ⟨(sH hN hi hx he.pe hs hf).mono λD O H=>oE λZ s m er S P=>⟨Z,s,m,er,S,Post.so P λv s1 u H1 m1 e1 S1 r1 P1=>P1.next S1 ((er.ext e1).set i r1)⟩⟩
def mO(he:DE X CB E e f):DS X CB E (.Return (Za e) pos) (xRet f) :=
 ⟨(qF he.pe).mono λD O H=>oE λZ s m er S P=>⟨Z,s,m,er,S,Post.so P λv s1 u H1 m1 e1 S1 r1 P1=>P1 u H1 m1 .refl S1 r1⟩⟩
def Mh:DS X CB E (.Return Zb pos) xRetN:=⟨ps_retN.mono λD O H=>oE λZ s m er S P=>P .non H m .refl S .non⟩
def wB(he:DE X CB E e f)(hs:dM e Zb pos.line X.env=pure false:=by rfl):DS X CB E (.Expr e pos) (xDo f) :=
 ⟨(pK he.pe hs).mono λD O H=>oE λZ s m er S P=>⟨Z,s,m,er,S,Post.so P λv s1 u H1 m1 e1 S1 r1 P1=>P1.next S1 (er.ext e1)⟩⟩
def pQ(hc:DT X CB E c t)(ha:DSs X CB E QO u)(hb:DSs X CB E Qw v):DS X CB E (.If c QO Qw pos) (xIf t u v) :=
 ⟨(ww hc.pt ha.pss hb.pss).mono λD O H=>oE λZ s m er S P=>⟨Z,s,m,er,S,Post.so P λv s1 u H1 m1 e1 S1 r1 P1=>by
  cases r1;refine vm (λc=>?_) λc=>?_
  ·rw[Zc c] at P1;exact⟨Z,s1,m1,er.ext e1,S1,P1⟩
  ·rw[Zd c] at P1;exact⟨Z,s1,m1,er.ext e1,S1,P1⟩⟩⟩
def nc:DSs X CB E [] xEnd:=⟨pss_nil.mono λD O H=>oE λZ s m er S P=>P.next S er⟩
def lW(h:DS X CB E st u):DSs X CB E [st] u:=⟨mB h.ps⟩
def lM(h:DS X CB E st u)(k:DSs X CB E pZ v):DSs X CB E (st::pZ) (xSeq u v) :=
 ⟨(ms h.ps k.pss).mono λD O H=>oE λZ s m er S P=>⟨Z,s,m,er,S,by
  unfold xSeq at P;cases c:u Z s with
  |nx ρ' s'=>rw[c] at P;exact λσ' H' m' x S' er'=>⟨ρ',s',m',er',S',PostS.shift x P⟩
  |rt=>rw[c] at P;exact P
  |bk=>rw[c] at P;exact P
  |ct=>rw[c] at P;exact P
  |ex=>rw[c] at P;exact P
  |bad=>rw[c] at P;exact P⟩⟩
abbrev XG:=PV->En->Sto->Option En
abbrev XGs:=List PV->En->Sto->Option En
def TDG(K:aa)(CB:ak)(h:XG):TG:=λv O H Q=>∃Z s m q ρ',ER K H m s O Z/\SR K CB H m s/\Rep K H m s v q/\h q Z s=Za ρ'/\∀σ',ER K H m s σ' ρ'->Q σ' H
def TDGs(K:aa)(CB:ak)(h:XGs):TGs:=λv O H Q=>∃Z s m q ρ',ER K H m s O Z/\SR K CB H m s/\Reps K H m s v q/\h q Z s=Za ρ'/\∀σ',ER K H m s σ' ρ'->Q σ' H
structure DG(X:Cx)(CB:ak)(tg:bo)(h:XG):Prop where
 pg:PG X tg (TDG X.K CB h)
structure DGs(X:Cx)(CB:ak)(tg:List bo)(h:XGs):Prop where
 pgs:PGs X tg (TDGs X.K CB h)
def PG.mono{tg}{t t':TG}(h:PG X tg t)(k:∀v O H Q,t' v O H Q->t v O H Q):PG X tg t':=λPe s O H v u Q I r q=>h Pe s O H v u Q I r (k v O H Q q)
def PGs.mono{tg}{t t':TGs}(h:PGs X tg t)(k:∀v O H Q,t' v O H Q->t v O H Q):PGs X tg t':=λPe s O H v u Q I r q=>h Pe s O H v u Q I r (k v O H Q q)
def PG.or{tg}{t t':TG}(h:PG X tg t)(h':PG X tg t'):PG X tg (λv O H Q=>t v O H Q\/t' v O H Q):=λPe s O H v u Q I r q=>q.elim (h Pe s O H v u Q I r) (h' Pe s O H v u Q I r)
def yName(i:Nat)(q:PV)(Z:En)(_:Sto):Option En:=Za (Z.set i (Za q))
def yNil(q:List PV)(Z:En)(_:Sto):Option En:=match q with
 |[]=>Za Z
 |_=>Zb
def yCons(h:XG)(k:XGs)(q:List PV)(Z:En)(s:Sto):Option En:=match q with
 |p::r=>(h p Z s).bind λρ'=>k r ρ' s
 |[]=>Zb
def yTup(n:Nat)(k:XGs)(q:PV)(Z:En)(s:Sto):Option En:=match q with
 |.tup l=>if l.length=n then k l Z s else Zb
 |q=>match lsOf s q with
  |some l=>if l.length=n then k l Z s else Zb
  |none=>Zb
def mM(i)(hN:X.N.Nodup:=by exact ‹FnScope _ _ _›.nd)(hi:X.N[i]?=Za x:=by rfl)(hx:Loc X.env.scope x:=by first|exact fH rfl|exact ib rfl)(hf:X.fn x=true\/X.env.scope.names.lookup x=Za .local:=by first|exact .inl rfl|exact .inr rfl|assumption):DG X CB (.Name x pos) (yName i) :=
 ⟨(FW hN hi hx hf).mono λv O H Q ⟨Z,s,m,q,ρ',er,S,r,e,k⟩=>by cases e;exact k _ (er.set i r)⟩
def qM:DGs X CB [] yNil:=⟨pgs_nil.mono λv O H Q ⟨Z,s,m,q,ρ',er,S,r,e,k⟩=>by
 unfold yNil at e;split at e<;>cases e
 cases r;exact⟨rfl,k _ er⟩⟩
def mV{h:XG}{k:XGs}(h1:DG X CB e h)(h2:DGs X CB es k)(hs:(cQ (e::es) X.env).map (·.2)=assign e X.env::(cQ es X.env).map (·.2):=by rfl):DGs X CB (e::es) (yCons h k) :=
 ⟨(IK h1.pg h2.pgs hs).mono λv O H Q ⟨Z,s,m,q,ρ',er,S,r,e,kk⟩=>by
  unfold yCons at e;split at e
  ·rename_i p r';cases r with
   |cons a b =>
    cases c:h p Z s with
    |none=>rw[c] at e;cases e
    |some ρ1 =>
     rw[c] at e;exact⟨_,_,rfl,Z,s,m,p,ρ1,er,S,a,c,λσ1 er1=>⟨ρ1,s,m,r',ρ',er1,S,b,e,kk⟩⟩
  ·cases e⟩
def tU{k:XGs}{n k0}(h:DGs X CB es k)(hc:X.calm=true:=by rfl)(hn:(cQ es X.env).length=n:=by rfl)(QI:(cQ es X.env).findIdx? (·.1)=none:=by rfl):DG X CB (.Tuple es k0 pos) (yTup n k) :=
 ⟨((NV hc h.pgs hn QI).or (NX hc h.pgs hn QI)).mono λv O H Q ⟨Z,s,m,q,ρ',er,S,r,e,kk⟩=>by
  unfold yTup at e;split at e
  ·split at e
   ·rename_i hl;obtain⟨a,vs,rfl,q1,r1⟩:=r.tp;exact .inl ⟨a,vs,rfl,q1,r1.length.trans hl,Z,s,m,_,ρ',er,S,r1,e,kk⟩
   ·cases e
  ·split at e
   ·rename_i l R7;split at e
    ·rename_i hl;obtain⟨a,vs,rfl,q1,r1⟩:=r.ls S R7;exact .inr ⟨a,vs,rfl,q1,r1.length.trans hl,Z,s,m,_,ρ',er,S,r1,e,kk⟩
    ·cases e
   ·cases e⟩
def xAsg(f:XE)(h:XG)(Z:En)(s:Sto):SO:=(f Z s).so λv s1=>match h v Z s1 with
 |some ρ'=>.nx ρ' s1
 |none=>.bad
def FC{h:XG}{tg}(he:DE X CB E e f)(hg:DG X CB tg h)(hs:gU [tg] e pos.line X.env=pure false:=by rfl)(hw:gW [tg] e X.env=pure none:=by rfl)(h1:(cQ [tg] X.env).map (·.2)=[assign tg X.env]:=by rfl):DS X CB E (.Assign [tg] e pos) (xAsg f h) :=
 ⟨(JV he.pe hg.pg hs hw h1).mono λD O H=>oE λZ s m er S P=>⟨Z,s,m,er,S,Post.so P λv s1 u H1 m1 e1 S1 r1 P1=>by
  split at P1
  ·rename_i ρ' hρ;exact⟨Z,s1,m1,v,ρ',er.ext e1,S1,r1,hρ,λσ' er'=>P1.next S1 er'⟩
  ·exact P1.elim⟩⟩
def xPar(i j:Nat)(fa:XA)(Z:En)(s:Sto):SO:=(fa Z s).so λvs s1=>match vs with
 |[v,w]=>.nx ((Z.set i (Za v)).set j (Za w)) s1
 |_=>.bad
def OI{kt k2 pt2}(hc:X.calm=true)(hN:X.N.Nodup)(hi:X.N[i]?=Za x)(hj:X.N[j]?=Za y)(Tu:i≠j)(hx:X.env.scope.names.lookup x=Za .local)(hy:X.env.scope.names.lookup y=Za .local)(ha:DA X CB E [a,b] fa)(hw:gW [.Tuple [.Name x px,.Name y py] kt pt] (.Tuple [a,b] k2 pt2) X.env=pure (Za [x,y]))(hs:gU [.Tuple [.Name x px,.Name y py] kt pt] (.Tuple [a,b] k2 pt2) pos.line X.env=pure false:=by rfl):DS X CB E (.Assign [.Tuple [.Name x px,.Name y py] kt pt] (.Tuple [a,b] k2 pt2) pos) (xPar i j fa) :=
 ⟨(NQ hc hN hi hj Tu hx hy ha.pa hw hs).mono λD O H=>oE λZ s m er S P=>⟨Z,s,m,er,S,Post.so P λv s1 u H1 m1 e1 S1 r1 P1=>by
  split at P1
  ·cases r1 with
   |cons a b =>
    cases b with
    |cons b c=>cases c;exact⟨_,_,rfl,P1.next S1 (((er.ext e1).set i a).set j b)⟩
  ·exact P1.elim⟩⟩
def tG(o i v:PV)(s:Sto):Option Sto:=match o with
 |.ref n=>match s.get n with
  |some (.lst l)=>match i with
   |.int k=>match ixN l.length k with
    |some j=>Za (s.set n (.lst (l.set j v)))
    |none=>Zb
   |_=>Zb
  |some (.dct l)=>match kyOf i with
   |some k=>if l.length<100000 then Za (s.set n (.dct (xN l k v))) else Zb
   |none=>Zb
  |_=>Zb
 |_=>Zb
def xPut(fo fi fv:XE)(Z:En)(s:Sto):SO:=(fv Z s).so λv s1=>(fo Z s1).so λo s2=>(fi Z s2).so λi s3=>match tG o i v s3 with
 |some s4=>.nx Z s4
 |none=>.bad
def M0:V->V->V->Hp->(Hp->Prop)->Prop:=λo i v H Q=>∃a H',o=.ref a/\DPut H a i v H'/\Q H'
def Is(hu:X.A.units+1<eY):PSet X M0:=by intro Pe s O H o i v ov iv u Q I ro ri rv h;obtain⟨a,H',rfl,g,q⟩:=h;obtain rfl:ov=bj a:=ro;exact BI hu I g ri rv λs4 I4=>⟨H',I4,q⟩
def PSet.or{t t':MP}(h:PSet X t)(h':PSet X t'):PSet X (λo i v H Q=>t o i v H Q\/t' o i v H Q):=λPe s O H o i v ov iv u Q I r1 r2 r3 q=>q.elim (h Pe s O H o i v ov iv u Q I r1 r2 r3) (h' Pe s O H o i v ov iv u Q I r1 r2 r3)
def NO{K}{H}{m}{s s'}{o i v}{xo xi xv}(S:SR K CB H m s)(ro:Rep K H m s xo o)(ri:Rep K H m s xi i)(rv:Rep K H m s xv v)(e:tG o i v s=Za s'){Q}(hq:∀H' m',Ext H m s H' m' s'->SR K CB H' m' s'->Q H'):MZ xo xi xv H Q\/M0 xo xi xv H Q:=by
 unfold tG at e;split at e
 ·split at e
  ·rename_i l hg;split at e
   ·split at e
    ·rename_i j hj;cases e;cases ro;cases ri;obtain⟨_,vs,h1,q1⟩:=S.get hg;obtain⟨S2,e2⟩:=S.putL hg (q1.set j rv);exact .inl ⟨_,vs,_,j,rfl,rfl,h1,by rw[q1.length];exact hj,hq _ _ e2 S2⟩
    ·cases e
   ·cases e
  ·rename_i l hg;split at e
   ·rename_i k hk;split at e
    ·rename_i hl;cases e;cases ro;obtain⟨_,vs,h1,q1⟩:=S.get hg;obtain⟨S2,e2⟩:=S.putD hg (q1.put k rv);exact .inr ⟨_,_,rfl,.inl ⟨vs,k,h1,qi ri hk,by rw[q1.length];exact sz6 hl,rfl⟩,hq _ _ e2 S2⟩
    ·cases e
   ·cases e
  ·cases e
 ·cases e
def yx{PX}(ho:DE X CB E a f)(hi:DE X CB E b g)(hv:DE X CB E e h){jr}(hr:Room jr X.A:=by assumption)(hs:gU [ip a b PX] e pos.line X.env=pure false:=by rfl)(hw:gW [ip a b PX] e X.env=pure none:=by rfl)(h1:(cQ [ip a b PX] X.env).map (·.2)=[assign (ip a b PX) X.env]:=by rfl)(ha:∀v,assign (.Subscript a b PX) X.env v=(do
   let ov <-holding [v] (eval a X.env);let iv <-holding [v,ov] (eval b X.env)
   gv PX
   holding [v,ov,iv] (kf ov iv v)
   release [v,ov,iv] []):=by intro _;rfl):DS X CB E (.Assign [.Subscript a b PX] e pos) (xPut f g h) :=
 ⟨(JV hv.pe (NW ho.pe hi.pe (set_list.or (Is (oi hr))) ha) hs hw h1).mono λD O H=>oE λZ s m er S P=>⟨Z,s,m,er,S,Post.so P λv s1 u H1 m1 e1 S1 r1 P1 =>
  ⟨Z,s1,m1,er.ext e1,S1,Post.so P1 λo s2 uo H2 m2 e2 S2 r2 P2=>⟨Z,s2,m2,(er.ext e1).ext e2,S2,Post.so P2 λi s3 ui H3 m3 e3 S3 r3 P3=>by
   split at P3
   ·rename_i s4 h4;exact NO S3 (r2.ext e3) r3 ((r1.ext e2).ext e3) h4 λH' m' x S'=>P3 O H' m' x S' ((((er.ext e1).ext e2).ext e3).ext x)
   ·exact P3.elim⟩⟩⟩⟩
def qo(K:aa)(CB:ak)(J:It)(l:List PV)(H0:Hp)(m0:Mp)(s0:Sto):Prop:=∀i H m s,Ext0 H0 m0 s0 H m s->SR K CB H m s ->
 (∀q,l[i]?=Za q->J.go i H/\∀x H',J.yld i H x H'->Ext H m s H' m s/\SR K CB H' m s/\Rep K H' m s x q)/\(l.length<=i->J.stop i H)
def TDI(K:aa)(CB:ak)(E:XK)(f:XA):TI:=λO H R=>∃Z s m,ER K H m s O Z/\SR K CB H m s/\match f Z s with
 |.ok l s'=>∀J H' m',Ext H m s H' m' s'->SR K CB H' m' s'->qo K CB J l H' m' s'->R J H'
 |.ex c s'=>∀H' m',Ext H m s H' m' s'->SR K CB H' m' s'->E (.ref c) Zb H'
 |.bad=>False
structure DI(X:Cx)(CB:ak)(E:XK)(tg e:bo)(f:XA):Prop where
 pi:PI X tg e (TDI X.K CB E f)
def PI.mono{tg}{t t':TI}(h:PI X tg e t)(k:∀O H R,t' O H R->t O H R):PI X tg e t':=λPe s O H R I q=>h Pe s O H R I (k O H R q)
end
section
variable{X:Cx}{CB:ak}{E:XK}{a b c e tg:bo}{es:List bo}{f g h:XE}{fa fi:XA}{t:XT}{p pos Pu Pf Pg:Pos}{x:Str}{st:bQ}{pZ QO Qw:List bQ}{u v:XS}
def xIter(f:XE)(Z:En)(s:Sto):Out (List PV):=(f Z s).bind λv s1=>match v with
 |.lst l=>.ok l s1
 |.seq l=>.ok l s1
 |.tup l=>.ok l s1
 |_=>.bad
def Ng{K}{H0}{m0}{s0}{b}{q}{l}(r:Rep K H0 m0 s0 (.ref b) q)(hl:∀s,lsOf s q=Za l):qo K CB (Itl K b) l H0 m0 s0:=by intro i H m s ex S;obtain⟨b',vs,e,hq,rs⟩:=(r.ext0 ex.toExtR).ls S (hl s);cases e;refine⟨λq' P9=>?_,λhi=>⟨vs,hq,by rw[rs.length];exact hi⟩⟩;obtain⟨u,hu,ru⟩:=rs.get P9;refine⟨⟨vs,u,hq,hu⟩,λx H' ⟨e1,e2⟩=>?_⟩;subst e1;have e3:=e2 vs hq;rw[hu] at e3;cases e3;exact⟨.refl,S,ru⟩
def iterT{K}{H0}{m0}{s0}{b}{l}(r:Rep K H0 m0 s0 (.ref b) (.tup l)):qo K CB (Itt K b) l H0 m0 s0:=by intro i H m s ex S;obtain⟨b',vs,e,hq,rs⟩:=(r.ext0 ex.toExtR).tp;cases e;refine⟨λq' P9=>?_,λhi=>⟨vs,hq,by rw[rs.length];exact hi⟩⟩;obtain⟨u,hu,ru⟩:=rs.get P9;refine⟨⟨vs,u,hq,hu⟩,λx H' ⟨e1,e2⟩=>?_⟩;subst e1;have e3:=e2 vs hq;rw[hu] at e3;cases e3;exact⟨.refl,S,ru⟩
def iLT(K:aa)(tl:TE):TI:=λO H R=>tl O H λx H1=>(∃a,x=.ref a/\(∃xs,SqL K H1 a xs)/\R (Itl K a) H1)\/(∃a,x=.ref a/\(∃xs,SqT K H1 a xs)/\R (Itt K a) H1)
def pi_lt(hl:PE X e tl):PI X tg e (iLT X.K tl):=by
 intro Pe s O H R I h;refine thn (hl Pe s O H _ I h) λv s1=>e4 λx H1 I1 r1 q1=>?_;rcases q1 with⟨a,e,⟨xs,hq⟩,q⟩|⟨a,e,⟨xs,hq⟩,q⟩
 ·subst e;cases r1;obtain⟨its,rv,p,hz⟩:=I1.list hq;refine gP p.isList ?_;refine⟨s1.heap.objs.size,[s1.heap.objs.size],_,_,H1,rfl,I1.kept (t':=s1.toks) λb o e=>ar _ e,Bh a _,⟨_,ba _ rfl,rfl,rfl⟩,λb hb=>?_,q⟩;have e:b=s1.heap.objs.size:=by simpa using hb
  subst e;exact I1.fpOk (ao _) (I1.hok.fresh (ao _))
 ·subst e;cases r1;obtain⟨its,rv,p,hz⟩:=I1.tuple hq;refine wpAny_pyIter_tuple (show s1.heap.IsTuple a its.toArray from p) ?_;refine⟨s1.heap.objs.size,[s1.heap.objs.size],_,_,H1,rfl,I1.kept (t':=s1.toks) λb o e=>ar _ e,EB a _,⟨_,ba _ rfl,rfl,rfl⟩,λb hb=>?_,q⟩;have e:b=s1.heap.objs.size:=by simpa using hb
  subst e;exact I1.fpOk (ao _) (I1.hok.fresh (ao _))
theorem TDI.bind(q:TDI X.K CB E (λZ s=>(f Z s).bind F) O H R)(k:∀v s1 u H1 m1,SR X.K CB H1 m1 s1->Rep X.K H1 m1 s1 u v->(match F v s1 with
  |.ok l s'=>∀J H' m',Ext H1 m1 s1 H' m' s'->SR X.K CB H' m' s'->qo X.K CB J l H' m' s'->R J H'
  |.ex c s'=>∀H' m',Ext H1 m1 s1 H' m' s'->SR X.K CB H' m' s'->E (.ref c) Zb H'
  |.bad=>False)->Q u H1):TDE X.K CB E f O H Q:=by
 obtain⟨Z,s,m,er,S,P⟩:=q;refine⟨Z,s,m,er,S,?_⟩;cases c:f Z s with
 |ok v s1 =>
  simp only[c,Out.bind] at P;refine λu H1 m1 e1 S1 r1=>k v s1 u H1 m1 S1 r1 ?_;cases d:F v s1 with
  |ok l s'=>rw[d] at P;exact λJ H' m' x=>P J H' m' (e1.trans x)
  |ex c' s'=>rw[d] at P;exact λH' m' x=>P H' m' (e1.trans x)
  |bad=>rw[d] at P;exact P
 |ex c' s'=>simp only[c,Out.bind] at P;exact P
 |bad=>simp only[c,Out.bind] at P
def qZ(hl:DE X CB E e f):DI X CB E tg e (xIter f):=⟨(pi_lt hl.pe).mono λO H R q=>TDI.bind q λv s1 u H1 m1 S1 r1 P=>by
 cases r1 with
 |lst h1 h2 h3=>exact .inl ⟨_,rfl,⟨_,SqL.of h1⟩,P _ _ _ .refl S1 (Ng (.lst h1 h2 h3) λ_=>rfl)⟩
 |seq h1 h3=>exact .inl ⟨_,rfl,⟨_,h1.elim (λz=>.inl (.inr z.1)) .inr⟩,P _ _ _ .refl S1 (Ng (.seq h1 h3) λ_=>rfl)⟩
 |tup h1 h3=>exact .inr ⟨_,rfl,⟨_,h1.elim (λz=>.inl z.1) .inr⟩,P _ _ _ .refl S1 (iterT (.tup h1 h3))⟩
 |_=>exact P.elim⟩
def strP(x:Str):List PV:=x.cps.toList.map λc=>PV.str ⟨#[c]⟩
def xIterS(f:XE)(Z:En)(s:Sto):Out (List PV):=(f Z s).bind λv s1=>match v with
 |.str x=>.ok (strP x) s1
 |_=>.bad
def vb(lo:Int)(n:Nat):List PV:=(bw n).map λ(k:Nat)=>PV.int (lo+k)
def xRng1(fa:XA)(Z:En)(s:Sto):Out (List PV):=(fa Z s).bind λvs s1=>match vs with
 |[.int j]=>if -(2^62)<=j/\j<2^62 then .ok (vb 0 j.toNat) s1 else .bad
 |_=>.bad
def iterR{K}{lo}{n}{H0}{m0}{s0}:qo K CB (Itr lo n) (vb lo n) H0 m0 s0:=by
 intro i H m s ex S;refine⟨λq hq=>?_,λhi=>?_⟩
 ·unfold vb at hq;rw[aC] at hq;by_cases hi:i<n
  ·rw[fZ hi] at hq;cases hq;exact⟨hi,λx H' ⟨e1,e2⟩=>by subst e1 e2;exact⟨.refl,S,.int⟩⟩
  ·rw[cJ (by simpa using hi)] at hq;cases hq
 ·unfold vb at hi;rw[ac,List.length_range] at hi;exact hi
def TDI.bindA(q:TDI X.K CB E (λZ s=>(fa Z s).bind F) O H R)(k:∀v s1 u H1 m1,SR X.K CB H1 m1 s1->Reps X.K H1 m1 s1 u v->(match F v s1 with
  |.ok l s'=>∀J H' m',Ext H1 m1 s1 H' m' s'->SR X.K CB H' m' s'->qo X.K CB J l H' m' s'->R J H'
  |.ex c s'=>∀H' m',Ext H1 m1 s1 H' m' s'->SR X.K CB H' m' s'->E (.ref c) Zb H'
  |.bad=>False)->Q u H1):TDA X.K CB E fa O H Q:=by
 obtain⟨Z,s,m,er,S,P⟩:=q;refine⟨Z,s,m,er,S,?_⟩;cases c:fa Z s with
 |ok v s1 =>
  simp only[c,Out.bind] at P;refine λu H1 m1 e1 S1 r1=>k v s1 u H1 m1 S1 r1 ?_;cases d:F v s1 with
  |ok l s'=>rw[d] at P;exact λJ H' m' x=>P J H' m' (e1.trans x)
  |ex c' s'=>rw[d] at P;exact λH' m' x=>P H' m' (e1.trans x)
  |bad=>rw[d] at P;exact P
 |ex c' s'=>simp only[c,Out.bind] at P;exact P
 |bad=>simp only[c,Out.bind] at P
def pY(ha:DA X CB E [a] fa)(hg:Gl X "range":=by rfl)(hm:X.mg "range"=none:=by exact T.b_range)(hs:aB [a] X.env=[(false,eval a X.env)]:=by rfl):DI X CB E tg (.Call (.Name "range" p) [a] [] pos) (xRng1 fa) :=
 ⟨(G8 hg hm ha.pa hs).mono λO H R q=>TDI.bindA q λv s1 u H1 m1 S1 r1 P=>by
  split at P
  ·rename_i l s' hF;split at hF
   ·split at hF<;>cases hF
    rename_i hj;cases r1 with
    |cons r n=>cases n;cases r;exact⟨_,rfl,hj.1,hj.2,P _ _ _ .refl S1 iterR⟩
   ·cases hF
  ·rename_i hF;split at hF
   ·split at hF<;>cases hF
   ·cases hF
  ·exact P.elim⟩
def Nf:Key->PV
 |.inl i=>.int i
 |.inr x=>.str x
def xIterD(f:XE)(Z:En)(s:Sto):Out (List PV):=(f Z s).bind λv s1=>match v with
 |.dct l=>.ok (l.map λkv=>Nf kv.1) s1
 |_=>.bad
def iDict(tl:TE):TI:=λO H R=>tl O H λx H1=>∃d kvs,x=.ref d/\((H1 d=Za (.dK kvs)/\∀ob,R (Itd d ob kvs) (upd H1 d (.frz ob (.dK kvs))))\/∃ob,H1 d=Za (.frz ob (.dK kvs))/\R (Itd d ob kvs) H1)
def Lp(hl:PE X e tl):PI X tg e (iDict tl):=by
 intro Pe s O H R I h;refine thn (hl Pe s O H _ I h) λv s1=>e4 λx H1 I1 r1 q1=>?_;obtain⟨d,kvs,e,q1⟩:=q1;subst e;cases r1;have hd:Rd H1 d (.dK kvs):=q1.elim (λz=>.inl z.1) λ⟨ob,z,_⟩=>.inr ⟨ob,z⟩;obtain⟨z,RY,vs,rel,dd⟩:=tH I1.hok hd;obtain⟨ep,at_⟩:=dd.dictAt;obtain⟨ob,es,ho,hex,Rb,hrest⟩:=id at_;refine wpAny_pyIter_dict RY at_ ?_;have hl:=rel.length;have I2:Inv X Pe O H1 { s1 with heap:=s1.heap.push { cls:=.type "dict_keyiterator",data:=.fields #[.ref d,.int 0 0,.int vs.length 0,.int ep 0] } }:=I1.kept (t':=s1.toks) λb o e=>ar _ e;have PH:s1.heap.objs.size≠d:=λz=>by have:=az ho;rw[z] at this;exact dP _ this
 have Qh:(0<=kvs.length/\(s1.heap.push { cls:=.type "dict_keyiterator",data:=.fields #[.ref d,.int 0 0,.int vs.length 0,.int ep 0] }).IsKeyIter s1.heap.objs.size d 0 kvs.length ep):=by refine⟨a7 _,{ cls:=.type "dict_keyiterator",data:=.fields #[.ref d,.int 0 0,.int vs.length 0,.int ep 0] },ba _ rfl,rfl,?_⟩;rw[hl];rfl
 rcases q1 with⟨Tz,q⟩|⟨ob',Tz,q⟩
 ·refine⟨s1.heap.objs.size,[s1.heap.objs.size],_,Itd d ob kvs,_,rfl,I2.freeze Tz (ar _ ho),Bi d _ ob kvs es ep Rb,Qh,λb hb=>?_,q ob⟩;have e:b=s1.heap.objs.size:=by simpa using hb
  subst e;refine I1.fpOk (ao _) ?_;rw[lO PH];exact I1.hok.fresh (ao _)
 ·have e0:ob'=ob:=by obtain⟨e1,_⟩:=(show ObjOk X.prog X.w H1 s1.heap d (.frz ob' (.dK kvs)) from I1.hok d _ Tz);rw[ho] at e1;exact(aP e1).symm
  subst e0;refine⟨s1.heap.objs.size,[s1.heap.objs.size],_,Itd d ob' kvs,_,rfl,I2,Bi d _ ob' kvs es ep Rb,Qh,λb hb=>?_,q⟩;have e:b=s1.heap.objs.size:=by simpa using hb
  subst e;exact I1.fpOk (ao _) (I1.hok.fresh (ao _))
def Ov{K}{H}{m}{s}(k):Rep K H m s (kV k) (Nf k):=by
 cases k with
 |inl i=>exact .int
 |inr x=>exact .str
theorem RepKs.get:∀{K:aa}{H:Hp}{m:Mp}{s:Sto}{vs:List (Key×V)}{l:List (Key×PV)}{i:Nat}{q:Key×PV},RepKs K H m s vs l->l[i]?=Za q->∃w,vs[i]?=Za w/\w.1=q.1
 |_,_,_,_,_,_,_,_,.nil,e=>by simp at e
 |_,_,_,_,_,_,0,_,.cons _ _,e=>by simp at e;subst e;exact⟨_,rfl,rfl⟩
 |_,_,_,_,_,_,i+1,q,.cons _ b,e=>by obtain⟨w,h1,h2⟩:=b.get (i:=i) (q:=q) (by simpa using e);exact⟨w,by simpa using h1,h2⟩
def Nh{K}{H0}{m0}{s0}{d}{ob}{kvs}{l}(hd:∀H m s,Ext0 H0 m0 s0 H m s->SR K CB H m s->H d=Za (.frz ob (.dK kvs)))(r:RepKs K H0 m0 s0 kvs l):qo K CB (Itd d ob kvs) (l.map λkv=>Nf kv.1) H0 m0 s0:=by
 intro i H m s ex S;have h:=hd H m s ex S;refine⟨λq hq=>?_,λhi=>⟨by rw[r.length];simpa using hi,h⟩⟩;rw[aC] at hq;cases c:l[i]? with
 |none=>rw[c] at hq;cases hq
 |some kv =>
  rw[c] at hq;cases hq;obtain⟨w,h1,h2⟩:=r.get c;refine⟨⟨(aW.mp h1).1,h⟩,λx H' ⟨e1,kv',e2,e3⟩=>?_⟩;subst e1 e3;rw[h1] at e2;cases e2;rw[h2];exact⟨.refl,S,Ov _⟩
def Ext.freeze{K}{H}{m}{s}{d}{ob}{kvs}(S:SR K CB H m s)(hd:H d=Za (.dK kvs))(hp:Pur m s d):Ext H m s (upd H d (.frz ob (.dK kvs))) m s:=by
 refine⟨⟨⟨ao _,λ_ _=>rfl,λa u h p=>⟨?_,p⟩,λa u h n p=>?_⟩,λj l hj h=>⟨h,λo ho=>?_⟩⟩,rfl,λa ha o h _=>?_⟩
 ·by_cases e:a=d
  ·subst e;rcases h with h|⟨o,h⟩
   ·rw[hd] at h;cases h;exact .inr ⟨ob,lQ⟩
   ·rw[hd] at h;cases h
  ·exact h.elim (λh=>.inl (by rw[lO e];exact h)) λ⟨o,h⟩=>.inr ⟨o,by rw[lO e];exact h⟩
 ·rw[lO (C2 h hd (n _))];exact h
 ·obtain⟨e1,_⟩:=S.ok _ (oQ h);rw[lO (show m.ad j≠d from λz=>hp.2 j (ah.mpr ⟨_,oQ h,rfl⟩) (by rw[e1,z];simp))];exact ho
 ·rw[lO (show a≠d from λz=>hp.1 (by rw[<-z];exact ha))];exact h
def SR.freezeP{K}{H}{m}{s}{d}{ob}{kvs}(S:SR K CB H m s)(hd:H d=Za (.dK kvs))(hp:Pur m s d):SR K CB (upd H d (.frz ob (.dK kvs))) m s:=by refine⟨S.nd,S.lt,λq hq=>(S.ok q hq).keep S (Ext.freeze S hd hp).toExtR (λa ha o h=>?_) rfl rfl,S.dj,S.hx,S.hsk (Ext.freeze S hd hp).hk (.upd hd E2),S.tbk (.upd hd E2)⟩;have:a≠d:=λz=>hp.2 q.1 (ah.mpr ⟨q,hq,rfl⟩) (z▸ha);rw[lO this];exact h
def Mm(hl:DE X CB E e f):DI X CB E tg e (xIterD f):=⟨(Lp hl.pe).mono λO H R q=>TDI.bind q λv s1 u H1 m1 S1 r1 P=>by
 cases r1 with
 |dct h1 h2 h3 =>
  rename_i d vs l;rcases h1 with h1|⟨ob,h1⟩
  ·refine⟨d,vs,rfl,.inl ⟨h1,λob=>P _ _ m1 (.freeze S1 h1 h2) (S1.freezeP h1 h2) (Nh (λH m s ex S=>ex.el _ _ lQ (by intro _ z;cases z) h2) (h3.ext (.freeze S1 h1 h2)))⟩⟩
  ·exact⟨d,vs,rfl,.inr ⟨ob,h1,P _ _ m1 .refl S1 (Nh (λH m s ex S=>ex.el _ _ h1 (by intro _ z;cases z) h2) h3)⟩⟩
 |_=>exact P.elim⟩
def nJ(body:PV->XS):List PV->XS
 |[],Z,s=>.nx Z s
 |q::l,Z,s=>match body q Z s with
  |.nx ρ' s'=>nJ body l ρ' s'
  |.ct ρ' s'=>nJ body l ρ' s'
  |.bk ρ' s'=>.nx ρ' s'
  |o=>o
def mQ(y:XG)(u:XS)(q:PV)(Z:En)(s:Sto):SO:=match y q Z s with
 |some ρ'=>u ρ' s
 |none=>.bad
def xFor(fi:XA)(y:XG)(body:XS)(Z:En)(s:Sto):SO:=((fi Z s).so λl s1=>nJ (mQ y body) l Z s1).noex
def Jq(S1:SR X.K CB H1 m1 s1)(er:ER X.K H1 m1 s1 O Z)(it:qo X.K CB J l H1 m1 s1)(P:PostS X.K CB E0 (nJ (mQ y u) l Z s1) H1 m1 s1 D) :
  ∃W:Nat->Nat->St->Hp->Prop,(∃m,W 0 m O H1)/\∀i m O H,W i m O H ->
   (J.stop i H/\D.nx O H)\/(J.go i H/\∃N:St->Hp->Prop,(∀σ' H',N σ' H'->∃m',m'<m/\W (i+1) m' σ' H')/\∀x H',J.yld i H x H'->(TDG X.K CB y) x O H' λσ2 H2=>(TDS X.K CB E0 u) { D with nx:=N,ct:=N,bk:=D.nx } σ2 H2):=by
 refine⟨λi k σ' H'=>∃ρ' s' m',ER X.K H' m' s' σ' ρ'/\SR X.K CB H' m' s'/\Ext H1 m1 s1 H' m' s'/\i<=l.length/\k=l.length-i/\PostS X.K CB E0 (nJ (mQ y u) (l.drop i) ρ' s') H' m' s' D,⟨l.length,Z,s1,m1,er,S1,.refl,a7 _,rfl,P⟩,?_⟩
 rintro i k σ' H' ⟨ρ',s',m',er',S',Up,Sa,rfl,P'⟩
 obtain⟨RW,Rq⟩:=it i H' m' s' Up.toExt0 S';by_cases Ps:i<l.length
 ·right;have hq:l[i]?=Za l[i]:=aw Ps;obtain⟨go,yl⟩:=RW _ hq;rw[eP Ps] at P';refine⟨go,λσ2 H2=>∃ρ2 s2 m2,ER X.K H2 m2 s2 σ2 ρ2/\SR X.K CB H2 m2 s2/\Ext H1 m1 s1 H2 m2 s2/\PostS X.K CB E0 (nJ (mQ y u) (l.drop (i+1)) ρ2 s2) H2 m2 s2 D,λσ2 H2 ⟨ρ2,s2,m2,a1,a2,a3,a4⟩=>⟨l.length-(i+1),by omega,ρ2,s2,m2,a1,a2,a3,Ps,rfl,a4⟩,λx H2 hy=>?_⟩;obtain⟨e2,S2,r2⟩:=yl x H2 hy;unfold nJ at P';have hbo:mQ y u l[i] ρ' s'=match y l[i] ρ' s' with|some ρ'=>u ρ' s'|none=>.bad:=rfl
  rw[hbo] at P';cases hyq:y l[i] ρ' s' with
  |none=>rw[hyq] at P';exact P'.elim
  |some ρ2 =>
   rw[hyq] at P';have P':=PostS.shift e2 P';dsimp only at P';refine⟨ρ',s',m',l[i],ρ2,er'.ext e2,S2,r2,hyq,λσ2 er2=>⟨ρ2,s',m',er2,S2,?_⟩⟩;cases cb:u ρ2 s' with
   |nx ρ3 s3=>rw[cb] at P';exact λσ3 H3 m3 e3 S3 Rl=>⟨ρ3,s3,m3,Rl,S3,(Up.trans e2).trans e3,PostS.shift e3 P'⟩
   |ct ρ3 s3=>rw[cb] at P';exact λσ3 H3 m3 e3 S3 Rl=>⟨ρ3,s3,m3,Rl,S3,(Up.trans e2).trans e3,PostS.shift e3 P'⟩
   |bk ρ3 s3=>rw[cb] at P';exact P'
   |rt v3 s3=>rw[cb] at P';exact P'
   |ex c3 s3=>rw[cb] at P';exact P'
   |bad=>rw[cb] at P';exact P'
 ·left;have Qn:l.length<=i:=eM Ps;rw[fz Qn] at P';exact⟨Rq Qn,P'.next S' er'⟩
def qm(hi:DI X.nox CB E0 tg e fi)(hg:DG X.nox CB tg y)(hb:DSs X.nox CB E0 QO u)(hc:X.calm=true:=by rfl)(hs:∀x,bZ e X.env x=pure x:=by intro _;rfl):DS X CB E (.For tg e QO [] pos) (xFor fi y u) :=
 ⟨PS.nox ((NR (X:=X.nox) iR hc hi.pi hg.pg hb.pss hs).mono λD O H=>oE λZ s m er S P=>by
  have P:=PostS.noex P;refine⟨Z,s,m,er,S,?_⟩;cases c:fi Z s with
  |bad=>rw[c] at P;exact P
  |ex c' s'=>rw[c] at P;exact P
  |ok l s1 =>
   rw[c] at P;intro J H1 m1 e1 S1 it;exact Jq (X:=X.nox) S1 (er.ext e1) it (PostS.shift e1 P))⟩
def mL(c:XT)(b:XS):Nat->XS
 |0,_,_=>.bad
 |n+1,Z,s=>(c Z s).so λt s1=>if t=true then(match b Z s1 with
  |.nx ρ' s'=>mL c b n ρ' s'
  |.ct ρ' s'=>mL c b n ρ' s'
  |.bk ρ' s'=>.nx ρ' s'
  |o=>o) else .nx Z s1
open Classical in
def tN(c:XT)(b:XS)(Z:En)(s:Sto):SO:=if h:∃n,mL c b n Z s≠.bad then(mL c b h.choose Z s).noex else .bad
def Ab{c}(hc:DT X.nox CB E0 c t)(hb:DSs X.nox CB E0 QO u):DS X CB E (.While c QO [] pos) (tN t u) :=
 ⟨PS.nox ((DV (X:=X.nox) iR hc.pt hb.pss).mono λD O H=>oE λZ s m er S P=>by
  unfold tN at P;split at P
  ·rename_i h;have P:=PostS.noex P;refine⟨λn σ' H'=>∃ρ' s' m',ER X.K H' m' s' σ' ρ'/\SR X.K CB H' m' s'/\PostS X.K CB E0 (mL t u n ρ' s') H' m' s' D,⟨_,Z,s,m,er,S,P⟩,?_⟩
   rintro n σ' H' ⟨ρ',s',m',er',S',P'⟩
   cases n with
   |zero=>exact P'.elim
   |succ n =>
    refine⟨ρ',s',m',er',S',Post.so P' λb s1 b' H1 m1 e1 S1 r1 P1=>?_⟩;cases r1;refine vm (λcb=>?_) λcb=>?_
    ·rw[Zc cb] at P1;refine⟨λσ2 H2=>∃ρ2 s2 m2,ER X.K H2 m2 s2 σ2 ρ2/\SR X.K CB H2 m2 s2/\PostS X.K CB E0 (mL t u n ρ2 s2) H2 m2 s2 D,λσ2 H2 q=>⟨n,cC _,q⟩,ρ',s1,m1,er'.ext e1,S1,?_⟩;cases cu:u ρ' s1 with
     |nx ρ3 s3=>rw[cu] at P1;exact λσ3 H3 m3 e3 S3 Rl=>⟨ρ3,s3,m3,Rl,S3,PostS.shift e3 P1⟩
     |ct ρ3 s3=>rw[cu] at P1;exact λσ3 H3 m3 e3 S3 Rl=>⟨ρ3,s3,m3,Rl,S3,PostS.shift e3 P1⟩
     |bk ρ3 s3=>rw[cu] at P1;exact P1
     |rt v3 s3=>rw[cu] at P1;exact P1
     |ex c3 s3=>rw[cu] at P1;exact P1
     |bad=>rw[cu] at P1;exact P1
    ·rw[Zd cb] at P1;exact P1.next S1 (er'.ext e1)
  ·exact P.elim)⟩
theorem ua{c}{b}:∀{n:Nat}{Z:En}{s:Sto},mL c b n Z s≠.bad->mL c b (n+1) Z s=mL c b n Z s
 |0,_,_,h=>absurd rfl h
 |n+1,Z,s,h=>by
  unfold mL at h ⊢;cases hc:c Z s with
  |ok t s1 =>
   rw[hc] at h;simp only[Out.so] at h ⊢;by_cases ht:t=true
   ·rw[Zc ht] at h ⊢;rw[Zc ht];cases hb:b Z s1 with
    |nx ρ' s'=>rw[hb] at h;exact ua h
    |ct ρ' s'=>rw[hb] at h;exact ua h
    |_=>rfl
   ·rw[Zd ht,Zd ht]
  |ex=>rfl
  |bad=>rfl
def Bc{c}{b}{n k}{Z}{s}(h:mL c b n Z s≠.bad):mL c b (n+k) Z s=mL c b n Z s:=by
 induction k with
 |zero=>rfl
 |succ k ih=>rw[<-ka,ua (by rw[ih];exact h),ih]
def xg{c}{b}{n}{Z}{s}{o}(h:mL c b n Z s=o)(ho:o≠.bad):tN c b Z s=o.noex:=by have hx:∃n,mL c b n Z s≠.bad:=⟨n,by rw[h];exact ho⟩;unfold tN;rw[dif_pos hx];have h1:=Bc (k:=n) hx.choose_spec;have h2:=Bc (k:=hx.choose) (show mL c b n Z s≠.bad by rw[h];exact ho);rw[kL] at h2;rw[<-h1,h2,h]
end
def nN(c:XT)(e:XE)(cap:En):List PV->Sto->Out (List PV)
 |[],s=>.ok [] s
 |q::l,s=>match c (Za q::cap) s with
  |.ok true s1=>match e (Za q::cap) s1 with
   |.ok v s2=>match nN c e cap l s2 with
    |.ok vs s3=>.ok (v::vs) s3
    |_=>.bad
   |_=>.bad
  |.ok false s1=>nN c e cap l s1
  |_=>.bad
def oU:nN c e cap (q::l) s=match c (Za q::cap) s with
  |.ok true s1=>match e (Za q::cap) s1 with
   |.ok v s2=>match nN c e cap l s2 with
    |.ok vs s3=>.ok (v::vs) s3
    |_=>.bad
   |_=>.bad
  |.ok false s1=>nN c e cap l s1
  |_=>.bad:=rfl
theorem Ae:∀{l:List PV}{s s':Sto}{k:ak},nN c e cap l s≠.ex k s'
 |[],_,_,_,h=>by cases h
 |q::l,s,s',k,h=>by
  unfold nN at h;split at h
  ·split at h
   ·split at h<;>cases h
   ·cases h
  ·exact Ae h
  ·cases h
def m9(_:En)(s:Sto):Out Bool:=.ok true s
def pE(fi:XA)(ix:List Nat)(c:XT)(e:XE)(Z:En)(s:Sto):Out PV:=(fi Z s).bind λl s1=>if l.length<=100000 then(nN c e (nC ix Z) l s1).bind λvs s2=>.ok (.lst vs) s2 else .bad
structure DIfs(X:Cx)(CB:ak)(PB:List bo)(t:XT):Prop where
 pifs:Fk X PB (TDT X.K CB E0 t)
section
variable{X:Cx}{CB:ak}{E:XK}{a b c e PD iter tg:bo}{es PB:List bo}{f g h:XE}{fa fi:XA}{t:XT}{p px pos Pu Pf Pg:Pos}{x:Str}{st:bQ}{pZ QO Qw:List bQ}{u v:XS}{scope:dH}{fr:List Str}{ix:List Nat}
def uP:DIfs X CB [] m9:=⟨λPe s O H Q I ⟨Z,s',m,er,S,P⟩=>z6 Pe s O H Q I (P.here S rfl)⟩
def Ju(h:DT X CB E0 c t):DIfs X CB [c] t:=⟨II h.pt⟩
def Mp.hide(m:Mp)(d:ak):Mp:=⟨m.ad,m.fp,d::m.hid⟩
def Mp.bare(m:Mp)(l:List ak):Mp:=⟨m.ad,m.fp,l⟩
theorem Ext0.hide(hd:H d=Zb):Ext0 H m s (upd H d o) (m.hide d) s :=
 ⟨⟨ao _,λ_ _=>rfl,λa u h p=>⟨h.same (My.sF hd),λz=>(af.mp z).elim (h.ne hd) p.1,p.2⟩,λa u h _ _=>My.sF hd _ _ h⟩,λj l _ h=>⟨h,λo ho=>My.sF hd _ _ ho⟩⟩
theorem SR.hide{K}{H}{m}{s}{d}{xs}(S:SR K CB H m s)(hd:H d=Zb):SR K CB (upd H d (.lst xs)) (m.hide d) s:=by
 have k:=My.sF (o:=.lst xs) hd;have S1:=S.same k;have e0:Ext0 H m s (upd H d (.lst xs)) (m.hide d) s:=Ext0.hide hd;have PH:∀n∈s.cs.map (·.1),∀a∈m.fp n,a≠d:=λn hn a ha z=>by obtain⟨q,hq,rfl⟩:=ah.mp hn;obtain⟨o,e,_⟩:=(S.ok q hq).kind ha;rw[z,hd] at e;cases e
 refine⟨S.nd,S.lt,λq hq=>?_,S.dj,λn hn a ha hb=>(af.mp hb).elim (PH n hn a ha) (S.hx n hn a ha),λa ha=>?_,λP q t=>⟨ae _ (S1.tb P q t).1,(S1.tb P q t).2⟩⟩
 ·have:=S.ok q hq;cases c:q.2 with
  |lst l=>rw[c] at this;obtain⟨a1,vs,a2,a3⟩:=this;exact⟨a1,vs,k _ _ a2,a3.ext0 e0.toExtR⟩
  |dct l=>rw[c] at this;obtain⟨a1,vs,a2,a3⟩:=this;exact⟨a1,vs,k _ _ a2,a3.ext0 e0.toExtR⟩
  |dfz l=>rw[c] at this;obtain⟨a1,ob,vs,a2,a3⟩:=this;exact⟨a1,ob,vs,k _ _ a2,a3.ext0 e0.toExtR⟩
  |obj C fs=>rw[c] at this;obtain⟨a1,dx,vs,a2,a3,a4⟩:=this;exact⟨a1,dx,vs,k _ _ a2,a3,a4.ext0 e0.toExtR⟩
  |dtt l=>rw[c] at this;obtain⟨a1,vs,a2,a3,a4⟩:=this;exact⟨a1,vs,k _ _ a2,a3,a4.ext0 e0.toExtR⟩
  |book pp L =>
   have:=S1.ok q hq;rw[c] at this;exact this
 ·rcases af.mp ha with rfl|ha
  ·rw[lQ];exact⟨by simp,λ_ _=>⟨by simp,by simp,by simp,by simp⟩⟩
  ·exact S1.hs a ha
def Ext0.redo{K}{H}{m}{s}{d}{o u0}(S:SR K CB H m s)(hd:d∈m.hid)(hu:H d=Za u0)(QJ:¬Odd u0):Ext0 H m s (upd H d o) m s:=by
 have ne:∀a,Pur m s a->a≠d:=λa p z=>p.1 (z▸hd);refine⟨⟨ao _,λ_ _=>rfl,λa u h p=>⟨?_,p⟩,λa u h _ p=>by rw[lO (ne a p)];exact h⟩,λj l _ h=>⟨h,λo ho=>?_⟩⟩
 rotate_left
 ·obtain⟨e1,_⟩:=S.ok _ (oQ h);rw[lO (show m.ad j≠d from λz=>S.hx j (ah.mpr ⟨_,oQ h,rfl⟩) (m.ad j) (by rw[e1];simp) (by rw[z];exact hd))];exact ho
 exact h.elim (λh=>.inl (by rw[lO (ne a p)];exact h)) λ⟨o,h⟩=>.inr ⟨o,by rw[lO (ne a p)];exact h⟩
theorem SR.redo{K}{H}{m}{s}{d}{xs ys}(S:SR K CB H m s)(hd:d∈m.hid)(hl:H d=Za (.lst xs)):SR K CB (upd H d (.lst ys)) m s:=by
 have e0:Ext0 H m s (upd H d (.lst ys)) m s:=Ext0.redo S hd hl AI;have nt:∀(t:ak)(us:List V),SqT K H t us->SqT K (upd H d (.lst ys)) t us:=λt us h=>by
  rcases h with h|h
  ·refine .inl (e0.pu _ _ h ?_).1;exact h.elim (λh=>S.pure_tup h) λ⟨_,h⟩=>S.pure_frz (.inl h)
  ·exact .inr h
 refine⟨S.nd,S.lt,λq hq=>?_,S.dj,S.hx,λa ha=>?_,S.tbk (.upd hl AI)⟩
 ·have hn:q.1∈s.cs.map (·.1):=ah.mpr ⟨q,hq,rfl⟩;have kp:∀a∈m.fp q.1,∀o,H a=Za o->upd H d (.lst ys) a=Za o:=λa ha o h=>by rw[lO (show a≠d from λz=>S.hx _ hn a ha (by rw[z];exact hd))];exact h
  have:=S.ok q hq;cases c:q.2 with
  |lst l=>rw[c] at this;obtain⟨a1,vs,a2,a3⟩:=this;exact⟨a1,vs,kp _ (by rw[a1];simp) _ a2,a3.ext0 e0.toExtR⟩
  |dct l=>rw[c] at this;obtain⟨a1,vs,a2,a3⟩:=this;exact⟨a1,vs,kp _ (by rw[a1];simp) _ a2,a3.ext0 e0.toExtR⟩
  |dfz l=>rw[c] at this;obtain⟨a1,ob,vs,a2,a3⟩:=this;exact⟨a1,ob,vs,kp _ (by rw[a1];simp) _ a2,a3.ext0 e0.toExtR⟩
  |obj C fs=>rw[c] at this;obtain⟨a1,dx,vs,a2,a3,a4⟩:=this;exact⟨a1,dx,vs,kp _ (by rw[a1];simp) _ a2,a3,a4.ext0 e0.toExtR⟩
  |dtt l=>rw[c] at this;obtain⟨a1,vs,a2,a3,a4⟩:=this;exact⟨a1,vs,kp _ (by rw[a1];simp) _ a2,a3,a4.ext0 e0.toExtR⟩
  |book pp L =>
   rw[c] at this;obtain⟨z,L',B,e1,e2⟩:=this;rw[e2] at kp;have kb:∀a∈My.BFp (m.ad q.1) z L',∀o,H a=Za o->upd H d (.lst ys) a=Za o:=kp;refine⟨z,L',⟨kb _ (by simp[My.BFp]) _ B.ob,kb _ (by simp[My.BFp]) _ B.pp,kb _ (by simp[My.BFp]) _ B.tt,kb _ (by simp[My.BFp]) _ B.mm,kb _ (by simp[My.BFp]) _ B.ll,B.hh.keep (λo h=>kb _ (by simp[My.BFp]) _ h),λq' P9=>?_,B.nd,B.p6,B.h8⟩,e1,e2⟩;obtain⟨ts,h1,h2,h3⟩:=B.he q' P9;refine⟨ts,h1,kb _ ?_ _ h2,λy hy=>nt _ _ (h3 y hy)⟩;unfold My.BFp;simp only[af];right;right;right;right;right;right;exact ah.mpr ⟨q',P9,rfl⟩
 ·by_cases e:a=d
  ·subst e;rw[lQ];exact⟨by simp,λ_ _=>⟨by simp,by simp,by simp,by simp⟩⟩
  ·rw[lO e];exact S.hs a ha
def Ext0.show(hm:m.hid=d::l):Ext0 H m s H (m.bare l) s :=
 ⟨⟨ao _,λ_ _=>rfl,λa u h p=>⟨h,λz=>p.1 (by rw[hm];exact ae _ z),p.2⟩,λa u h _ _=>h⟩,λj l _ h=>⟨h,λo h=>h⟩⟩
theorem SR.show{K}{H}{m}{s}{d}{l}{u0}(S:SR K CB H m s)(hm:m.hid=d::l)(hu:H d=Za u0)(QJ:¬Odd u0):SR K CB H (m.bare l) s:=by
 have e0:Ext0 H m s H (m.bare l) s:=Ext0.show hm;refine⟨S.nd,S.lt,λq hq=>?_,S.dj,λn hn a ha hb=>S.hx n hn a ha (by rw[hm];exact ae _ hb),λa ha=>S.hs a (by rw[hm];exact ae _ ha),λP q t=>⟨?_,(S.tb P q t).2⟩⟩
 rotate_left
 ·obtain⟨h1,ps,h2,_⟩:=S.tb P q t;rw[hm] at h1;rcases af.mp h1 with z|z
  ·rw[z,hu] at h2;cases h2;exact absurd (.inl ⟨_,rfl⟩) QJ
  ·exact z
 have:=S.ok q hq;cases c:q.2 with
 |lst l=>rw[c] at this;obtain⟨a1,vs,a2,a3⟩:=this;exact⟨a1,vs,a2,a3.ext0 e0.toExtR⟩
 |dct l=>rw[c] at this;obtain⟨a1,vs,a2,a3⟩:=this;exact⟨a1,vs,a2,a3.ext0 e0.toExtR⟩
 |dfz l=>rw[c] at this;obtain⟨a1,ob,vs,a2,a3⟩:=this;exact⟨a1,ob,vs,a2,a3.ext0 e0.toExtR⟩
 |obj C fs=>rw[c] at this;obtain⟨a1,dx,vs,a2,a3,a4⟩:=this;exact⟨a1,dx,vs,a2,a3,a4.ext0 e0.toExtR⟩
 |dtt l=>rw[c] at this;obtain⟨a1,vs,a2,a3,a4⟩:=this;exact⟨a1,vs,a2,a3,a4.ext0 e0.toExtR⟩
 |book pp L=>rw[c] at this;exact this
theorem ER.ext0{K}{H H'}{m m'}{s s'}{O}{Z}(h:ER K H m s O Z)(e:ExtR H m s H' m' s'):ER K H' m' s' O Z :=
 ⟨h.len,λi p q=>let⟨u,a,b⟩:=h.at_ i p q;⟨u,a,b.ext0 e⟩⟩
structure Cmp(K:aa)(CB:ak)(D:ak)(H1:Hp)(m1:Mp)(s1:Sto)(cap:St)(Z:En)(ys:List V)(done:List PV)(H2:Hp)(m2:Mp)(s2:Sto):Prop where
 hid:m2.hid=D::m1.hid
 at_:H2 D=Za (.lst ys)
 sr:SR K CB H2 m2 s2
 er:ER K H2 m2 s2 cap Z
 rs:Reps K H2 m2 s2 ys done
 ex:Ext H1 m1 s1 H2 (m2.bare m1.hid) s2
 e0:Ext0 H1 m1 s1 H2 m2 s2
def Cmp.start{K}{D}{H1}{m1}{s1}{cap}{Z}(S:SR K CB H1 m1 s1)(er:ER K H1 m1 s1 cap Z)(hD:H1 D=Zb):Cmp K CB D H1 m1 s1 cap Z [] [] (upd H1 D (.lst [])) (m1.hide D) s1 :=
 ⟨rfl,lQ,S.hide hD,er.ext0 (Ext0.hide hD).toExtR,.nil,Ext.same (My.sF hD),Ext0.hide hD⟩
def Ext.into{K}{D}{H1 H2 H5}{m1 m2 m5}{s1 s2 s5}(hid:m2.hid=D::m1.hid)(S2:SR K CB H2 m2 s2)(hD:H1 D=Zb)(a:Ext H1 m1 s1 H2 (m2.bare m1.hid) s2)(b:Ext H2 m2 s2 H5 m5 s5):Ext H1 m1 s1 H5 (m5.bare m1.hid) s5:=by
 have pr:∀c u,Rd H1 c u->Pur m1 s1 c->Rd H2 c u/\Pur m2 s2 c:=λc u h p=>by obtain⟨h1,p1⟩:=a.pu c u h p;refine⟨h1,λz=>?_,p1.2⟩;rw[hid] at z;exact(af.mp z).elim (h.ne hD) p.1
 refine⟨⟨⟨aE a.nx b.nx,λn h=>(b.ad n (ay h a.nx)).trans (a.ad n h),λc u h p=>?_,λc u h n p=>?_⟩,λj l hj h=>?_⟩,rfl,λc hc o h n=>?_⟩
 ·obtain⟨h1,p1⟩:=pr c u h p;obtain⟨h2,p2⟩:=b.pu c u h1 p1;exact⟨h2,p.1,p2.2⟩
 ·obtain⟨_,p1⟩:=pr c _ (.inl h) p;exact b.el c u (a.el c u h n p) n p1
 ·obtain⟨h1,k1⟩:=a.df j l hj h;obtain⟨h2,k2⟩:=b.df j l (ay hj a.nx) h1;have e:m2.ad j=m1.ad j:=a.ad j hj;rw[e] at k2;exact⟨h2,λo h=>k2 o (k1 o h)⟩
 ·exact b.hk c (by rw[hid];exact ae _ hc) o (a.hk c hc o h n) n
def Cmp.step{K}{D}{H1 H2 H5}{m1 m2 m5}{s1 s2 s5}{cap}{Z}{ys}{done}(C:Cmp K CB D H1 m1 s1 cap Z ys done H2 m2 s2)(hD:H1 D=Zb)(b:Ext H2 m2 s2 H5 m5 s5)(S5:SR K CB H5 m5 s5):Cmp K CB D H1 m1 s1 cap Z ys done H5 m5 s5 :=
 ⟨b.hd.trans C.hid,b.hk D (by rw[C.hid];exact ai) _ C.at_ (by intro _ z;cases z),S5,C.er.ext b,C.rs.ext b,Ext.into C.hid C.sr hD C.ex b,C.e0.trans b.toExt0⟩
def Cmp.push{K}{D}{H1 H2}{m1 m2}{s1 s2}{cap}{Z}{ys}{done}{v}{q}(C:Cmp K CB D H1 m1 s1 cap Z ys done H2 m2 s2)(hD:H1 D=Zb)(r:Rep K H2 m2 s2 v q):Cmp K CB D H1 m1 s1 cap Z (ys++[v]) (done++[q]) (upd H2 D (.lst (ys++[v]))) m2 s2:=by
 have hm:D∈m2.hid:=by rw[C.hid];exact ai
 have e0:Ext0 H2 m2 s2 (upd H2 D (.lst (ys++[v]))) m2 s2:=Ext0.redo C.sr hm C.at_ AI;refine⟨C.hid,lQ,C.sr.redo hm C.at_,C.er.ext0 e0.toExtR,(C.rs.append (.cons r .nil)).ext0 e0.toExtR,⟨⟨⟨C.ex.nx,C.ex.ad,λc u h p=>?_,λc u h n p=>?_⟩,λj l hj h=>⟨(C.ex.df j l hj h).1,λo ho=>?_⟩⟩,rfl,λc hc o h n=>?_⟩,C.e0.trans e0⟩
 ·obtain⟨h1,p1⟩:=C.ex.pu c u h p;have ne:=h.ne hD;exact⟨h1.elim (λh=>.inl (by rw[lO ne];exact h)) λ⟨o,h⟩=>.inr ⟨o,by rw[lO ne];exact h⟩,p1⟩
 ·rw[lO (mh h hD)];exact C.ex.el c u h n p
 ·rw[lO (mh ho hD)];exact(C.ex.df j l hj h).2 o ho
 ·rw[lO (mh h hD)];exact C.ex.hk c hc o h n
theorem Cmp.done{K}{D}{H1 H2}{m1 m2}{s1 s2}{cap}{Z}{ys}{done}(C:Cmp K CB D H1 m1 s1 cap Z ys done H2 m2 s2):SR K CB H2 (m2.bare m1.hid) s2/\(D∉m1.hid->Rep K H2 (m2.bare m1.hid) s2 (.ref D) (.lst done)):=by refine⟨C.sr.show C.hid C.at_ AI,λhn=>.lst C.at_ ⟨hn,λn hh z=>C.sr.hx n hh D z (by rw[C.hid];exact ai)⟩ (C.rs.ext0 (Ext0.show C.hid).toExtR)⟩
def JA{O}{H1}{m1}{s1}{Z}{J:It}{l}{D}{Q}{t}(S1:SR X.K CB H1 m1 s1)(er:ER X.K H1 m1 s1 O Z)(it:qo X.K CB J l H1 m1 s1)(hD:H1 D=Zb)(Pi:l.length<=100000)(P:Post X.K CB (Rep X.K) E ((nN t f (nC ix Z) l s1).bind λvs s2=>.ok (.lst vs) s2) H1 m1 s1 Q):CompB J (TDT X.K CB E0 t) (TDE X.K CB E0 f) (capt ix O) D H1 Q:=by
 refine⟨λi k ys H2=>∃done m2 s2,Cmp X.K CB D H1 m1 s1 (capt ix O) (nC ix Z) ys done H2 m2 s2/\i<=l.length/\ys.length<=i/\k=l.length-i/\(nN t f (nC ix Z) l s1).bind (λvs s2=>.ok (PV.lst vs) s2)=(nN t f (nC ix Z) (l.drop i) s2).bind λvs s2=>.ok (.lst (done++vs)) s2,⟨l.length,[],m1.hide D,s1,Cmp.start S1 (er.capt ix) hD,a7 _,a7 _,rfl,?_⟩,?_⟩
 ·simp
 rintro i k ys H2 ⟨done,m2,s2,C,hi,hy,rfl,eq⟩
 obtain⟨RW,Rq⟩:=it i H2 m2 s2 C.e0 C.sr;by_cases Ps:i<l.length
 ·right;have hq:l[i]?=Za l[i]:=aw Ps;obtain⟨go,yl⟩:=RW _ hq;refine⟨go,λx H3 Ta=>?_⟩;obtain⟨e3,S3,r3⟩:=yl x H3 Ta;have C3:=C.step hD e3 S3;rw[eP Ps] at eq;rw[eq] at P;rw[oU] at P eq;refine⟨Za l[i]::nC ix Z,s2,m2,C3.er.cons r3,S3,?_⟩;cases ct:t (Za l[i]::nC ix Z) s2 with
  |bad=>rw[ct] at P;exact P.elim
  |ex c3 s3=>rw[ct] at P;exact P.elim
  |ok bt s3 =>
   rw[ct] at P eq;intro b4 H4 m4 e4 S4 hb;subst hb;have C4:=C3.step hD e4 S4;cases b4 with
   |false =>
    exact LY ⟨l.length-(i+1),by omega,done,m4,s3,C4,Ps,by omega,rfl,eq⟩
   |true =>
    refine LX ⟨Za l[i]::nC ix Z,s3,m4,C4.er.cons (r3.ext e4),S4,?_⟩;dsimp only at P eq;cases cf:f (Za l[i]::nC ix Z) s3 with
    |bad=>rw[cf] at P;exact P.elim
    |ex c5 s5=>rw[cf] at P;exact P.elim
    |ok v s5 =>
     rw[cf] at eq;intro w H5 m5 e5 S5 r5;have C5:=C4.step hD e5 S5;refine⟨C5.at_,aX (aE hy (aE hi Pi)) (by decide),l.length-(i+1),by omega,done++[v],m5,s5,C5.push hD r5,Ps,by simp;omega,rfl,?_⟩;rw[eq];dsimp only;cases hh:nN t f (nC ix Z) (l.drop (i+1)) s5 with
     |ok vs s6=>simp[Out.bind]
     |ex c6 s6=>exact absurd hh Ae
     |bad=>rfl
 ·left;have Qn:l.length<=i:=eM Ps;rw[fz Qn] at eq;rw[eq] at P;unfold nN at P;obtain⟨TV,rd⟩:=C.done;refine⟨Rq Qn,C.at_,P (.ref D) H2 (m2.bare m1.hid) C.ex TV ?_⟩;rw[cT];exact rd λz=>(S1.hs D z).1 hD
def zJ{t}(q:TDE X.K CB E (pE fi ix t f) O H Q):HW (TDI X.K CB E fi) ix (TDT X.K CB E0 t) (TDE X.K CB E0 f) O H Q:=by
 obtain⟨Z,s,m,er,S,P⟩:=q;refine⟨Z,s,m,er,S,?_⟩;unfold pE at P;cases c:fi Z s with
 |bad=>rw[c] at P;exact P
 |ex c' s'=>rw[c] at P;exact P
 |ok l s1 =>
  rw[c] at P;dsimp only[Out.bind] at P;split at P
  ·rename_i Pi;intro J H1 m1 e1 S1 it D hD;exact JA S1 (er.ext e1) it hD Pi (Post.shift e1 P)
  ·exact P.elim
def qN(hi:DI X CB E (.Name x px) iter fi)(he:∀cl C Pj Pk fp,DE (blk X scope cl C (x::fr) Pj Pk fp) CB E0 PD f)(ht:∀cl C Pj Pk fp,DIfs (blk X scope cl C (x::fr) Pj Pk fp) CB PB t:=by exact λ_ _ _ _ _=>uP)(hc:X.calm=true:=by rfl)(S:CompOk X.N X.env.scope scope x fr ix:=by exact Pa ‹FnScope _ _ _›)(hs:∀v,bZ iter X.env v=pure v:=by intro _;rfl):DE X CB E (.ListComp PD [⟨.Name x px,iter,PB,0⟩] scope pos) (pE fi ix t f) :=
 ⟨(CF hc S hi.pi (λcl C Pj Pk fp=>(ht cl C Pj Pk fp).pifs) (λcl C Pj Pk fp=>(he cl C Pj Pk fp).pe) hs).mono λO H Q q=>zJ q⟩
def zy(hi:DI X CB E (.Name x px) iter fi)(he:∀cl C Pj Pk fp,DE (blk X scope cl C (x::fr) Pj Pk fp) CB E0 PD f)(ht:∀cl C Pj Pk fp,DIfs (blk X scope cl C (x::fr) Pj Pk fp) CB PB t:=by exact λ_ _ _ _ _=>uP)(hN:X.N.Nodup:=by exact ‹FnScope _ _ _›.nd)(Rx:X.N[i]?=Za y:=by rfl)(Q7:X.env.scope.names.lookup y=Za .local:=by rfl)(hc:X.calm=true:=by rfl)(S:CompOk X.N X.env.scope scope x fr ix:=by exact Pa ‹FnScope _ _ _›)(Rs:dM (.ListComp PD [⟨.Name x px,iter,PB,0⟩] scope pos) (Za (.Name y py)) spos.line X.env=pure true:=by rfl)(hs:∀v,bZ iter X.env v=pure v:=by intro _;rfl):DS X CB E (.Assign [.Name y py] (.ListComp PD [⟨.Name x px,iter,PB,0⟩] scope pos) spos) (xSet i (pE fi ix t f)) :=
 ⟨(y8 hN Rx Q7 hc S hi.pi (λcl C Pj Pk fp=>(ht cl C Pj Pk fp).pifs) (λcl C Pj Pk fp=>(he cl C Pj Pk fp).pe) Rs hs).mono λD O H=>oE λZ s m er S P =>
  zJ ⟨Z,s,m,er,S,Post.so P λv s1 u H1 m1 e1 S1 r1 P1=>P1.next S1 ((er.ext e1).set i r1)⟩⟩
end
abbrev XF:=List PV->Sto->Out PV
def spD(K:aa)(CB:ak)(n:Nat)(D:XF):Sp:=λvs H Q E=>vs.length=n/\∃ps s m,Reps K H m s vs ps/\SR K CB H m s/\Post K CB (Rep K) E (D ps s) H m s Q
def xCall(n:Nat)(D:XF)(fa:XA)(Z:En)(s:Sto):Out PV:=(fa Z s).bind λvs s1=>if vs.length=n then D vs s1 else .bad
def fnD(N:Nat)(g:XS)(vs:List PV)(s:Sto):Out PV:=match g (vs.map Za++aR (N-vs.length) Zb) s with
 |.nx _ s'=>.ok .non s'
 |.rt v s'=>.ok v s'
 |.ex c s'=>.ex c s'
 |_=>.bad
section
variable{X:Cx}{CB:ak}{E:XK}{a b c e PD iter tg:bo}{es PB:List bo}{f g h:XE}{fa fi:XA}{t:XT}{p px py pos Pu Pf Pg:Pos}{x y:Str}{st:bQ}{pZ QO Qw:List bQ}{u v:XS}{scope:dH}{fr:List Str}{ix:List Nat}{n k:Nat}{D:XF}{ps:List Str}
def mz(F:Fn X.prog X.w X.K X.mg X.base x k ps (spD X.K CB n D))(ha:DA X CB E (e::es) fa)(hr:Room jr X.A:=by assumption)(hk:k<=jr:=by first|decide|lia)(hg:Gl X x:=by rfl)(hx:nZ (CXo X.prog X.w) X E:=by first|exact oT|exact sI)(P8:NDb x:=by decide)(he:SEb X e es:=by rfl)(PL:(bY pos (aB es X.env)).any (·.1)=false:=by rfl):DE X CB E (.Call (.Name x p) (e::es) [] pos) (xCall n D fa) :=
 ⟨(wx F (hr.mono hk) hg hx ha.pa P8 he PL).mono λO H Q=>oE λZ s m er S P=>⟨Z,s,m,er,S,P.bind λv s1 u H1 m1 e1 S1 r1 P1=>by
  split at P1
  ·rename_i hl;rw[cT];exact⟨by rw[r1.length];exact hl,v,s1,m1,r1,S1,P1⟩
  ·exact P1.elim⟩⟩
def xBM(n:Nat)(D:XF)(f:XE)(fa:XA)(Z:En)(s:Sto):Out PV:=(f Z s).bind λo s1=>match o with
 |.ref k=>match s1.get k with
  |some (.book _ _)=>(fa Z s1).bind λvs s2=>if vs.length+1=n then D (.ref k::vs) s2 else .bad
  |_=>.bad
 |_=>.bad
def vI(ho:DE X CB E a f)(M:Mt X.prog X.w X.K X.mg X.base CB m k ps (spD X.K CB n D))(ha:DA X CB E (e::es) fa)(QJ:∀z,(My.bf z).lookup m=none:=by exact λz=>My.tW z)(hr:Room jr X.A:=by assumption)(hk:k<=jr:=by first|decide|lia)(hx:nZ (CXo X.prog X.w) X E:=by first|exact oT|exact sI)(QI:SEb X e es:=by rfl)(PL:(bY pos (aB es X.env)).any (·.1)=false:=by rfl)(ht:eval (.Call (.Attribute a m Pf) (e::es) [] pos) X.env=(do
   let ov <-eval a X.env
   gv Pf.atName
   let(f,first) <-holding [ov] (fW ov m pl)
   iQ pos f first (bY pos (aB (e::es) X.env)) (eR pos (cW [] X.env))):=by rfl):DE X CB E (.Call (.Attribute a m Pf) (e::es) [] pos) (xBM n D f fa) :=
 ⟨(tw (pl:=pl) ho.pe M (hr.mono hk) hx ha.pa QI PL ht).mono λO H Q=>oE λZ s m er S P=>⟨Z,s,m,er,S,P.bind λv s1 u H1 m1 e1 S1 r1 P1=>by
  split at P1
  ·split at P1
   ·rename_i hg;obtain⟨z,L',B,_,_⟩:=S1.get hg;cases r1 with
    |ref hn =>
    refine⟨_,_,_,rfl,B.ob,QJ z,Z,s1,m1,er.ext e1,S1,P1.bind λvs s2 us H2 m2 e2 S2 r2 P2=>?_⟩;split at P2
    ·rename_i hl;rw[cT];refine⟨by rw[aY,r2.length];exact hl,_,s2,m2,.cons ?_ r2,S2,P2⟩;exact(Rep.ref hn).ext e2
    ·exact P2.elim
   ·exact P1.elim
  ·exact P1.elim⟩⟩
def wg(ho:DE X CB E a f)(M:Mt X.prog X.w X.K X.mg X.base CB m k ps (spD X.K CB n D))(QJ:∀z,(My.bf z).lookup m=none:=by exact λz=>My.tW z)(hr:Room jr X.A:=by assumption)(hk:k<=jr:=by first|decide|lia)(hx:nZ (CXo X.prog X.w) X E:=by first|exact oT|exact sI)(ht:eval (.Call (.Attribute a m Pf) [] [] pos) X.env=(do
   let ov <-eval a X.env
   gv Pf.atName
   let(f,first) <-holding [ov] (fW ov m pl)
   iQ pos f first (bY pos (aB [] X.env)) (eR pos (cW [] X.env))):=by rfl):DE X CB E (.Call (.Attribute a m Pf) [] [] pos) (xBM n D f xNil) :=
 ⟨(NY (pl:=pl) ho.pe M (hr.mono hk) hx ht).mono λO H Q=>oE λZ s m er S P=>⟨Z,s,m,er,S,P.bind λv s1 u H1 m1 e1 S1 r1 P1=>by
  split at P1
  ·split at P1
   ·rename_i hg;obtain⟨z,L',B,_,_⟩:=S1.get hg;cases r1 with
    |ref hn =>
    refine⟨_,_,_,rfl,B.ob,QJ z,?_⟩;simp only[xNil,Out.bind] at P1;split at P1
    ·rename_i hl;exact⟨hl,_,s1,m1,.cons (.ref hn) .nil,S1,P1⟩
    ·exact P1.elim
   ·exact P1.elim
  ·exact P1.elim⟩⟩
def xBook(_:En)(s:Sto):Out PV:=.ok (.ref s.nx) (s.add (.book [] []))
def JR(K:aa)(C:ak):Sp:=λvs H Q _=>∃(p dx:ak),vs=[.ref p]/\H p=Za (.ins C dx [])/\∀z H',(∀c∈[z.dp,z.dt,z.dm,z.dl,z.dh],H c=Zb)->My.BookAt K C H' p z [] []->(∀c o,H c=Za o->c≠p->H' c=Za o)->Q .non H'
def MD(M:MkB X.prog X.w X.K X.mg X.base x CB k ps (JR X.K CB))(hr:Room jr X.A:=by assumption)(hk:k+1<=jr:=by first|decide|lia)(hg:Gl X x:=by rfl)(hx:nZ (CXo X.prog X.w) X E:=by first|exact oT|exact sI)(P8:NDb x:=by decide):DE X CB E (.Call (.Name x p) [] [] pos) xBook :=
 ⟨(NZ M (hr.mono hk) hg hx P8).mono λO H Q=>oE λZ s m er S P b dx hb Vj PH=>by
  refine⟨b,dx,rfl,lQ,λz H' hz B kp=>⟨rfl,?_⟩⟩;have hk:Same H H':=λc o h=>by have h1:c≠b:=mh h hb;have h2:c≠dx:=mh h Vj;exact kp c o (by rw[lO h1,lO h2];exact h) h1
  have hzn:∀c∈[z.dp,z.dt,z.dm,z.dl,z.dh],H c=none:=λc hc=>by
   have h:=hz c hc;have n1:c≠b:=λe=>by rw[e,lQ] at h;cases h
   have n2:c≠dx:=λe=>by rw[lO n1,e,lQ] at h;cases h
   rw[lO n1,lO n2] at h;exact h
  obtain⟨S2,e2⟩:=S.add (c:=.book [] []) H' b (My.BFp b z []) hk (λa ha=>by
   unfold My.BFp at ha;rcases af.mp ha with rfl|ha
   ·exact hb
   ·exact hzn a (by simpa using ha)) λex=>by
    refine⟨z,[],?_,rfl,?_⟩
    ·rw[Mp.add_ad];exact B
    ·rw[Mp.add_ad];show(if s.nx=s.nx then _ else _)=_;rw[Zc rfl]
  exact P _ _ _ e2 S2 .new⟩
def nM{P}{w}{K}{mg}{base}{qual}{fa}{fd}{N}(F:Fun K x qual st fa fd)(S:FnScope N ps (lR st))(hps:ps.length=n)(hb:∀(Pn:ag)(A:cA)(outer:List Env)(s:ax)(H:Hp)(E:XK),Room k (A.deeper (fg qual (lR st) s.heap.objs.size fa Pn))->FnScope N ps (lR st)->DSs (Ei (CXo P w) P w K mg base N qual (lR st) fa Pn A outer s H E) CB E (nI st) u) :
  FnOk P w K mg base (CXo P w) (k+1) fa fd ps (spD K CB n (fnD N.length u)):=by
 refine F.okX S (λvs H Q E h=>by rw[hps];exact h.1) (λPn A outer s H vs Q E hr h=>?_);obtain⟨hl,RV,s',m,r,S',P'⟩:=h;refine⟨_,(hb Pn A outer s H E hr S).pss,RV.map Za++aR (N.length-RV.length) Zb,s',m,?_,S',?_⟩
 ·unfold start;rw[r.length];exact ER.start r _
 ·unfold fnD at P';cases cc:u (RV.map Za++aR (N.length-RV.length) Zb) s' with
  |nx ρ1 s1=>rw[cc] at P';exact λσ' H' m' x S1 er=>P' .non H' m' x S1 .non
  |rt v1 s1=>rw[cc] at P';exact λu' H' m' x S1 r1=>P' u' H' m' x S1 r1
  |ex c1 s1=>rw[cc] at P';exact P'
  |bk=>rw[cc] at P';exact P'.elim
  |ct=>rw[cc] at P';exact P'.elim
  |bad=>rw[cc] at P';exact P'.elim
open Classical in
def Sto.only(s:Sto)(n:Nat):Sto:=⟨s.nx,s.cs.filter λq=>decide (q.1<n)⟩
def xOnly(f:XE)(Z:En)(s:Sto):Out PV:=(f Z s).bind λv s1=>.ok v (s1.only s.nx)
def frz1(v:PV)(s:Sto):Out PV:=match v with
 |.ref n=>match s.get n with
  |some (.lst l)=>.ok (.lst l) (s.del n)
  |some (.dct l)=>.ok (.dct l) (s.del n)
  |_=>.bad
 |_=>.bad
def xFrz(f:XE)(Z:En)(s:Sto):Out PV:=(f Z s).bind frz1
def SR.frz{K}{x}{v w}(S:SR K CB H m s)(r:Rep K H m s x v)(e:frz1 v s=.ok w s'):SR K CB H m s'/\Ext H m s H m s'/\Rep K H m s' x w:=by
 unfold frz1 at e;split at e
 ·rename_i n;have pu:∀c,s.get n=Za c->m.fp n=[m.ad n]->Pur m (s.del n) (m.ad n):=λc hg e1=>by have P5:n∈s.cs.map (·.1):=ah.mpr ⟨_,oQ hg,rfl⟩;refine⟨S.hx n P5 _ (by rw[e1];simp),λj hj z=>?_⟩;obtain⟨q,hq,rfl⟩:=ah.mp hj;have PH:=Gv S.nd hq;exact S.dj n P5 q.1 (ah.mpr ⟨q,uQ hq,rfl⟩) (λz=>PH z.symm) _ (by rw[e1];simp) z
  split at e
  ·rename_i l hg;cases e;cases r;obtain⟨e1,vs,h1,h2⟩:=S.get hg;have hnd:∀l,s.get n≠Za (.dfz l):=λl z=>by rw[hg] at z;cases z
   exact⟨(S.del n hnd).1,(S.del n hnd).2,.lst h1 (pu _ hg e1) (h2.ext (S.del n hnd).2)⟩
  ·rename_i l hg;cases e;cases r;obtain⟨e1,vs,h1,h2⟩:=S.get hg;have hnd:∀l,s.get n≠Za (.dfz l):=λl z=>by rw[hg] at z;cases z
   exact⟨(S.del n hnd).1,(S.del n hnd).2,.dct (.inl h1) (pu _ hg e1) (h2.ext (S.del n hnd).2)⟩
  ·cases e
 ·cases e
def OQ(h:DE X CB E e f):DE X CB E e (xFrz f):=⟨h.pe.mono λO H Q=>oE λZ s m er S P=>⟨Z,s,m,er,S,P.bind λv s1 u H1 m1 e1 S1 r1 P1=>by
 cases cc:frz1 v s1 with
 |ok w s2 =>
  rw[cc] at P1;obtain⟨S2,e2,r2⟩:=S1.frz r1 cc;exact P1 u H1 m1 e2 S2 r2
 |ex c' s' =>
  exfalso;unfold frz1 at cc;split at cc
  ·split at cc<;>cases cc
  ·cases cc
 |bad=>rw[cc] at P1;exact P1.elim⟩⟩
theorem ExtR.trans(a:ExtR H m s H1 m1 s1)(b:ExtR H1 m1 s1 H2 m2 s2):ExtR H m s H2 m2 s2 :=
 ⟨aE a.nx b.nx,λn h=>(b.ad n (ay h a.nx)).trans (a.ad n h),λc u h p=>let⟨h1,p1⟩:=a.pu c u h p;b.pu c u h1 p1,λc x h n p=>b.el c x (a.el c x h n p) n (a.pu c _ (.inl h) p).2⟩
def K8{s:Sto}{n:Nat}{c c':Cell}(h:s.get n=Za c):(s.set n c').get n=Za c':=by
 have:∀{l:List (Nat×Cell)},ql l n=Za c->ql (tL n c' l) n=Za c':=by
  intro l;induction l with
  |nil=>intro h;cases h
  |cons q r ih =>
   intro h;obtain⟨k,d⟩:=q;unfold tL;split
   ·unfold ql;rw[Zc rfl]
   ·rename_i hk;unfold ql at h ⊢;rw[Zd hk] at h ⊢;exact ih h
 exact this h
end
def erH(H:Hp)(d:ak):Hp:=λb=>if b=d then Zb else H b
def tT(h:a≠d):erH H d a=H a:=by unfold erH;rw[Zd h]
def Ef:erH H d d=none:=by unfold erH;rw[Zc rfl]
section
variable{X:Cx}{CB:ak}{E:XK}{a b c e PD iter tg:bo}{es PB:List bo}{f g h:XE}{fa fi:XA}{t:XT}{p px py pos Pu Pf Pg:Pos}{x y:Str}{st:bQ}{pZ QO Qw:List bQ}{u v:XS}{n k:Nat}{D:XF}{ps:List Str}
def SR.hideD{K}{H}{m}{s}{d}{xs}(S:SR K CB H m s)(hd:H d=Zb):SR K CB (upd H d (.dK xs)) (m.hide d) s:=by
 have k:=My.sF (o:=.dK xs) hd;have S1:=S.same k;have e0:Ext0 H m s (upd H d (.dK xs)) (m.hide d) s:=Ext0.hide hd;have PH:∀n∈s.cs.map (·.1),∀a∈m.fp n,a≠d:=λn hn a ha z=>by obtain⟨q,hq,rfl⟩:=ah.mp hn;obtain⟨o,e,_⟩:=(S.ok q hq).kind ha;rw[z,hd] at e;cases e
 refine⟨S.nd,S.lt,λq hq=>(S.ok q hq).keep S e0.toExtR (λa _ o h=>k a o h) rfl rfl,S.dj,λn hn a ha hb=>(af.mp hb).elim (PH n hn a ha) (S.hx n hn a ha),λa ha=>?_,λP q t=>⟨ae _ (S1.tb P q t).1,(S1.tb P q t).2⟩⟩;rcases af.mp ha with rfl|ha
 ·rw[lQ];exact⟨by simp,λ_ _=>⟨by simp,by simp,by simp,by simp⟩⟩
 ·exact S1.hs a ha
def L0{K}{H H2}{m m2}{s s2}{d}{xs}(S:SR K CB H m s)(hd:H d=Zb)(e:Ext (upd H d (.dK xs)) (m.hide d) s H2 m2 s2)(S2:SR K CB H2 m2 s2) :
  SR K CB (erH H2 d) (m2.bare m.hid) s2/\Ext H m s (erH H2 d) (m2.bare m.hid) s2/\ExtR H2 m2 s2 (erH H2 d) (m2.bare m.hid) s2/\H2 d=Za (.dK xs):=by
 have hh:m2.hid=d::m.hid:=e.hd;have P5:d∈m2.hid:=by rw[hh];exact ai
 have hD:H2 d=Za (.dK xs):=e.hk d ai _ lQ (by intro _ z;cases z);have tbE:TbS H2 (erH H2 d):=.of λa o h od=>by rw[tT (show a≠d from λz=>by rw[z,hD] at h;cases h;exact E2 od)];exact h
 have x2:ExtR H2 m2 s2 (erH H2 d) (m2.bare m.hid) s2:=by have ne:∀a,Pur m2 s2 a->a≠d:=λa p z=>p.1 (by rw[z];exact P5);refine⟨ao _,λ_ _=>rfl,λa u h p=>⟨?_,λz=>p.1 (by rw[hh];exact ae _ z),p.2⟩,λa u h _ p=>by rw[tT (ne a p)];exact h⟩;exact h.elim (λh=>.inl (by rw[tT (ne a p)];exact h)) λ⟨o,h⟩=>.inr ⟨o,by rw[tT (ne a p)];exact h⟩
 have fne:∀n∈s2.cs.map (·.1),∀a∈m2.fp n,a≠d:=λn hn a ha z=>S2.hx n hn a ha (by rw[z];exact P5);have dn:d∉m.hid:=λz=>(S.hs d z).1 hd;have h2:∀a∈m.hid,a≠d:=λa ha z=>dn (by rw[<-z];exact ha);refine⟨⟨S2.nd,S2.lt,λq hq=>(S2.ok q hq).keep S2 x2 (λa ha o h=>by rw[tT (fne q.1 (ah.mpr ⟨q,hq,rfl⟩) a ha)];exact h) rfl rfl,S2.dj,λn hn a ha hb=>S2.hx n hn a ha (by rw[hh];exact ae _ hb),λa ha=>?_,λP q t=>⟨?_,tbE.2 P q (S2.tb P q t).2⟩⟩,?_,x2,hD⟩
 ·rw[tT (h2 a ha)];exact S2.hs a (by rw[hh];exact ae _ ha)
 ·obtain⟨h1,ps,h3,_⟩:=S2.tb P q t;rw[hh] at h1;rcases af.mp h1 with z|z
  ·rw[z,hD] at h3;cases h3
  ·exact z
 ·have e1:=(Ext0.hide (m:=m) (s:=s) (o:=.dK xs) hd).trans e.toExt0;refine⟨⟨e1.toExtR.trans x2,λj l hj h=>⟨(e1.df j l hj h).1,λo ho=>?_⟩⟩,rfl,λa ha o h n0=>?_⟩
  ·rw[tT (mh ho hd)];exact(e1.df j l hj h).2 o ho
  ·rw[tT (h2 a ha)];exact e.hk a (ae _ ha) o (My.sF hd _ _ h) n0
def xDisp(f g:XE)(Z:En)(s:Sto):Out PV:=match f Z s with
 |.ok v s1=>match g Z s1 with
  |.ok w s2=>match kyOf v with
   |some k=>.ok (.ref s2.nx) (s2.add (.dct [(k,w)]))
   |none=>.bad
  |_=>.bad
 |_=>.bad
def MC(hk:DE X CB E a f)(hv:DE X CB E b g):DE X CB E (.Dict [Za a] [b] pos) (xDisp f g) :=
 ⟨(FX (DX hk.pe hv.pe FV) rfl rfl (by simp) (by simp)).mono λO H Q=>oE λZ s m er S P p0 hp=>by
  have e0:Ext0 H m s (upd H p0 (.dK [])) (m.hide p0) s:=Ext0.hide hp;have hm:SR X.K CB (upd H p0 (.dK [])) (m.hide p0) s:=S.hideD hp;refine⟨Z,s,m.hide p0,er.ext0 e0.toExtR,hm,?_⟩;unfold xDisp at P;cases c1:f Z s with
  |bad=>rw[c1] at P;exact P.elim
  |ex c' s'=>rw[c1] at P;exact P.elim
  |ok v s1 =>
   rw[c1] at P;intro u1 H1 m1 e1 S1 r1;refine⟨Z,s1,m1,(er.ext0 e0.toExtR).ext e1,S1,?_⟩;dsimp only at P;cases c2:g Z s1 with
   |bad=>rw[c2] at P;exact P.elim
   |ex c' s'=>rw[c2] at P;exact P.elim
   |ok w s2 =>
    rw[c2] at P;intro u2 H2 m2 e2 S2 r2;dsimp only at P;split at P
    ·rename_i k hk;obtain⟨S3,e3,x3,hD⟩:=L0 S hp (e1.trans e2) S2;have ek:u1=kV k:=qi r1 hk;refine⟨hD,[(k,u2)],by rw[ek];rfl,by simp,?_⟩;have Ui:Same (erH H2 p0) (upd H2 p0 (.dK [(k,u2)])):=λc o h=>by
      have PH:c≠p0:=λz=>by rw[z,Ef] at h;cases h
      rw[lO PH];rw[tT PH] at h;exact h
     obtain⟨S4,e4⟩:=S3.newD (l:=[(k,w)]) Ef Ui lQ (.cons (r2.ext0 x3) .nil);exact P _ _ _ (e3.trans e4) S4 .new
    ·exact P.elim⟩
def xIfe(t:XT)(f g:XE)(Z:En)(s:Sto):Out PV:=(t Z s).bind λb s1=>if b=true then f Z s1 else g Z s1
def FG(hc:DT X CB E c t)(ha:DE X CB E a f)(hb:DE X CB E b g):DE X CB E (.IfExp c a b pos) (xIfe t f g) :=
 ⟨(IP hc.pt ha.pe hb.pe).mono λO H Q=>oE λZ s m er S P=>⟨Z,s,m,er,S,P.bind λv s1 b H1 m1 e1 S1 r1 P1=>by
  cases r1;refine vm (λc=>?_) λc=>?_
  ·rw[Zc c] at P1;exact⟨Z,s1,m1,er.ext e1,S1,P1⟩
  ·rw[Zd c] at P1;exact⟨Z,s1,m1,er.ext e1,S1,P1⟩⟩⟩
inductive Ty5 where
 |int|bool|str|tuple|list
inductive Ty7 where
 |int|bool|str|tuple|list|non|dict
def kitT:Ty7->Ty5->Bool
 |.int,.int=>true|.bool,.bool=>true|.bool,.int=>true|.str,.str=>true|.tuple,.tuple=>true|.list,.list=>true
 |_,_=>false
def tyOf(s:Sto):PV->Option Ty7
 |.int _=>Za .int
 |.bl _=>Za .bool
 |.str _=>Za .str
 |.non=>Za .non
 |.tup _=>Za .tuple
 |v=>match lsOf s v with
  |some _=>Za .list
  |none=>Zb
def xIsiT(T:Ty5)(f:XE)(Z:En)(s:Sto):Out PV:=(f Z s).bind λv s1=>match tyOf s1 v with
 |some k=>.ok (.bl (kitT k T)) s1
 |none=>.bad
end
end L2
namespace My
open PySem L2
def top(i:Nat):bQ:=PySem.Challenge.pw_wholeowners_k63_whole_what_a_sale_change.main.body.getD i (.Pass ⟨0,0,0,0⟩)
structure Adr where
 OwnError:ak
 NoName:ak
 Twice:ak
 TooMany:ak
 NoHolder:ak
 NoHouse:ak
 NoLoss:ak
 NoShare:ak
 NoText:ak
 Whole:ak
 Book:ak
 ZERO:ak
 ONE:ak
 HALF:ak
 t8:Tok
 t6:Tok
 u8:Tok
 kx:ak->ak->Bool
def Tup2(K:aa)(a:ak)(i j:Int):Prop:=∃(o:Obj)(its:Array ag)(n:Nat),K.lookup a=Za o/\o.cls=.type "tuple"/\o.data=.seq its n/\its.size<=aK/\Vals [.int i,.int j] its.toList
structure Txt(K:aa)(mg:Str->Option ag)(a:Adr):Prop where
 b_len:mg "len"=Zb
 b_range:mg "range"=Zb
 b_all:mg "all"=Zb
 b_int:mg "int"=Zb
 b_abs:mg "abs"=Zb
 b_sorted:mg "sorted"=Zb
 b_tuple:mg "tuple"=Zb
 b_list:mg "list"=Zb
 b_str:mg "str"=Zb
 b_bool:mg "bool"=Zb
 b_isinstance:mg "isinstance"=Zb
 b_ValueError:mg "ValueError"=Zb
 b_any:mg "any"=Zb
 b_set:mg "set"=Zb
 b_max:mg "max"=Zb
 c_OwnError:mg "OwnError"=Za (.ref a.OwnError)
 c_NoName:mg "NoName"=Za (.ref a.NoName)
 c_Twice:mg "Twice"=Za (.ref a.Twice)
 c_TooMany:mg "TooMany"=Za (.ref a.TooMany)
 c_NoHolder:mg "NoHolder"=Za (.ref a.NoHolder)
 c_NoHouse:mg "NoHouse"=Za (.ref a.NoHouse)
 c_NoLoss:mg "NoLoss"=Za (.ref a.NoLoss)
 c_NoShare:mg "NoShare"=Za (.ref a.NoShare)
 c_Whole:mg "Whole"=Za (.ref a.Whole)
 x_OwnError:Exc K a.OwnError
 x_NoName:Exc K a.NoName
 x_Twice:Exc K a.Twice
 x_TooMany:Exc K a.TooMany
 x_NoHolder:Exc K a.NoHolder
 x_NoHouse:Exc K a.NoHouse
 x_NoLoss:Exc K a.NoLoss
 x_NoShare:Exc K a.NoShare
 g_LONGEST_NAME:mg "LONGEST_NAME"=Za (.int 8 a.t8)
 g_MOST_PERSONS:mg "MOST_PERSONS"=Za (.int 6 a.t6)
 g_MOST_HOUSES:mg "MOST_HOUSES"=Za (.int 8 a.u8)
 g_ZERO:mg "ZERO"=Za (.ref a.ZERO)
 g_ONE:mg "ONE"=Za (.ref a.ONE)
 zero:Tup2 K a.ZERO 0 1
 one:Tup2 K a.ONE 1 1
 cl:Cls K a.Book
 nA_people:NoAttr K a.Book "people"
 nA_things_of:NoAttr K a.Book "things_of"
 nA_mark_of:NoAttr K a.Book "mark_of"
 nA_loss_of:NoAttr K a.Book "loss_of"
 nA_held_of:NoAttr K a.Book "held_of"
def Txt.r_LONGEST_NAME{K}(T:Txt K mg a):RelV (.int 8) (.int 8 a.t8):=⟨_,rfl⟩
def Txt.r_MOST_PERSONS{K}(T:Txt K mg a):RelV (.int 6) (.int 6 a.t6):=⟨_,rfl⟩
def Txt.r_MOST_HOUSES{K}(T:Txt K mg a):RelV (.int 8) (.int 8 a.u8):=⟨_,rfl⟩
def Txt.r_ZERO{K}(T:Txt K mg a):RelV (.ref a.ZERO) (.ref a.ZERO):=rfl
def Txt.r_ONE{K}(T:Txt K mg a):RelV (.ref a.ONE) (.ref a.ONE):=rfl
def yesT{te:TE}{cap:St}{H:Hp}{Kt:VK}{Kf:Hp->Prop}(h:te cap H Kt):tYes cap H λb H4=>if b=true then te cap H4 Kt else Kf H4:=by
 show if true=true then te cap H Kt else Kf H
 rw[Zc rfl];exact h
def Bo(c):(!decide ((⟨#[c]⟩:Str).cps.toList<(aQ "a").cps.toList))=decide (97<=c):=by show(!decide ([c]<[97]))=decide (97<=c);rw[bS];simp[kN]
def GU(c):(!decide ((aQ "z").cps.toList<(⟨#[c]⟩:Str).cps.toList))=decide (c<=122):=by show(!decide ([122]<[c]))=decide (c<=122);rw[bS];simp[kN]
def An{x:Str}{i c:Nat}{g:Nat->V}(hc:x.cps[i]?=Za c):(x.cps.toList.take i).map g++[g c]=(x.cps.toList.take (i+1)).map g:=by
 have hc:x.cps.toList[i]?=Za c:=by simpa using hc
 rw[dX,hc,au];rfl
section
variable{P:aL}{w:bh}{K:aa}{mg:Str->Option ag}{base:bv}{a:Adr}{f:ak}{fd:cq}
abbrev uU:bQ:=top 25
def EJ:FnScope ["text"] ["text"] (lR uU):=fsc
def low(c:Nat):Bool:=decide (97<=c)&&decide (c<=122)
def vT(x:Str):Bool:=decide (1<=x.length)&&decide (x.length<=8)&&x.cps.toList.all low
def yU:Sp:=λvs H Q _=>∃x,vs=[.str x]/\Nm x/\∀H',Same H H'->Q (.bl (vT x)) H'
def EY(F:Fun K "is_name" "is_name" uU f fd)(T:Txt K mg a):FnOk P w K mg base (CXo P w) 1 f fd ["text"] yU:=by
 refine F.okN EJ (λvs H Q E h=>?_) (λPn A outer s H vs Q E hr h=>?_)
 ·obtain⟨x,rfl,_⟩:=h;rfl
 ·obtain⟨x,rfl,nm,k⟩:=h;have hu:=oi hr;refine⟨_,(@mB _ _ _ (@qF _ _ _ _ (@JZ _ _ _ _ _ _ _ (DZ M8 M8 pe_int (@pG _ _ _ _ _ _ _ _ _ call_len_str rfl T.b_len Dh (@mf _ _ _ _ _ (pv 0) pa_nil (by rfl)) (by decide) (by decide) (by rfl) (by rfl)) (rR rfl T.g_LONGEST_NAME T.r_LONGEST_NAME)) (@Fu _ _ _ _ _ (@pG _ _ _ _ _ _ _ _ _ Eo rfl T.b_all Ko (@mf _ _ _ _ _ (CF (fr:=[]) (ix:=[]) rfl (by exact(show CompOk ["text"] (lR uU) _ _ _ _ from cok)) (NU (pv 0)) (λ_ _ _ _ _=>z6) (λ_ _ _ _ _=>(DZ Bs Bs pe_str (pv 0) pe_str))) pa_nil (by rfl)) (by decide) (by decide) (by rfl) (by rfl)))))),?_⟩;have Pi:x.length<=aK:=aE nm.1 (by decide);refine⟨_,rfl,_,rfl,Pi,_,_,rfl,rfl,_,rfl,vm (λh=>?_) (λh=>?_)⟩
  ·have h1:(1:Int)<=(x.length:Int):=Zf h;refine⟨_,_,rfl,rfl,_,rfl,vm (λh=>?_) (λh=>?_)⟩
   ·have h2:(x.length:Int)<=8:=Zf h;refine⟨_,rfl,x,rfl,λD hD=>?_⟩;refine GD (J:=Its x) x.cps.size (λi ys H'=>H'=upd H D (.lst ys)/\ys=(x.cps.toList.take i).map λc=>V.bl (low c)) ⟨rfl,rfl⟩ Pi (λi ys H' r=>by rw[r.1];exact lQ) (λi ys H' hi _=>hi) ?_ ?_
    ·rintro i ys H' v H'' hi ⟨rfl,rfl⟩ ⟨rfl,c,hc,rfl⟩ Kt Kf k1 k2
     have PK:∀b,b=low c->Kt (V.bl b) (upd H D (.lst ((x.cps.toList.take i).map λc=>V.bl (low c)))):=λb hb=>by refine k1 _ _ lQ ⟨by rw[wI],?_⟩;rw[hb,An hc]
     refine yesT ⟨_,rfl,_,_,rfl,rfl,_,rfl,vm (λh=>?_) (λh=>?_)⟩
     ·refine⟨_,_,rfl,rfl,PK _ ?_⟩;rw[Bo] at h;rw[GU];unfold low;rw[h,iL]
     ·refine PK _ ?_;rw[Bo] at h;unfold low;rw[dZ.mpr h,fA]
    ·rintro ys H' hl ⟨rfl,rfl⟩
     have e:List.take x.cps.size x.cps.toList=x.cps.toList:=gS (by simp);rw[e];refine⟨ao _,D,x.cps.toList.map low,rfl,SqL.of (by rw[lQ,aH];rfl),rfl,?_⟩;have e2:(x.cps.toList.map low).all id=vT x:=by
      have h1:1<=x.length:=by lia
      have h2:x.length<=8:=by lia
      unfold vT;rw[Zg h1,Zg h2,kA,iL,iL];rfl
     rw[e2];exact k _ (sF hD)
   ·have h2:¬x.length<=8:=λz=>h (Zg (by lia));have e2:false=vT x:=by unfold vT;rw[Zh h2,Bool.and_false,fA]
    show Q (.bl false) H;rw[e2];exact k _ λ_ _ z=>z
  ·have h2:¬ 1<=x.length:=λz=>h (Zg (by lia));have e2:false=vT x:=by unfold vT;rw[Zh h2,fA,fA]
   refine⟨_,rfl,LY ?_⟩;show Q (.bl false) H;rw[e2];exact k _ λ_ _ z=>z
abbrev ud:bQ:=top 26
def B7:FnScope ["number"] ["number"] (lR ud):=fsc
def vP(a:Adr):Sp:=λvs H Q E=>∃n,vs=[.int n]/\(n<0->E (.ref a.NoLoss) Zb H)/\(0<=n->Q .non H)
def Ch(F:Fun K "need_loss" "need_loss" ud f fd)(T:Txt K mg a):FnOk P w K mg base (CXo P w) 1 f fd ["number"] (vP a):=by
 refine F.okX B7 (λvs H Q E h=>?_) (λPn A outer s H vs Q E hr h=>?_)
 ·obtain⟨x,rfl,_⟩:=h;rfl
 ·obtain⟨n,rfl,k1,k2⟩:=h;have hu:=oi hr;refine⟨_,(@mB _ _ _ (@ww _ _ _ _ _ _ _ _ (@ve _ _ _ _ _ _ _ _ M7 (pv 0) pe_int (vh _)) (@mB _ _ _ (qg T.x_NoLoss rfl T.c_NoLoss rfl pe_str zi)) pss_nil)),?_⟩;refine⟨_,rfl,_,_,rfl,rfl,_,rfl,vm (λh=>?_) (λh=>?_)⟩
  ·exact k1 (Zf h)
  ·exact k2 (Int.not_lt.mp λz=>h (Zg z))
abbrev uq:bQ:=nQ (top 27) 0
def Cf:FnScope ["self"] ["self"] (lR uq):=fsc
def IF(dp dt dm dl dh dx):putF "held_of" (.ref dh) (putF "loss_of" (.ref dl) (putF "mark_of" (.ref dm) (putF "things_of" (.ref dt) (putF "people" (.ref dp) []))))=bf ⟨dx,dp,dt,dm,dl,dh⟩:=by simp only[putF,Zd (show ¬((aQ "people")=aQ "things_of") by decide +kernel),Zd (show ¬((aQ "people")=aQ "mark_of") by decide +kernel),Zd (show ¬((aQ "people")=aQ "loss_of") by decide +kernel),Zd (show ¬((aQ "people")=aQ "held_of") by decide +kernel),Zd (show ¬((aQ "things_of")=aQ "mark_of") by decide +kernel),Zd (show ¬((aQ "things_of")=aQ "loss_of") by decide +kernel),Zd (show ¬((aQ "things_of")=aQ "held_of") by decide +kernel),Zd (show ¬((aQ "mark_of")=aQ "loss_of") by decide +kernel),Zd (show ¬((aQ "mark_of")=aQ "held_of") by decide +kernel),Zd (show ¬((aQ "loss_of")=aQ "held_of") by decide +kernel)];rfl
structure IniAt(C:ak)(H0 H:Hp)(p dx:ak)(fs:List (Str×V))(ds:List ak):Prop where
 ob:H p=Za (.ins C dx fs)
 dd:∀c∈ds,H c=Za (.dK [])
 fr:∀c∈ds,H0 c=Zb
 nd:(p::ds).Nodup
 kp:∀c o,H0 c=Za o->c≠p->H c=Za o
 len:fs.length<=ds.length
def IniAt.at_(I:IniAt C H0 H p dx fs ds)(h:H d=Zb):(upd H d (.dK [])) p=Za (.ins C dx fs):=by rw[lO (mh I.ob h)];exact I.ob
def IniAt.step{C}{H0 H}{p dx d}{fs}{ds}{f}(I:IniAt C H0 H p dx fs ds)(h:H d=Zb) :
  IniAt C H0 (upd (upd H d (.dK [])) p (.ins C dx (putF f (.ref d) fs))) p dx (putF f (.ref d) fs) (ds++[d]):=by
 have n1:p≠d:=mh I.ob h;obtain⟨m1,m2⟩:=aI.mp I.nd;have m3:d∉ds:=λz=>by rw[I.dd d z] at h;cases h
 refine⟨lQ,λc hc=>?_,λc hc=>?_,?_,λc o e hc=>?_,?_⟩
 ·rcases aJ.mp hc with hc|hc
  ·have c1:c≠p:=λz=>m1 (by rw[<-z];exact hc);have c2:c≠d:=λz=>m3 (by rw[<-z];exact hc);rw[lO c1,lO c2];exact I.dd c hc
  ·rw[ap.mp hc,lO n1.symm,lQ]
 ·rcases aJ.mp hc with hc|hc
  ·exact I.fr c hc
  ·rw[ap.mp hc];cases q:H0 d with
   |none=>rfl
   |some o=>rw[I.kp d o q n1.symm] at h;cases h
 ·refine aI.mpr ⟨λz=>?_,wV m2 m3⟩;rcases aJ.mp z with z|z
  ·exact m1 z
  ·exact n1 (ap.mp z)
 ·rw[lO hc,lO (λz=>by rw[z] at e;rw[I.kp d o e (z▸hc)] at h;cases h)];exact I.kp c o e hc
 ·rw[aD];exact aE (ut _ _ _) (Nat.add_le_add_right I.len 1)
def K2(K:aa)(C:ak):Sp:=λvs H Q _=>∃(p dx:ak),vs=[.ref p]/\H p=Za (.ins C dx [])/\∀z H',(∀c∈[z.dp,z.dt,z.dm,z.dl,z.dh],H c=Zb)->BookAt K C H' p z [] []->(∀c o,H c=Za o->c≠p->H' c=Za o)->Q .non H'
def LJ(F:Fun K "__init__" "Book.__init__" uq f fd)(T:Txt K mg a):FnOk P w K mg base (CXo P w) 1 f fd ["self"] (K2 K a.Book):=by
 refine F.okN Cf (λvs H Q E h=>?_) (λPn A outer s H vs Q E hr h=>?_)
 ·obtain⟨p,dx,rfl,_⟩:=h;rfl
 ·obtain⟨p,dx,rfl,hp,k⟩:=h;have hu:=oi hr;refine⟨_,(@ms _ _ _ _ _ (yt (pv 0) pe_dnewK rfl) (@ms _ _ _ _ _ (yt (pv 0) pe_dnewK rfl) (@ms _ _ _ _ _ (yt (pv 0) pe_dnewK rfl) (@ms _ _ _ _ _ (yt (pv 0) pe_dnewK rfl) (@mB _ _ _ (yt (pv 0) pe_dnewK rfl)))))),?_⟩;have I0:IniAt a.Book H H p dx [] []:=⟨hp,by simp,by simp,by simp,λc o e _=>e,ao _⟩;intro dp h1;refine⟨_,rfl,p,_,dx,_,rfl,I0.at_ h1,T.cl,T.nA_people,aX I0.len (show 0<1000 by decide),?_⟩;have I1:=I0.step (f:="people") h1;intro dt h2;refine⟨_,rfl,p,_,dx,_,rfl,I1.at_ h2,T.cl,T.nA_things_of,aX I1.len (show 1<1000 by decide),?_⟩;have I2:=I1.step (f:="things_of") h2;intro dm h3;refine⟨_,rfl,p,_,dx,_,rfl,I2.at_ h3,T.cl,T.nA_mark_of,aX I2.len (show 2<1000 by decide),?_⟩;have I3:=I2.step (f:="mark_of") h3;intro dl h4;refine⟨_,rfl,p,_,dx,_,rfl,I3.at_ h4,T.cl,T.nA_loss_of,aX I3.len (show 3<1000 by decide),?_⟩;have I4:=I3.step (f:="loss_of") h4;intro dh h5;refine⟨_,rfl,p,_,dx,_,rfl,I4.at_ h5,T.cl,T.nA_held_of,aX I4.len (show 4<1000 by decide),?_⟩;have I5:=I4.step (f:="held_of") h5;refine k ⟨dx,dp,dt,dm,dl,dh⟩ _ (λc hc=>I5.fr c (by simpa using hc)) ⟨?_,I5.dd dp (by simp),I5.dd dt (by simp),I5.dd dm (by simp),I5.dd dl (by simp),⟨[],I5.dd dh (by simp),.nil,iq⟩,λe he=>(by cases he),I5.nd,a7 _,a7 _⟩ I5.kp;rw[<-IF];exact I5.ob
abbrev qd:bQ:=nQ (top 27) 1
def wP:FnScope ["self","name"] ["self","name"] (lR qd):=fsc
def qW(K:aa)(C:ak):Sp:=λvs H Q _=>∃b z Ph L x,vs=[.ref b,.str x]/\BookAt K C H b z Ph L/\Q (.bl (pB L x)) H
def Dp(F:Fun K "is_house" "Book.is_house" qd f fd)(T:Txt K mg a):FnOk P w K mg base (CXo P w) 1 f fd ["self","name"] (qW K a.Book):=by
 refine F.okN wP (λvs H Q E h=>?_) (λPn A outer s H vs Q E hr h=>?_)
 ·obtain⟨b,z,Ph,L,x,rfl,_⟩:=h;rfl
 ·obtain⟨b,z,Ph,L,x,rfl,B,k⟩:=h;have hu:=oi hr;refine⟨_,(@mB _ _ _ (@qF _ _ _ _ (JY (J0 hu (pv 1) (oH (pv 0) rfl))))),?_⟩;refine⟨_,rfl,_,rfl,b,_,_,_,_,rfl,B.ob,T.cl,T.nA_held_of,vv z,_,_,rfl,B.hh.dget x,?_⟩;rw[rN,ci];exact k
abbrev pJ:bQ:=nQ (top 27) 2
def vM:FnScope ["self","name"] ["self","name"] (lR pJ):=fsc
def sN(K:aa)(C:ak):Sp:=λvs H Q _=>∃b z Ph L x,vs=[.ref b,.str x]/\BookAt K C H b z Ph L/\Q (.bl (oF Ph x||pB L x)) H
def Ci(F:Fun K "is_holder" "Book.is_holder" pJ f fd)(T:Txt K mg a)(PZ:Mt P w K mg base a.Book "is_house" 1 ["self","name"] (qW K a.Book)):FnOk P w K mg base (CXo P w) 2 f fd ["self","name"] (sN K a.Book):=by
 refine F.okN vM (λvs H Q E h=>?_) (λPn A outer s H vs Q E hr h=>?_)
 ·obtain⟨b,z,Ph,L,x,rfl,_⟩:=h;rfl
 ·obtain⟨b,z,Ph,L,x,rfl,B,k⟩:=h;have hu:=oi hr;refine⟨_,(@mB _ _ _ (@qF _ _ _ _ (@pe_or _ _ _ _ _ _ _ (JY (J0 hu (pv 1) (oH (pv 0) rfl))) (@Fu _ _ _ _ _ (tw (pv 0) PZ (hr.mono (by first|decide|lia)) sI (@mf _ _ _ _ _ (pv 1) pa_nil (by rfl))))))),?_⟩;refine⟨_,rfl,_,rfl,b,_,_,_,_,rfl,B.ob,T.cl,T.nA_people,uZ z,_,_,rfl,DGet.k (k:=aj x) B.pp,_,rfl,vm (λh=>?_) (λh=>?_)⟩
  ·rw[rN (key:=λn=>n),ci] at h;unfold oF at k;rw[h] at k;exact k
  ·rw[rN (key:=λn=>n),ci] at h;unfold oF at k;rw[dZ.mpr h] at k;exact⟨_,rfl,b,_,_,rfl,B.ob,tW z,_,rfl,b,z,Ph,L,x,rfl,B,k⟩
abbrev o7:bQ:=nQ (top 27) 3
def vw:FnScope ["self","name"] ["self","name"] (lR o7):=fsc
def oG(K:aa)(a:Adr):Sp:=λvs H Q E=>∃b z Ph L x,vs=[.ref b,.str x]/\BookAt K a.Book H b z Ph L/\Nm x/\(pB L x=true->Q .non H)/\(pB L x=false->E (.ref a.NoHouse) Zb H)
def AD(F:Fun K "need_house" "Book.need_house" o7 f fd)(T:Txt K mg a)(PZ:Mt P w K mg base a.Book "is_house" 1 ["self","name"] (qW K a.Book)):FnOk P w K mg base (CXo P w) 2 f fd ["self","name"] (oG K a):=by
 refine F.okX vw (λvs H Q E h=>?_) (λPn A outer s H vs Q E hr h=>?_)
 ·obtain⟨b,z,Ph,L,x,rfl,_⟩:=h;rfl
 ·obtain⟨b,z,Ph,L,x,rfl,B,nm,k1,k2⟩:=h;have hu:=oi hr;refine⟨_,(@mB _ _ _ (@ww _ _ _ _ _ _ _ _ (Ax (vX (tw (pv 0) PZ (hr.mono (by first|decide|lia)) oT (@mf _ _ _ _ _ (pv 1) pa_nil (by rfl))))) (@mB _ _ _ (qg T.x_NoHouse rfl T.c_NoHouse rfl (EU (Ay (yu (pv 1) Az))) zi)) pss_nil)),?_⟩;refine⟨_,rfl,b,_,_,rfl,B.ob,tW z,_,rfl,b,z,Ph,L,x,rfl,B,_,rfl,vm (λh=>?_) (λh=>?_)⟩
  ·exact⟨_,rfl,⟨x,rfl,nm⟩,λy=>k2 (nbT h)⟩
  ·exact k1 (nbF h)
abbrev oM:bQ:=nQ (top 27) 4
def uI:FnScope ["self","name"] ["self","name"] (lR oM):=fsc
def qz(K:aa)(a:Adr):Sp:=λvs H Q E=>∃b z Ph L x,vs=[.ref b,.str x]/\BookAt K a.Book H b z Ph L/\Nm x/\((oF Ph x||pB L x)=true->Q .non H)/\((oF Ph x||pB L x)=false->E (.ref a.NoHolder) Zb H)
def yI(F:Fun K "need_holder" "Book.need_holder" oM f fd)(T:Txt K mg a)(PU:Mt P w K mg base a.Book "is_holder" 2 ["self","name"] (sN K a.Book)):FnOk P w K mg base (CXo P w) 3 f fd ["self","name"] (qz K a):=by
 refine F.okX uI (λvs H Q E h=>?_) (λPn A outer s H vs Q E hr h=>?_)
 ·obtain⟨b,z,Ph,L,x,rfl,_⟩:=h;rfl
 ·obtain⟨b,z,Ph,L,x,rfl,B,nm,k1,k2⟩:=h;have hu:=oi hr;refine⟨_,(@mB _ _ _ (@ww _ _ _ _ _ _ _ _ (Ax (vX (tw (pv 0) PU (hr.mono (by first|decide|lia)) oT (@mf _ _ _ _ _ (pv 1) pa_nil (by rfl))))) (@mB _ _ _ (qg T.x_NoHolder rfl T.c_NoHolder rfl (EU (Ay (yu (pv 1) Az))) zi)) pss_nil)),?_⟩;refine⟨_,rfl,b,_,_,rfl,B.ob,tW z,_,rfl,b,z,Ph,L,x,rfl,B,_,rfl,vm (λh=>?_) (λh=>?_)⟩
  ·exact⟨_,rfl,⟨x,rfl,nm⟩,λy=>k2 (nbT h)⟩
  ·exact k1 (nbF h)
abbrev og:bQ:=nQ (top 27) 5
def tJ:FnScope ["self","name"] ["self","name"] (lR og):=fsc
def rD(a:Adr)(Ph:List Str)(L:List (Ent×ak))(x:Str):Option ak:=if vT x=false then Za a.NoName else if(oF Ph x||pB L x)=true then Za a.Twice else Zb
def uc(K:aa)(a:Adr):Sp:=λvs H Q E=>∃b z Ph L x,vs=[.ref b,.str x]/\BookAt K a.Book H b z Ph L/\Nm x/\(rD a Ph L x=Zb->∀H',Same H H'->Q .non H')/\(∀c,rD a Ph L x=Za c->∀H',Same H H'->E (.ref c) Zb H')
def Do(F:Fun K "need_new_name" "Book.need_new_name" og f fd)(T:Txt K mg a)(QU:Fn P w K mg base "is_name" 1 ["text"] yU)(PU:Mt P w K mg base a.Book "is_holder" 2 ["self","name"] (sN K a.Book)):FnOk P w K mg base (CXo P w) 3 f fd ["self","name"] (uc K a):=by
 refine F.okX tJ (λvs H Q E h=>?_) (λPn A outer s H vs Q E hr h=>?_)
 ·obtain⟨b,z,Ph,L,x,rfl,_⟩:=h;rfl
 ·obtain⟨b,z,Ph,L,x,rfl,B,nm,k1,k2⟩:=h;have hu:=oi hr;refine⟨_,(@ms _ _ _ _ _ (@ww _ _ _ _ _ _ _ _ (Ax (vX (@wx _ _ _ _ _ _ _ _ _ _ _ QU (hr.mono (by first|decide|lia)) rfl oT (@mf _ _ _ _ _ (pv 1) pa_nil (by rfl)) (by decide) (by rfl) (by rfl)))) (@mB _ _ _ (qg T.x_NoName rfl T.c_NoName rfl (EU (Ay (yu (pv 1) Az))) zi)) pss_nil) (@mB _ _ _ (@ww _ _ _ _ _ _ _ _ (vX (tw (pv 0) PU (hr.mono (by first|decide|lia)) oT (@mf _ _ _ _ _ (pv 1) pa_nil (by rfl)))) (@mB _ _ _ (qg T.x_Twice rfl T.c_Twice rfl (EU (Ay (yu (pv 1) Az))) zi)) pss_nil))),?_⟩;refine⟨_,rfl,x,rfl,nm,λH1 s1=>⟨_,rfl,vm (λh=>?_) (λh=>?_)⟩⟩
  ·refine⟨_,rfl,⟨x,rfl,nm⟩,λy=>k2 _ ?_ H1 s1⟩;have h:vT x=false:=nbT h;unfold rD;rw[Zc h]
  ·have h:vT x=true:=nbF h;have B1:=B.same s1;refine⟨_,rfl,b,_,_,rfl,B1.ob,tW z,_,rfl,b,z,Ph,L,x,rfl,B1,_,rfl,vm (λh2=>?_) (λh2=>?_)⟩
   ·refine⟨_,rfl,⟨x,rfl,nm⟩,λy=>k2 _ ?_ H1 s1⟩;unfold rD;rw[Zd (by rw[h];decide),Zc h2]
   ·refine k1 ?_ H1 s1;unfold rD;rw[Zd (by rw[h];decide),Zd h2]
end
mutual
inductive D where
 |i (n:Int)
 |s (x:Str)
 |l (xs:DL)
 |t (xs:DL)
inductive DL where
 |nil
 |cons (x:D) (xs:DL)
end
mutual
def DAt(K:aa)(H:Hp):D->V->Prop
 |.i n,v=>v=.int n
 |.s x,v=>v=.str x
 |.l xs,v=>∃a vs,v=.ref a/\SqL K H a vs/\DLAt K H xs vs
 |.t xs,v=>∃a vs,v=.ref a/\SqT K H a vs/\DLAt K H xs vs
def DLAt(K:aa)(H:Hp):DL->List V->Prop
 |.nil,vs=>vs=[]
 |.cons x xs,vs=>∃v r,vs=v::r/\DAt K H x v/\DLAt K H xs r
end
def Iz{K}(s:Same H H')(h:SqL K H a xs):SqL K H' a xs:=Same.seq s h
def DK{K}(s:Same H H')(h:SqT K H a xs):SqT K H' a xs:=va h λc o e _=>s c o e
mutual
theorem DAt.same{K}(s:Same H H'):∀(d:D)(v:V),DAt K H d v->DAt K H' d v
 |.i n,v,h=>h
 |.s x,v,h=>h
 |.l xs,v,h=>by
  obtain⟨a,vs,e,q,r⟩:=h;exact⟨a,vs,e,Iz s q,DLAt.same s xs vs r⟩
 |.t xs,v,h=>by obtain⟨a,vs,e,q,r⟩:=h;exact⟨a,vs,e,DK s q,DLAt.same s xs vs r⟩
theorem DLAt.same{K}(s:Same H H'):∀(d:DL)(vs:List V),DLAt K H d vs->DLAt K H' d vs
 |.nil,vs,h=>h
 |.cons x xs,vs,h=>by obtain⟨v,r,e,h1,h2⟩:=h;exact⟨v,r,e,DAt.same s x v h1,DLAt.same s xs r h2⟩
end
def mC(l:List (Str×Int×Int))(n:Str):Str×Int×Int:=(l.find? λq=>decide (q.1=n)).getD (n,0,1)
def oj(L:List (Ent×ak))(n:Str):Option (Ent×ak):=L.find? λe=>decide (e.1.nm=n)
def sj(h:oj L n=Za e):e∈L:=eO h
section
variable{P:aL}{w:bh}{K:aa}{mg:Str->Option ag}{base:bv}{a:Adr}{f:ak}{fd:cq}
abbrev rB:bQ:=nQ (top 27) 6
def yF:FnScope ["self","name"] ["self","name"] (lR rB):=fsc
def vf(a:Adr)(Ph:List Str)(L:List (Ent×ak))(x:Str):Option ak:=match rD a Ph L x with
 |some c=>Za c
 |none=>if 6<=Ph.length then Za a.TooMany else Zb
def Bm(K:aa)(a:Adr):Sp:=λvs H Q E=>∃b z Ph L x,vs=[.ref b,.str x]/\BookAt K a.Book H b z Ph L/\Nm x /\
 (vf a Ph L x=Zb->∀H',BookAt K a.Book H' b z (Ph++[x]) L->(∀c o,H c=Za o->c≠z.dp->H' c=Za o)->Q .non H')/\(∀c,vf a Ph L x=Za c->∀H',Same H H'->E (.ref c) Zb H')
def xO(h:rD a Ph L x=Zb):vT x=true/\oF Ph x=false/\pB L x=false:=by
 unfold rD at h;split at h
 ·cases h
 ·split at h
  ·cases h
  ·rename_i h1 h2;have h2:¬(oF Ph x||pB L x)=true:=h2;refine⟨by simpa using h1,?_,?_⟩
   ·cases q:oF Ph x with
    |false=>rfl
    |true=>rw[q] at h2;exact absurd rfl h2
   ·cases q:pB L x with
    |false=>rfl
    |true=>rw[q,Bool.or_true] at h2;exact absurd rfl h2
def Hh(F:Fun K "person" "Book.person" rB f fd)(T:Txt K mg a)(Pw:Mt P w K mg base a.Book "need_new_name" 3 ["self","name"] (uc K a)):FnOk P w K mg base (CXo P w) 4 f fd ["self","name"] (Bm K a):=by
 refine F.okX yF (λvs H Q E h=>?_) (λPn A outer s H vs Q E hr h=>?_)
 ·obtain⟨b,z,Ph,L,x,rfl,_⟩:=h;rfl
 ·obtain⟨b,z,Ph,L,x,rfl,B,nm,k1,k2⟩:=h;have hu:=oi hr;refine⟨_,(@ms _ _ _ _ _ (@pK _ _ _ _ (tw (pv 0) Pw (hr.mono (by first|decide|lia)) oT (@mf _ _ _ _ _ (pv 1) pa_nil (by rfl))) (by rfl)) (@ms _ _ _ _ _ (@ww _ _ _ _ _ _ _ _ (@ve _ _ _ _ _ _ _ _ KB (@pG _ _ _ _ _ _ _ _ _ BQ rfl T.b_len Dh (@mf _ _ _ _ _ (oH (pv 0) rfl) pa_nil (by rfl)) (by decide) (by decide) (by rfl) (by rfl)) (rR rfl T.g_MOST_PERSONS T.r_MOST_PERSONS) (vh _)) (@mB _ _ _ (qg T.x_TooMany rfl T.c_TooMany rfl pe_str zi)) pss_nil) (@mB _ _ _ (rQ hu (oH (pv 0) rfl) (pv 1) pe_bl rfl)))),?_⟩;refine⟨_,rfl,b,_,_,rfl,B.ob,tW z,_,rfl,b,z,Ph,L,x,rfl,B,nm,λhd H1 s1=>?_,λc hc H1 s1=>?_⟩
  ·have B1:=B.same s1;refine⟨_,rfl,b,_,_,_,_,rfl,B1.ob,T.cl,T.nA_people,uZ z,_,_,rfl,B1.pp,_,_,rfl,rfl,_,rfl,vm (λh=>?_) (λh=>?_)⟩
   ·refine k2 _ ?_ H1 s1;unfold vf;rw[hd];have h:(6:Int)<=((Ph.map λn=>((aj n:Key),V.bl true)).length:Int):=Zf h;rw[ac] at h;exact Zc (by lia)
   ·have h:¬(6:Int)<=((Ph.map λn=>((aj n:Key),V.bl true)).length:Int):=λz=>h (Zg z);rw[ac] at h;have hl:Ph.length<6:=by lia
    have QJ:oO (Ph.map λn=>((aj n:Key),V.bl true)) (aj x)=none:=by rw[rN (key:=λn=>n)];have:=(xO hd).2.1;unfold oF at this;rw[gH];exact d8.mp this |> eA.mp
    refine⟨_,rfl,b,_,_,_,_,rfl,B1.ob,T.cl,T.nA_people,uZ z,_,rfl,_,_,rfl,DPut.k (k:=aj x) B1.pp (by rw[ac];exact ay hl (by decide)),?_⟩;have Sd:vf a Ph L x=none:=by unfold vf;rw[hd];exact Zd (by lia)
    refine k1 Sd _ ?_ λc o e hc=>by rw[lO hc];exact s1 c o e
    obtain⟨hb,Tg⟩:=aI.mp B1.nd;obtain⟨hp,hr2⟩:=aI.mp Tg;have ne:∀c,c∈z.dt::z.dm::z.dl::z.dh::L.map (·.2)->c≠z.dp:=λc hc e=>hp (e▸hc);refine⟨?_,?_,?_,?_,?_,?_,λe he=>?_,B1.nd,by rw[aD];simp;lia,B1.h8⟩
    ·rw[lO (λe=>hb (by rw[e];simp))];exact B1.ob
    ·rw[lQ,uJ _ QJ,au];rfl
    ·rw[lO (ne _ (by simp))];exact B1.tt
    ·rw[lO (ne _ (by simp))];exact B1.mm
    ·rw[lO (ne _ (by simp))];exact B1.ll
    ·exact B1.hh.keep λo h=>by rw[lO (ne _ (by simp))];exact h
    ·refine(B1.he e he).keep (λo h=>?_) λc o h x=>?_
     ·rw[lO (ne _ (by simp only[af];right;right;right;right;exact ah.mpr ⟨e,he,rfl⟩))];exact h
     ·rw[lO (C2 h B1.pp (by rcases x with⟨xs,rfl|⟨ob,rfl⟩⟩<;>intro z<;>cases z))];exact h
  ·refine k2 c ?_ H1 s1;unfold vf;rw[hc]
abbrev sT:bQ:=nQ (top 27) 7
def Aw:FnScope ["self","name","owner","things","mark","loss"] ["self","name","owner","things","mark","loss"] (lR sT):=fsc
def sK(a:Adr)(Ph:List Str)(L:List (Ent×ak))(x o:Str)(l:Int):Option ak:=match rD a Ph L x with
 |some c=>Za c
 |none=>if(oF Ph o||pB L o)=false then Za a.NoHolder else if l<0 then Za a.NoLoss else if 8<=L.length then Za a.TooMany else Zb
def DF(K:aa)(a:Adr):Sp:=λvs H Q E=>∃b z Ph L x o t m l,vs=[.ref b,.str x,.str o,.int t,.int m,.int l]/\BookAt K a.Book H b z Ph L/\Nm x/\Nm o /\
 (sK a Ph L x o l=Zb->∀p H',H p=Zb->BookAt K a.Book H' b z Ph (L++[(⟨x,t,m,l,[(o,1,1)]⟩,p)])->(∀c u,H c=Za u->c∉[z.dt,z.dm,z.dl,z.dh]->H' c=Za u)->Q .non H')/\(∀c,sK a Ph L x o l=Za c->∀H',Same H H'->E (.ref c) Zb H')
def p4(v:Ent×ak->V)(h:pB L x=false):oO (L.map λe=>((aj e.1.nm:Key),v e)) (aj x)=none:=by rw[rN (key:=λe:Ent×ak=>e.1.nm)];unfold pB at h;rw[gH];exact d8.mp h |> eA.mp
def IV(F:Fun K "house" "Book.house" sT f fd)(T:Txt K mg a)(Pw:Mt P w K mg base a.Book "need_new_name" 3 ["self","name"] (uc K a))(Pq:Mt P w K mg base a.Book "need_holder" 3 ["self","name"] (qz K a))(Qs:Fn P w K mg base "need_loss" 1 ["number"] (vP a)):FnOk P w K mg base (CXo P w) 4 f fd ["self","name","owner","things","mark","loss"] (DF K a):=by
 refine F.okX Aw (λvs H Q E h=>?_) (λPn A outer s H vs Q E hr h=>?_)
 ·obtain⟨b,z,Ph,L,x,o,t,m,l,rfl,_⟩:=h;rfl
 ·obtain⟨b,z,Ph,L,x,o,t,m,l,rfl,B,nm,no,k1,k2⟩:=h;have hu:=oi hr;refine⟨_,(@ms _ _ _ _ _ (@pK _ _ _ _ (tw (pv 0) Pw (hr.mono (by first|decide|lia)) oT (@mf _ _ _ _ _ (pv 1) pa_nil (by rfl))) (by rfl)) (@ms _ _ _ _ _ (@pK _ _ _ _ (tw (pv 0) Pq (hr.mono (by first|decide|lia)) oT (@mf _ _ _ _ _ (pv 2) pa_nil (by rfl))) (by rfl)) (@ms _ _ _ _ _ (@pK _ _ _ _ (@wx _ _ _ _ _ _ _ _ _ _ _ Qs (hr.mono (by first|decide|lia)) rfl oT (@mf _ _ _ _ _ (pv 5) pa_nil (by rfl)) (by decide) (by rfl) (by rfl)) (by rfl)) (@ms _ _ _ _ _ (@ww _ _ _ _ _ _ _ _ (@ve _ _ _ _ _ _ _ _ KB (@pG _ _ _ _ _ _ _ _ _ BQ rfl T.b_len Dh (@mf _ _ _ _ _ (oH (pv 0) rfl) pa_nil (by rfl)) (by decide) (by decide) (by rfl) (by rfl)) (rR rfl T.g_MOST_HOUSES T.r_MOST_HOUSES) (vh _)) (@mB _ _ _ (qg T.x_TooMany rfl T.c_TooMany rfl pe_str zi)) pss_nil) (@ms _ _ _ _ _ (rQ hu (oH (pv 0) rfl) (pv 1) (pv 3) rfl) (@ms _ _ _ _ _ (rQ hu (oH (pv 0) rfl) (pv 1) (pv 4) rfl) (@ms _ _ _ _ _ (rQ hu (oH (pv 0) rfl) (pv 1) (pv 5) rfl) (@mB _ _ _ (rQ hu (oH (pv 0) rfl) (pv 1) (FX (DX (pv 2) (rR rfl T.g_ONE T.r_ONE) FV) rfl rfl (by decide) (by decide)) rfl))))))))),?_⟩;refine⟨_,rfl,b,_,_,rfl,B.ob,tW z,_,rfl,b,z,Ph,L,x,rfl,B,nm,λhd H1 s1=>?_,λc hc H1 s1=>?_⟩
  ·have B1:=B.same s1;refine⟨_,rfl,b,_,_,rfl,B1.ob,tW z,_,rfl,b,z,Ph,L,o,rfl,B1,no,λho=>?_,λho=>?_⟩
   ·refine⟨_,rfl,l,rfl,λhl=>?_,λhl=>?_⟩
    ·refine k2 _ ?_ H1 s1;unfold sK;rw[hd];show(if(oF Ph o||pB L o)=false then Za a.NoHolder else _)=_;rw[Zd (by rw[ho];decide),Zc hl]
    ·obtain⟨Th,eh,ph,nh⟩:=B1.hh;have UU:Th.length=L.length:=by rw[ph.length_eq,ac]
     refine⟨_,rfl,b,_,_,_,_,rfl,B1.ob,T.cl,T.nA_held_of,vv z,_,_,rfl,eh,_,_,rfl,rfl,_,rfl,vm (λh=>?_) (λh=>?_)⟩
     ·refine k2 _ ?_ H1 s1;have h:(8:Int)<=(Th.length:Int):=Zf h;rw[UU] at h;unfold sK;rw[hd];show(if(oF Ph o||pB L o)=false then Za a.NoHolder else _)=_;rw[Zd (by rw[ho];decide),Zd (by lia),Zc (by lia)]
     ·have h:¬(8:Int)<=(Th.length:Int):=λz=>h (Zg z);rw[UU] at h;have Vd:L.length<8:=by lia
      have Sd:sK a Ph L x o l=none:=by unfold sK;rw[hd];show(if(oF Ph o||pB L o)=false then Za a.NoHolder else _)=_;rw[Zd (by rw[ho];decide),Zd (by lia),Zd (by lia)]
      have hx:=(xO hd).2.2;have sz:∀{v:Ent×ak->V},(L.map λe=>((aj e.1.nm:Key),v e)).length<aK:=λ{v}=>by rw[ac];exact ay Vd (by decide)
      obtain⟨hb,r1⟩:=aI.mp B1.nd;obtain⟨hp,r2⟩:=aI.mp r1;obtain⟨ht,r3⟩:=aI.mp r2;obtain⟨hm,r4⟩:=aI.mp r3;obtain⟨Uh,r5⟩:=aI.mp r4;obtain⟨hh,r6⟩:=aI.mp r5;refine⟨_,rfl,_,rfl,b,_,_,_,_,rfl,B1.ob,T.cl,T.nA_things_of,BX z,_,rfl,_,_,rfl,DPut.k (k:=aj x) B1.tt sz,?_⟩;have Ur:b≠z.dt:=λe=>hb (by rw[e];simp);have VJ:b≠z.dm:=λe=>hb (by rw[e];simp);have b_l:b≠z.dl:=λe=>hb (by rw[e];simp);have b_h:b≠z.dh:=λe=>hb (by rw[e];simp);have p_t:z.dp≠z.dt:=λe=>hp (by rw[e];simp);have p_m:z.dp≠z.dm:=λe=>hp (by rw[e];simp);have p_l:z.dp≠z.dl:=λe=>hp (by rw[e];simp);have p_h:z.dp≠z.dh:=λe=>hp (by rw[e];simp);have UB:z.dt≠z.dm:=λe=>ht (by rw[e];simp);have UC:z.dt≠z.dl:=λe=>ht (by rw[e];simp);have t_h:z.dt≠z.dh:=λe=>ht (by rw[e];simp);have UR:z.dm≠z.dl:=λe=>hm (by rw[e];simp);have m_h:z.dm≠z.dh:=λe=>hm (by rw[e];simp);have l_h:z.dl≠z.dh:=λe=>Uh (by rw[e];simp);refine⟨_,rfl,_,rfl,b,_,_,_,_,rfl,(by rw[lO Ur];exact B1.ob),T.cl,T.nA_mark_of,GG z,_,rfl,_,_,rfl,DPut.k (k:=aj x) (by rw[lO UB.symm];exact B1.mm) sz,?_⟩;refine⟨_,rfl,_,rfl,b,_,_,_,_,rfl,(by rw[lO VJ,lO Ur];exact B1.ob),T.cl,T.nA_loss_of,GH z,_,rfl,_,_,rfl,DPut.k (k:=aj x) (by rw[lO UR.symm,lO UC.symm];exact B1.ll) sz,?_⟩;intro p QX;have e0:∀c,c≠z.dt->c≠z.dm->c≠z.dl->∀A B C,(upd (upd (upd H1 z.dt A) z.dm B) z.dl C) c=H1 c:=λc c1 c2 c3 A B C=>by rw[lO c3,lO c2,lO c1]
      have T0:p≠z.dt:=λe=>by rw[e,lO UC,lO UB,lQ] at QX;cases QX
      have T3:p≠z.dm:=λe=>by rw[e,lO UR,lQ] at QX;cases QX
      have T4:p≠z.dl:=λe=>by rw[e,lQ] at QX;cases QX
      have QY:H1 p=none:=by rw[e0 p T0 T3 T4] at QX;exact QX
      have hp0:H p=none:=s1.free QY;have T5:p≠z.dh:=λe=>by rw[e,eh] at QY;cases QY
      have T7:p≠b:=λe=>by rw[e,B1.ob] at QY;cases QY
      have q_p:p≠z.dp:=λe=>by rw[e,B1.pp] at QY;cases QY
      refine⟨_,rfl,lQ,[(aj o,.ref a.ONE)],rfl,(show 1<=15 by decide),_,rfl,b,_,_,_,_,rfl,(by rw[lO T7.symm,lO T7.symm,e0 b Ur VJ b_l];exact B1.ob),T.cl,T.nA_held_of,vv z,_,rfl,_,_,rfl,DPut.k (k:=aj x) (by rw[lO T5.symm,lO T5.symm,e0 z.dh t_h.symm m_h.symm l_h.symm];exact eh) (by rw[UU];exact ay Vd (by decide)),?_⟩;have TM:∀c,c≠p->c≠z.dh->c≠z.dt->c≠z.dm->c≠z.dl->∀A B C D E F,(upd (upd (upd (upd (upd (upd H1 z.dt A) z.dm B) z.dl C) p D) p E) z.dh F) c=H1 c:=λc c1 c2 c3 c4 c5 A B C D E F=>by rw[lO c2,lO c1,lO c1,lO c5,lO c4,lO c3]
      refine k1 Sd p _ hp0 ?_ λc u e hc=>?_
      ·refine⟨?_,?_,?_,?_,?_,?_,λe he=>?_,?_,B1.p6,by rw[aD];exact Vd⟩
       ·rw[TM b T7.symm b_h Ur VJ b_l];exact B1.ob
       ·rw[TM z.dp q_p.symm p_h p_t p_m p_l];exact B1.pp
       ·rw[lO t_h,lO T0.symm,lO T0.symm,lO UC,lO UB,lQ,uJ _ (p4 _ hx),au];rfl
       ·rw[lO m_h,lO T3.symm,lO T3.symm,lO UR,lQ,uJ _ (p4 _ hx),au];rfl
       ·rw[lO l_h,lO T4.symm,lO T4.symm,lQ,uJ _ (p4 _ hx),au];rfl
       ·have hv:oO Th (aj x)=none:=by rw[Dx ph nh];exact p4 _ hx
        refine⟨_,lQ,?_,?_⟩
        ·rw[uJ _ hv,au];exact ph.append_right _
        ·rw[au,au,al,dA];refine wV nh λhq=>?_;obtain⟨kv,hkv,ekv⟩:=ah.mp hq;have e1:=(yN (k:=kv.1) (v:=kv.2) nh).mpr hkv;rw[ekv,p4 _ hx] at e1;cases e1
       ·rcases aJ.mp he with he|he
        ·have Uj:e.2∈L.map (·.2):=ah.mpr ⟨e,he,rfl⟩;have d1:e.2≠z.dh:=λq=>hh (q▸Uj);have d2:e.2≠z.dt:=λq=>ht (by rw[<-q];simp only[af];right;right;right;exact Uj);have d3:e.2≠z.dm:=λq=>hm (by rw[<-q];simp only[af];right;right;exact Uj);have d4:e.2≠z.dl:=λq=>Uh (by rw[<-q];simp only[af];right;exact Uj);have d5:e.2≠p:=λq=>by obtain⟨ts,_,q2,_⟩:=B1.he e he;rw[q,QY] at q2;cases q2
         refine(B1.he e he).keep (λu h=>?_) λc u h y=>?_
         ·rw[TM e.2 d5 d1 d2 d3 d4];exact h
         ·have nt:∀{q:ak}{kv:List (Key×V)},H1 q=Za (.dK kv)->c≠q:=λhq=>C2 h hq (by rcases y with⟨xs,rfl|⟨ob,rfl⟩⟩<;>intro z<;>cases z);rw[TM c (mh h QY) (nt eh) (nt B1.tt) (nt B1.mm) (nt B1.ll)];exact h
        ·rw[ap.mp he];refine⟨[a.ONE],rfl,?_,λq hq=>?_⟩
         ·rw[lO T5,lQ];rfl
         ·rw[ap.mp hq];exact .inr T.one
       ·have hpL:p∉L.map (·.2):=λhq=>by obtain⟨e,he,rfl⟩:=ah.mp hq;obtain⟨ts,_,q2,_⟩:=B1.he e he;rw[QY] at q2;cases q2
        have:=wV (k:=p) B1.nd (by
         intro hq;simp only[af] at hq;rcases hq with e|e|e|e|e|e|e
         ·exact T7 e
         ·exact q_p e
         ·exact T0 e
         ·exact T3 e
         ·exact T4 e
         ·exact T5 e
         ·exact hpL e)
        rw[au];exact this
      ·have e1:=s1 c u e;have c0:c≠p:=mh e1 QY;simp only[af,cK,or_false,not_or] at hc;rw[TM c c0 hc.2.2.2 hc.1 hc.2.1 hc.2.2.1];exact e1
   ·refine k2 _ ?_ H1 s1;unfold sK;rw[hd];exact Zc ho
  ·refine k2 c ?_ H1 s1;unfold sK;rw[hc]
def PairAt(K:aa)(H:Hp)(q:Str×Int×Int)(v:V):Prop:=∃t u,v=.ref t/\SqT K H t [.str q.1,.ref u]/\SqT K H u [.int q.2.1,.int q.2.2]
def PairAt.keep{K}(h:PairAt K H q v)(k:∀c o,H c=Za o->(∃xs,o=.tup xs\/∃ob,o=.frz ob (.tup xs))->H' c=Za o):PairAt K H' q v:=by obtain⟨t,u,e,h1,h2⟩:=h;exact⟨t,u,e,va h1 k,va h2 k⟩
def KU(hp:H p=Za (.lst xs)):∀c o,H c=Za o->(∃xs,o=.tup xs\/∃ob,o=.frz ob (.tup xs))->(upd H p o') c=Za o:=λc o h x=>by rw[lO (C2 h hp (by rcases x with⟨xs,rfl|⟨ob,rfl⟩⟩<;>intro z<;>cases z))];exact h
def Ij{l:List (Str×Int×Int)}{ts:List ak}(hl:ts.length=l.length){n:Str}(hn:n∈l.map (·.1)):∃q,(l.zip ts).find? (λq=>decide (q.1.1=n))=Za q/\q∈l.zip ts/\q.1=mC l n/\(mC l n).1=n:=by
 have e:(l.zip ts).map (·.1)=l:=je (by lia);cases h:(l.zip ts).find? (λq=>decide (q.1.1=n)) with
 |none =>
  exfalso;rw[cy] at h;rw[<-e,aH] at hn;obtain⟨q,hq,e2⟩:=ah.mp hn;exact h q hq (Zg e2)
 |some q =>
  have e2:l.find? (λq=>decide (q.1=n))=Za q.1:=by rw[<-e,fw];show((l.zip ts).find? (λq=>decide (q.1.1=n))).map (·.1)=Za q.1;rw[h];rfl
  have e3:mC l n=q.1:=by unfold mC;rw[e2];rfl
  exact⟨q,rfl,eO h,e3.symm,by rw[e3];simpa using eV h⟩
def yT(K:aa)(C:ak):Sp:=λvs H Q _=>∃b z Ph L,vs=[.ref b]/\BookAt K C H b z Ph L/\∀l,H l=Zb->Q (.ref l) (upd H l (.lst ((srt Ph).map V.str)))
abbrev qB:bQ:=nQ (top 27) 12
def yh:FnScope ["self"] ["self"] (lR qB):=fsc
def EX(F:Fun K "persons" "Book.persons" qB f fd)(T:Txt K mg a):FnOk P w K mg base (CXo P w) 1 f fd ["self"] (yT K a.Book):=by
 refine F.okN yh (λvs H Q E h=>?_) (λPn A outer s H vs Q E hr h=>?_)
 ·obtain⟨b,z,Ph,L,rfl,_⟩:=h;rfl
 ·obtain⟨b,z,Ph,L,rfl,B,k⟩:=h;have hu:=oi hr;refine⟨_,(@mB _ _ _ (@qF _ _ _ _ (@pG _ _ _ _ _ _ _ _ _ (pf rfl) rfl T.b_sorted uY (@mf _ _ _ _ _ (oH (pv 0) rfl) pa_nil (by rfl)) (by decide) (by decide) (by rfl) (by rfl)))),?_⟩;exact⟨_,rfl,b,_,_,_,_,rfl,B.ob,T.cl,T.nA_people,uZ z,_,_,Ph,rfl,.inl B.pp,by rw[aH];rfl,aX B.p6 (by decide),k⟩
def Bn(K:aa)(C:ak):Sp:=λvs H Q _=>∃b z Ph L,vs=[.ref b]/\BookAt K C H b z Ph L/\∀l,H l=Zb->Q (.ref l) (upd H l (.lst ((srt (L.map (·.1.nm))).map V.str)))
abbrev rC:bQ:=nQ (top 27) 13
def yG:FnScope ["self"] ["self"] (lR rC):=fsc
def Hk(F:Fun K "houses" "Book.houses" rC f fd)(T:Txt K mg a):FnOk P w K mg base (CXo P w) 1 f fd ["self"] (Bn K a.Book):=by
 refine F.okN yG (λvs H Q E h=>?_) (λPn A outer s H vs Q E hr h=>?_)
 ·obtain⟨b,z,Ph,L,rfl,_⟩:=h;rfl
 ·obtain⟨b,z,Ph,L,rfl,B,k⟩:=h;have hu:=oi hr;refine⟨_,(@mB _ _ _ (@qF _ _ _ _ (@pG _ _ _ _ _ _ _ _ _ (pf rfl) rfl T.b_sorted uY (@mf _ _ _ _ _ (oH (pv 0) rfl) pa_nil (by rfl)) (by decide) (by decide) (by rfl) (by rfl)))),?_⟩;obtain⟨Th,ss,eh,ek,ps⟩:=B.hh.keys;rw[<-Dj ps] at k;exact⟨_,rfl,b,_,_,_,_,rfl,B.ob,T.cl,T.nA_held_of,vv z,_,_,ss,rfl,.inl eh,ek,by rw[ps.length_eq,ac];exact aX B.h8 (by decide),k⟩
abbrev xp:bQ:=nQ (top 27) 15
def EM:FnScope ["self","house"] ["self","house"] (lR xp):=fsc
def MV(K:aa)(a:Adr):Sp:=λvs H Q E=>∃b z Ph L x,vs=[.ref b,.str x]/\BookAt K a.Book H b z Ph L/\Nm x/\(∀e,oj L x=Za e->∀t,H t=Zb->Q (.ref t) (upd H t (.tup [.int e.1.th,.int e.1.mr,.int e.1.ls])))/\(oj L x=Zb->E (.ref a.NoHouse) Zb H)
def Am(v:Ent×ak->V)(h:oj L x=Za e):oO (L.map λe=>((aj e.1.nm:Key),v e)) (aj x)=Za (v e):=by rw[rN (key:=λe:Ent×ak=>e.1.nm)];unfold oj at h;rw[h];rfl
def ok_of(F:Fun K "of" "Book.of" xp f fd)(T:Txt K mg a)(Pm:Mt P w K mg base a.Book "need_house" 2 ["self","name"] (oG K a)):FnOk P w K mg base (CXo P w) 3 f fd ["self","house"] (MV K a):=by
 refine F.okX EM (λvs H Q E h=>?_) (λPn A outer s H vs Q E hr h=>?_)
 ·obtain⟨b,z,Ph,L,x,rfl,_⟩:=h;rfl
 ·obtain⟨b,z,Ph,L,x,rfl,B,nm,k1,k2⟩:=h;have hu:=oi hr;refine⟨_,(@ms _ _ _ _ _ (@pK _ _ _ _ (tw (pv 0) Pm (hr.mono (by first|decide|lia)) oT (@mf _ _ _ _ _ (pv 1) pa_nil (by rfl))) (by rfl)) (@mB _ _ _ (@qF _ _ _ _ (@vY _ _ _ _ _ (@mf _ _ _ _ _ (@rS _ _ _ _ _ _ hu (oH (pv 0) rfl) (pv 1) (λ_ _=>rfl)) (@mf _ _ _ _ _ (@rS _ _ _ _ _ _ hu (oH (pv 0) rfl) (pv 1) (λ_ _=>rfl)) (@mf _ _ _ _ _ (@rS _ _ _ _ _ _ hu (oH (pv 0) rfl) (pv 1) (λ_ _=>rfl)) pa_nil (by rfl)) (by rfl)) (by rfl)))))),?_⟩;refine⟨_,rfl,b,_,_,rfl,B.ob,tW z,_,rfl,b,z,Ph,L,x,rfl,B,nm,λh=>?_,λh=>k2 ?_⟩
  ·cases he:oj L x with
   |none=>unfold pB at h;unfold oj at he;rw[he] at h;cases h
   |some e =>
    refine⟨_,rfl,b,_,_,_,_,rfl,B.ob,T.cl,T.nA_things_of,BX z,_,rfl,_,_,rfl,?_,_,rfl,b,_,_,_,_,rfl,B.ob,T.cl,T.nA_mark_of,GG z,_,rfl,_,_,rfl,?_,_,rfl,b,_,_,_,_,rfl,B.ob,T.cl,T.nA_loss_of,GH z,_,rfl,_,_,rfl,?_,(show 3<=aK by decide),λt ht=>k1 e he t ht⟩
    ·have:=DGet.k (k:=aj x) B.tt;rw[Am _ he] at this;exact this
    ·have:=DGet.k (k:=aj x) B.mm;rw[Am _ he] at this;exact this
    ·have:=DGet.k (k:=aj x) B.ll;rw[Am _ he] at this;exact this
  ·unfold pB at h;unfold oj;exact d8.mp h |> eA.mp
abbrev pP:bQ:=nQ (top 27) 14
def sc_Book_shares:FnScope ["self","house","held"] ["self","house"] (lR pP):=fsc
def Bl(K:aa)(a:Adr):Sp:=λvs H Q E=>∃b z Ph L x,vs=[.ref b,.str x]/\BookAt K a.Book H b z Ph L/\Nm x /\
 (∀e,oj L x=Za e->e.1.held.length<64/\∀l ys H',H l=Zb->Same H H'->H' l=Za (.lst ys)->fc (PairAt K H') ((srt (e.1.held.map (·.1))).map (mC e.1.held)) ys->Q (.ref l) H')/\(oj L x=Zb->E (.ref a.NoHouse) Zb H)
def Hg(F:Fun K "shares" "Book.shares" pP f fd)(T:Txt K mg a)(Pm:Mt P w K mg base a.Book "need_house" 2 ["self","name"] (oG K a)):FnOk P w K mg base (CXo P w) 3 f fd ["self","house"] (Bl K a):=by
 refine F.okX sc_Book_shares (λvs H Q E h=>?_) (λPn A outer s H vs Q E hr h=>?_)
 ·obtain⟨b,z,Ph,L,x,rfl,_⟩:=h;rfl
 ·obtain⟨b,z,Ph,L,x,rfl,B,nm,k1,k2⟩:=h;have hu:=oi hr;refine⟨_,(@ms _ _ _ _ _ (@pK _ _ _ _ (tw (pv 0) Pm (hr.mono (by first|decide|lia)) oT (@mf _ _ _ _ _ (pv 1) pa_nil (by rfl))) (by rfl)) (@ms _ _ _ _ _ (@sH _ _ (2) _ _ _ _ sc_Book_shares.nd rfl (ib rfl) (@rS _ _ _ _ _ _ hu (oH (pv 0) rfl) (pv 1) (λ_ _=>rfl)) (by rfl) (by first|exact .inl rfl|exact .inr rfl|assumption)) (@mB _ _ _ (@qF _ _ _ _ (CF (fr:=["held"]) (ix:=[2]) rfl (by exact(show CompOk ["self","house","held"] (lR pP) _ _ _ _ from cok)) (Ln (@pG _ _ _ _ _ _ _ _ _ (pf rfl) rfl T.b_sorted uY (@mf _ _ _ _ _ (pv 2) pa_nil (by rfl)) (by decide) (by decide) (by rfl) (by rfl))) (λ_ _ _ _ _=>z6) (λ_ _ _ _ _=>(vY (mf (pv 0) (mf (rS hu (pv 1) (pv 0) (λ_ _=>rfl)) pa_nil))))))))),?_⟩;refine⟨_,rfl,b,_,_,rfl,B.ob,tW z,_,rfl,b,z,Ph,L,x,rfl,B,nm,λh=>?_,λh=>k2 ?_⟩
  ·cases he:oj L x with
   |none=>unfold pB at h;unfold oj at he;rw[he] at h;cases h
   |some e =>
    obtain⟨Rk,k1⟩:=k1 e he;obtain⟨ts,hl,hd,hts⟩:=B.he e (sj he);have Ts:(((e.1.held.zip ts).map λq=>((aj q.1.1:Key),V.ref q.2)).map (·.1))=(e.1.held.map (·.1)).map aj:=by
     rw[aH,aH];have e1:(e.1.held.zip ts).map (·.1)=e.1.held:=je (by lia)
     conv=>rhs;rw[<-e1,aH]
     rfl
    refine⟨_,rfl,b,_,_,_,_,rfl,B.ob,T.cl,T.nA_held_of,vv z,_,rfl,_,.ref e.2,rfl,?_,_,rfl,e.2,_,e.1.held.map (·.1),rfl,.inl hd,Ts,by rw[ac];exact Rk,λl R7=>?_⟩
    ·have:=B.hh.dget x;rw[Am _ he] at this;exact this
    ·refine⟨l,rfl,⟨_,SqL.of lQ⟩,λD hD=>?_⟩;have lD:l≠D:=mh lQ hD;have Vu:H D=none:=by rw[lO lD.symm] at hD;exact hD
     have hDp:e.2≠D:=mh hd Vu;refine GD (J:=Itl K l) (srt (e.1.held.map (·.1))).length (λi ys H'=>Same H H'/\H' D=Za (.lst ys)/\H' l=Za (.lst ((srt (e.1.held.map (·.1))).map V.str))/\fc (PairAt K H') (((srt (e.1.held.map (·.1))).take i).map (mC e.1.held)) ys)
      ⟨?_,lQ,?_,.nil⟩ ?_ (λi ys H' r=>r.2.1) (λi ys H' hi r=>⟨_,.str ((srt (e.1.held.map (·.1)))[i]),SqL.of r.2.2.1,by simp[hi]⟩) ?_ ?_
     ·exact(sF R7).trans (sF hD)
     ·rw[lO lD,lQ]
     ·rw[vz,ac];exact aE (dN Rk) (by decide)
     ·rintro i ys Hx v H' hi ⟨s1,h1,h2,h3⟩ ⟨rfl,hy⟩ Kt Kf q1 q2
      have hv:=hy _ (SqL.of h2);have ev:v=.str ((srt (e.1.held.map (·.1)))[i]):=by rw[aC,aw hi] at hv;exact(aP hv).symm
      subst ev;have R6:(srt (e.1.held.map (·.1)))[i]∈e.1.held.map (·.1):=(lY _).mem_iff.mp (ce hi);obtain⟨q,f1,f2,f3,f4⟩:=Ij hl R6;have Rr:oO ((e.1.held.zip ts).map λq=>((aj q.1.1:Key),V.ref q.2)) (aj ((srt (e.1.held.map (·.1)))[i]))=Za (.ref q.2):=by rw[rN (key:=λq:(Str×Int×Int)×ak=>q.1.1),f1];rfl
      refine yesT ⟨_,rfl,_,rfl,_,rfl,e.2,.ref q.2,rfl,?_,(show 2<=aK by decide),λp hp=>?_⟩
      ·have:=DGet.k (k:=aj ((srt (e.1.held.map (·.1)))[i])) (s1 _ _ hd);rw[Rr] at this;exact this
      ·have pD:D≠p:=mh h1 hp;have pl:l≠p:=mh h2 hp;refine q1 _ _ (by rw[lO pD];exact h1) ⟨?_,lQ,?_,?_⟩
       ·intro c o hc;rw[lO (λz=>by rw[z] at hc;rw[Vu] at hc;cases hc),lO (mh (s1 c o hc) hp)];exact s1 c o hc
       ·rw[lO lD,lO pl];exact h2
       ·have kp:∀c o,H' c=Za o->(∃xs,o=.tup xs\/∃ob,o=.frz ob (.tup xs))->(upd (upd H' p (.tup [.str ((srt (e.1.held.map (·.1)))[i]),.ref q.2])) D (.lst (ys++[.ref p]))) c=Za o:=λc o hc x=>by rw[KU (xs:=ys) (by rw[lO pD];exact h1) c o (by rw[lO (mh hc hp)];exact hc) x]
        have e5:((srt (e.1.held.map (·.1))).take (i+1)).map (mC e.1.held)=((srt (e.1.held.map (·.1))).take i).map (mC e.1.held)++[mC e.1.held ((srt (e.1.held.map (·.1)))[i])]:=by rw[dX,aw hi,au];rfl
        rw[e5];refine kj (fc.mapP h3 λq v hq=>hq.keep kp) ⟨p,q.2,rfl,?_,?_⟩
        ·refine SqT.of ?_;rw[lO pD.symm,lQ,f4]
        ·rw[<-f3];exact va (hts q f2) λc o hc x=>kp c o (s1 c o hc) x
     ·rintro ys H' hy ⟨s1,h1,h2,h3⟩
      refine⟨⟨_,SqL.of h2,by rw[ac];exact ao _⟩,k1 D ys H' Vu s1 h1 ?_⟩;rw[gI] at h3;exact h3
  ·unfold pB at h;unfold oj;exact d8.mp h |> eA.mp
end
end My
namespace L2
open PySem PySem.Spec PyProof.Rows
section
variable{X:Cx}
def rEqT(K:aa):R2:=λx y H Q=>∃p q xs ys,x=.ref p/\y=.ref q/\SqT K H p xs/\SqT K H q ys/\xs.length=ys.length/\xs.all tF=true/\ys.all tF=true/\Q (.bl (Mc xs ys)) H
def N8(hu:X.A.units<eY):OpR X (bP .Eq) (rEqT X.K):=by
 intro Pe s O H x y v u Q I rx ry h;obtain⟨p,q,xs,ys,rfl,rfl,hp,hq,hl,fx,fy,k⟩:=h;cases rx;cases ry;obtain⟨its,r,pl,_⟩:=I.tuple hp;obtain⟨Qm,r2,pl2,_⟩:=I.tuple hq;have e1:=r.length;have e2:=r2.length;refine SeqAt.eq_tupleAt pl pl2 hu (E6 r r2 hl fx fy) ⟨.bl _,H,I,rfl,?_⟩;have e3:its.toArray.size=Qm.toArray.size:=by simp;lia
 rw[e3,Nat.min_self,beq_self_eq_true,Bool.and_true,aM,<-e2,<-hl,<-Eg hl];exact k
end
end L2
namespace My
open PySem L2 Fra
def D9(x y)(h:0<y):aF y (x%y)=aF x y:=by
 have e:x%y=x-(x/y)*y:=by rw[Int.emod_def,br]
 rw[e,Int.gcd_comm,Int.gcd_sub_mul_right_left]
def Jp(h:0<=x):(aF x 0:Int)=x:=by rw[Int.gcd_zero_right];lia
structure Sz(q:Int×Int):Prop where
 low:Low q
 bt:Bt 8900 q.1
 bb:Bt 8900 q.2
def FrAt(K:aa)(H:Hp)(p:ak)(q:Int×Int):Prop:=SqT K H p [.int q.1,.int q.2]
def FrAt.same{K}(h:FrAt K H p q)(s:Same H H'):FrAt K H' p q:=DK s h
section
variable{P:aL}{w:bh}{K:aa}{mg:Str->Option ag}{base:bv}{a:Adr}{f:ak}{fd:cq}
abbrev pI:bQ:=top 16
def sc_common_divisor:FnScope ["number","other","rest"] ["number","other"] (lR pI):=fsc
def Fp:Sp:=λvs H Q _=>∃n m,vs=[.int n,.int m]/\0<m/\Q (.int (aF n m)) H
def Oc(F:Fun K "common_divisor" "common_divisor" pI f fd)(T:Txt K mg a):FnOk P w K mg base (CXo P w) 1 f fd ["number","other"] Fp:=by
 refine F.okN sc_common_divisor (λvs H Q E h=>?_) (λPn A outer s H vs Q E hr h=>?_)
 ·obtain⟨n,m,rfl,_⟩:=h;rfl
 ·obtain⟨n,m,rfl,hm,k⟩:=h;have hu:=oi hr;refine⟨_,(@ms _ _ _ _ _ (DV iR (@ve _ _ _ _ _ _ _ _ op_ne (pv 1) pe_int (vh _)) (@ms _ _ _ _ _ (@sH _ _ (2) _ _ _ _ sc_common_divisor.nd rfl (fH rfl) (@tQ _ _ _ _ _ _ _ _ J1 (pv 0) (pv 1)) (by rfl) (by first|exact .inl rfl|exact .inr rfl|assumption)) (@ms _ _ _ _ _ (@sH _ _ (0) _ _ _ _ sc_common_divisor.nd rfl (fH rfl) (pv 1) (by rfl) (by first|exact .inl rfl|exact .inr rfl|assumption)) (@mB _ _ _ (@sH _ _ (1) _ _ _ _ sc_common_divisor.nd rfl (fH rfl) (pv 2) (by rfl) (by first|exact .inl rfl|exact .inr rfl|assumption)))))) (@mB _ _ _ (@qF _ _ _ _ (pv 0)))),?_⟩;refine⟨λc O H'=>H'=H/\∃x y v,O=[Za (.int x),Za (.int y),v]/\0<=y/\c=y.toNat/\aF x y=aF n m/\(y=0->0<=x),⟨_,rfl,n,m,_,rfl,by lia,rfl,rfl,by lia⟩,?_⟩
  rintro c O H' ⟨rfl,x,y,v,rfl,hy,rfl,hg,hx⟩
  refine⟨_,rfl,rfl,_,rfl,vm (λh=>?_) (λh=>?_)⟩
  ·have RX:0<y:=by have:¬(V.int y=V.int 0):=of_decide_eq_false (nbT h);have:y≠0:=λz=>this (by rw[z]);lia
   refine⟨λσ' H''=>H''=H'/\∃v',σ'=[Za (.int y),Za (.int (x%y)),v'],?_,?_⟩
   ·rintro σ' H'' ⟨rfl,v',rfl⟩
    have m0:=dB x (show y≠0 by lia);have m1:=cN x RX;exact⟨(x%y).toNat,by lia,rfl,_,_,_,rfl,m0,rfl,(D9 x y RX).trans hg,λ_=>hy⟩
   ·exact⟨_,rfl,_,rfl,_,_,rfl,rfl,RX,_,rfl,_,rfl,rfl,_,rfl⟩
  ·have RX:y=0:=V.int.inj (Zf (nbF h));subst RX;refine⟨_,rfl,?_⟩;rw[Jp (hx rfl) |>.symm,hg];exact k
abbrev Fq:bQ:=top 18
def sc_plus:FnScope ["first","second","common","top","shared"] ["first","second"] (lR Fq):=fsc
def yS(K:aa):Sp:=λvs H Q _=>∃p1 p2 q1 q2,vs=[.ref p1,.ref p2]/\FrAt K H p1 q1/\FrAt K H p2 q2/\Sz q1/\Sz q2/\∀x,H x=Zb->Q (.ref x) (upd H x (.tup [.int (nL q1 q2).1,.int (nL q1 q2).2]))
def LH(F:Fun K "plus" "plus" Fq f fd)(T:Txt K mg a)(PF:Fn P w K mg base "common_divisor" 1 ["number","other"] Fp):FnOk P w K mg base (CXo P w) 2 f fd ["first","second"] (yS K):=by
 refine F.okN sc_plus (λvs H Q E h=>?_) (λPn A outer s H vs Q E hr h=>?_)
 ·obtain⟨p1,p2,q1,q2,rfl,_⟩:=h;rfl
 ·obtain⟨p1,p2,⟨t1,b1⟩,⟨t2,b2⟩,rfl,h1,h2,s1,s2,k⟩:=h;have hu:=oi hr;refine⟨_,(@ms _ _ _ _ _ (@sH _ _ (2) _ _ _ _ sc_plus.nd rfl (fH rfl) (@wx _ _ _ _ _ _ _ _ _ _ _ PF (hr.mono (by first|decide|lia)) rfl sI (@mf _ _ _ _ _ (@sd _ _ _ _ _ _ _ ix_tup (pv 0) pe_int (λ_ _=>rfl)) (@mf _ _ _ _ _ (@sd _ _ _ _ _ _ _ ix_tup (pv 1) pe_int (λ_ _=>rfl)) pa_nil (by rfl)) (by rfl)) (by decide) (by rfl) (by rfl)) (by rfl) (by first|exact .inl rfl|exact .inr rfl|assumption)) (@ms _ _ _ _ _ (@sH _ _ (3) _ _ _ _ sc_plus.nd rfl (fH rfl) (@tQ _ _ _ _ _ _ _ _ op_add (@tQ _ _ _ _ _ _ _ _ op_mulB (@sd _ _ _ _ _ _ _ ix_tup (pv 0) pe_int (λ_ _=>rfl)) (@tQ _ _ _ _ _ _ _ _ sJ (@sd _ _ _ _ _ _ _ ix_tup (pv 1) pe_int (λ_ _=>rfl)) (pv 2))) (@tQ _ _ _ _ _ _ _ _ op_mulB (@sd _ _ _ _ _ _ _ ix_tup (pv 1) pe_int (λ_ _=>rfl)) (@tQ _ _ _ _ _ _ _ _ sJ (@sd _ _ _ _ _ _ _ ix_tup (pv 0) pe_int (λ_ _=>rfl)) (pv 2)))) (by rfl) (by first|exact .inl rfl|exact .inr rfl|assumption)) (@ms _ _ _ _ _ (@sH _ _ (4) _ _ _ _ sc_plus.nd rfl (fH rfl) (@wx _ _ _ _ _ _ _ _ _ _ _ PF (hr.mono (by first|decide|lia)) rfl sI (@mf _ _ _ _ _ (pv 3) (@mf _ _ _ _ _ (pv 2) pa_nil (by rfl)) (by rfl)) (by decide) (by rfl) (by rfl)) (by rfl) (by first|exact .inl rfl|exact .inr rfl|assumption)) (@mB _ _ _ (@qF _ _ _ _ (@vY _ _ _ _ _ (@mf _ _ _ _ _ (@tQ _ _ _ _ _ _ _ _ sJ (pv 3) (pv 4)) (@mf _ _ _ _ _ (@tQ _ _ _ _ _ _ _ _ op_mulB (@tQ _ _ _ _ _ _ _ _ sJ (@sd _ _ _ _ _ _ _ ix_tup (pv 0) pe_int (λ_ _=>rfl)) (pv 2)) (@tQ _ _ _ _ _ _ _ _ sJ (@sd _ _ _ _ _ _ _ ix_tup (pv 1) pe_int (λ_ _=>rfl)) (pv 4))) pa_nil (by rfl)) (by rfl)))))))),?_⟩;rw[<-MO s1.low s2.low] at k;have b10:0<b1:=s1.low.1;have b20:0<b2:=s2.low.1;have hd:0<aF b1 b2:=bG _ (by lia);have TB:(0:Int)<(aF b1 b2:Int):=by lia
  have bd:Bt 8900 (aF b1 b2:Int):=s1.bb.dvd (show b1≠0 by lia) (fQ ..);have ld:=(bd.mono (by decide)).log TB;refine⟨_,rfl,p1,_,1,_,rfl,rfl,h1,mY (j:=1) rfl,_,rfl,p2,_,1,_,rfl,rfl,h2,mY (j:=1) rfl,b1,b2,rfl,b20,?_⟩;refine⟨_,rfl,p1,_,0,_,rfl,rfl,h1,mY (j:=0) rfl,_,rfl,p2,_,1,_,rfl,rfl,h2,mY (j:=1) rfl,_,rfl,_,_,rfl,rfl,⟨TB,ld⟩,_,_,rfl,rfl,⟨s1.bt.mono (by decide),(s2.bb.div).mono (by decide)⟩,?_⟩;refine⟨_,rfl,p2,_,0,_,rfl,rfl,h2,mY (j:=0) rfl,_,rfl,p1,_,1,_,rfl,rfl,h1,mY (j:=1) rfl,_,rfl,_,_,rfl,rfl,⟨TB,ld⟩,_,_,rfl,rfl,⟨s2.bt.mono (by decide),(s1.bb.div).mono (by decide)⟩,_,_,rfl,rfl,?_⟩;have he:0<aF (t1*(b2/(aF b1 b2:Int))+t2*(b1/(aF b1 b2:Int))) (aF b1 b2:Int):=bG _ (by lia);have Vi:(0:Int)<(aF (t1*(b2/(aF b1 b2:Int))+t2*(b1/(aF b1 b2:Int))) (aF b1 b2:Int):Int):=by lia
  have be:Bt 8900 (aF (t1*(b2/(aF b1 b2:Int))+t2*(b1/(aF b1 b2:Int))) (aF b1 b2:Int):Int):=bd.dvd (by lia) (cm ..);have le:=(be.mono (by decide)).log Vi;refine⟨_,rfl,_,rfl,_,_,rfl,TB,?_⟩;refine⟨_,rfl,_,rfl,_,_,rfl,rfl,⟨Vi,le⟩,_,rfl,p1,_,1,_,rfl,rfl,h1,mY (j:=1) rfl,_,rfl,_,_,rfl,rfl,⟨TB,ld⟩,_,rfl,p2,_,1,_,rfl,rfl,h2,mY (j:=1) rfl,_,rfl,_,_,rfl,rfl,⟨Vi,le⟩,_,_,rfl,rfl,⟨(s1.bb.div).mono (by decide),(s2.bb.div).mono (by decide)⟩,(show 2<=aK by decide),λx hx=>?_⟩;exact k x hx
abbrev CC:bQ:=top 19
def Iy:FnScope ["first","second"] ["first","second"] (lR CC):=fsc
def DD(K:aa):Sp:=λvs H Q _=>∃p1 p2 q1 q2,vs=[.ref p1,.ref p2]/\FrAt K H p1 q1/\FrAt K H p2 q2/\Sz q1/\Sz q2/\∀x H',H x=Zb->Same H H'->H' x=Za (.tup [.int (nL q1 (-q2.1,q2.2)).1,.int (nL q1 (-q2.1,q2.2)).2])->Q (.ref x) H'
theorem Sz.neg(h:Sz q):Sz (-q.1,q.2):=⟨⟨h.low.1,by have:=h.low.2;unfold Cop aF at *;simp only[iC];exact this⟩,h.bt.neg,h.bb⟩
def IU(F:Fun K "minus" "minus" CC f fd)(T:Txt K mg a)(QE:Fn P w K mg base "plus" 2 ["first","second"] (yS K)):FnOk P w K mg base (CXo P w) 3 f fd ["first","second"] (DD K):=by
 refine F.okN Iy (λvs H Q E h=>?_) (λPn A outer s H vs Q E hr h=>?_)
 ·obtain⟨p1,p2,q1,q2,rfl,_⟩:=h;rfl
 ·obtain⟨p1,p2,⟨t1,b1⟩,⟨t2,b2⟩,rfl,h1,h2,s1,s2,k⟩:=h;have hu:=oi hr;refine⟨_,(@mB _ _ _ (@qF _ _ _ _ (@wx _ _ _ _ _ _ _ _ _ _ _ QE (hr.mono (by first|decide|lia)) rfl sI (@mf _ _ _ _ _ (pv 0) (@mf _ _ _ _ _ (@vY _ _ _ _ _ (@mf _ _ _ _ _ (@M6 _ _ _ _ _ _ JL (@sd _ _ _ _ _ _ _ ix_tup (pv 1) pe_int (λ_ _=>rfl))) (@mf _ _ _ _ _ (@sd _ _ _ _ _ _ _ ix_tup (pv 1) pe_int (λ_ _=>rfl)) pa_nil (by rfl)) (by rfl))) pa_nil (by rfl)) (by rfl)) (by decide) (by rfl) (by rfl)))),?_⟩;refine⟨_,rfl,_,rfl,p2,_,0,_,rfl,rfl,h2,mY (j:=0) rfl,_,rfl,_,rfl,p2,_,1,_,rfl,rfl,h2,mY (j:=1) rfl,(show 2<=aK by decide),λy hy=>?_⟩;have sy:=sF (o:=.tup [.int (-t2),.int b2]) hy;refine⟨p1,y,(t1,b1),(-t2,b2),rfl,h1.same sy,SqT.of lQ,s1,s2.neg,λx hx=>?_⟩;refine k x _ (sy.free hx) (sy.trans (sF hx)) lQ
abbrev vB:bQ:=top 20
def Dl:FnScope ["first","second"] ["first","second"] (lR vB):=fsc
def DH(K:aa):Sp:=λvs H Q _=>∃p1 p2 q1 q2,vs=[.ref p1,.ref p2]/\FrAt K H p1 q1/\FrAt K H p2 q2/\Sz q1/\Sz q2/\Q (.bl (decide (q1.1*q2.2>q2.1*q1.2))) H
def IW(F:Fun K "is_above" "is_above" vB f fd)(T:Txt K mg a):FnOk P w K mg base (CXo P w) 1 f fd ["first","second"] (DH K):=by
 refine F.okN Dl (λvs H Q E h=>?_) (λPn A outer s H vs Q E hr h=>?_)
 ·obtain⟨p1,p2,q1,q2,rfl,_⟩:=h;rfl
 ·obtain⟨p1,p2,⟨t1,b1⟩,⟨t2,b2⟩,rfl,h1,h2,s1,s2,k⟩:=h;have hu:=oi hr;refine⟨_,(@mB _ _ _ (@qF _ _ _ _ (@FY _ _ _ _ _ _ _ _ M9 (@tQ _ _ _ _ _ _ _ _ op_mulB (@sd _ _ _ _ _ _ _ ix_tup (pv 0) pe_int (λ_ _=>rfl)) (@sd _ _ _ _ _ _ _ ix_tup (pv 1) pe_int (λ_ _=>rfl))) (@tQ _ _ _ _ _ _ _ _ op_mulB (@sd _ _ _ _ _ _ _ ix_tup (pv 1) pe_int (λ_ _=>rfl)) (@sd _ _ _ _ _ _ _ ix_tup (pv 0) pe_int (λ_ _=>rfl))) (vh _)))),?_⟩;refine⟨_,rfl,p1,_,0,_,rfl,rfl,h1,mY (j:=0) rfl,_,rfl,p2,_,1,_,rfl,rfl,h2,mY (j:=1) rfl,_,_,rfl,rfl,⟨s1.bt.mono (by decide),s2.bb.mono (by decide)⟩,_,rfl,p2,_,0,_,rfl,rfl,h2,mY (j:=0) rfl,_,rfl,p1,_,1,_,rfl,rfl,h1,mY (j:=1) rfl,_,_,rfl,rfl,⟨s2.bt.mono (by decide),s1.bb.mono (by decide)⟩,_,_,rfl,rfl,?_⟩;exact k
end
structure Two(q1 q2:Int×Int):Prop where
 p1:0<q1.2
 p2:0<q2.2
 t1:Bt 9000 q1.1
 t2:Bt 9000 q2.1
 b1:Bt 9000 q1.2
 b2:Bt 9000 q2.2
 bb:Bt 9000 (q1.2*q2.2)
abbrev Hl:=List (Str×Int×Int)
def l7(l:Hl)(n:Str):Int×Int:=(mC l n).2
def nK(l:Hl)(n:Str)(q:Int×Int):Hl:=if(l.any λx=>decide (x.1=n))=true then l.map (λx=>if x.1=n then(n,q) else x) else l++[(n,q)]
def na(l:Hl)(n:Str):Hl:=l.filter λx=>decide (x.1≠n)
def HeldZ(K:aa)(H:Hp)(p:ak)(l:Hl)(z:List ((Str×Int×Int)×ak)):Prop :=
 z.map (·.1)=l/\H p=Za (.dK (z.map λq=>(aj q.1.1,V.ref q.2)))/\∀q∈z,FrAt K H q.2 q.1.2
def HeldAt.toZ{K}(h:HeldAt K H p l):∃z,HeldZ K H p l z:=by obtain⟨ts,hl,hd,ht⟩:=h;exact⟨l.zip ts,je (by lia),hd,ht⟩
theorem xf:∀z:List (α×β),(z.map (·.1)).zip (z.map (·.2))=z
 |[]=>rfl
 |x::r=>congrArg (x::·) (xf r)
def HeldZ.held{K}(h:HeldZ K H p l z):HeldAt K H p l:=by
 obtain⟨rfl,hd,ht⟩:=h;refine⟨z.map (·.2),by rw[ac,ac],?_,?_⟩
 ·rw[xf];exact hd
 ·rw[xf];exact ht
def Db{K}(hp:H p=Za (.dK kvs))(h:FrAt K H x q):FrAt K (upd H p o) x q :=
 va h λc u e y=>by rw[lO (C2 e hp (by rcases y with⟨xs,rfl|⟨ob,rfl⟩⟩<;>intro z<;>cases z))];exact e
def HeldZ.val{K}(h:HeldZ K H p l z)(n) :
  (n∉l.map (·.1)/\oO (z.map λq=>((aj q.1.1:Key),V.ref q.2)) (aj n)=Zb/\l7 l n=(0,1))\/(n∈l.map (·.1)/\∃x,oO (z.map λq=>((aj q.1.1:Key),V.ref q.2)) (aj n)=Za (.ref x)/\FrAt K H x (l7 l n)):=by
 obtain⟨rfl,hd,ht⟩:=h;rw[rN (key:=λq:(Str×Int×Int)×ak=>q.1.1)];unfold l7 mC;rw[fw];have e:((λq:Str×Int×Int=>decide (q.1=n))∘λx:(Str×Int×Int)×ak=>x.1)=λx=>decide (x.1.1=n):=rfl;rw[e];cases hf:z.find? (λx=>decide (x.1.1=n)) with
 |none =>
  left;refine⟨λhn=>?_,rfl,rfl⟩;rw[cy] at hf;rw[aH] at hn;obtain⟨q,hq,e2⟩:=ah.mp hn;exact hf q hq (Zg e2)
 |some q =>
  right;have hq:=eO hf;refine⟨?_,q.2,rfl,ht q hq⟩;rw[aH];exact ah.mpr ⟨q,hq,by simpa using eV hf⟩
def HeldZ.put{K}(h:HeldZ K H p l z)(hx:FrAt K H x q) :
  ∃z',HeldZ K (upd H p (.dK (qI (z.map λq=>((aj q.1.1:Key),V.ref q.2)) (aj n) (.ref x)))) p (nK l n q) z':=by
 obtain⟨rfl,hd,ht⟩:=h;refine⟨if(z.any λy=>decide (y.1.1=n))=true then z.map (λy=>if y.1.1=n then((n,q),x) else y) else z++[((n,q),x)],?_,?_,?_⟩
 ·unfold nK;rw[gT];by_cases hb:(z.any λy=>decide (y.1.1=n))=true
  ·rw[Zc hb,Zc (by exact hb),aH,aH];refine aV λy _=>?_;show(if y.1.1=n then((n,q),x) else y).1=if y.1.1=n then(n,q) else y.1
   by_cases e:y.1.1=n
   ·rw[Zc e,Zc e]
   ·rw[Zd e,Zd e]
  ·rw[Zd hb,Zd (by exact hb),au];rfl
 ·rw[lQ];unfold qI;rw[gT];have eb:((λkv:Key×V=>decide (kv.1=aj n))∘λq:(Str×Int×Int)×ak=>((aj q.1.1:Key),V.ref q.2))=λy=>decide (y.1.1=n):=by
   funext y
   show decide ((aj y.1.1:Key)=aj n)=_;rw[AL]
  rw[eb];by_cases hb:(z.any λy=>decide (y.1.1=n))=true
  ·rw[Zc hb,Zc hb,aH,aH]
   congr 2
   refine aV λy _=>?_;show(if(aj y.1.1:Key)=aj n then((aj y.1.1:Key),V.ref x) else((aj y.1.1:Key),V.ref y.2))=((aj (if y.1.1=n then((n,q),x) else y).1.1:Key),V.ref (if y.1.1=n then((n,q),x) else y).2);by_cases e:y.1.1=n
   ·rw[Zc (by rw[e]),Zc e,e]
   ·rw[Zd (λw=>e (cM w)),Zd e]
  ·rw[Zd hb,Zd hb,au];rfl
 ·intro y hy;refine Db hd ?_;by_cases hb:(z.any λy=>decide (y.1.1=n))=true
  ·rw[Zc hb] at hy;obtain⟨u,hu,rfl⟩:=ah.mp hy;by_cases e:u.1.1=n
   ·rw[Zc e];exact hx
   ·rw[Zd e];exact ht u hu
  ·rw[Zd hb] at hy;rcases aJ.mp hy with hy|hy
   ·exact ht y hy
   ·rw[ap.mp hy];exact hx
def HeldZ.drop{K}(h:HeldZ K H p l z) :
  ∃z',HeldZ K (upd H p (.dK (yn (z.map λq=>((aj q.1.1:Key),V.ref q.2)) (aj n)))) p (na l n) z':=by
 obtain⟨rfl,hd,ht⟩:=h;refine⟨z.filter (λy=>decide (y.1.1≠n)),?_,?_,λy hy=>Db hd (ht y (bu.mp hy).1)⟩
 ·unfold na;rw[fU];rfl
 ·rw[lQ];unfold yn;rw[fU];have eb:((λkv:Key×V=>decide (kv.1≠aj n))∘λq:(Str×Int×Int)×ak=>((aj q.1.1:Key),V.ref q.2))=λy=>decide (y.1.1≠n):=by
   funext y
   show decide ((aj y.1.1:Key)≠aj n)=_;rw[bS,decide_eq_true_iff,decide_eq_true_iff];exact⟨λh w=>h (by rw[w]),λh w=>h (cM w)⟩
  rw[eb]
def HC(l)(n):mC l n=(n,l7 l n):=by
 unfold l7 mC;cases h:l.find? λq=>decide (q.1=n) with
 |none=>rfl
 |some q =>
  have:q.1=n:=by simpa using eV h
  show q=(n,q.2);rw[<-this]
def mU(l)(n m)(q):l7 (nK l n q) m=if m=n then q else l7 l m:=by
 unfold l7 mC nK;by_cases hb:(l.any λx=>decide (x.1=n))=true
 ·rw[Zc hb];induction l with
  |nil=>cases hb
  |cons x r ih =>
   rw[al,bF,bF];by_cases e:x.1=n
   ·rw[Zc e];by_cases em:m=n
    ·subst em;rw[Zc rfl,Zg (show m=m from rfl)];rfl
    ·rw[Zd em];have e1:decide ((n,q).1=m)=false:=Zh λz=>em z.symm;have e2:decide (x.1=m)=false:=Zh λz=>em (z.symm.trans e);rw[e1,e2];by_cases hr:(r.any λx=>decide (x.1=n))=true
     ·have:=ih hr;rw[Zd em] at this;exact this
     ·have er:r.map (λx=>if x.1=n then(n,q) else x)=r:=by
       conv=>rhs;rw[<-ir r]
       refine aV λy hy=>Zd λz=>hr (cL.mpr ⟨y,hy,Zg z⟩)
      show(Option.getD ((r.map λx=>if x.1=n then(n,q) else x).find? λq=>decide (q.1=m)) (m,0,1)).2=_;rw[er]
   ·rw[Zd e];have hr:(r.any λx=>decide (x.1=n))=true:=by rw[cO,Zh e,jW] at hb;exact hb
    by_cases em:x.1=m
    ·rw[Zg em];have:¬m=n:=λz=>e (em.trans z);rw[Zd this]
    ·rw[Zh em];exact ih hr
 ·rw[Zd hb,i0];by_cases em:m=n
  ·subst em;rw[Zc rfl];have:l.find? (λq=>decide (q.1=m))=none:=by rw[cy];intro x hx z;exact hb (cL.mpr ⟨x,hx,z⟩)
   rw[this,Option.none_or,bF,Zg (show(m,q).1=m from rfl)];rfl
  ·rw[Zd em];have:[(n,q)].find? (λq=>decide (q.1=m))=none:=by rw[bF,Zh (show ¬(n,q).1=m from λz=>em z.symm)];rfl
   rw[this,Option.or_none]
def o4(l)(n m):l7 (na l n) m=if m=n then(0,1) else l7 l m:=by
 unfold l7 mC na;rw[List.find?_filter];by_cases em:m=n
 ·subst em;rw[Zc rfl];have:l.find? (λa=>decide (decide (a.1≠m)=true/\decide (a.1=m)=true))=none:=by rw[cy];intro x hx z;have z:=Zf z;exact Zf z.1 (Zf z.2)
  rw[this];rfl
 ·rw[Zd em];have:(λa:Str×Int×Int=>decide (decide (a.1≠n)=true/\decide (a.1=m)=true))=λa=>decide (a.1=m):=by
   funext x
   rw[bS];simp only[decide_eq_true_iff];exact⟨λh=>h.2,λh=>⟨λz=>em (h.symm.trans z),h⟩⟩
  rw[this]
def nq(l)(n)(q):(nK l n q).map (·.1)=if n∈l.map (·.1) then l.map (·.1) else l.map (·.1)++[n]:=by
 unfold nK;by_cases hb:(l.any λx=>decide (x.1=n))=true
 ·have:n∈l.map (·.1):=by obtain⟨x,hx,e⟩:=cL.mp hb;exact ah.mpr ⟨x,hx,Zf e⟩
  rw[Zc hb,Zc this,aH];refine aV λx _=>?_;show(if x.1=n then(n,q) else x).1=x.1;by_cases e:x.1=n
  ·rw[Zc e,e]
  ·rw[Zd e]
 ·have:¬n∈l.map (·.1):=λz=>by obtain⟨x,hx,e⟩:=ah.mp z;exact hb (cL.mpr ⟨x,hx,Zg e⟩)
  rw[Zd hb,Zd this,au];rfl
def vZ(n)(q)(h:(l.map (·.1)).Nodup):((nK l n q).map (·.1)).Nodup:=by
 rw[nq];by_cases hn:n∈l.map (·.1)
 ·rw[Zc hn];exact h
 ·rw[Zd hn];exact wV h hn
def zg(l)(n):(na l n).map (·.1)=(l.map (·.1)).filter λx=>decide (x≠n):=by unfold na;rw[fU];rfl
def CH(n)(h:(l.map (·.1)).Nodup):((na l n).map (·.1)).Nodup:=by rw[zg];exact h.filter _
def F8(l)(n)(q):(nK l n q).length<=l.length+1:=by
 have:=congrArg b6 (nq l n q);rw[ac] at this;rw[this];split
 ·rw[ac];lia
 ·rw[aD,ac];exact ao _
def D5(l)(n):(na l n).length<=l.length:=fI _ _
def sold(l:Hl)(o1 o2:Str)(q:Int×Int):Hl :=
 let r:=nL (l7 l o1) (-q.1,q.2);let l1:=if r=(0,1) then na l o1 else nK l o1 r
 nK l1 o2 (nL (l7 l1 o2) q)
def Ia(l:Hl)(o1 o2:Str)(q:Int×Int):Hl :=
 let l1:=nK l o1 (nL (l7 l o1) (-q.1,q.2))
 nK l1 o2 (nL (l7 l1 o2) q)
def Bp{β:Type}(L:List (Ent×β))(h:Str)(g:Ent->Ent):List (Ent×β):=L.map λx=>if x.1.nm=h then(g x.1,x.2) else x
def uH(v:Ent×β->γ)(hv:∀x,v (g x.1,x.2)=v x):(Bp L h g).map v=L.map v:=by
 unfold Bp;rw[aH];refine aV λx _=>?_;show v (if x.1.nm=h then(g x.1,x.2) else x)=v x;by_cases e:x.1.nm=h
 ·rw[Zc e,hv]
 ·rw[Zd e]
def Iv(hy:y∈Bp L h g):∃x∈L,(x.1.nm=h/\y=(g x.1,x.2))\/(¬x.1.nm=h/\y=x):=by
 unfold Bp at hy;obtain⟨x,hx,rfl⟩:=ah.mp hy;refine⟨x,hx,?_⟩;by_cases e:x.1.nm=h
 ·rw[Zc e];exact .inl ⟨e,rfl⟩
 ·rw[Zd e];exact .inr ⟨e,rfl⟩
theorem Fv:∀{l:List α}{x y:α},(l.map key).Nodup->x∈l->y∈l->key x=key y->x=y
 |[],_,_,_,hx,_,_=>by cases hx
 |z::r,x,y,h,hx,hy,e=>by
  obtain⟨h1,h2⟩:=aI.mp h;rcases af.mp hx with ex|QW
  ·rcases af.mp hy with ey|Tb
   ·exact ex.trans ey.symm
   ·rw[ex] at e;exact absurd (ah.mpr ⟨y,Tb,e.symm⟩) h1
  ·rcases af.mp hy with ey|Tb
   ·rw[ey] at e;exact absurd (ah.mpr ⟨x,QW,e⟩) h1
   ·exact Fv h2 QW Tb e
def D6(he:oj L h=Za e):e.1.nm=h:=by unfold oj at he;simpa using eV he
def HE(nd:(L.map (·.1.nm)).Nodup)(he:oj L h=Za e)(hx:x∈L)(hn:x.1.nm=h):x=e :=
 Fv (key:=λx:Ent×ak=>x.1.nm) nd hx (sj he) (hn.trans (D6 he).symm)
def BookAt.reheld{K:aa}(B:BookAt K C H b z Ph L)(nd:(L.map (·.1.nm)).Nodup)(he:oj L h=Za e)(hg:∀x,g x={ x with held:=(g x).held })(hH:HeldAt K H' e.2 (g e.1).held)(kp:∀c o,H c=Za o->c≠e.2->H' c=Za o):BookAt K C H' b z Ph (Bp L h g):=by
 have Tw:=sj he;have e2:e.2∈L.map (·.2):=ah.mpr ⟨e,Tw,rfl⟩;obtain⟨n1,r1⟩:=aI.mp B.nd;obtain⟨n2,r2⟩:=aI.mp r1;obtain⟨n3,r3⟩:=aI.mp r2;obtain⟨n4,r4⟩:=aI.mp r3;obtain⟨n5,r5⟩:=aI.mp r4;obtain⟨n6,r6⟩:=aI.mp r5;have g1:∀x,(g x).nm=x.nm:=λx=>by rw[hg x]
 have g2:∀x,(g x).th=x.th:=λx=>by rw[hg x]
 have g3:∀x,(g x).mr=x.mr:=λx=>by rw[hg x]
 have g4:∀x,(g x).ls=x.ls:=λx=>by rw[hg x]
 refine⟨kp _ _ B.ob λq=>n1 (q▸by simp only[af];right;right;right;right;right;exact e2),kp _ _ B.pp λq=>n2 (q▸by simp only[af];right;right;right;right;exact e2),?_,?_,?_,?_,?_,?_,B.p6,by unfold Bp;rw[ac];exact B.h8⟩
 ·rw[uH (v:=λe=>((aj e.1.nm:Key),V.int e.1.th)) λx=>by rw[g1,g2]];exact kp _ _ B.tt λq=>n3 (q▸by simp only[af];right;right;right;exact e2)
 ·rw[uH (v:=λe=>((aj e.1.nm:Key),V.int e.1.mr)) λx=>by rw[g1,g3]];exact kp _ _ B.mm λq=>n4 (q▸by simp only[af];right;right;exact e2)
 ·rw[uH (v:=λe=>((aj e.1.nm:Key),V.int e.1.ls)) λx=>by rw[g1,g4]];exact kp _ _ B.ll λq=>n5 (q▸by simp only[af];right;exact e2)
 ·rw[uH (v:=λe=>((aj e.1.nm:Key),V.ref e.2)) λx=>by rw[g1]];exact B.hh.keep λo h=>kp _ _ h λq=>n6 (q▸e2)
 ·intro y hy;obtain⟨x,hx,⟨hn,rfl⟩|⟨hn,rfl⟩⟩:=Iv hy
  ·rw[HE nd he hx hn];exact hH
  ·have hy2:y.2≠e.2:=λq=>hn (by rw[Fv (key:=λx:Ent×ak=>x.2) r6 hx Tw q];exact D6 he);obtain⟨kvs,hk⟩:∃kvs,H e.2=Za (.dK kvs):=by obtain⟨ts,_,q,_⟩:=B.he e Tw;exact⟨_,q⟩
   refine(B.he y hx).keep (λo ho=>kp _ _ ho hy2) λc o ho x=>kp c o ho λq=>?_;rw[q,hk] at ho;cases ho;rcases x with⟨xs,z|⟨ob,z⟩⟩<;>cases z
 ·rw[uH (v:=λe=>e.2) λx=>rfl];exact B.nd
section
variable{P:aL}{w:bh}{K:aa}{mg:Str->Option ag}{base:bv}{a:Adr}{f:ak}{fd:cq}
end
def No(i j):Mc [V.int i,V.int j] [V.int 0,V.int 1]=decide ((i,j)=((0:Int),(1:Int))):=by show(eqV (.int i) (.int 0)&&(eqV (.int j) (.int 1)&&true))=_;have e1:∀i j:Int,eqV (.int i) (.int j)=decide (i=j):=λi j=>rfl;rw[e1,e1,Bool.and_true,bS,cg,decide_eq_true_iff,decide_eq_true_iff,decide_eq_true_iff,Prod.mk.injEq]
def bt0(k):Bt k 0:=cX k
def bt1(h:k≠0):Bt k 1:=Nat.one_lt_two_pow h
def sz0:Sz (0,1):=⟨⟨by decide,(rfl:aF 0 1=1)⟩,bt0 _,bt1 (by decide)⟩
theorem HeldZ.same{K}(h:HeldZ K H p l z)(s:Same H H'):HeldZ K H' p l z :=
 ⟨h.1,s _ _ h.2.1,λq hq=>(h.2.2 q hq).same s⟩
def HeldZ.get{K}(h:HeldZ K H p l z)(ho:FrAt K H o (0,1))(n) :
  ∃x,(oO (z.map λq=>((aj q.1.1:Key),V.ref q.2)) (aj n)).getD (.ref o)=.ref x/\FrAt K H x (l7 l n):=by
 rcases h.val n with⟨_,hv,hg⟩|⟨_,x,hv,hx⟩
 ·exact⟨o,by rw[hv];rfl,by rw[hg];exact ho⟩
 ·exact⟨x,by rw[hv];rfl,hx⟩
def mR(l:Hl)(o:Str)(q:Int×Int):Prop:=¬ 0<q.1\/q.1*(l7 l o).2>(l7 l o).1*q.2
instance (l:Hl) (o:Str) (q:Int×Int):Decidable (mR l o q):=by unfold mR;infer_instance
section
variable{P:aL}{w:bh}{K:aa}{mg:Str->Option ag}{base:bv}{a:Adr}{f:ak}{fd:cq}
abbrev um:bQ:=nQ (top 27) 8
def sc_Book_sale:FnScope ["self","house","one","other","share","held","rest"] ["self","house","one","other","share"] (lR um):=fsc
structure SaleOk(l:Hl)(o1:Str)(q:Int×Int):Prop where
 len:l.length<1000
 sz:∀n,Sz (l7 l n)
 rs:¬mR l o1 q->Sz (nL (l7 l o1) (-q.1,q.2))
def FN(K:aa)(a:Adr):Sp:=λvs H Q E=>∃b z Ph L h o1 o2 sp q,vs=[.ref b,.str h,.str o1,.str o2,.ref sp]/\BookAt K a.Book H b z Ph L/\(L.map (·.1.nm)).Nodup/\Nm h/\Nm o1/\Nm o2/\FrAt K H sp q/\Sz q /\
 (∀e,oj L h=Za e->SaleOk e.1.held o1 q) /\
 (pB L h=false->E (.ref a.NoHouse) Zb H) /\
 (pB L h=true->(oF Ph o1||pB L o1)=false->E (.ref a.NoHolder) Zb H) /\
 (pB L h=true->(oF Ph o1||pB L o1)=true->(oF Ph o2||pB L o2)=false->E (.ref a.NoHolder) Zb H) /\
 (∀e,oj L h=Za e->(oF Ph o1||pB L o1)=true->(oF Ph o2||pB L o2)=true->mR e.1.held o1 q->E (.ref a.NoShare) Zb H) /\
 (∀e,oj L h=Za e->(oF Ph o1||pB L o1)=true->(oF Ph o2||pB L o2)=true->¬mR e.1.held o1 q->∀H',BookAt K a.Book H' b z Ph (Bp L h λx=>{ x with held:=sold x.held o1 o2 q })->(∀c o,H c=Za o->c≠e.2->H' c=Za o)->Q .non H')
def LG(F:Fun K "sale" "Book.sale" um f fd)(T:Txt K mg a)(Pm:Mt P w K mg base a.Book "need_house" 2 ["self","name"] (oG K a))(Pq:Mt P w K mg base a.Book "need_holder" 3 ["self","name"] (qz K a))(Qe:Fn P w K mg base "is_above" 1 ["first","second"] (DH K))(RC:Fn P w K mg base "minus" 3 ["first","second"] (DD K))(QE:Fn P w K mg base "plus" 2 ["first","second"] (yS K)) :
  FnOk P w K mg base (CXo P w) 4 f fd ["self","house","one","other","share"] (FN K a):=by
 refine F.okX sc_Book_sale (λvs H Q E h=>?_) (λPn A outer s H vs Q E hr h=>?_)
 ·obtain⟨b,z,Ph,L,h,o1,o2,sp,q,rfl,_⟩:=h;rfl
 ·obtain⟨b,z,Ph,L,h,o1,o2,sp,q,rfl,B,nd,nh,n1,n2,hq,sq,hok,k1,k2,k3,k4,k5⟩:=h;have hu:=oi hr;refine⟨_,(@ms _ _ _ _ _ (@pK _ _ _ _ (tw (pv 0) Pm (hr.mono (by first|decide|lia)) oT (@mf _ _ _ _ _ (pv 1) pa_nil (by rfl))) (by rfl)) (@ms _ _ _ _ _ (@pK _ _ _ _ (tw (pv 0) Pq (hr.mono (by first|decide|lia)) oT (@mf _ _ _ _ _ (pv 2) pa_nil (by rfl))) (by rfl)) (@ms _ _ _ _ _ (@pK _ _ _ _ (tw (pv 0) Pq (hr.mono (by first|decide|lia)) oT (@mf _ _ _ _ _ (pv 3) pa_nil (by rfl))) (by rfl)) (@ms _ _ _ _ _ (@sH _ _ (5) _ _ _ _ sc_Book_sale.nd rfl (fH rfl) (@rS _ _ _ _ _ _ hu (oH (pv 0) rfl) (pv 1) (λ_ _=>rfl)) (by rfl) (by first|exact .inl rfl|exact .inr rfl|assumption)) (@ms _ _ _ _ _ (@ww _ _ _ _ _ _ _ _ (PW.pt (M5 (Ax (vX (@wx _ _ _ _ _ _ _ _ _ _ _ Qe (hr.mono (by first|decide|lia)) rfl oT (@mf _ _ _ _ _ (pv 4) (@mf _ _ _ _ _ (rR rfl T.g_ZERO T.r_ZERO) pa_nil (by rfl)) (by rfl)) (by decide) (by rfl) (by rfl)))) (JU (vX (@wx _ _ _ _ _ _ _ _ _ _ _ Qe (hr.mono (by first|decide|lia)) rfl oT (@mf _ _ _ _ _ (pv 4) (@mf _ _ _ _ _ (@z7 _ _ _ _ _ _ _ _ _ hu (pv 5) (pv 2) (rR rfl T.g_ZERO T.r_ZERO) ⟨rfl,rfl,rfl,rfl⟩) pa_nil (by rfl)) (by rfl)) (by decide) (by rfl) (by rfl)))))) (@mB _ _ _ (qg T.x_NoShare rfl T.c_NoShare rfl (EU (yu (pv 2) (Ay (yu (pv 1) Az)))) zi)) pss_nil) (@ms _ _ _ _ _ (@sH _ _ (6) _ _ _ _ sc_Book_sale.nd rfl (fH rfl) (@wx _ _ _ _ _ _ _ _ _ _ _ RC (hr.mono (by first|decide|lia)) rfl oT (@mf _ _ _ _ _ (@rS _ _ _ _ _ _ hu (pv 5) (pv 2) (λ_ _=>rfl)) (@mf _ _ _ _ _ (pv 4) pa_nil (by rfl)) (by rfl)) (by decide) (by rfl) (by rfl)) (by rfl) (by first|exact .inl rfl|exact .inr rfl|assumption)) (@ms _ _ _ _ _ (@ww _ _ _ _ _ _ _ _ (@ve _ _ _ _ _ _ _ _ (N8 (Nat.lt_of_succ_lt hu)) (pv 6) (rR rfl T.g_ZERO T.r_ZERO) (vh _)) (@mB _ _ _ (@pK _ _ _ _ (DY (pv 5) (pv 2) ⟨rfl,rfl,rfl,rfl⟩) (by rfl))) (@mB _ _ _ (rQ hu (pv 5) (pv 2) (pv 6) rfl))) (@mB _ _ _ (rQ hu (pv 5) (pv 3) (@wx _ _ _ _ _ _ _ _ _ _ _ QE (hr.mono (by first|decide|lia)) rfl oT (@mf _ _ _ _ _ (@z7 _ _ _ _ _ _ _ _ _ hu (pv 5) (pv 3) (rR rfl T.g_ZERO T.r_ZERO) ⟨rfl,rfl,rfl,rfl⟩) (@mf _ _ _ _ _ (pv 4) pa_nil (by rfl)) (by rfl)) (by decide) (by rfl) (by rfl)) rfl))))))))),?_⟩;have bn:∀{m:Str},¬m="people"->¬m="things_of"->¬m="mark_of"->¬m="loss_of"->¬m="held_of"->(bf z).lookup m=none:=λa b c d e=>tW z a b c d e;refine⟨_,rfl,b,_,_,rfl,B.ob,tW z,_,rfl,b,z,Ph,L,h,rfl,B,nh,λhh=>?_,λhh=>k1 hh⟩;refine⟨_,rfl,b,_,_,rfl,B.ob,tW z,_,rfl,b,z,Ph,L,o1,rfl,B,n1,λh1=>?_,λh1=>k2 hh h1⟩;refine⟨_,rfl,b,_,_,rfl,B.ob,tW z,_,rfl,b,z,Ph,L,o2,rfl,B,n2,λh2=>?_,λh2=>k3 hh h1 h2⟩;cases he:oj L h with
  |none=>unfold pB at hh;unfold oj at he;rw[he] at hh;cases hh
  |some e =>
  have Tw:=sj he;have ok:=hok e he;obtain⟨zz,Zj⟩:=(B.he e Tw).toZ;have Rr:=B.hh.dget h;rw[Am _ he] at Rr;have Qu:∀H,FrAt K H a.ZERO (0,1):=λH=>.inr T.zero;refine⟨_,rfl,b,_,_,_,_,rfl,B.ob,T.cl,T.nA_held_of,vv z,_,rfl,_,_,rfl,Rr,?_⟩;refine⟨_,rfl,sp,a.ZERO,q,(0,1),rfl,hq,Qu H,sq,sz0,_,rfl,vm (λh3=>?_) (λh3=>?_)⟩
  ·have h3:=of_decide_eq_false (nbT h3);exact LX ⟨_,rfl,⟨o1,rfl,n1⟩,_,rfl,⟨h,rfl,nh⟩,λy=>k4 e he h1 h2 (.inl (by simp only at h3;lia))⟩
  have q0:0<q.1:=by have:=Zf (nbF h3);simp only at this;lia
  obtain⟨x0,Tc,fx0⟩:=Zj.get (Qu H) o1;refine⟨_,rfl,_,rfl,e.2,rfl,.inl ⟨_,.inl Zj.2.1⟩,_,rfl,_,DGet.k (k:=aj o1) Zj.2.1,?_⟩;rw[Tc];refine⟨sp,x0,q,_,rfl,hq,fx0,sq,ok.sz o1,_,rfl,vm (λh4=>?_) (λh4=>?_)⟩
  ·have h4:=Zf h4;exact⟨_,rfl,⟨o1,rfl,n1⟩,_,rfl,⟨h,rfl,nh⟩,λy=>k4 e he h1 h2 (.inr h4)⟩
  have h4:¬q.1*(l7 e.1.held o1).2>(l7 e.1.held o1).1*q.2:=λz=>h4 (Zg z);have ntm:¬mR e.1.held o1 q:=λz=>z.elim (λy=>y q0) h4;rcases Zj.val o1 with⟨_,_,hg⟩|⟨hn,x,hv,hx⟩
  ·exfalso;rw[hg] at h4;simp only at h4;lia
  have Vf:DGet H e.2 (.str o1) (Za (.ref x)):=by have:=DGet.k (k:=aj o1) Zj.2.1;rw[hv] at this;exact this
  refine⟨_,rfl,_,rfl,e.2,_,rfl,Vf,_,rfl,x,sp,_,_,rfl,hx,hq,ok.sz o1,sq,λr H1 hr0 s1 Tg=>?_⟩;have Z1:=Zj.same s1;have PK:∀H2 l1 z2,HeldZ K H2 e.2 l1 z2->sold e.1.held o1 o2 q=nK l1 o2 (nL (l7 l1 o2) q)->(∀c o,H c=Za o->c≠e.2->H2 c=Za o)->Sz (l7 l1 o2)->l1.length<=e.1.held.length->FrAt K H2 sp q ->
    MW (Ig 5) (Ig 3) (Ks (yS K) [] E (Kr (JO (Ig 5) (Ig 3) (tC (V.ref a.ZERO))) (Kr (Ig 4) JN))) { nx:=λx H'=>Q V.non H',rt:=Q } [Za (V.ref b),Za (V.str h),Za (V.str o1),Za (V.str o2),Za (V.ref sp),Za (V.ref e.2),Za (V.ref r)] H2:=by
   intro H2 l1 z2 Z2 es kp szl len fq;obtain⟨y,hy,fy⟩:=Z2.get (Qu H2) o2;refine⟨_,rfl,e.2,rfl,.inl ⟨_,.inl Z2.2.1⟩,_,rfl,_,DGet.k (k:=aj o2) Z2.2.1,?_⟩;rw[hy];refine⟨_,rfl,y,sp,_,_,rfl,fy,fq,szl,sq,λt ht=>?_⟩;have st:=sF (o:=.tup [.int (nL (l7 l1 o2) q).1,.int (nL (l7 l1 o2) q).2]) ht;have Z3:=Z2.same st;refine⟨_,rfl,_,rfl,e.2,_,rfl,DPut.k (k:=aj o2) Z3.2.1 ?_,?_⟩
   ·rw[ac,<-ac (f:=(·.1)),Z2.1];exact aX len (gZ ok.len (by decide))
   ·obtain⟨z4,Z4⟩:=Z3.put (n:=o2) (x:=t) (q:=nL (l7 l1 o2) q) (SqT.of lQ);have kp':∀c o,H c=Za o->c≠e.2->(upd (upd H2 t (.tup [.int (nL (l7 l1 o2) q).1,.int (nL (l7 l1 o2) q).2])) e.2 (.dK (qI (z2.map λq=>((aj q.1.1:Key),V.ref q.2)) (aj o2) (.ref t)))) c=Za o:=λc o hc hn=>by rw[lO hn];exact st c o (kp c o hc hn)
    refine k5 e he h1 h2 ntm _ (B.reheld nd he (λx=>rfl) ?_ kp') kp';show HeldAt K _ e.2 (sold e.1.held o1 o2 q);rw[es];exact Z4.held
  refine⟨_,rfl,r,a.ZERO,_,_,rfl,rfl,SqT.of Tg,.inr T.zero,rfl,rfl,rfl,_,rfl,vm (λh5=>?_) (λh5=>?_)⟩
  ·rw[No] at h5;have h5:nL (l7 e.1.held o1) (-q.1,q.2)=(0,1):=Zf h5;refine⟨_,rfl,e.2,rfl,.inl ⟨_,.inl Z1.2.1⟩,_,rfl,_,aj o1,.ref x,Z1.2.1,rfl,hv,?_⟩;obtain⟨z2,Z2⟩:=Z1.drop (n:=o1);refine PK _ _ z2 Z2 ?_ (λc o hc hn=>by rw[lO hn];exact s1 c o hc) ?_ (D5 _ _) (Db Z1.2.1 (hq.same s1))
   ·unfold sold;simp only[h5,if_true]
   ·rw[o4];by_cases e2:o2=o1
    ·rw[Zc e2];exact sz0
    ·rw[Zd e2];exact ok.sz o2
  ·rw[No] at h5;have h5:¬nL (l7 e.1.held o1) (-q.1,q.2)=(0,1):=λz=>h5 (Zg z);refine⟨_,rfl,_,rfl,_,rfl,e.2,_,rfl,DPut.k (k:=aj o1) Z1.2.1 ?_,?_⟩
   ·rw[ac,<-ac (f:=(·.1)),Zj.1];exact gZ ok.len (by decide)
   ·obtain⟨z2,Z2⟩:=Z1.put (n:=o1) (x:=r) (q:=nL (l7 e.1.held o1) (-q.1,q.2)) (SqT.of Tg);refine PK _ _ z2 Z2 ?_ (λc o hc hn=>by rw[lO hn];exact s1 c o hc) ?_ ?_ (Db Z1.2.1 (hq.same s1))
    ·unfold sold;simp only[h5,if_false]
    ·rw[mU];by_cases e2:o2=o1
     ·rw[Zc e2];exact ok.rs ntm
     ·rw[Zd e2];exact ok.sz o2
    ·have:=congrArg b6 (nq e.1.held o1 (nL (l7 e.1.held o1) (-q.1,q.2)));rw[Zc hn,ac,ac] at this;exact kK this
end
def mH(L:List Ent)(n:Str):Option Ent:=L.find? λe=>decide (e.nm=n)
def mj(L:List Ent)(n:Str):Bool:=(mH L n).isSome
def vA(L:List Ent)(h:Str)(g:Ent->Ent):List Ent:=L.map λx=>if x.nm=h then g x else x
def Bz(L)(n):(oj L n).map (·.1)=mH (L.map (·.1)) n:=by unfold oj mH;rw[fw];rfl
def qk(L)(n):pB L n=mj (L.map (·.1)) n:=by unfold mj;rw[<-Bz];unfold pB oj;rw[ci]
def Iw(L:List (Ent×ak))(h:Str)(g:Ent->Ent):(Bp L h g).map (·.1)=vA (L.map (·.1)) h g:=by
 unfold Bp vA;rw[aH,aH];refine aV λx _=>?_;show(if x.1.nm=h then(g x.1,x.2) else x).1=if x.1.nm=h then g x.1 else x.1
 split<;>rfl
def rT(a:Adr)(pp:List Str)(L:List Ent)(x:Str):Option ak:=if vT x=false then Za a.NoName else if(oF pp x||mj L x)=true then Za a.Twice else Zb
def wR(a:Adr)(pp:List Str)(L:List Ent)(x:Str):Option ak:=match rT a pp L x with
 |some c=>Za c
 |none=>if 6<=pp.length then Za a.TooMany else Zb
def wY(a:Adr)(pp:List Str)(L:List Ent)(x o:Str)(l:Int):Option ak:=match rT a pp L x with
 |some c=>Za c
 |none=>if(oF pp o||mj L o)=false then Za a.NoHolder else if l<0 then Za a.NoLoss else if 8<=L.length then Za a.TooMany else Zb
def zf(a)(pp)(L)(x):rD a pp L x=rT a pp (L.map (·.1)) x:=by unfold rD rT;rw[qk]
def za(a)(pp)(L)(x):vf a pp L x=wR a pp (L.map (·.1)) x:=by unfold vf wR;rw[zf];try (cases rT a pp (L.map (·.1)) x<;>rfl)
def zq(a)(pp)(L)(x o)(l):sK a pp L x o l=wY a pp (L.map (·.1)) x o l:=by unfold sK wY;rw[zf,qk,ac];try (cases rT a pp (L.map (·.1)) x<;>rfl)
noncomputable instance (x:Str):Decidable (Nm x):=dC _
def m7(vs:List PV)(s:Sto)(k:Nat->List Str->List Ent->List PV->Out PV):Out PV:=match vs with
 |.ref n::r=>match s.get n with
  |some (.book pp L)=>k n pp L r
  |_=>.bad
 |_=>.bad
def uS(a:Adr)(vs:List PV)(s:Sto):Out PV:=m7 vs s λn pp L r=>match r with
 |[.str x]=>if Nm x then(match wR a pp L x with
  |none=>.ok .non (s.set n (.book (pp++[x]) L))
  |some c=>.ex c s) else .bad
 |_=>.bad
def w6(a:Adr)(vs:List PV)(s:Sto):Out PV:=m7 vs s λn pp L r=>match r with
 |[.str x,.str o,.int t,.int m,.int l]=>if Nm x/\Nm o then(match wY a pp L x o l with
  |none=>.ok .non (s.set n (.book pp (L++[⟨x,t,m,l,[(o,1,1)]⟩])))
  |some c=>.ex c s) else .bad
 |_=>.bad
def o6(_:Adr)(vs:List PV)(s:Sto):Out PV:=m7 vs s λ_ pp _ r=>match r with
 |[]=>.ok (.lst ((srt pp).map .str)) s
 |_=>.bad
def nG(_:Adr)(vs:List PV)(s:Sto):Out PV:=m7 vs s λ_ _ L r=>match r with
 |[]=>.ok (.lst ((srt (L.map (·.nm))).map .str)) s
 |_=>.bad
def frP(q:Int×Int):PV:=.tup [.int q.1,.int q.2]
def qJ(q:Str×Int×Int):PV:=.tup [.str q.1,frP q.2]
def qf(l:List (Str×Int×Int)):PV:=.lst ((srt (l.map (·.1))).map λn=>qJ (mC l n))
def nF(a:Adr)(vs:List PV)(s:Sto):Out PV:=m7 vs s λ_ _ L r=>match r with
 |[.str x]=>if Nm x then(match mH L x with
  |none=>.ex a.NoHouse s
  |some e=>if e.held.length<64 then .ok (qf e.held) s else .bad) else .bad
 |_=>.bad
def Kq(a:Adr)(vs:List PV)(s:Sto):Out PV:=m7 vs s λ_ _ L r=>match r with
 |[.str x]=>if Nm x then(match mH L x with
  |none=>.ex a.NoHouse s
  |some e=>.ok (.tup [.int e.th,.int e.mr,.int e.ls]) s) else .bad
 |_=>.bad
def qR(_:Adr)(vs:List PV)(s:Sto):Out PV:=m7 vs s λ_ _ L r=>match r with
 |[.str x]=>.ok (.bl (mj L x)) s
 |_=>.bad
def pj(a:Adr)(vs:List PV)(s:Sto):Out PV:=m7 vs s λ_ _ L r=>match r with
 |[.str x]=>if Nm x then(if mj L x=true then .ok .non s else .ex a.NoHouse s) else .bad
 |_=>.bad
structure SaleE(L:List Ent)(h o1 o2:Str)(q:Int×Int):Prop where
 nd:(L.map (·.nm)).Nodup
 nm:Nm h/\Nm o1/\Nm o2
 sz:Sz q
 ok:∀e,mH L h=Za e->SaleOk e.held o1 q
noncomputable instance (L:List Ent) (h o1 o2:Str) (q:Int×Int):Decidable (SaleE L h o1 o2 q):=dC _
def rM(a:Adr)(vs:List PV)(s:Sto):Out PV:=m7 vs s λn pp L r=>match r with
 |[.str h,.str o1,.str o2,.tup [.int t,.int b]]=>if SaleE L h o1 o2 (t,b) then(match mH L h with
  |none=>.ex a.NoHouse s
  |some e=>if(oF pp o1||mj L o1)=false then .ex a.NoHolder s else if(oF pp o2||mj L o2)=false then .ex a.NoHolder s
   else if mR e.held o1 (t,b) then .ex a.NoShare s else .ok .non (s.set n (.book pp (vA L h λx=>{ x with held:=sold x.held o1 o2 (t,b) })))) else .bad
 |_=>.bad
section
variable{K:aa}{H:Hp}{m:Mp}{s:Sto}{a:Adr}
def O7(S:SR K CB H m s)(hg:s.get n=Za (.book pp L))(eF:m.fp n=BFp (m.ad n) z L')(B':BookAt K CB H' (m.ad n) z pp' L2)(k:∀a o,H a=Za o->a∉BFp (m.ad n) z L'->H' a=Za o)(Qi:∀a∈BFp (m.ad n) z L2,a∈BFp (m.ad n) z L'\/H a=Zb) :
  SR K CB H' (m.fput n (BFp (m.ad n) z L2)) (s.set n (.book pp' (L2.map (·.1))))/\Ext H m s H' (m.fput n (BFp (m.ad n) z L2)) (s.set n (.book pp' (L2.map (·.1)))) :=
 S.put hg (by intro _ z;cases z) H' _ (by rw[eF];exact k) (by rw[eF];exact Qi) λ_=>⟨z,L2,B',rfl,by show(if n=n then _ else _)=_;rw[Zc rfl];rfl⟩
def onB(S:SR K CB H m s)(r:Reps K H m s xs vs)(P:Post K CB (Rep K) E (m7 vs s k) H m s Q) :
  ∃n pp L z L' us ys,s.get n=Za (.book pp L)/\BookAt K CB H (m.ad n) z pp L'/\L'.map (·.1)=L/\m.fp n=BFp (m.ad n) z L'/\xs=.ref (m.ad n)::us/\Reps K H m s us ys/\Post K CB (Rep K) E (k n pp L ys) H m s Q:=by
 unfold m7 at P;split at P
 ·rename_i n r';split at P
  ·rename_i pp L hg;obtain⟨z,L',B,e1,e2⟩:=S.get hg;cases r with
   |cons r1 r2 =>
    cases r1;exact⟨n,pp,L,z,L',_,_,hg,B,e1,e2,rfl,r2,P⟩
  ·exact P.elim
 ·exact P.elim
def L1(h:e∈L):e.2∈BFp b z L:=by unfold BFp;simp only[af];right;right;right;right;right;right;exact ah.mpr ⟨e,h,rfl⟩
def Iu(L:List (Ent×ak))(h:Str)(g:Ent->Ent):(Bp L h g).map (·.2)=L.map (·.2):=by unfold Bp;rw[aH];refine aV λx _=>?_;show(if x.1.nm=h then(g x.1,x.2) else x).2=x.2;split<;>rfl
def K9(b)(z)(L)(h)(g):BFp b z (Bp L h g)=BFp b z L:=by unfold BFp;rw[Iu]
def wS(r:Reps K H m s us [.str x]):us=[.str x]:=by
 cases r with
 |cons a b=>cases a;cases b;rfl
def EE(vs)(H)(Q)(E)(h:spD K a.Book 2 (uS a) vs H Q E):Bm K a vs H Q E:=by
 obtain⟨_,ps,s,m,r,S,P⟩:=h;obtain⟨n,pp,L,z,L',us,ys,hg,B,e1,e2,rfl,r',P⟩:=onB S r P;split at P
 ·split at P
  ·rename_i x hx;cases wS r';refine⟨_,z,pp,L',x,rfl,B,hx,λhd H' B' k=>?_,λc hd H' k=>?_⟩
   ·rw[za,e1] at hd;rw[hd] at P;obtain⟨S2,x2⟩:=O7 S hg e2 B' (λc o h hc=>k c o h λz=>hc (by rw[z];simp[BFp])) (λc hc=>.inl hc);rw[e1] at S2 x2;exact P _ _ _ x2 S2 .non
   ·rw[za,e1] at hd;rw[hd] at P;exact P _ m (.same k) (S.same k)
  ·exact P.elim
 ·exact P.elim
def GR(vs)(H)(Q)(E)(h:spD K a.Book 6 (w6 a) vs H Q E):DF K a vs H Q E:=by
 obtain⟨_,ps,s,m,r,S,P⟩:=h;obtain⟨n,pp,L,z,L',us,ys,hg,B,e1,e2,rfl,r',P⟩:=onB S r P;split at P
 ·split at P
  ·rename_i x o t mm l hx;cases r' with
   |cons q1 r'=>cases r' with
    |cons q2 r'=>cases r' with
     |cons q3 r'=>cases r' with
      |cons q4 r'=>cases r' with
       |cons q5 r' =>
        cases r';cases q1;cases q2;cases q3;cases q4;cases q5;refine⟨_,z,pp,L',x,o,t,mm,l,rfl,B,hx.1,hx.2,λhd p H' hp B' k=>?_,λc hd H' k=>?_⟩
        ·rw[zq,e1] at hd;rw[hd] at P;obtain⟨S2,x2⟩:=O7 S hg e2 B' (λc o h hc=>k c o h λz=>hc (by unfold BFp;simp only[af,cK,or_false] at z ⊢;rcases z with z|z|z|z<;>simp[z])) (λc hc=>by
          unfold BFp at hc ⊢;rw[au] at hc;simp only[af,aJ,al,dA,cK,or_false] at hc ⊢;rcases hc with h|h|h|h|h|h|h|h
          ·exact .inl (.inl h)
          ·exact .inl (.inr (.inl h))
          ·exact .inl (.inr (.inr (.inl h)))
          ·exact .inl (.inr (.inr (.inr (.inl h))))
          ·exact .inl (.inr (.inr (.inr (.inr (.inl h)))))
          ·exact .inl (.inr (.inr (.inr (.inr (.inr (.inl h))))))
          ·exact .inl (.inr (.inr (.inr (.inr (.inr (.inr h))))))
          ·rw[h];exact .inr hp)
         rw[au,e1] at S2 x2;exact P _ _ _ x2 S2 .non
        ·rw[zq,e1] at hd;rw[hd] at P;exact P _ m (.same k) (S.same k)
  ·exact P.elim
 ·exact P.elim
def Dk(vs)(H)(Q)(E)(h:spD K a.Book 1 (o6 a) vs H Q E):yT K a.Book vs H Q E:=by
 obtain⟨_,ps,s,m,r,S,P⟩:=h;obtain⟨n,pp,L,z,L',us,ys,hg,B,e1,e2,rfl,r',P⟩:=onB S r P;split at P
 ·cases r';exact⟨_,z,pp,L',rfl,B,λl hl=>P.new S hl λex S'=>.lst lQ (S.pure_none hl) (.ofStrs _)⟩
 ·exact P.elim
def EF(vs)(H)(Q)(E)(h:spD K a.Book 1 (nG a) vs H Q E):Bn K a.Book vs H Q E:=by
 obtain⟨_,ps,s,m,r,S,P⟩:=h;obtain⟨n,pp,L,z,L',us,ys,hg,B,e1,e2,rfl,r',P⟩:=onB S r P;split at P
 ·cases r';refine⟨_,z,pp,L',rfl,B,λl hl=>P.new S hl λex S'=>.lst lQ (S.pure_none hl) ?_⟩;rw[<-e1,aH];exact .ofStrs _
 ·exact P.elim
def vH(e:L'.map (·.1)=L):(∀q,oj L' x=Za q->mH L x=Za q.1)/\(oj L' x=Zb->mH L x=Zb):=by have:=Bz L' x;rw[e] at this;refine⟨λq h=>?_,λh=>?_⟩<;>(rw[h] at this;exact this.symm)
theorem Br:∀{l:List (Str×Int×Int)}{vs:List V}{m:Mp}{s:Sto}{CB:ak}{H:Hp},SR K CB H m s->fc (PairAt K H) l vs->Reps K H m s vs (l.map qJ)
 |_,_,_,_,_,_,_,.nil=>.nil
 |_,_,m,s,CB,H,S,.cons r t=>by obtain⟨p,q,rfl,h1,h2⟩:=r;have tp:∀{c:ak}{xs:List V},SqT K H c xs->(Rd H c (.tup xs)/\Pur m s c\/KT' K c xs):=λh=>h.elim (λz=>.inl ⟨z,z.elim (λz=>S.pure_tup z) λ⟨_,z⟩=>S.pure_frz (.inl z)⟩) .inr;exact .cons (.tup (tp h1) (.cons .str (.cons (.tup (tp h2) (.cons .int (.cons .int .nil))) .nil))) (Br S t)
def ED(vs)(H)(Q)(E)(h:spD K a.Book 2 (nF a) vs H Q E):Bl K a vs H Q E:=by
 obtain⟨_,ps,s,m,r,S,P⟩:=h;obtain⟨n,pp,L,z,L',us,ys,hg,B,e1,e2,rfl,r',P⟩:=onB S r P;split at P
 ·split at P
  ·rename_i x hx;cases wS r';obtain⟨f1,f2⟩:=vH (x:=x) e1;refine⟨_,z,pp,L',x,rfl,B,hx,λe he=>?_,λhe=>?_⟩
   ·rw[f1 e he] at P;dsimp only at P;split at P
    ·rename_i Rk;refine⟨Rk,λl SJ H' hl k h' pr=>?_⟩;have S':=S.same k;refine P _ H' m (.same k) S' (.lst h' ?_ ?_)
     ·have:=S.pure_none hl;exact this
     ·have:=Br (m:=m) (s:=s) S' pr;rw[aH] at this;exact this
    ·exact P.elim
   ·rw[f2 he] at P;exact P H m .refl S
  ·exact P.elim
 ·exact P.elim
def NF(vs)(H)(Q)(E)(h:spD K a.Book 2 (Kq a) vs H Q E):MV K a vs H Q E:=by
 obtain⟨_,ps,s,m,r,S,P⟩:=h;obtain⟨n,pp,L,z,L',us,ys,hg,B,e1,e2,rfl,r',P⟩:=onB S r P;split at P
 ·split at P
  ·rename_i x hx;cases wS r';obtain⟨f1,f2⟩:=vH (x:=x) e1;refine⟨_,z,pp,L',x,rfl,B,hx,λe he t ht=>?_,λhe=>?_⟩
   ·rw[f1 e he] at P;exact P.new S ht λex S'=>.tup (.inl ⟨.inl lQ,S'.pure_tup lQ⟩) (.cons .int (.cons .int (.cons .int .nil)))
   ·rw[f2 he] at P;exact P H m .refl S
  ·exact P.elim
 ·exact P.elim
def BZ(vs)(H)(Q)(E)(h:spD K a.Book 2 (qR a) vs H Q E):qW K a.Book vs H Q E:=by
 obtain⟨_,ps,s,m,r,S,P⟩:=h;obtain⟨n,pp,L,z,L',us,ys,hg,B,e1,e2,rfl,r',P⟩:=onB S r P;split at P
 ·rename_i x;cases wS r';refine⟨_,z,pp,L',x,rfl,B,?_⟩;rw[qk,e1];exact P.here S .bl
 ·exact P.elim
def yA(vs)(H)(Q)(E)(h:spD K a.Book 2 (pj a) vs H Q E):oG K a vs H Q E:=by
 obtain⟨_,ps,s,m,r,S,P⟩:=h;obtain⟨n,pp,L,z,L',us,ys,hg,B,e1,e2,rfl,r',P⟩:=onB S r P;split at P
 ·split at P
  ·rename_i x hx;cases wS r';refine⟨_,z,pp,L',x,rfl,B,hx,λh=>?_,λh=>?_⟩
   ·rw[qk,e1] at h;rw[Zc h] at P;exact P.here S .non
   ·rw[qk,e1] at h;rw[Zd (by rw[h];decide)] at P;exact P H m .refl S
  ·exact P.elim
 ·exact P.elim
def Ir(vs)(H)(Q)(E)(h:spD K a.Book 5 (rM a) vs H Q E):FN K a vs H Q E:=by
 obtain⟨_,ps,s,m,r,S,P⟩:=h;obtain⟨n,pp,L,z,L',us,ys,hg,B,e1,e2,rfl,r',P⟩:=onB S r P;split at P
 ·split at P
  ·rename_i h o1 o2 t b hs;cases r' with
   |cons q1 r'=>cases r' with
    |cons q2 r'=>cases r' with
     |cons q3 r'=>cases r' with
      |cons q4 r' =>
       cases r';cases q1;cases q2;cases q3;obtain⟨p,ws,rfl,ht,P0⟩:=q4.tp;cases P0 with
       |cons w1 w2=>cases w2 with
        |cons w2 w3 =>
         cases w3;cases w1;cases w2;obtain⟨f1,f2⟩:=vH (x:=h) e1;have hh:pB L' h=(mH L h).isSome:=by rw[qk,e1];rfl
         have h1:(oF pp o1||pB L' o1)=(oF pp o1||mj L o1):=by rw[qk,e1]
         have h2:(oF pp o2||pB L' o2)=(oF pp o2||mj L o2):=by rw[qk,e1]
         refine⟨_,z,pp,L',h,o1,o2,p,(t,b),rfl,B,by rw[show L'.map (λx=>x.1.nm)=L.map (·.nm) by rw[<-e1,aH];rfl];exact hs.nd,hs.nm.1,hs.nm.2.1,hs.nm.2.2,ht,hs.sz,λe he=>hs.ok _ (f1 e he),λq=>?_,λq g1=>?_,λq g1 g2=>?_,λe he g1 g2 g3=>?_,λe he g1 g2 g3 H' B' k=>?_⟩
         ·rw[hh] at q;cases c:mH L h with
          |none=>rw[c] at P;exact P H m .refl S
          |some e=>rw[c] at q;cases q
         ·rw[hh] at q;cases c:mH L h with
          |none=>rw[c] at q;cases q
          |some e=>rw[c] at P;dsimp only at P;rw[Zc (by rw[<-h1];exact g1)] at P;exact P H m .refl S
         ·rw[hh] at q;cases c:mH L h with
          |none=>rw[c] at q;cases q
          |some e=>rw[c] at P;dsimp only at P;rw[Zd (by rw[<-h1,g1];decide),Zc (by rw[<-h2];exact g2)] at P;exact P H m .refl S
         ·rw[f1 e he] at P;dsimp only at P;rw[Zd (by rw[<-h1,g1];decide),Zd (by rw[<-h2,g2];decide),Zc g3] at P;exact P H m .refl S
         ·rw[f1 e he] at P;dsimp only at P;rw[Zd (by rw[<-h1,g1];decide),Zd (by rw[<-h2,g2];decide),Zd g3] at P;obtain⟨S2,x2⟩:=O7 S hg e2 B' (λc o hc hn=>k c o hc λz=>hn (by rw[z];exact L1 (sj he))) (λc hc=>.inl (by rw[K9] at hc;exact hc));rw[Iw,e1] at S2 x2;exact P _ _ _ x2 S2 .non
  ·exact P.elim
 ·exact P.elim
theorem Mt.imp(M:Mt P w K mg base C mm k ps sp)(h:∀vs H Q E,So vs H Q E->sp vs H Q E):Mt P w K mg base C mm k ps So :=
 let⟨f,fd,F,b⟩:=M;⟨f,fd,F.imp h,b⟩
theorem Fn.imp(M:Fn P w K mg base x k ps sp)(h:∀vs H Q E,So vs H Q E->sp vs H Q E):Fn P w K mg base x k ps So :=
 let⟨f,fd,F,b⟩:=M;⟨f,fd,F.imp h,b⟩
noncomputable instance (q:Int×Int):Decidable (Sz q):=dC _
end
end My
namespace L2
open PySem PySem.Spec PyProof.Rows
def NOw(u:HO):Prop:=∀o x,u≠.frz o (.own x)
section
variable{K:aa}{CB:ak}{H H':Hp}{m:Mp}{s:Sto}
mutual
theorem Rep.now(k:∀a u,H a=Za u->NOw u->H' a=Za u):∀{v:V}{p:PV},Rep K H m s v p->Rep K H' m s v p
 |_,_,.non=>.non
 |_,_,.bl=>.bl
 |_,_,.int=>.int
 |_,_,.str=>.str
 |_,_,.tup h r=>.tup (h.imp (λz=>⟨z.1.imp (λh=>k _ _ h (by intro _ _ z;cases z)) λ⟨o,h⟩=>⟨o,k _ _ h (by intro _ _ z;cases z)⟩,z.2⟩) λz=>z) (Reps.now k r)
 |_,_,.lst h p r=>.lst (k _ _ h (by intro _ _ z;cases z)) p (Reps.now k r)
 |_,_,.seq h r=>.seq (h.imp (λ⟨⟨o,z⟩,p⟩=>⟨⟨o,k _ _ z (by intro _ _ z;cases z)⟩,p⟩) λz=>z) (Reps.now k r)
 |_,_,.dct h p r=>.dct (h.imp (λh=>k _ _ h (by intro _ _ z;cases z)) λ⟨o,h⟩=>⟨o,k _ _ h (by intro _ _ z;cases z)⟩) p (RepKs.now k r)
 |_,_,.ref h=>.ref h
 |_,_,.exc h p=>.exc (k _ _ h (by intro _ _ z;cases z)) p
 |_,_,.clo r=>.clo (Reps.now k r)
theorem Reps.now(k:∀a u,H a=Za u->NOw u->H' a=Za u):∀{v:List V}{p:List PV},Reps K H m s v p->Reps K H' m s v p
 |_,_,.nil=>.nil
 |_,_,.cons a b=>.cons (Rep.now k a) (Reps.now k b)
theorem RepKs.now(k:∀a u,H a=Za u->NOw u->H' a=Za u):∀{v:List (Key×V)}{p:List (Key×PV)},RepKs K H m s v p->RepKs K H' m s v p
 |_,_,.nil=>.nil
 |_,_,.cons a b=>.cons (Rep.now k a) (RepKs.now k b)
end
variable{cs:List (ak×Obj)}
end
def Fro(H H':Hp):Prop:=∀a o u,H a=Za (.frz o u)->H' a=Za (.frz o u)
structure CloC(P:aL)(w:bh)(K:aa)(mg:Str->Option ag)(base:bv)(k:Nat)(CB f:ak)(vs:List V)(H:Hp)(dr:List PV->PV->Sto->Out PV):Prop where
 ex:∃of fd0 fd ps sp,H f=Za (fzO of)/\of.data=.func fd0/\FnOk P w K mg base (CXo P w) k f fd ps sp/\Binds K fd ps [] /\
  ∀H' m s v p l Q,Fro H H'->SR K CB H' m s->Reps K H' m s vs l->Rep K H' m s v p->Post K CB (Rep K) E0 (dr l p s) H' m s Q->sp [v] H' Q E0
open Classical in
section
variable{X:Cx}{CB:ak}{E:XK}{k i:Nat}{x:Str}{p pos:Pos}{e:bo}{g:XE}{f:ak}{vs:List V}{dr:List PV->PV->Sto->Out PV}
end
open Classical in
section
variable{X:Cx}{CB:ak}{E:XK}{k kb:Nat}{fn y q:Str}{p pos lpos:Pos}{g:XE}{params:jL}{body:bo}{scope:dH}{fr:List Str}{ix:List Nat}{cd P:ak}{D:ak->List V->(List PV->PV->Sto->Out PV)->XF}{pn:Str}
end
def yr(fi:XA)(ix:List Nat)(c:XT)(e:XE)(Z:En)(s:Sto):Out PV:=(fi Z s).bind λl s1=>if l.length<=100000 then(nN c e (nC ix Z) l s1).bind λvs s2=>.ok (.ref s2.nx) (s2.add (.lst vs)) else .bad
section
variable{X:Cx}{CB:ak}{E:XK}{a b c e PD iter tg:bo}{es PB:List bo}{f g h:XE}{fa fi:XA}{t:XT}{p px pos Pu Pf Pg:Pos}{x:Str}{st:bQ}{pZ QO Qw:List bQ}{u v:XS}{scope:dH}{fr:List Str}{ix:List Nat}
def Cmp.cell{K}{D}{H1 H2}{m1 m2}{s1 s2}{cap}{Z}{ys}{done}(C:Cmp K CB D H1 m1 s1 cap Z ys done H2 m2 s2)(hD:H1 D=Zb)(hn:D∉m1.hid) :
  SR K CB H2 ((m2.bare m1.hid).add s2.nx D [D]) (s2.add (.lst done))/\Ext H1 m1 s1 H2 ((m2.bare m1.hid).add s2.nx D [D]) (s2.add (.lst done)):=by
 have S:=C.sr;have P5:D∈m2.hid:=by rw[C.hid];exact ai
 have Ps:∀j∈s2.cs.map (·.1),j≠s2.nx:=λj hj=>aG (S.lt j hj);have QK:∀j∈s2.cs.map (·.1),((m2.bare m1.hid).add s2.nx D [D]).fp j=m2.fp j:=λj hj=>Zd (Ps j hj);have QP:((m2.bare m1.hid).add s2.nx D [D]).fp s2.nx=[D]:=Zc rfl;have had:((m2.bare m1.hid).add s2.nx D [D]).ad s2.nx=D:=Zc rfl;have nD:∀j∈s2.cs.map (·.1),D∉m2.fp j:=λj hj z=>S.hx j hj D z P5;have hk:∀{j:Nat},j∈(s2.add (.lst done)).cs.map (·.1)->j=s2.nx\/j∈s2.cs.map (·.1):=λ{j} hj=>af.mp (show j∈s2.nx::s2.cs.map (·.1) from hj);have RZ:∀a,a∈m1.hid->a∈m2.hid:=λa ha=>by rw[C.hid];exact ae _ ha
 have pur:∀a,a≠D->a∉m1.hid->(∀n∈s2.cs.map (·.1),a∉m2.fp n)->Pur ((m2.bare m1.hid).add s2.nx D [D]) (s2.add (.lst done)) a:=λa h1 h2 h3=>⟨h2,λj hj ha=>by
  rcases hk hj with rfl|hj
  ·rw[QP,ap] at ha;exact h1 ha
  ·rw[QK j hj] at ha;exact h3 j hj ha⟩
 have x:ExtR H2 m2 s2 H2 ((m2.bare m1.hid).add s2.nx D [D]) (s2.add (.lst done)):=⟨fS _,λj hj=>Zd (aG hj),λa u h p=>⟨h,pur a (λz=>p.1 (z▸P5)) (λz=>p.1 (RZ a z)) p.2⟩,λa u h _ _=>h⟩;have e1:s1.nx<=s2.nx:=C.ex.nx;refine⟨⟨?_,?_,λq hq=>?_,λj hj i hi PH a ha hb=>?_,λj hj a ha hb=>?_,λa ha=>S.hs a (RZ a ha),λP q t=>⟨?_,(S.tb P q t).2⟩⟩,⟨⟨⟨Nat.le_succ_of_le e1,λn hn=>?_,λa u h p=>?_,C.ex.el⟩,λn l hn h=>?_⟩,rfl,C.ex.hk⟩⟩
 ·exact aI.mpr ⟨λz=>Ps _ z rfl,S.nd⟩
 ·intro j hj;rcases hk hj with rfl|hj
  ·exact cC _
  ·exact cj (S.lt j hj)
 ·rcases af.mp (show q∈(s2.nx,Cell.lst done)::s2.cs from hq) with rfl|hq
  ·exact⟨by rw[QP,had],ys,by rw[had];exact C.at_,C.rs.ext0 x⟩
  ·have Ti:q.1∈s2.cs.map (·.1):=ah.mpr ⟨q,hq,rfl⟩;exact(S.ok q hq).keep S x (λa _ o h=>h) (x.ad _ (S.lt _ Ti)) (QK _ Ti)
 ·rcases hk hj with e|hj<;>rcases hk hi with e'|hi
  ·exact PH (e.trans e'.symm)
  ·rw[e,QP,ap] at ha;rw[QK i hi,ha] at hb;exact nD i hi hb
  ·rw[e',QP,ap] at hb;rw[QK j hj,hb] at ha;exact nD j hj ha
  ·rw[QK j hj] at ha;rw[QK i hi] at hb;exact S.dj j hj i hi PH a ha hb
 ·have hb:a∈m1.hid:=hb;rcases hk hj with e|hj
  ·rw[e,QP,ap] at ha;rw[ha] at hb;exact hn hb
  ·rw[QK j hj] at ha;exact S.hx j hj a ha (RZ a hb)
 ·obtain⟨h1,ps,h2,_⟩:=S.tb P q t;rw[C.hid] at h1;rcases af.mp h1 with z|z
  ·rw[z,C.at_] at h2;cases h2
  ·exact z
 ·have:n≠s2.nx:=aG (ay hn e1);exact(Zd this).trans (C.ex.ad n hn)
 ·obtain⟨h1,p1⟩:=C.ex.pu a u h p;exact⟨h1,pur a (h.ne hD) p1.1 p1.2⟩
 ·obtain⟨h1,h2⟩:=C.ex.df n l hn h;refine⟨?_,h2⟩;show ql ((s2.nx,Cell.lst done)::s2.cs) n=_;unfold ql;rw[Zd (λz=>aG (ay hn e1) z.symm)];exact h1
def HF{t}(S1:SR X.K CB H1 m1 s1)(er:ER X.K H1 m1 s1 O Z)(it:qo X.K CB J l H1 m1 s1)(hD:H1 D=Zb)(Pi:l.length<=100000)(P:Post X.K CB (Rep X.K) E ((nN t f (nC ix Z) l s1).bind λvs s2=>.ok (.ref s2.nx) (s2.add (.lst vs))) H1 m1 s1 Q):CompB J (TDT X.K CB E0 t) (TDE X.K CB E0 f) (capt ix O) D H1 Q:=by
 refine⟨λi k ys H2=>∃done m2 s2,Cmp X.K CB D H1 m1 s1 (capt ix O) (nC ix Z) ys done H2 m2 s2/\i<=l.length/\ys.length<=i/\k=l.length-i/\(nN t f (nC ix Z) l s1).bind (λvs s2=>.ok (PV.ref s2.nx) (s2.add (.lst vs)))=(nN t f (nC ix Z) (l.drop i) s2).bind λvs s2=>.ok (.ref s2.nx) (s2.add (.lst (done++vs))),⟨l.length,[],m1.hide D,s1,Cmp.start S1 (er.capt ix) hD,a7 _,a7 _,rfl,?_⟩,?_⟩
 ·simp
 rintro i k ys H2 ⟨done,m2,s2,C,hi,hy,rfl,eq⟩
 obtain⟨RW,Rq⟩:=it i H2 m2 s2 C.e0 C.sr;by_cases Ps:i<l.length
 ·right;have hq:l[i]?=Za l[i]:=aw Ps;obtain⟨go,yl⟩:=RW _ hq;refine⟨go,λx H3 Ta=>?_⟩;obtain⟨e3,S3,r3⟩:=yl x H3 Ta;have C3:=C.step hD e3 S3;rw[eP Ps] at eq;rw[eq] at P;rw[oU] at P eq;refine⟨Za l[i]::nC ix Z,s2,m2,C3.er.cons r3,S3,?_⟩;cases ct:t (Za l[i]::nC ix Z) s2 with
  |bad=>rw[ct] at P;exact P.elim
  |ex c3 s3=>rw[ct] at P;exact P.elim
  |ok bt s3 =>
   rw[ct] at P eq;intro b4 H4 m4 e4 S4 hb;subst hb;have C4:=C3.step hD e4 S4;cases b4 with
   |false =>
    exact LY ⟨l.length-(i+1),by omega,done,m4,s3,C4,Ps,by omega,rfl,eq⟩
   |true =>
    refine LX ⟨Za l[i]::nC ix Z,s3,m4,C4.er.cons (r3.ext e4),S4,?_⟩;dsimp only at P eq;cases cf:f (Za l[i]::nC ix Z) s3 with
    |bad=>rw[cf] at P;exact P.elim
    |ex c5 s5=>rw[cf] at P;exact P.elim
    |ok v s5 =>
     rw[cf] at eq;intro w H5 m5 e5 S5 r5;have C5:=C4.step hD e5 S5;refine⟨C5.at_,aX (aE hy (aE hi Pi)) (by decide),l.length-(i+1),by omega,done++[v],m5,s5,C5.push hD r5,Ps,by simp;omega,rfl,?_⟩;rw[eq];dsimp only;cases hh:nN t f (nC ix Z) (l.drop (i+1)) s5 with
     |ok vs s6=>simp[Out.bind]
     |ex c6 s6=>exact absurd hh Ae
     |bad=>rfl
 ·left;have Qn:l.length<=i:=eM Ps;rw[fz Qn] at eq;rw[eq] at P;unfold nN at P;obtain⟨TV,Qf⟩:=C.cell hD λz=>(S1.hs D z).1 hD;have P:Post X.K CB (Rep X.K) E (.ok (.ref s2.nx) (s2.add (.lst (done++[])))) H1 m1 s1 Q:=P;rw[cT] at P;refine⟨Rq Qn,C.at_,?_⟩;have P:=P (.ref D) H2 ((m2.bare m1.hid).add s2.nx D [D]) Qf TV;have e0:((m2.bare m1.hid).add s2.nx D [D]).ad s2.nx=D:=Zc rfl;refine P ?_;have r:=Rep.ref (K:=X.K) (H:=H2) (m:=(m2.bare m1.hid).add s2.nx D [D]) (s:=s2.add (.lst done)) (n:=s2.nx) (cC _);rw[e0] at r;exact r
def Du{t}(q:TDE X.K CB E (yr fi ix t f) O H Q):HW (TDI X.K CB E fi) ix (TDT X.K CB E0 t) (TDE X.K CB E0 f) O H Q:=by
 obtain⟨Z,s,m,er,S,P⟩:=q;refine⟨Z,s,m,er,S,?_⟩;unfold yr at P;cases c:fi Z s with
 |bad=>rw[c] at P;exact P
 |ex c' s'=>rw[c] at P;exact P
 |ok l s1 =>
  rw[c] at P;dsimp only[Out.bind] at P;split at P
  ·rename_i Pi;intro J H1 m1 e1 S1 it D hD;exact HF S1 (er.ext e1) it hD Pi (Post.shift e1 P)
  ·exact P.elim
def Dt(hi:DI X CB E (.Name x px) iter fi)(he:∀cl C Pj Pk fp,DE (blk X scope cl C (x::fr) Pj Pk fp) CB E0 PD f)(ht:∀cl C Pj Pk fp,DIfs (blk X scope cl C (x::fr) Pj Pk fp) CB PB t:=by exact λ_ _ _ _ _=>uP)(hN:X.N.Nodup:=by exact ‹FnScope _ _ _›.nd)(Rx:X.N[i]?=Za y:=by rfl)(Q7:X.env.scope.names.lookup y=Za .local:=by rfl)(hc:X.calm=true:=by rfl)(S:CompOk X.N X.env.scope scope x fr ix:=by exact Pa ‹FnScope _ _ _›)(Rs:dM (.ListComp PD [⟨.Name x px,iter,PB,0⟩] scope pos) (Za (.Name y py)) spos.line X.env=pure true:=by rfl)(hs:∀v,bZ iter X.env v=pure v:=by intro _;rfl):DS X CB E (.Assign [.Name y py] (.ListComp PD [⟨.Name x px,iter,PB,0⟩] scope pos) spos) (xSet i (yr fi ix t f)) :=
 ⟨(y8 hN Rx Q7 hc S hi.pi (λcl C Pj Pk fp=>(ht cl C Pj Pk fp).pifs) (λcl C Pj Pk fp=>(he cl C Pj Pk fp).pe) Rs hs).mono λD O H=>oE λZ s m er S P =>
  Du ⟨Z,s,m,er,S,Post.so P λv s1 u H1 m1 e1 S1 r1 P1=>P1.next S1 ((er.ext e1).set i r1)⟩⟩
end
section
variable{prog:aL}{w:bh}{A:cA}{R:Result->ax->Prop}{I:ak}{fp wr:List ak}{G:Array GenState->Array GenState->Prop}{n:Nat}{P:Nat->ag->Prop}{St:Nat->ax->Prop}
end
section
variable{prog:aL}{w:bh}{A:cA}{E:ag->ax->Prop}{s:ax}
end
section
variable{X:Cx}{x y:Str}{p q pos UM:Pos}{e:bo}{te:TE}
end
section
variable{X:Cx}{e st:bo}{te:TE}{ts:TO}{pos p2:Pos}
end
section
variable{X:Cx}{CB:ak}{E:XK}{a b c e st:bo}{es:List bo}{f g h:XE}{fa:XA}{t:XT}{p q p2 pos UM:Pos}{x y:Str}
end
section
variable{X:Cx}{PD iter tg:bo}{PB:List bo}{pos:Pos}{scope:dH}{wi:TI}{tc:TT}{te:TE}{gt:TG}{xs fr:List Str}{ix:List Nat}
def IQ(hc:X.calm=true)(S:CompOkG X.N X.env.scope scope xs fr ix)(hi:PI X tg iter wi)(hg:∀cl C Pj Pk fp,PG (blk X scope cl C (xs++fr) Pj Pk fp) tg gt)(ht:∀cl C Pj Pk fp,Fk (blk X scope cl C (xs++fr) Pj Pk fp) PB tc)(he:∀cl C Pj Pk fp,PE (blk X scope cl C (xs++fr) Pj Pk fp) PD te)(hs:∀v,bZ iter X.env v=pure v:=by intro _;rfl):PE X (.ListComp PD [⟨tg,iter,PB,0⟩] scope pos) (Fm wi ix gt xs.length tc te):=by
 intro Pe s O H Q I h;have Pl:∀y∈scope.names,y.2=.free->∃c,X.env.cells.lookup y.1=Za c:=λy hy hf=>I.ok.has y.1 (.inl (S.free y hy hf));rw[eval_ListComp];refine fu (use:=Zb) rfl hs (pR Pl) S.kind S.nm (thn (hi Pe s O H _ I h) λv s1 h1=>thn h1 λSv s2 h2=>?_);obtain⟨it,fp,tn,J,H2,e,I2,T,Qh,f2,q2⟩:=h2;subst e;refine vJ (PR:=λPo C r s'=>compPost (model X.prog X.w) X.A X.xe Zb (EP X Pe O Q) Po C r s') hc S hg ht he Pl I2 T Qh f2 q2 λD C H' s' I' Sj ⟨b1,b2,b3,b4⟩ Qq q'=>?_;obtain⟨m',Q6⟩:=Qq;refine⟨m',Q6,λh' R1=>⟨.ref D,H',?_,rfl,q'⟩⟩;exact I'.turned (t':=s'.toks) (it:=C) (λb o hb e=>R1.extBut b o hb e) Sj b1 (.inr b2) b3 b4
def Dm(hN:X.N.Nodup)(Rx:X.N[i]?=Za y)(Q7:X.env.scope.names.lookup y=Za .local)(hc:X.calm=true)(S:CompOkG X.N X.env.scope scope xs fr ix)(hi:PI X tg iter wi)(hg:∀cl C Pj Pk fp,PG (blk X scope cl C (xs++fr) Pj Pk fp) tg gt)(ht:∀cl C Pj Pk fp,Fk (blk X scope cl C (xs++fr) Pj Pk fp) PB tc)(he:∀cl C Pj Pk fp,PE (blk X scope cl C (xs++fr) Pj Pk fp) PD te)(Rs:dM (.ListComp PD [⟨tg,iter,PB,0⟩] scope pos) (Za (.Name y py)) spos.line X.env=pure true:=by rfl)(hs:∀v,bZ iter X.env v=pure v:=by intro _;rfl):PS X (.Assign [.Name y py] (.ListComp PD [⟨tg,iter,PB,0⟩] scope pos) spos) (MU (Fm wi ix gt xs.length tc te) (Fc i)):=by
 intro Pe s O H D0 I h;have Pl:∀y∈scope.names,y.2=.free->∃c,X.env.cells.lookup y.1=Za c:=λy hy hf=>I.ok.has y.1 (.inl (S.free y hy hf));rw[exec_Assign_Name_used _ _ _ _ Rs];refine aq (f6 (aq ?_));show aS _ X.A (do let _ <-comprehension (.ListComp PD [⟨tg,iter,PB,0⟩] scope pos) scope X.env _ (newList []) false (eval iter X.env) (Za (assign (.Name y py) X.env))) _ _ s;refine aq (bM (fu (use:=Za (assign (.Name y py) X.env)) (Q:=λ_ s'=>SP X Pe D0 .next s') rfl hs (pR Pl) S.kind S.nm
  (thn (hi Pe s O H _ I h) λv s1 h1=>thn h1 λSv s2 h2=>?_)) (λ_ s' hq=>aN (aN hq)) λ_ _ e=>e)
 obtain⟨it,fp,tn,J,H2,e,I2,T,Qh,f2,q2⟩:=h2;subst e;refine vJ (PR:=λPo C r s'=>compPost (model X.prog X.w) X.A X.xe (Za (assign (.Name y py) X.env)) (λ_ s'=>SP X Pe D0 .next s') Po C r s') hc S hg ht he Pl I2 T Qh f2 q2 λD C H' s' I' Sj ⟨b1,b2,b3,b4⟩ Qq q'=>?_;obtain⟨m',Q6⟩:=Qq;refine jp (xk (v:=.ref D) I' hN Rx (.inl Q7) rfl (λs5 I5 sb=>?_) (.inr Q7));obtain⟨a5,sb,Vp⟩:=sb;have Vv:C≠a5:=by
  rcases Vp with z|z
  ·rw[z];exact b1
  ·exact(b3 _ _ z).symm
 refine⟨m',Q6.sameBut sb Vv,λh' R1=>⟨_,H',?_,q'⟩⟩;exact I5.turned (t':=s5.toks) (it:=C) (λb o hb e=>R1.extBut b o hb e) Sj b1 (.inr b2) b3 b4
end
def CZ(q:PV)(s:Sto):Option (PV×PV):=match q with
 |.tup [p1,p2]=>Za (p1,p2)
 |_=>Zb
def y2:XG:=yTup 2 (yCons (yName 0) (yCons (yName 1) yNil))
def y2_of(h:CZ q s=Za (p1,p2)):y2 q (Zb::Zb::cap) s=Za (Za p1::Za p2::cap):=by
 unfold CZ at h;split at h
 ·cases h;rfl
 ·cases h
def mP(c:XT)(e:XE)(cap:En):List PV->Sto->Out (List PV)
 |[],s=>.ok [] s
 |q::l,s=>match CZ q s with
  |none=>.bad
  |some p=>match c (Za p.1::Za p.2::cap) s with
   |.ok true s1=>match e (Za p.1::Za p.2::cap) s1 with
    |.ok v s2=>match mP c e cap l s2 with
     |.ok vs s3=>.ok (v::vs) s3
     |_=>.bad
    |_=>.bad
   |.ok false s1=>mP c e cap l s1
   |_=>.bad
def x8:mP c e cap (q::l) s=match CZ q s with
  |none=>.bad
  |some p=>match c (Za p.1::Za p.2::cap) s with
   |.ok true s1=>match e (Za p.1::Za p.2::cap) s1 with
    |.ok v s2=>match mP c e cap l s2 with
     |.ok vs s3=>.ok (v::vs) s3
     |_=>.bad
    |_=>.bad
   |.ok false s1=>mP c e cap l s1
   |_=>.bad:=rfl
theorem BN:∀{l:List PV}{s s':Sto}{k:ak},mP c e cap l s≠.ex k s'
 |[],_,_,_,h=>by cases h
 |q::l,s,s',k,h=>by
  unfold mP at h;split at h
  ·cases h
  ·split at h
   ·split at h
    ·split at h<;>cases h
    ·cases h
   ·exact BN h
   ·cases h
def oV(fi:XA)(ix:List Nat)(c:XT)(e:XE)(Z:En)(s:Sto):Out PV:=(fi Z s).bind λl s1=>if l.length<=100000 then(mP c e (nC ix Z) l s1).bind λvs s2=>.ok (.lst vs) s2 else .bad
section
variable{X:Cx}{CB:ak}{E:XK}{PD iter tg:bo}{PB:List bo}{f:XE}{fi:XA}{t:XT}{pos:Pos}{scope:dH}{xs fr:List Str}{ix:List Nat}
def ER.weak2{K}{H}{m}{s}{O}{p1 p2}{cap}(h:ER K H m s O (Za p1::Za p2::cap)):ER K H m s O (Zb::Zb::cap) :=
 ⟨h.len,λi p q=>by
  match i,q with
  |0,q=>cases q
  |1,q=>cases q
  |i+2,q=>exact h.at_ (i+2) p q⟩
def ER.none2{K}{H}{m}{s}{O}{cap}(h:ER K H m s O cap):ER K H m s (aR 2 Zb++O) (Zb::Zb::cap) :=
 ⟨by have:=h.len;simp at this ⊢;omega,λi p q=>by
  match i,q with
  |0,q=>cases q
  |1,q=>cases q
  |i+2,q=>exact h.at_ i p q⟩
def Cmp.env{K}{D}{H1 H2}{m1 m2}{s1 s2}{cap cap'}{Z ρ'}{ys}{done}(C:Cmp K CB D H1 m1 s1 cap Z ys done H2 m2 s2)(er:ER K H2 m2 s2 cap' ρ'):Cmp K CB D H1 m1 s1 cap' ρ' ys done H2 m2 s2:=⟨C.hid,C.at_,C.sr,er,C.rs,C.ex,C.e0⟩
def HG{O}{H1}{m1}{s1}{Z}{J:It}{l}{D}{Q}{t}(S1:SR X.K CB H1 m1 s1)(er:ER X.K H1 m1 s1 O Z)(it:qo X.K CB J l H1 m1 s1)(hD:H1 D=Zb)(Pi:l.length<=100000)(P:Post X.K CB (Rep X.K) E ((mP t f (nC ix Z) l s1).bind λvs s2=>.ok (.lst vs) s2) H1 m1 s1 Q):Di J (TDG X.K CB y2) 2 (TDT X.K CB E0 t) (TDE X.K CB E0 f) (capt ix O) D H1 Q:=by
 refine⟨λi k ys σ2 H2=>∃done m2 s2,Cmp X.K CB D H1 m1 s1 σ2 (Zb::Zb::nC ix Z) ys done H2 m2 s2/\i<=l.length/\ys.length<=i/\k=l.length-i/\(mP t f (nC ix Z) l s1).bind (λvs s2=>.ok (PV.lst vs) s2)=(mP t f (nC ix Z) (l.drop i) s2).bind λvs s2=>.ok (.lst (done++vs)) s2,⟨l.length,[],m1.hide D,s1,(Cmp.start S1 (er.capt ix) hD).env ((er.capt ix).none2.ext0 (Ext0.hide hD).toExtR),a7 _,a7 _,rfl,?_⟩,?_⟩
 ·simp
 rintro i k ys σ2 H2 ⟨done,m2,s2,C,hi,hy,rfl,eq⟩
 obtain⟨RW,Rq⟩:=it i H2 m2 s2 C.e0 C.sr;by_cases Ps:i<l.length
 ·right;have hq:l[i]?=Za l[i]:=aw Ps;obtain⟨go,yl⟩:=RW _ hq;refine⟨go,λx H3 Ta=>?_⟩;obtain⟨e3,S3,r3⟩:=yl x H3 Ta;have C3:=C.step hD e3 S3;rw[eP Ps] at eq;rw[eq] at P;rw[x8] at P eq;cases hp:CZ l[i] s2 with
  |none=>rw[hp] at P;exact P.elim
  |some pq =>
   obtain⟨p1,p2⟩:=pq;rw[hp] at P eq;dsimp only at P eq;refine⟨_,s2,m2,l[i],_,C3.er,S3,r3,y2_of hp,λσ3 Rl=>?_⟩;have C3:=C3.env Rl;refine⟨_,s2,m2,Rl,S3,?_⟩;cases ct:t (Za p1::Za p2::nC ix Z) s2 with
   |bad=>rw[ct] at P;exact P.elim
   |ex c3 s3=>rw[ct] at P;exact P.elim
   |ok bt s3 =>
    rw[ct] at P eq;intro b4 H4 m4 e4 S4 hb;subst hb;have C4:=C3.step hD e4 S4;cases b4 with
    |false =>
     exact LY ⟨l.length-(i+1),by omega,done,m4,s3,C4.env C4.er.weak2,Ps,by omega,rfl,eq⟩
    |true =>
     refine LX ⟨_,s3,m4,C4.er,S4,?_⟩;dsimp only at P eq;cases cf:f (Za p1::Za p2::nC ix Z) s3 with
     |bad=>rw[cf] at P;exact P.elim
     |ex c5 s5=>rw[cf] at P;exact P.elim
     |ok v s5 =>
      rw[cf] at eq;intro w H5 m5 e5 S5 r5;have C5:=C4.step hD e5 S5;refine⟨C5.at_,aX (aE hy (aE hi Pi)) (by decide),l.length-(i+1),by omega,done++[v],m5,s5,(C5.push hD r5).env (C5.push hD r5).er.weak2,Ps,by simp;omega,rfl,?_⟩;rw[eq];dsimp only;cases hh:mP t f (nC ix Z) (l.drop (i+1)) s5 with
      |ok vs s6=>simp[Out.bind]
      |ex c6 s6=>exact absurd hh BN
      |bad=>rfl
 ·left;have Qn:l.length<=i:=eM Ps;rw[fz Qn] at eq;rw[eq] at P;unfold mP at P;obtain⟨TV,rd⟩:=C.done;refine⟨Rq Qn,C.at_,P (.ref D) H2 (m2.bare m1.hid) C.ex TV ?_⟩;rw[cT];exact rd λz=>(S1.hs D z).1 hD
def x9{t}(q:TDE X.K CB E (oV fi ix t f) O H Q):Fm (TDI X.K CB E fi) ix (TDG X.K CB y2) 2 (TDT X.K CB E0 t) (TDE X.K CB E0 f) O H Q:=by
 obtain⟨Z,s,m,er,S,P⟩:=q;refine⟨Z,s,m,er,S,?_⟩;unfold oV at P;cases c:fi Z s with
 |bad=>rw[c] at P;exact P
 |ex c' s'=>rw[c] at P;exact P
 |ok l s1 =>
  rw[c] at P;dsimp only[Out.bind] at P;split at P
  ·rename_i Pi;intro J H1 m1 e1 S1 it D hD;exact HG S1 (er.ext e1) it hD Pi (Post.shift e1 P)
  ·exact P.elim
variable{Qg Qf:Str}{q1 q2 q3:Pos}{kt:Nat}
def Gu(hN:([Qg,Qf]++fr).Nodup)(h1:scope.names.lookup Qg=Za .local)(h2:scope.names.lookup Qf=Za .local):DG (blk X scope cl C ([Qg,Qf]++fr) Pj Pk fp) CB (.Tuple [.Name Qg q1,.Name Qf q2] kt q3) y2 :=
 tU (mV (mM 0 hN rfl (.inl (dE h1)) (.inr (dE h1))) (mV (mM 1 hN rfl (.inl (dE h2)) (.inr (dE h2))) qM))
def Ac(hi:DI X CB E (.Tuple [.Name Qg q1,.Name Qf q2] kt q3) iter fi)(he:∀cl C Pj Pk fp,DE (blk X scope cl C ([Qg,Qf]++fr) Pj Pk fp) CB E0 PD f)(ht:∀cl C Pj Pk fp,DIfs (blk X scope cl C ([Qg,Qf]++fr) Pj Pk fp) CB PB t:=by exact λ_ _ _ _ _=>uP)(hc:X.calm=true:=by rfl)(S:CompOkG X.N X.env.scope scope [Qg,Qf] fr ix:=by exact cokG ‹FnScope _ _ _›)(h1:scope.names.lookup Qg=Za .local:=by rfl)(h2:scope.names.lookup Qf=Za .local:=by rfl)(hs:∀v,bZ iter X.env v=pure v:=by intro _;rfl):DE X CB E (.ListComp PD [⟨.Tuple [.Name Qg q1,.Name Qf q2] kt q3,iter,PB,0⟩] scope pos) (oV fi ix t f) :=
 ⟨(IQ hc S hi.pi (λcl C Pj Pk fp=>(Gu (CB:=CB) S.nd h1 h2).pg) (λcl C Pj Pk fp=>(ht cl C Pj Pk fp).pifs) (λcl C Pj Pk fp=>(he cl C Pj Pk fp).pe) hs).mono λO H Q q=>x9 q⟩
def xY(hi:DI X CB E (.Tuple [.Name Qg q1,.Name Qf q2] kt q3) iter fi)(he:∀cl C Pj Pk fp,DE (blk X scope cl C ([Qg,Qf]++fr) Pj Pk fp) CB E0 PD f)(ht:∀cl C Pj Pk fp,DIfs (blk X scope cl C ([Qg,Qf]++fr) Pj Pk fp) CB PB t:=by exact λ_ _ _ _ _=>uP)(hN:X.N.Nodup:=by exact ‹FnScope _ _ _›.nd)(Rx:X.N[i]?=Za y:=by rfl)(Q7:X.env.scope.names.lookup y=Za .local:=by rfl)(hc:X.calm=true:=by rfl)(S:CompOkG X.N X.env.scope scope [Qg,Qf] fr ix:=by exact cokG ‹FnScope _ _ _›)(h1:scope.names.lookup Qg=Za .local:=by rfl)(h2:scope.names.lookup Qf=Za .local:=by rfl)(Rs:dM (.ListComp PD [⟨.Tuple [.Name Qg q1,.Name Qf q2] kt q3,iter,PB,0⟩] scope pos) (Za (.Name y py)) spos.line X.env=pure true:=by rfl)(hs:∀v,bZ iter X.env v=pure v:=by intro _;rfl):DS X CB E (.Assign [.Name y py] (.ListComp PD [⟨.Tuple [.Name Qg q1,.Name Qf q2] kt q3,iter,PB,0⟩] scope pos) spos) (xSet i (oV fi ix t f)) :=
 ⟨(Dm hN Rx Q7 hc S hi.pi (λcl C Pj Pk fp=>(Gu (CB:=CB) S.nd h1 h2).pg) (λcl C Pj Pk fp=>(ht cl C Pj Pk fp).pifs) (λcl C Pj Pk fp=>(he cl C Pj Pk fp).pe) Rs hs).mono λD O H=>oE λZ s m er S P =>
  x9 ⟨Z,s,m,er,S,Post.so P λv s1 u H1 m1 e1 S1 r1 P1=>P1.next S1 ((er.ext e1).set i r1)⟩⟩
end
def numS(i:Int):Str:=aQ (toString i)
section
variable{X:Cx}{CB:ak}{E:XK}{a b e:bo}{f g:XE}{pos p1 p2 p3:Pos}
def HI:CallR X (.type "str") (λxs H Q=>(∃i,xs=[.int i]/\i.natAbs.log2<1920/\Q (.str (numS i)) H)\/∃x,xs=[.str x]/\Q (.str x) H):=by
 intro Pe s O H xs us Q I r h;rcases h with⟨i,rfl,hz,q⟩|⟨x,rfl,q⟩
 ·obtain⟨u,rfl,t,rfl⟩:=qH r;exact PySem.P.str_of_int hz ⟨.str _,H,I.tok _,⟨_,rfl⟩,q⟩
 ·obtain⟨u,rfl,t,rfl⟩:=qH r;exact PySem.P.str_of_str ⟨.str _,H,I,⟨_,rfl⟩,q⟩
def fStr(vs:List PV)(s:Sto):Out PV:=match vs with
 |[.int i]=>if i.natAbs.log2<1920 then .ok (.str (numS i)) s else .bad
 |[.str x]=>.ok (.str x) s
 |_=>.bad
def b_str:BltR X CB E (.type "str") fStr:=⟨_,HI,by
 intro H m s v x Q S rx P;unfold fStr at P;split at P
 ·split at P
  ·rename_i hz;cases rx with
   |cons r n=>cases n;cases r;exact .inl ⟨_,rfl,hz,P.here S .str⟩
  ·exact P.elim
 ·cases rx with
  |cons r n=>cases n;cases r;exact .inr ⟨_,rfl,P.here S .str⟩
 ·exact P.elim⟩
end
structure DEx(X:Cx)(CB:ak)(e:bo)(f:XE):Prop where
 pex:PEx X e (λE=>TDE X.K CB E f)
structure DSx(X:Cx)(CB:ak)(st:bQ)(u:XS):Prop where
 psx:PSx X st (λE=>TDS X.K CB E u)
section
variable{X:Cx}{CB:ak}{E:XK}{a b c e:bo}{es:List bo}{f g h:XE}{fa:XA}{t:XT}{p pos Pu Pf Pg np hp:Pos}{x y:Str}{st ba0:bQ}{bs QO:List bQ}{u v:XS}{n k:Nat}{D:XF}{ps:List Str}
open Classical in
def Al(f:XE)(fa:XA)(Z:En)(s:Sto):Out PV:=(f Z s).bind λv s1=>match v with
 |.lst l=>(fa Z s1).bind λvs s2=>match vs with
  |[.str y]=>match tP l with
   |some ss=>match ss.findIdx? λz=>decide (z=y) with
    |some j=>if ss.length<1000 then .ok (.int (j:Nat)) s2 else .bad
    |none=>.bad
   |none=>.bad
  |_=>.bad
 |_=>.bad
def Jv(ho:DE X CB E a f)(ha:DA X CB E (e::es) fa)(Pz:cz a "index" X.env (eval a X.env)=eval a X.env:=by rfl)(Qz:((bY Pg (aB (e::es) X.env)).all (λx=>!x.1)&&(eR Pg (cW [] X.env)).all (λx=>x.1.isSome)
   && decide ((e::es).length+([]:List fM).length+(if([]:List fM).isEmpty then 0 else 1)<30))=true:=by rfl)(Py:(Pf.endLine==Pg.line)=true:=by rfl)(hs:SEb X e es:=by rfl)(PY:(bY Pg (aB es X.env)).any (·.1)=false:=by rfl) :
  DE X CB E (.Call (.Attribute a "index" Pf) (e::es) [] Pg) (Al f fa) :=
 ⟨(KA gy jC PySem.F.type_list_index Jb ho.pe ha.pa Pz Qz Py hs PY).mono λO H Q=>oE λZ s m er S P=>⟨Z,s,m,er,S,P.bind λv s1 u H1 m1 e1 S1 r1 P1=>by
  split at P1
  ·rename_i l;cases r1 with
   |@lst ad QV _ h0 pu q0 =>
   refine⟨.inl ⟨rfl,QV,SqL.of h0⟩,Z,s1,m1,er.ext e1,S1,P1.bind λvs s2 us H2 m2 e2 S2 r2 P2=>?_⟩;split at P2
   ·rename_i y;split at P2
    ·rename_i ss hss;split at P2
     ·rename_i j hj;split at P2
      ·rename_i hl;cases r2 with
       |cons r n' =>
        cases n';cases r;have ev:QV=ss.map V.str:=by have e9:=uT hss;rw[e9] at q0;exact q0.strs
        obtain⟨Ps,hp,QJ⟩:=iU.mp hj;refine⟨ad,ss,y,j,rfl,rfl,?_,?_,λi hi z=>?_,hl,P2.here S2 .int⟩
        ·rw[<-ev];exact e2.el ad _ h0 (by intro kvs z;cases z) pu
        ·rw[aw Ps,Zf hp]
        ·have:=QJ i hi;have Sa:i<ss.length:=by lia
         rw[aw Sa] at z;rw[aP z] at this;simp at this
      ·exact P2.elim
     ·exact P2.elim
    ·exact P2.elim
   ·exact P2.elim
  ·exact P1.elim⟩⟩
open Classical in
end
open PySem.Builtin.Str
section
variable{X:Cx}{CB:ak}{E:XK}{a b c e:bo}{es:List bo}{f g h:XE}{fa:XA}{t:XT}{p pos Pu Pf Pg np hp:Pos}{x y:Str}{st ba0:bQ}{bs QO:List bQ}{u v:XS}{n k:Nat}{D:XF}{ps:List Str}
def xBad:XS:=λ_ _=>.bad
def OJ:DS X CB E st xBad:=⟨λPe s O H D I ⟨_,_,_,_,_,P⟩=>P.elim⟩
end
def Cy{x y:Str}(h:x.cps.toList=y.cps.toList):x=y:=by obtain⟨⟨l⟩⟩:=x;obtain⟨⟨k⟩⟩:=y;cases h;rfl
open PySem.NumText PySem.W in
section
variable{X:Cx}
variable{CB:ak}{E:XK}{a b c e:bo}{f g h:XE}{p pos:Pos}
end
section
variable{X:Cx}{CB:ak}{E:XK}{x:Str}{k n:Nat}{ps:List Str}{D:XF}{p pos:Pos}
def bt_dict:bN "dict"=Za (.type "dict"):=by decide +kernel
end
def sem:=am @fnD.eq_1 <|am @xSeq.eq_1 <|am @xSet.eq_1 <|am @xRet.eq_1 <|am @xRetN.eq_1 <|am @xDo.eq_1 <|am @xIf.eq_1 <|am @xEnd.eq_1 <|am @xPut.eq_1 <|am @xPar.eq_1 <|am @xAsg.eq_1 <|am @x1.eq_1 <|am @x2.eq_1 <|am @xVar.eq_1 <|am @xC.eq_1 <|am @xB.eq_1 <|am @xCall.eq_1 <|am @xBM.eq_1 <|am @xCons.eq_1 <|am @xNil.eq_1 <|am @xTup.eq_1 <|am @xLst.eq_1 <|am @xLstC.eq_1 <|am @xTr.eq_1 <|am @xNot.eq_1 <|am @xAnd.eq_1 <|am @xOr.eq_1 <|am @xAndV.eq_1 <|am @xOrV.eq_1 <|am @xNotV.eq_1 <|am @xSl.eq_1 <|am @xNoP.eq_1 <|am @xPart.eq_1 <|am @xIter.eq_1 <|am @xRng1.eq_1 <|am @xIterS.eq_1 <|am @xIterD.eq_1 <|am @xFor.eq_1 <|am @xFrz.eq_1 <|am @frz1.eq_1 <|am @frz1.eq_2 <|am @xAppend.eq_1 <|am @xGet.eq_1 <|am @xJoin.eq_1 <|am @xNewD.eq_1 <|am @xDisp.eq_1 <|am @xIsiT.eq_1 <|am @xIfe.eq_1 <|am @xChain.eq_1 <|am @xBook.eq_1 <|am @Out.bind.eq_1 <|am @Out.bind.eq_2 <|am @Out.bind.eq_3 <|am @Out.so.eq_1 <|am @Out.so.eq_2 <|am @Out.so.eq_3 <|am @SO.noex.eq_1 <|am @SO.noex.eq_2 <|am @fAdd.eq_1 <|am @fAdd.eq_2 <|am @fAdd.eq_3 <|am @fSub.eq_1 <|am @fSub.eq_2 <|am @fMul.eq_1 <|am @fMul.eq_2 <|am @fMul.eq_3 <|am @fDiv.eq_1 <|am @fDiv.eq_2 <|am @fMod.eq_1 <|am @fMod.eq_2 <|am @fPow.eq_1 <|am @fPow.eq_2 <|am @fCmp.eq_1 <|am @fCmp.eq_2 <|am @fEqN.eq_1 <|am @fIs.eq_1 <|am @fIs.eq_2 <|am @fIsnt.eq_1 <|am @fIsnt.eq_2 <|am @fIx.eq_1 <|am @fIx.eq_2 <|am @fIx.eq_3 <|am @fIx.eq_4 <|am @fIx.eq_5 <|am @fNeg.eq_1 <|am @fNeg.eq_2 <|am @fSl.eq_1 <|am @fSl.eq_2 <|am @fLen.eq_1 <|am @fLen.eq_2 <|am @fLen.eq_3 <|am @fLen.eq_4 <|am @fAbs.eq_1 <|am @fAbs.eq_2 <|am @fInt.eq_1 <|am @fInt.eq_2 <|am @fInt.eq_3 <|am @fTuple.eq_1 <|am @fTuple.eq_2 <|am @fList.eq_1 <|am @fList.eq_2 <|am @fList.eq_3 <|am @fAll.eq_1 <|am @fAll.eq_2 <|am @lsOf.eq_1 <|am @lsOf.eq_2 <|am @lsOf.eq_3 <|am @lsOf.eq_4 <|am @dcOf.eq_1 <|am @dcOf.eq_2 <|am @dcOf.eq_3 <|am @kyOf.eq_1 <|am @kyOf.eq_2 <|am @kyOf.eq_3 <|am @toV.eq_1 <|am @toV.eq_2 <|am @toV.eq_3 <|am @toV.eq_4 <|am @toV.eq_5 <|am @toVs.eq_1 <|am @toVs.eq_2 <|am @yName.eq_1 <|am @yNil.eq_1 <|am @yNil.eq_2 <|am @yCons.eq_1 <|am @yCons.eq_2 <|am @yTup.eq_1 <|am @yTup.eq_2 <|@xOnly.eq_1
section
variable{P:aL}{w:bh}{K:aa}{mg:Str->Option ag}{base h:bv}{x q:Str}{st:bQ}{f C:ak}{fd:cq}{ps:List Str}{sp:Sp}{k:Nat}{oc kV dc pm cd ct:ag}{od an:Option ak}{sl:Array (Option ag)}
def Bd(x q:Str)(st:bQ)(ps:List Str):Prop:=∀(kV dc pm:ag)(an:Option ak)(cd ct:ag)(us:List ag),us.length=ps.length->f9 (bV x q (ou st) (nI st) (lR st) .none kV dc pm an cd ct) ⟨us,[]⟩=pure (ps.zip us)
def uN:∀{us:List ag},us.length=n+1->∃v r,us=v::r/\r.length=n
 |v::r,h=>⟨v,r,rfl,jE h⟩
def bd0(e:ps.length=0:=by rfl)(h:∀kV dc pm an cd ct,f9 (bV x q (ou st) (nI st) (lR st) .none kV dc pm an cd ct) ⟨[],[]⟩=pure (ps.zip []):=by intros;rfl):Bd x q st ps:=λ_ _ _ _ _ _ us hl=>by have l0:=hl.trans e;cases bT l0;exact h _ _ _ _ _ _
def bd1(e:ps.length=1:=by rfl)(h:∀kV dc pm an cd ct (v0:ag),f9 (bV x q (ou st) (nI st) (lR st) .none kV dc pm an cd ct) ⟨[v0],[]⟩=pure (ps.zip [v0]):=by intros;rfl):Bd x q st ps:=λ_ _ _ _ _ _ us hl=>by have l0:=hl.trans e;obtain⟨_,us,rfl,l1⟩:=uN l0;cases bT l1;exact h _ _ _ _ _ _ _
def bd2(e:ps.length=2:=by rfl)(h:∀kV dc pm an cd ct (v0 v1:ag),f9 (bV x q (ou st) (nI st) (lR st) .none kV dc pm an cd ct) ⟨[v0,v1],[]⟩=pure (ps.zip [v0,v1]):=by intros;rfl):Bd x q st ps:=λ_ _ _ _ _ _ us hl=>by have l0:=hl.trans e;obtain⟨_,us,rfl,l1⟩:=uN l0;obtain⟨_,us,rfl,l2⟩:=uN l1;cases bT l2;exact h _ _ _ _ _ _ _ _
def bd3(e:ps.length=3:=by rfl)(h:∀kV dc pm an cd ct (v0 v1 v2:ag),f9 (bV x q (ou st) (nI st) (lR st) .none kV dc pm an cd ct) ⟨[v0,v1,v2],[]⟩=pure (ps.zip [v0,v1,v2]):=by intros;rfl):Bd x q st ps:=λ_ _ _ _ _ _ us hl=>by have l0:=hl.trans e;obtain⟨_,us,rfl,l1⟩:=uN l0;obtain⟨_,us,rfl,l2⟩:=uN l1;obtain⟨_,us,rfl,l3⟩:=uN l2;cases bT l3;exact h _ _ _ _ _ _ _ _ _
def bd4(e:ps.length=4:=by rfl)(h:∀kV dc pm an cd ct (v0 v1 v2 v3:ag),f9 (bV x q (ou st) (nI st) (lR st) .none kV dc pm an cd ct) ⟨[v0,v1,v2,v3],[]⟩=pure (ps.zip [v0,v1,v2,v3]):=by intros;rfl):Bd x q st ps:=λ_ _ _ _ _ _ us hl=>by have l0:=hl.trans e;obtain⟨_,us,rfl,l1⟩:=uN l0;obtain⟨_,us,rfl,l2⟩:=uN l1;obtain⟨_,us,rfl,l3⟩:=uN l2;obtain⟨_,us,rfl,l4⟩:=uN l3;cases bT l4;exact h _ _ _ _ _ _ _ _ _ _
def bd5(e:ps.length=5:=by rfl)(h:∀kV dc pm an cd ct (v0 v1 v2 v3 v4:ag),f9 (bV x q (ou st) (nI st) (lR st) .none kV dc pm an cd ct) ⟨[v0,v1,v2,v3,v4],[]⟩=pure (ps.zip [v0,v1,v2,v3,v4]):=by intros;rfl):Bd x q st ps:=λ_ _ _ _ _ _ us hl=>by have l0:=hl.trans e;obtain⟨_,us,rfl,l1⟩:=uN l0;obtain⟨_,us,rfl,l2⟩:=uN l1;obtain⟨_,us,rfl,l3⟩:=uN l2;obtain⟨_,us,rfl,l4⟩:=uN l3;obtain⟨_,us,rfl,l5⟩:=uN l4;cases bT l5;exact h _ _ _ _ _ _ _ _ _ _ _
def bd6(e:ps.length=6:=by rfl)(h:∀kV dc pm an cd ct (v0 v1 v2 v3 v4 v5:ag),f9 (bV x q (ou st) (nI st) (lR st) .none kV dc pm an cd ct) ⟨[v0,v1,v2,v3,v4,v5],[]⟩=pure (ps.zip [v0,v1,v2,v3,v4,v5]):=by intros;rfl):Bd x q st ps:=λ_ _ _ _ _ _ us hl=>by have l0:=hl.trans e;obtain⟨_,us,rfl,l1⟩:=uN l0;obtain⟨_,us,rfl,l2⟩:=uN l1;obtain⟨_,us,rfl,l3⟩:=uN l2;obtain⟨_,us,rfl,l4⟩:=uN l3;obtain⟨_,us,rfl,l5⟩:=uN l4;obtain⟨_,us,rfl,l6⟩:=uN l5;cases bT l6;exact h _ _ _ _ _ _ _ _ _ _ _ _
structure Gx(K:aa)(x:Str):Prop where
 ex:∃X,bO K bc x=Za (Za (.ref X))/\Exc K X
def gx(n:bO K bc x=Za (Za (.ref X)))(a:jw K X bmV "ValueError.__new__"=true)(b:aU K (.ref X) "__getattribute__"=Za (Za (.builtin "BaseException.__getattribute__")))(c:aU K (.ref X) "__getattr__"=Za Zb)(d:aU K (.ref X) "__class__"=Za (Za (.builtin "object.__class__")))(e:gg K (.builtin "object.__class__") "__get__"=Za (Za (.builtin "getset_descriptor.__get__")))(f:i8 K (.builtin "object.__class__")=Za true)(g:gn K X (.type "object")=Za true)(h:gn K X (.type "BaseException")=Za true):Gx K x:=⟨X,n,a,b,c,d,e,f,g,h⟩
structure Gb(K:aa)(C:ak):Prop where
 n:bO K bc "Book"=Za (Za (.ref C))
 p:ee K C cx=true
 h:fb K C=true
 o:gh K C=true
 s:aU K (.ref C) "__setattr__"=Za (Za (.builtin "object.__setattr__"))
 m:fK K C=true
 k:cD K (.ref C)=true
 a:aU K (.ref C) "people"=Za Zb
 b:aU K (.ref C) "things_of"=Za Zb
 c:aU K (.ref C) "mark_of"=Za Zb
 d:aU K (.ref C) "loss_of"=Za Zb
 e:aU K (.ref C) "held_of"=Za Zb
structure Gt(K:aa)(x:Str)(u v:Int):Prop where
 ex:∃(f:ak)(od:Option ak)(a b:Tok)(n:Nat)(sl:Array (Option ag)),bO K bc x=Za (Za (.ref f))/\K.lookup f=Za ⟨.type "tuple",od,.seq #[.int u a,.int v b] n,sl⟩
def gt(h:bO K bc x=Za (Za (.ref f)))(l:K.lookup f=Za ⟨.type "tuple",od,.seq #[.int u a,.int v b] n,sl⟩):Gt K x u v:=⟨f,od,a,b,n,sl,h,l⟩
structure Gi(K:aa)(x:Str)(u:Int):Prop where
 ex:∃t,bO K bc x=Za (Za (.int u t))
def gi(h:bO K bc x=Za (Za (.int u t))):Gi K x u:=⟨t,h⟩
structure Gz(K:aa)(x:Str):Prop where
 z:bO K bc x=Za Zb
def Gz.at_(c:Gz K x)(X:K.In h)(G:h.Ns bc mg):mg x=none:=PySem.W.mg_none_of X G c.z
structure Gf(K:aa)(x:Str)(st:bQ):Prop where
 ex:∃f fd,bO K bc x=Za (Za (.ref f))/\Fun K x x st f fd
structure Gm(K:aa)(C:ak)(x q:Str)(st:bQ):Prop where
 ex:∃f fd,aU K (.ref C) x=Za (Za (.ref f))/\gE K (.ref f)=true/\Fun K x q st f fd
def gf(h:bO K bc x=Za (Za (.ref f)))(l:K.lookup f=Za ⟨oc,od,.func (bV x x (ou st) (nI st) (lR st) .none kV dc pm an cd ct),sl⟩)(c:fX K cd x=true)(k:cD K (.ref f)=true):Gf K x st:=⟨f,_,h,Kb l c k⟩
def gm(h:aU K (.ref C) x=Za (Za (.ref f)))(i:gE K (.ref f)=true)(l:K.lookup f=Za ⟨oc,od,.func (bV x q (ou st) (nI st) (lR st) .none kV dc pm an cd ct),sl⟩)(c:fX K cd q=true)(k:cD K (.ref f)=true):Gm K C x q st:=⟨f,_,h,i,Kb l c k⟩
def Gf.fn(X:K.In h)(G:h.Ns bc mg)(c:Gf K x st)(o:∀{f:ak}{fd:cq},Fun K x x st f fd->FnOk P w K mg base (CXo P w) k f fd ps sp)(b:Bd x x st ps:=by first|exact bd1|exact bd2|exact bd3|exact bd4|exact bd5|exact bd6|exact bd0):Fn P w K mg base x k ps sp :=
 let⟨f,fd,n,U⟩:=c.ex;⟨f,fd,o U,jv X G n,U.kp,U.binds b⟩
def Gm.mt(cl:Cls K C)(c:Gm K C x q st)(o:∀{f:ak}{fd:cq},Fun K x q st f fd->FnOk P w K mg base (CXo P w) k f fd ps sp)(b:Bd x q st ps:=by first|exact bd1|exact bd2|exact bd3|exact bd4|exact bd5|exact bd6|exact bd0):Mt P w K mg base C x k ps sp :=
 let⟨f,fd,n,i,U⟩:=c.ex;⟨f,fd,o U,⟨n,i,U.kp⟩,cl,U.binds b⟩
def Gm.bk(c:Gm K C "__init__" q st)(X:K.In h)(G:h.Ns bc mg)(g:Gb K C)(o:∀{f:ak}{fd:cq},Fun K "__init__" q st f fd->FnOk P w K mg base (CXo P w) k f fd ["self"] sp)(b:Bd "__init__" q st ["self"]:=by exact bd1):MkB P w K mg base "Book" C k ["self"] sp :=
 let⟨f,fd,n,i,U⟩:=c.ex;⟨f,fd,o U,jv X G g.n,⟨g.m,n,i,g.k⟩,U.binds b⟩
end
section
variable{X:Cx}{CB:ak}{E:XK}{a b:bo}{f g:XE}{pos Pf Pg:Pos}
def Lx:OpR X (dF .Mult) (rI iT λi j=>.int (i*j)):=opI λ_ _ _ _ _ _ _ hc q=>mul_int q hc
open Classical in
def Fd(v w:PV)(s:Sto):Out PV:=match v,w with
 |.int i,.int j=>if iT i j then .ok (.int (i*j)) s else .bad
 |_,_=>.bad
def Of:Op2 X.K CB E (rI iT λi j=>V.int (i*j)) Fd:=by
 intro H m s v w x y Q S rx ry P;unfold Fd at P;split at P
 ·cases rx;cases ry;split at P
  ·rename_i h;exact⟨_,_,rfl,rfl,h,P.here S .int⟩
  ·exact P.elim
 ·exact P.elim
def Mw(ha:DE X CB E a f)(hb:DE X CB E b g):DE X CB E (.BinOp a .Mult b pos) (x2 f g Fd):=zE Lx Of ha hb
def zx(v w:PV)(s:Sto):Out PV:=match v,w with
 |.str x,.int n=>if n=0 then .ok (.str cx) s else if n=1 then .ok (.str x) s else .bad
 |_,_=>.bad
def Lw:OpR X (dF .Mult) (λx y H Q=>∃z n,x=.str z/\y=.int n/\((n=0/\Q (.str cx) H)\/(n=1/\Q (.str z) H))):=by
 intro Pe s O H x y v u Q I rx ry h;obtain⟨z,n,rfl,rfl,h⟩:=h;obtain⟨t,rfl⟩:=rx;obtain⟨t',rfl⟩:=ry;rcases h with⟨rfl,q⟩|⟨rfl,q⟩
 ·exact PySem.P.mul_str_none (by decide) (by decide) ⟨.str cx,H,I.tok _,⟨_,rfl⟩,q⟩
 ·refine PySem.P.mul_str (by decide) (λ_ z=>absurd z (by simp)) (λ_ z=>absurd z (by simp)) ?_;rw[Zd (by decide),Zc (by simp)];exact⟨.str z,H,I,⟨_,rfl⟩,q⟩
def Oe:Op2 X.K CB E (λx y H Q=>∃z n,x=.str z/\y=.int n/\((n=0/\Q (.str cx) H)\/(n=1/\Q (.str z) H))) zx:=by
 intro H m s v w x y Q S rx ry P;unfold zx at P;split at P
 ·cases rx;cases ry;split at P
  ·rename_i h;exact⟨_,_,rfl,rfl,.inl ⟨h,P.here S .str⟩⟩
  ·split at P
   ·rename_i h;exact⟨_,_,rfl,rfl,.inr ⟨h,P.here S .str⟩⟩
   ·exact P.elim
 ·exact P.elim
def Mu(ha:DE X CB E a f)(hb:DE X CB E b g):DE X CB E (.BinOp a .Mult b pos) (x2 f g zx):=zE Lw Oe ha hb
def wz(vs:List PV)(s:Sto):Out PV:=match vs with
 |[v]=>match dcOf s v with
  |some l=>match keysOf l with
   |some ss=>if ss.length<64 then .ok (.ref s.nx) (s.add (.lst ((srt ss).map PV.str))) else .bad
   |none=>.bad
  |none=>.bad
 |_=>.bad
def HL(hc:X.calm=true):BltR X CB E (.builtin "sorted") wz:=⟨_,pf hc,by
 intro H m s v x Q S rx P;unfold wz at P;split at P
 ·cases rx with
  |cons r n =>
   cases n;split at P
   ·rename_i l hl;split at P
    ·rename_i ss hs;split at P
     ·rename_i Rk;obtain⟨a,vs,rfl,q,r⟩:=r.dc S hl;refine⟨a,vs,ss,rfl,q,r.keys.trans (xy hs),Rk,λp hp=>?_⟩;obtain⟨S2,e2⟩:=S.newL hp (.ofStrs (srt ss));exact P _ _ _ e2 S2 .new
     ·exact P.elim
    ·exact P.elim
   ·exact P.elim
 ·exact P.elim⟩
def HQ(f:XE)(Z:En)(s:Sto):Out PV:=(f Z s).bind λv s1=>match v with
 |.ref n=>match s1.get n with
  |some (.lst l)=>match l[l.length-1]? with
   |some w=>.ok w (s1.set n (.lst l.dropLast))
   |none=>.bad
  |_=>.bad
 |_=>.bad
theorem Reps.dropLast{K:aa}{H:Hp}{m:Mp}{s:Sto}{vs:List V}{l:List PV}(r:Reps K H m s vs l):Reps K H m s vs.dropLast l.dropLast:=by
 induction r using Reps.rec (motive_1:=λ_ _ _=>True) (motive_3:=λ_ _ _=>True)<;>try trivial
 ·exact .nil
 ·rename_i r rs _ ih;cases rs with
  |nil=>exact .nil
  |cons r' UI=>exact .cons r ih
def Mx(ho:DE X CB E a f)(Pz:cz a "pop" X.env (eval a X.env)=eval a X.env:=by rfl)(Py:(Pf.endLine==Pg.line)=true:=by rfl):DE X CB E (.Call (.Attribute a "pop" Pf) [] [] Pg) (HQ f) :=
 ⟨(N0 gy lz PySem.F.type_list_pop Om ho.pe Pz Py).mono λO H Q=>oE λZ s m er S P=>⟨Z,s,m,er,S,P.bind λv s1 u H1 m1 e1 S1 r1 P1=>by
  split at P1
  ·split at P1
   ·rename_i n _ l hg;split at P1
    ·rename_i w hw;obtain⟨_,QV,h0,r0⟩:=S1.get hg;cases r1 with
     |ref hn =>
     obtain⟨u,hu,ru⟩:=r0.get hw;obtain⟨S3,e3⟩:=S1.putL hg r0.dropLast;exact⟨.inl ⟨rfl,QV,SqL.of h0⟩,_,QV,u,rfl,rfl,h0,by rw[r0.length];exact hu,P1 _ _ _ e3 S3 (ru.ext e3)⟩
    ·exact P1.elim
   ·exact P1.elim
  ·exact P1.elim⟩⟩
def Dd(l:List (Key×PV))(k:Key):List (Key×PV):=l.filter λkv=>decide (kv.1≠k)
theorem RepKs.drop{K:aa}{H:Hp}{m:Mp}{s:Sto}{k:Key}:∀{vs:List (Key×V)}{l:List (Key×PV)},RepKs K H m s vs l->RepKs K H m s (yn vs k) (Dd l k)
 |_,_,.nil=>.nil
 |_,_,.cons (k:=k') r rs=>by
  unfold yn Dd;rw[gM,gM];by_cases h:k'=k
  ·rw[Zd (by simp[h]),Zd (by simp[h])];exact rs.drop
  ·rw[Zc (by simp[h]),Zc (by simp[h])];exact .cons r rs.drop
def EA(f g:XE)(Z:En)(s:Sto):Out PV:=(f Z s).bind λv s1=>match v with
 |.ref n=>match s1.get n with
  |some (.dct _)=>(g Z s1).bind λw s2=>match s2.get n with
   |some (.dct l)=>match kyOf w with
    |some k=>match oZ l k with
     |some p=>.ok p (s2.set n (.dct (Dd l k)))
     |none=>.bad
    |none=>.bad
   |_=>.bad
  |_=>.bad
 |_=>.bad
def MB(ho:DE X CB E a f)(he:DE X CB E b g)(mm:M1 X a "pop" Pf b Pg:=by exact⟨rfl,rfl,rfl,rfl⟩):DE X CB E (.Call (.Attribute a "pop" Pf) [b] [] Pg) (EA f g) :=
 ⟨(DY ho.pe he.pe mm).mono λO H Q=>oE λZ s m er S P=>⟨Z,s,m,er,S,P.bind λv s1 u H1 m1 e1 S1 r1 P1=>by
  split at P1
  ·split at P1
   ·rename_i n _ l0 hg;obtain⟨_,QV,h0,r0⟩:=S1.get hg;cases r1 with
    |ref hn =>
    refine⟨_,rfl,.inl ⟨QV,.inl h0⟩,Z,s1,m1,er.ext e1,S1,P1.bind λw s2 u2 H2 m2 e2 S2 r2 P2=>?_⟩;split at P2
    ·rename_i l Tv;split at P2
     ·rename_i k hk;split at P2
      ·rename_i p hv;obtain⟨_,vs,h1,r⟩:=S2.get Tv;obtain⟨u,eu,ru⟩:=(r.val k).1 p hv;obtain⟨S3,e3⟩:=S2.putD Tv (r.drop (k:=k));rw[<-e2.ad _ hn];exact⟨vs,k,u,h1,qi r2 hk,eu,P2 _ _ _ e3 S3 (ru.ext e3)⟩
      ·exact P2.elim
     ·exact P2.elim
    ·exact P2.elim
   ·exact P1.elim
  ·exact P1.elim⟩⟩
def Ite(K:aa)(a:ak):It :=
 ⟨λi H=>∃xs x,SqL K H a xs/\xs[i]?=Za x,λi H x H'=>∃p,H p=Zb/\x=.ref p/\∀xs,SqL K H a xs->∃y,xs[i]?=Za y/\H'=upd H p (.tup [.int i,y]),λi H=>∃xs,SqL K H a xs/\xs.length<=i⟩
def Inv.turned2(I:Inv X Pe O H s)(k:∀b o,b≠e->b≠it->s.heap.get? b=Za o->h'.get? b=Za o)(fe:zS X Pe H e)(fi:zS X Pe H it)(hn:s.heap.objs.size<=n)(new:ObjOk X.prog X.w (upd H n (.tup xs)) h' n (.tup xs)):Inv X Pe O (upd H n (.tup xs)) { s with heap:=h',toks:=t' }:=by
 have nH:H n=none:=I.hok.fresh hn;have nn:∀b u,H b=Za u->b≠n:=λb u q z=>by rw[z,nH] at q;cases q
 have Q4:∀b u,H b=Za u->b≠e/\b≠it:=λb u q=>⟨λz=>(by rw[z,fe.1] at q;cases q),λz=>(by rw[z,fi.1] at q;cases q)⟩;have k':∀b o,b∉[e,it]->s.heap.get? b=Za o->h'.get? b=Za o:=λb o hc q=>k b o (λz=>hc (by simp[z])) (λz=>hc (by simp[z])) q;refine I.step (g':=s.gens) (d':=s.drawn) (ch:=[e,it]) (λb hb=>?_) (λb o _ _ hc e _=>k' b o hc e) (λb o _ _ hc e _=>⟨o.slots,k' b o hc e⟩) (λb o _ q z=>?_)
  (λb o hc e=>⟨o,k' b o hc e⟩) (λb _ q=>?_) (λb _ _ q=>?_) (λb ps q=>⟨#[],?_⟩) (λm hm=>?_) (λb u q=>?_) I.bare
 ·rcases af.mp hb with z|z
  ·subst z;exact⟨fe.2.2.2.1,fe.2.1,fe.2.2.2.2.1,fe.2.2.2.2.2⟩
  ·have z:=ap.mp z;subst z;exact⟨fi.2.2.2.1,fi.2.1,fi.2.2.2.2.1,fi.2.2.2.2.2⟩
 ·rw[lO (aG (ay (az q) hn))];exact z
 ·rw[lO (nn b _ q)];exact q
 ·rw[lO (nn b _ q)];exact q
 ·rw[lO (nn b _ q),q];simp
 ·obtain⟨o,es,ep,ho,r⟩:=hm;exact⟨o,es,ep,k _ o (bW fe.2.1) (bW fi.2.1) ho,r⟩
 ·by_cases hb:b=n
  ·subst hb;rw[lQ] at q;cases q;exact new
  ·rw[lO hb] at q;refine(I.hok b u q).stay (λc v hc w=>?_) (λc w=>by rw[lO (nn c _ w)];exact w) λc xs w=>by rw[lO (nn c _ w)];exact w
   have:c≠e/\c≠it:=by
    rcases hc with z|z
    ·rw[z];exact Q4 b u q
    ·exact Q4 c _ z
   exact k c v this.1 this.2 w
def GO{P:aL}{w:bh}{K:aa}{es:List bo}{x1:_}{px:Pos}(a e it:ak)(PH:e≠it):Turn P w K (.Tuple es x1 px) (Ite K a) [e,it] e (λi h=>(∃old,IsEnum h e it i old)/\h.IsListIter it a i) where
 mem:=by simp
 obj:=λi h st b hb=>by
  obtain⟨⟨old,he⟩,o,e1,c,d⟩:=st;rcases af.mp hb with z|z
  ·subst z;exact⟨_,he,λv z=>by cases z⟩
  ·have z:=ap.mp z;subst z;exact⟨o,e1,λv z=>by rw[d] at z;cases z⟩
 keep:=λi h h' st k=>⟨let⟨old,he⟩:=st.1;⟨old,k e (by simp) _ he⟩,st.2.at λo e=>k it (by simp) o e⟩
 item:=by
  intro X hP hw hK hc i Pe s O H E I hf st hg;subst hP hw hK;obtain⟨xs,x,hq,hx⟩:=hg;obtain⟨its,rv,p,hz⟩:=I.list hq;obtain⟨u,hu,ru⟩:=rv.get hx;obtain⟨⟨old,he⟩,st⟩:=st;refine wpAny_pyNext_enum_item he st p.isList (x:=u) (by simpa using hu) PH λh' eo Qt ht hs kp=>⟨_,rfl,?_⟩;refine wpAny_letOwnedTupleGo_enum eo λh2 e2 sb=>?_;have hel:e<s.heap.objs.size:=az he;have Te:h2.get? s.heap.objs.size=Za { cls:=.type "tuple",data:=.seq #[.int i s.toks,u] }:=(sb.2 _ (gc hel)).trans ht;have UV:∀b o,b≠e->b≠it->s.heap.get? b=Za o->h2.get? b=Za o:=λb o b1 b2 q=>(sb.2 b b1).trans (kp b o b1 b2 q);have I1:Inv X Pe O (upd H s.heap.objs.size (.tup [.int i,x])) { s with heap:=h2,toks:=s.toks+1 } :=
   I.turned2 UV (hf e (by simp)) (hf it (by simp)) (ao _) ⟨(show 2<=aK by decide),[.int i s.toks,u],.cons ⟨_,rfl⟩ (.cons ru .nil),_,Te,rfl,0,rfl⟩
  refine⟨.ref s.heap.objs.size,_,I1,rfl,⟨_,I.fresh,rfl,λys hy=>⟨x,by rw[I.list_inj hy hq];exact hx,rfl⟩⟩,⟨⟨u,by simpa using e2⟩,Qt.at λo q=>(sb.2 it (bW PH)).trans q⟩,λb hb=>?_⟩;have Ps:b≠s.heap.objs.size:=by
   rcases af.mp hb with z|z
   ·rw[z];exact aG hel
   ·rw[ap.mp z];obtain⟨o,q,_⟩:=st;exact aG (az q)
  rw[lO Ps];exact(hf b hb).1
 done:=by intro X hP hw hK hc i Pe s O H E I hf st hg;subst hP hw hK;obtain⟨xs,hq,hx⟩:=hg;obtain⟨its,rv,p,hz⟩:=I.list hq;obtain⟨f0,f1,f2,f3,f4,f5⟩:=hf it (by simp);obtain⟨⟨old,he⟩,st⟩:=st;have hl:=rv.length;exact wpAny_pyNext_enum_end (I.ok.hd hc) he st p.isList (by simp;lia) λh' eb=>⟨rfl,I.turned (t':=s.toks) (λb o hb e=>eb b o hb e) f0 f1 f3 f4 f5⟩
 self:=λ_ _ _ _ _ st h=>let⟨_,he⟩:=st.1;wpAny_pyIter_enum he h
def qY(k:Nat):List PV->List PV
 |[]=>[]
 |p::r=>.tup [.int k,p]::qY (k+1) r
theorem xD:∀(l:List PV)(k i:Nat),(qY k l)[i]?=(l[i]?).map λp=>PV.tup [.int (k+i:Nat),p]
 |[],_,_=>rfl
 |p::r,k,0=>rfl
 |p::r,k,i+1=>by have:=xD r (k+1) i;rw[show k+1+i=k+(i+1) by lia] at this;exact this
theorem su:∀(l:List PV)(k:Nat),(qY k l).length=l.length
 |[],_=>rfl
 |p::r,k=>congrArg (·+1) (su r (k+1))
def wk(fa:XA)(Z:En)(s:Sto):Out (List PV):=(fa Z s).bind λvs s1=>match vs with
 |[.lst l]=>.ok (qY 0 l) s1
 |_=>.bad
def Cu:bN "enumerate"=Za (.type "enumerate"):=by decide +kernel
def iEnum(K:aa)(ta:TA):TI:=λO H R=>ta O H λxs H1=>∃a ys,xs=[.ref a]/\SqL K H1 a ys/\R (Ite K a) H1
def Lo{es:List bo}{x1:_}{px p:Pos}{ta:TA}(hg:Gl X "enumerate")(hm:X.mg "enumerate"=Zb)(ha:PA X [a] ta)(hs:aB [a] X.env=[(false,eval a X.env)]:=by rfl):PI X (.Tuple es x1 px) (.Call (.Name "enumerate" p) [a] [] pos) (iEnum X.K ta):=by
 intro Pe s O H R I h;refine Call_ (AK I hg hm Cu (dG (thn (ha pos Pe s O H _ I h) λus s1=>e4 λvs H1 I1 r1 q1=>?_) hs rfl));obtain⟨b,ys,e,hq,q⟩:=q1;subst e;cases r1 with
 |cons r rr =>
  cases rr;cases r;obtain⟨its,rv,pl,hz⟩:=I1.list hq;refine call_enumerate_list pl.isList λh' he hi hsz kp=>?_;refine wpAny_pyIter_enum he ⟨s1.heap.objs.size+1,[s1.heap.objs.size+1,s1.heap.objs.size],_,_,H1,rfl,I1.kept (t':=s1.toks) kp,GO b (s1.heap.objs.size+1) s1.heap.objs.size (Nat.succ_ne_self _),⟨⟨_,he⟩,hi⟩,λc hc=>?_,q⟩;have RI:s1.heap.objs.size<=c:=by
   rcases af.mp hc with z|z
   ·rw[z];lia
   ·rw[ap.mp z];exact ao _
  exact I1.fpOk RI (I1.hok.fresh RI)
def iterE{K:aa}{H0:Hp}{m0:Mp}{s0:Sto}{b:ak}{l:List PV}(r:Rep K H0 m0 s0 (.ref b) (.lst l)):qo K CB (Ite K b) (qY 0 l) H0 m0 s0:=by
 intro i H m s ex S;obtain⟨b',vs,e,hq,rs⟩:=(r.ext0 ex.toExtR).ls S (show lsOf s (.lst l)=Za l from rfl);cases e;refine⟨λq' P9=>?_,λhi=>⟨vs,hq,by rw[rs.length,<-su l 0];exact hi⟩⟩;rw[xD] at P9;cases cl:l[i]? with
 |none=>rw[cl] at P9;cases P9
 |some q0 =>
  rw[cl] at P9;cases P9;obtain⟨u,hu,ru⟩:=rs.get cl;refine⟨⟨vs,u,hq,hu⟩,λx H' ⟨p,hp,e1,e2⟩=>?_⟩;obtain⟨y,hy,e3⟩:=e2 vs hq;subst e1 e3;rw[hu] at hy;cases hy;have k:=My.sF (o:=.tup [.int (i:Int),u]) hp;have S':=S.same k;exact⟨.same k,S',.tup (.inl ⟨.inl lQ,S'.pure_tup lQ⟩) (by rw[fF];exact .cons .int (.cons (ru.ext (.same k)) .nil))⟩
def CM{es:List bo}{x1:_}{px p:Pos}{fa:XA}(ha:DA X CB E [a] fa)(hg:Gl X "enumerate":=by rfl)(hm:X.mg "enumerate"=none:=by assumption)(hs:aB [a] X.env=[(false,eval a X.env)]:=by rfl):DI X CB E (.Tuple es x1 px) (.Call (.Name "enumerate" p) [a] [] pos) (wk fa) :=
 ⟨(Lo hg hm ha.pa hs).mono λO H R q=>TDI.bindA q λv s1 u H1 m1 S1 r1 P=>by
  split at P
  ·rename_i l s' hF;split at hF
   ·cases hF;cases r1 with
    |cons r n =>
     cases n;cases r with
     |lst h1 h2 h3=>exact⟨_,_,rfl,SqL.of h1,P _ _ _ .refl S1 (iterE (.lst h1 h2 h3))⟩
   ·cases hF
  ·rename_i hF;split at hF<;>cases hF
  ·exact P.elim⟩
def O9(v:PV)(s:Sto):Out PV:=match v with
 |.lst l=>.ok (.lst l) s
 |v=>frz1 v s
def Ey(f:XE)(Z:En)(s:Sto):Out PV:=(f Z s).bind O9
def MA(h:DE X CB E a f):DE X CB E a (Ey f):=⟨h.pe.mono λO H Q=>oE λZ s m er S P=>⟨Z,s,m,er,S,P.bind λv s1 u H1 m1 e1 S1 r1 P1=>by
 unfold O9 at P1;split at P1
 ·exact P1.here S1 r1
 ·cases c:frz1 v s1 with
  |ok w s2 =>
   rw[c] at P1;obtain⟨S2,e2,r2⟩:=S1.frz r1 c;exact P1 u H1 m1 e2 S2 r2
  |ex c' s' =>
   unfold frz1 at c
   repeat' split at c
   all_goals cases c
  |bad=>rw[c] at P1;exact P1.elim⟩⟩
end
end L2
namespace Att
open PySem PySem.W PySem.Calls PyProof.Rows
def WtOk(ns:List Int):Prop:=∀n∈ns,bU n<=1048576
theorem JI:∀{ns:List Int},gQ (ns.map gF)<=2^20->WtOk ns
 |[],_,_,h=>nomatch h
 |m::r,h,n,hn=>by
  have e:gQ ((m::r).map gF)=bU m+1+gQ (r.map gF):=rfl;rw[e] at h;rcases af.mp hn with z|z
  ·rw[z];lia
  ·exact JI (show gQ (r.map gF)<=2^20 by lia) n z
def attach_callW{l:gC}{n:Nat}{q:aL}{Qj:List Str}{XP:(Str->Option ag)->bv->Prop}{YP:bh->bv->Prop}{d:DefRec}(hn:l.most=Za n)(Tx:d.params.defaults=[])(call:∀(w:bh)(sa0 Pr:ax)(mg mb:Str->Option ag)(fa:ak)(o:Obj)(pm cd Qo:ag)(a:ak)(vs:List ag)(ns:List Int),
   Ground q Qj [] XP w sa0 mg mb Pr.heap->YP w Pr.heap ->
   Pr.heap.get? fa=Za o->o.data=.func (docDef d.name d.params d.body d.scope pm cd Qo)->Pr.heap.CodeRec cd d.name->mg d.name=Za (.ref fa) ->
   Pr.heap.get? a=Za { cls:=.type "list",data:=.seq vs.toArray }->IntsAre vs ns->ns.length<=n->WtOk ns->Pr.gens=#[] ->
   gw (model l.prog w) jt (.call (.ref fa) ⟨[.ref a],[]⟩) (λr s'=>r=.ok (.ret (.bool true))/\OldK Pr.heap s'.heap/\s'.os=Pr.os/\gR s'.gens) Pr) :
  kZ q Qj XP YP l.row.toRowW d [] (λf vs=>kW f vs):=by
 intro w sa0 Pr mg mb G Y fa o pm cd Qo dV kV ho hd QA hD Tl hg args RQ as Ru Vc hrd U2 hlo;obtain rfl:dV=.none:=Dflts.none hD Tx;obtain rfl:kV=.none:=Dflts.noKw hD;obtain⟨a,vs,ns,rfl,rfl,R5,Ra,Pi⟩:=GW hn Ru U2;have hw:WtOk ns:=by have h1:(WData.list (ns.map gF)).layable=true:=(dg.mp Vc) _ ai;simp only[WData.layable,cg,decide_eq_true_eq] at h1;exact JI h1.2
 refine enter_call (jq (call w sa0 Pr mg mb fa o pm cd Qo a vs ns G Y ho (fd_plain hd) QA Tl R5 Ra Pi hw hg) λr s' hq=>?_);obtain⟨rfl,h2,h3,h4⟩:=hq;exact⟨.inl ⟨.bool true,.bool true,[],rfl,λ_=>rfl,.bool true,G4 l _,λ_=>⟨List.Pairwise.nil,λ_ hm=>(nomatch hm)⟩⟩,h2,h3,h4⟩
end Att
namespace L2
open PySem PySem.Spec PyProof.Rows
def walk_ofW{l:gC}{n k:Nat}{q:aL}{Qj:List Str}{XP:(Str->Option ag)->bv->Prop}{YP:bh->bv->Prop}{d:DefRec}{K:Params->aa}{CX:bh->CXT}{sp:bh->Sp}{x:Str}(hn:l.most=Za n)(Ug:n<=aK)(Tx:d.params.defaults=[])(hr:Room k jt)(hY:∀(w:bh)(h:bv),YP w h->(K w.params).In h)(F:∀(w:bh)(mg:Str->Option ag)(fa:ak)(h:bv),(K w.params).In h->h.Ns bc mg->mg d.name=Za (.ref fa) ->
   ∃fd:cq,(∀(s:ax)(u:ag),jz s fd ⟨[u],[]⟩ [(x,u)]) /\
    ∀base:bv,(K w.params).In base->base.Ns bc mg->FnOk l.prog w (K w.params) mg base (CX w) k fa fd [x] (sp w))(Ri:∀(w:bh)(H:Hp)(a:ak)(ns:List Int),ns.length<=n->Att.WtOk ns->MQ H->SqL (K w.params) H a (ns.map V.int)->sp w [.ref a] H (λv _=>v=.bl true) λ_ _ _=>False)(Vw:∀(w:bh)(H:Hp)(s:ax)(e:ag)(s':ax),CX w [] H s (λ_ _ _=>False) e s'->False) :
  kZ q Qj XP YP l.row.toRowW d [] (λf vs=>kW f vs):=by
 refine Att.attach_callW hn Tx λw sa0 Pr mg mb fa o pm cd Qo a vs ns G Y ho hd QA Tl R5 Ra Pi hw hg=>?_;have KX:=hY w _ Y;obtain⟨fd,hb,hF⟩:=F w mg fa _ KX G.T.g Tl;exact Jj KX G.T.g G.T.b G.T.builtins G.T.nolimit hg R5 Ra (aE Pi Ug) hr hF hb (λH hO hS=>Ri w H a ns Pi hw hO hS) λH e s'=>Vw w H Pr e s'
def Ol(hi:bU i<=33554432)(hj:bU j<=33554432):iT i j:=by unfold iT;intro h;simp only[cg,decide_eq_true_eq,Builtin.Int.intTooBig] at h;have:((bU i:Int)+(bU j:Int))>(bitsLine:Nat):=h.2;unfold bitsLine at this;lia
section
variable{X:Cx}{CB:ak}{E:XK}{a b c e:bo}{f g h:XE}{fa:XA}{pos:Pos}
def tR:List PV->Option (List Int)
 |[]=>Za []
 |.int i::l=>(tR l).map (i::·)
 |_=>Zb
theorem vG:∀l:List Int,tR (l.map PV.int)=Za l
 |[]=>rfl
 |x::r=>by rw[al];unfold tR;rw[vG r];rfl
theorem uu{K:aa}{H:Hp}{m:Mp}{s:Sto}:∀{l:List PV}{vs:List V}{is:List Int},Reps K H m s vs l->tR l=Za is->vs=is.map V.int
 |[],_,is,.nil,h=>by cases h;rfl
 |p::l,_,is,.cons r rs,h=>by
  cases p with
  |int i =>
   have h:(tR l).map (i::·)=Za is:=h;cases c:tR l with
   |none=>rw[c] at h;cases h
   |some js =>
    rw[c] at h;cases h;cases r;rw[uu rs c];rfl
  |_=>cases h
def JC(hc:X.calm=true):CallR X (.builtin "sum") (λxs H Q=>∃(p:ak)(is:List Int),xs=[.ref p]/\SqL X.K H p (is.map V.int)/\Q (.int is.sum) H):=by
 intro Pe s O H xs us Q I r h;obtain⟨p,is,rfl,hq,q⟩:=h;obtain⟨u,rfl,ru⟩:=qH r;cases ru;obtain⟨its,rv,pl,Sw⟩:=I.list hq;have Sl:∀{is:List Int}{its:List ag},Vals (is.map V.int) its->∃ys:List (Int×Tok),its=ys.map (λy=>f7 y.1 y.2)/\ys.map (·.1)=is:=by
  intro is;induction is with
  |nil=>intro its rv;cases rv;exact⟨[],rfl,rfl⟩
  |cons i is ih =>
   intro its rv;cases rv with
   |cons r rs =>
    obtain⟨t,rfl⟩:=r;obtain⟨ys,rfl,rfl⟩:=ih rs;exact⟨(i,t)::ys,rfl,rfl⟩
 obtain⟨ys,rfl,rfl⟩:=Sl rv;have hl:s.heap.IsList p (intItems ys.toArray):=by
  have:=pl.isList;have e:intItems ys.toArray=(ys.map (λy=>f7 y.1 y.2)).toArray:=by simp[intItems]
  rw[e];exact this
 refine sum_intListG (I.ok.hd hc) hl λh' tk t' hk=>?_;have e:preSum (numAt ys.toArray) ys.toArray.size=(ys.map (·.1)).sum:=by rw[preSum_eq,gS (by simp)]
 rw[e];exact⟨.int _,H,I.kept hk,⟨_,rfl⟩,q⟩
def Nk(vs:List PV)(s:Sto):Out PV:=match vs with
 |[v]=>match lsOf s v with
  |some l=>match tR l with
   |some is=>.ok (.int is.sum) s
   |none=>.bad
  |none=>.bad
 |_=>.bad
def b_sum(hc:X.calm=true):BltR X CB E (.builtin "sum") Nk:=⟨_,JC hc,by
 intro H m s v x Q S rx P;unfold Nk at P;split at P
 ·cases rx with
  |cons r n =>
   cases n;split at P
   ·rename_i l hl;split at P
    ·rename_i is hb;obtain⟨a,vs,rfl,q,r⟩:=r.ls S hl;have e:=uu r hb;subst e;exact⟨a,is,rfl,q,P.here S .int⟩
    ·exact P.elim
   ·exact P.elim
 ·exact P.elim⟩
def Kn:bN "sum"=Za (.builtin "sum"):=by decide +kernel
def Itz(K:aa)(a b:ak):It :=
 ⟨λi H=>∃xs ys x y,SqL K H a xs/\SqL K H b ys/\xs[i]?=Za x/\ys[i]?=Za y,λi H x H'=>∃p,H p=Zb/\x=.ref p/\∀xs ys,SqL K H a xs->SqL K H b ys->∃u v,xs[i]?=Za u/\ys[i]?=Za v/\H'=upd H p (.tup [u,v]),λi H=>∃xs ys,SqL K H a xs/\SqL K H b ys/\(xs.length<=i\/ys.length<=i)⟩
def Inv.turnedL{Pe:List (ak×Obj)}{O:St}{H:Hp}{s:ax}{h':bv}{t':Nat}{ch:List ak}{n:ak}{xs:List V}(I:Inv X Pe O H s)(k:∀b o,b∉ch->s.heap.get? b=Za o->h'.get? b=Za o)(fe:∀b∈ch,zS X Pe H b)(hn:s.heap.objs.size<=n)(new:ObjOk X.prog X.w (upd H n (.tup xs)) h' n (.tup xs)):Inv X Pe O (upd H n (.tup xs)) { s with heap:=h',toks:=t' }:=by
 have nH:H n=none:=I.hok.fresh hn;have nn:∀b u,H b=Za u->b≠n:=λb u q z=>by rw[z,nH] at q;cases q
 have Q4:∀b u,H b=Za u->b∉ch:=λb u q z=>by rw[(fe b z).1] at q;cases q
 refine I.step (g':=s.gens) (d':=s.drawn) (ch:=ch) (λb hb=>⟨(fe b hb).2.2.2.1,(fe b hb).2.1,(fe b hb).2.2.2.2.1,(fe b hb).2.2.2.2.2⟩) (λb o _ _ hc e _=>k b o hc e) (λb o _ _ hc e _=>⟨o.slots,k b o hc e⟩) (λb o _ q z=>?_)
  (λb o hc e=>⟨o,k b o hc e⟩) (λb _ q=>?_) (λb _ _ q=>?_) (λb ps q=>⟨#[],?_⟩) (λm hm=>?_) (λb u q=>?_) I.bare
 ·rw[lO (aG (ay (az q) hn))];exact z
 ·rw[lO (nn b _ q)];exact q
 ·rw[lO (nn b _ q)];exact q
 ·rw[lO (nn b _ q),q];simp
 ·obtain⟨o,es,ep,ho,r⟩:=hm;exact⟨o,es,ep,k _ o (λz=>(fe _ z).2.1 rfl) ho,r⟩
 ·by_cases hb:b=n
  ·subst hb;rw[lQ] at q;cases q;exact new
  ·rw[lO hb] at q;refine(I.hok b u q).stay (λc v hc w=>?_) (λc w=>by rw[lO (nn c _ w)];exact w) λc xs w=>by rw[lO (nn c _ w)];exact w
   have:c∉ch:=by
    rcases hc with z|z
    ·rw[z];exact Q4 b u q
    ·exact Q4 c _ z
   exact k c v this w
def Inv.turnedE{Pe:List (ak×Obj)}{O:St}{H:Hp}{s:ax}{h':bv}{t':Nat}{ch:List ak}(I:Inv X Pe O H s)(k:∀b o,b∉ch->s.heap.get? b=Za o->h'.get? b=Za o)(fe:∀b∈ch,zS X Pe H b):Inv X Pe O H { s with heap:=h',toks:=t' }:=by
 have Q4:∀b u,H b=Za u->b∉ch:=λb u q z=>by rw[(fe b z).1] at q;cases q
 refine I.step (g':=s.gens) (d':=s.drawn) (ch:=ch) (λb hb=>⟨(fe b hb).2.2.2.1,(fe b hb).2.1,(fe b hb).2.2.2.2.1,(fe b hb).2.2.2.2.2⟩) (λb o _ _ hc e _=>k b o hc e) (λb o _ _ hc e _=>⟨o.slots,k b o hc e⟩) (λb o _ q z=>z)
  (λb o hc e=>⟨o,k b o hc e⟩) (λb _ q=>q) (λb _ _ q=>q) (λb ps q=>⟨#[],by simpa using q⟩) (λm hm=>?_) (λb u q=>?_) I.bare
 ·obtain⟨o,es,ep,ho,r⟩:=hm;exact⟨o,es,ep,k _ o (λz=>(fe _ z).2.1 rfl) ho,r⟩
 ·refine(I.hok b u q).stay (λc v hc w=>?_) (λc w=>w) λc xs w=>w;have:c∉ch:=by
   rcases hc with z|z
   ·rw[z];exact Q4 b u q
   ·exact Q4 c _ z
  exact k c v this w
def Im{P:aL}{w:bh}{K:aa}{es:List bo}{x1:_}{px:Pos}(a b z TI TO i1 i2:ak)(D:ZipApart z TI TO i1 i2 a b):Turn P w K (.Tuple es x1 px) (Itz K a b) [z,TI,TO,i1,i2] z (λi h=>IsZip h z TI TO .none/\IsPair h TI (.ref i1) (.ref i2)/\(∃u v,IsPair h TO u v)/\h.IsListIter i1 a i/\h.IsListIter i2 b i) where
 mem:=by simp
 obj:=λi h st c hc=>by
  obtain⟨hz,Rz,⟨u,v,RJ⟩,⟨o1,g1,c1,d1⟩,⟨o2,g2,c2,d2⟩⟩:=st;simp only[af,cK,or_false] at hc;rcases hc with q|q|q|q|q
  ·subst q;exact⟨_,hz,λv z=>by cases z⟩
  ·subst q;exact⟨_,Rz,λv z=>by cases z⟩
  ·subst q;exact⟨_,RJ,λv z=>by cases z⟩
  ·subst q;exact⟨o1,g1,λv z=>by rw[d1] at z;cases z⟩
  ·subst q;exact⟨o2,g2,λv z=>by rw[d2] at z;cases z⟩
 keep:=λi h h' st k=>⟨k z (by simp) _ st.1,k TI (by simp) _ st.2.1,(let⟨u,v,q⟩:=st.2.2.1;⟨u,v,k TO (by simp) _ q⟩),st.2.2.2.1.at λo e=>k i1 (by simp) o e,st.2.2.2.2.at λo e=>k i2 (by simp) o e⟩
 item:=by
  intro X hP hw hK hc i Pe s O H E I hf st hg;subst hP hw hK;obtain⟨xs,ys,x,y,Sx,P4,hx,hy⟩:=hg;obtain⟨S8,TY,p1,hz1⟩:=I.list Sx;obtain⟨Qm,Sr,p2,Sw⟩:=I.list P4;obtain⟨u1,hu1,ru1⟩:=TY.get hx;obtain⟨u2,hu2,ru2⟩:=Sr.get hy;obtain⟨hz,Rz,⟨u,v,RJ⟩,st1,Qh⟩:=st;refine wpAny_pyNext_zip_item D hz Rz RJ st1 Qh p1.isList p2.isList (x:=u1) (y:=u2) (by simpa using hu1) (by simpa using hu2) λh' U0 Vq UG UE ht hs kp=>⟨_,rfl,?_⟩;refine wpAny_letOwnedTupleGo_zip U0 λh2 hz3 sb=>?_;have hzl:z<s.heap.objs.size:=az hz;have Te:IsPair h2 s.heap.objs.size u1 u2:=(sb.2 _ (gc hzl)).trans ht;have UV:∀c o,c∉[z,TI,TO,i1,i2]->s.heap.get? c=Za o->h2.get? c=Za o:=λc o hc q=>by simp only[af,cK,or_false,not_or] at hc;exact(sb.2 c hc.1).trans (kp c o hc.1 hc.2.2.1 hc.2.2.2.1 hc.2.2.2.2 q)
  have I1:Inv X Pe O (upd H s.heap.objs.size (.tup [x,y])) { s with heap:=h2,toks:=s.toks } :=
   I.turnedL UV hf (ao _) ⟨(show 2<=aK by decide),[u1,u2],.cons ru1 (.cons ru2 .nil),_,Te,rfl,0,rfl⟩
  have Vr:IsPair h2 TI (.ref i1) (.ref i2):=(sb.2 TI D.TIz).trans (kp TI _ D.TIz D.TITO D.TIi1 D.TIi2 Rz);refine⟨.ref s.heap.objs.size,_,I1,rfl,⟨_,I.fresh,rfl,λxs' SJ h1 h2=>⟨x,y,by rw[I.list_inj h1 Sx];exact hx,by rw[I.list_inj h2 P4];exact hy,rfl⟩⟩,⟨hz3,Vr,⟨_,_,(sb.2 TO D.TOz).trans Vq⟩,UG.at λo q=>(sb.2 i1 D.i1z).trans q,UE.at λo q=>(sb.2 i2 D.i2z).trans q⟩,λc hc=>?_⟩;have Ps:c≠s.heap.objs.size:=by
   simp only[af,cK,or_false] at hc;obtain⟨o1,g1,_⟩:=st1;obtain⟨o2,g2,_⟩:=Qh;rcases hc with q|q|q|q|q
   ·rw[q];exact aG hzl
   ·rw[q];exact aG (az Rz)
   ·rw[q];exact aG (az RJ)
   ·rw[q];exact aG (az g1)
   ·rw[q];exact aG (az g2)
  rw[lO Ps];exact(hf c hc).1
 done:=by intro X hP hw hK hc i Pe s O H E I hf st hg;subst hP hw hK;obtain⟨xs,ys,Sx,P4,hx⟩:=hg;obtain⟨S8,TY,p1,hz1⟩:=I.list Sx;obtain⟨Qm,Sr,p2,Sw⟩:=I.list P4;obtain⟨hz,Rz,⟨u,v,RJ⟩,st1,Qh⟩:=st;have Q9:=TY.length;have Tp:=Sr.length;refine wpAny_pyNext_zip_end (I.ok.hd hc) D hz Rz RJ st1 Qh p1.isList p2.isList (hx.imp (λz=>by simp;lia) λz=>by simp;lia) λh' eb=>⟨rfl,?_⟩;refine I.turnedE (t':=s.toks) (ch:=[z,TI,TO,i1,i2]) (λc o hc q=>?_) hf;simp only[af,cK,or_false,not_or] at hc;exact eb c o hc.1 hc.2.2.1 hc.2.2.2.1 hc.2.2.2.2 q
 self:=λ_ _ _ _ _ st h=>wpAny_pyIter_zip st.1 h
def tX:List PV->List PV->List PV
 |x::r,y::q=>.tup [x,y]::tX r q
 |_,_=>[]
theorem Dw:∀(l k:List PV)(i:Nat),(tX l k)[i]?=match l[i]?,k[i]? with|some x,Za y=>Za (.tup [x,y])|_,_=>Zb
 |[],_,_=>by simp[tX]
 |_::_,[],i=>by simp[tX]
 |x::r,y::q,0=>rfl
 |x::r,y::q,i+1=>by simp only[tX,gL];exact Dw r q i
theorem zT:∀(l k:List PV),(tX l k).length=min l.length k.length
 |[],_=>by simp[tX]
 |_::_,[]=>by simp[tX]
 |x::r,y::q=>by simp only[tX,aY,zT r q];lia
def Ev(fa:XA)(Z:En)(s:Sto):Out (List PV):=(fa Z s).bind λvs s1=>match vs with
 |[.lst l,.lst k]=>.ok (tX l k) s1
 |_=>.bad
def OU:bN "zip"=Za (.type "zip"):=by decide +kernel
def iZip(K:aa)(ta:TA):TI:=λO H R=>ta O H λxs H1=>∃a b ys zs,xs=[.ref a,.ref b]/\SqL K H1 a ys/\SqL K H1 b zs/\R (Itz K a b) H1
def zap(n l1 l2)(h1:l1<n)(h2:l2<n):ZipApart (n+4:Nat) (n+2:Nat) (n+3:Nat) n (n+1:Nat) l1 l2:=by constructor<;>(apply(λ(h:¬ @Eq Nat _ _)=>h) ;lia)
def NT{es:List bo}{x1:_}{px p:Pos}{ta:TA}(hg:Gl X "zip")(hm:X.mg "zip"=Zb)(ha:PA X [a,b] ta)(hs:aB [a,b] X.env=(false,eval a X.env)::aB [b] X.env:=by rfl)(PL:(bY pos (aB [b] X.env)).any (·.1)=false:=by rfl):PI X (.Tuple es x1 px) (.Call (.Name "zip" p) [a,b] [] pos) (iZip X.K ta):=by
 intro Pe s O H R I h;refine Call_ (AK I hg hm OU (dG (thn (ha pos Pe s O H _ I h) λus s1=>e4 λvs H1 I1 r1 q1=>?_) hs PL));obtain⟨l1,l2,ys,zs,e,Sx,P4,q⟩:=q1;subst e;obtain⟨u1,u2,rfl,r1,r2⟩:=MT r1;cases r1;cases r2;obtain⟨S8,TY,p1,hz1⟩:=I1.list Sx;obtain⟨Qm,Sr,p2,Sw⟩:=I1.list P4;have t1:l1<s1.heap.objs.size:=by obtain⟨o,ho,_⟩:=p1.isList;exact az ho
 have t2:l2<s1.heap.objs.size:=by obtain⟨o,ho,_⟩:=p2.isList;exact az ho
 refine call_zip_2 p1.isList p2.isList λh' hz Rz RJ hi1 hi2 hsz kp=>?_;have D:ZipApart (s1.heap.objs.size+4) (s1.heap.objs.size+2) (s1.heap.objs.size+3) s1.heap.objs.size (s1.heap.objs.size+1) l1 l2:=zap _ _ _ t1 t2;refine wpAny_pyIter_zip hz ⟨s1.heap.objs.size+4,[s1.heap.objs.size+4,s1.heap.objs.size+2,s1.heap.objs.size+3,s1.heap.objs.size,s1.heap.objs.size+1],_,_,H1,rfl,I1.kept (t':=s1.toks) kp,Im l1 l2 _ _ _ _ _ D,⟨hz,Rz,⟨_,_,RJ⟩,hi1,hi2⟩,λc hc=>?_,q⟩;have RI:s1.heap.objs.size<=c:=by simp only[af,cK,or_false] at hc;rcases hc with z|z|z|z|z<;>rw[z]<;>lia
 exact I1.fpOk RI (I1.hok.fresh RI)
def iterZ{K:aa}{H0:Hp}{m0:Mp}{s0:Sto}{b c:ak}{l k:List PV}(r:Rep K H0 m0 s0 (.ref b) (.lst l))(r':Rep K H0 m0 s0 (.ref c) (.lst k)):qo K CB (Itz K b c) (tX l k) H0 m0 s0:=by
 intro i H m s ex S;obtain⟨b',vs,e,hq,rs⟩:=(r.ext0 ex.toExtR).ls S (show lsOf s (.lst l)=Za l from rfl);cases e;obtain⟨c',ws,e,P9,UI⟩:=(r'.ext0 ex.toExtR).ls S (show lsOf s (.lst k)=Za k from rfl);cases e;refine⟨λq' hz=>?_,λhi=>⟨vs,ws,hq,P9,?_⟩⟩
 ·rw[Dw] at hz;cases cl:l[i]? with
  |none=>rw[cl] at hz;cases hz
  |some q0 =>
   cases ck:k[i]? with
   |none=>rw[cl,ck] at hz;cases hz
   |some q1 =>
    rw[cl,ck] at hz;cases hz;obtain⟨u,hu,ru⟩:=rs.get cl;obtain⟨v,hv,rv⟩:=UI.get ck;refine⟨⟨vs,ws,u,v,hq,P9,hu,hv⟩,λx H' ⟨p,hp,e1,e2⟩=>?_⟩;obtain⟨y,z,hy,hz,e3⟩:=e2 vs ws hq P9;subst e1 e3;rw[hu] at hy;rw[hv] at hz;cases hy;cases hz;have kk:=My.sF (o:=.tup [u,v]) hp;have S':=S.same kk;exact⟨.same kk,S',.tup (.inl ⟨.inl lQ,S'.pure_tup lQ⟩) (.cons (ru.ext (.same kk)) (.cons (rv.ext (.same kk)) .nil))⟩
 ·rw[zT] at hi;rw[rs.length,UI.length];lia
def FE{es:List bo}{x1:_}{px p:Pos}{fa:XA}(ha:DA X CB E [a,b] fa)(hg:Gl X "zip":=by rfl)(hm:X.mg "zip"=none:=by assumption)(hs:aB [a,b] X.env=(false,eval a X.env)::aB [b] X.env:=by rfl)(PL:(bY pos (aB [b] X.env)).any (·.1)=false:=by rfl):DI X CB E (.Tuple es x1 px) (.Call (.Name "zip" p) [a,b] [] pos) (Ev fa) :=
 ⟨(NT hg hm ha.pa hs PL).mono λO H R q=>TDI.bindA q λv s1 u H1 m1 S1 r1 P=>by
  split at P
  ·rename_i l s' hF;split at hF
   ·cases hF;cases r1 with
    |cons r n =>
     cases n with
     |cons r' n =>
      cases n;cases r with
      |lst h1 h2 h3 =>
       cases r' with
       |lst k1 k2 k3=>exact⟨_,_,_,_,rfl,SqL.of h1,SqL.of k1,P _ _ _ .refl S1 (iterZ (.lst h1 h2 h3) (.lst k1 k2 k3))⟩
   ·cases hF
  ·rename_i hF;split at hF<;>cases hF
  ·exact P.elim⟩
def MS(i:Nat)(f:XE)(Z:En)(s:Sto):SO:=match Z[i]? with
 |some (Za (.int x))=>(f Z s).so λv s1=>match v with
  |.int y=>.nx (Z.set i (Za (.int (x+y)))) s1
  |_=>.bad
 |_=>.bad
def OK(i)(he:DE X CB E e f)(hN:X.N.Nodup:=by exact ‹FnScope _ _ _›.nd)(hi:X.N[i]?=Za x:=by rfl)(hx:Loc X.env.scope x:=by first|exact fH rfl|exact ib rfl)(hf:X.fn x=true\/X.env.scope.names.lookup x=Za .local:=by first|exact .inl rfl|exact .inr rfl|assumption):DS X CB E (.AugAssign (.Name x Pu) .Add e pos) (MS i f) :=
 ⟨(NS hN hi hx he.pe J8 hf).mono λD O H=>oE λZ s m er S P=>by
  unfold MS at P;split at P
  ·rename_i a hρ;obtain⟨u0,hu,ru⟩:=er.at_ i _ hρ;cases ru;refine⟨_,hu,Z,s,m,er,S,Post.so P λv s1 u H1 m1 e1 S1 r1 P1=>?_⟩;split at P1
   ·cases r1;exact⟨_,_,rfl,rfl,P1.next S1 ((er.ext e1).set i .int)⟩
   ·exact P1.elim
  ·exact P.elim⟩
end
section
variable{κ:Type}[DecidableEq κ]{K:aa}{H:Hp}{m:Mp}{s:Sto}
def RepZ(K:aa)(H:Hp)(m:Mp)(s:Sto)(vs:List (κ×V))(l:List (κ×PV)):Prop:=vs.map (·.1)=l.map (·.1)/\Reps K H m s (vs.map (·.2)) (l.map (·.2))
theorem RepZ.nil:RepZ K H m s ([]:List (κ×V)) []:=⟨rfl,.nil⟩
def RepZ.cons_inv:∀{vs:List (κ×V)},RepZ K H m s vs (q::l)->∃w r,vs=(q.1,w)::r/\Rep K H m s w q.2/\RepZ K H m s r l
 |[],h=>nomatch h.1
 |(k,w)::r,h=>by
  obtain⟨e1,e2⟩:=eB h.1;cases h.2 with
  |cons a b =>
   have e1:k=q.1:=e1;subst e1;exact⟨w,r,rfl,a,e2,b⟩
theorem RepZ.cons{q:κ×PV}{l}{w}{vs}(a:Rep K H m s w q.2)(h:RepZ K H m s vs l):RepZ K H m s ((q.1,w)::vs) (q::l):=⟨by rw[al,al,h.1],.cons a h.2⟩
theorem RepZ.length(h:RepZ K H m s vs l):vs.length=l.length:=by have:=congrArg b6 h.1;rwa[ac,ac] at this
def tK(l:List (κ×PV))(k:κ):Option PV:=(l.find? λkv=>decide (kv.1=k)).map (·.2)
def CD(l:List (κ×PV))(k:κ)(p:PV):List (κ×PV) :=
 if(l.any λkv=>decide (kv.1=k))=true then l.map (λkv=>if kv.1=k then(kv.1,p) else kv) else l++[(k,p)]
theorem RepZ.val:∀{l:List (κ×PV)}{vs:List (κ×V)},RepZ K H m s vs l->tK l k=Za p->∃w,oO vs k=Za w/\Rep K H m s w p
 |[],_,_,e=>nomatch e
 |q::l,vs,h,e=>by
  obtain⟨w,r,rfl,a,b⟩:=h.cons_inv;unfold tK at e;unfold oO;rw[bF] at e ⊢;by_cases c:q.1=k
  ·rw[Zg c] at e;have e:Za q.2=Za p:=e;cases e;refine⟨w,?_,a⟩;show kQ _ (match decide (q.1=k) with|true=>Za (q.1,w)|false=>_)=_;rw[Zg c];rfl
  ·rw[Zh c] at e;obtain⟨w',h1,h2⟩:=b.val (k:=k) e;refine⟨w',?_,h2⟩;show kQ _ (match decide (q.1=k) with|true=>Za (q.1,w)|false=>_)=_;rw[Zh c];exact h1
theorem RepZ.any:∀{l:List (κ×PV)}{vs:List (κ×V)},RepZ K H m s vs l->(vs.any λkv=>decide (kv.1=k))=l.any λkv=>decide (kv.1=k)
 |[],vs,h=>by
  have:=h.length;rw[cB.mp this];rfl
 |q::l,vs,h=>by obtain⟨w,r,rfl,a,b⟩:=h.cons_inv;rw[cO,cO,b.any]
theorem RepZ.map(rv:Rep K H m s v p):∀{l:List (κ×PV)}{vs:List (κ×V)},RepZ K H m s vs l->RepZ K H m s (vs.map λkv=>if kv.1=k then(kv.1,v) else kv) (l.map λkv=>if kv.1=k then(kv.1,p) else kv)
 |[],vs,h=>by
  have:=h.length;rw[cB.mp this];exact .nil
 |q::l,vs,h=>by
  obtain⟨w,r,rfl,a,b⟩:=h.cons_inv;rw[al,al];by_cases c:q.1=k
  ·rw[Zc c,Zc c];exact RepZ.cons (q:=(q.1,p)) rv (b.map rv)
  ·rw[Zd c,Zd c];exact RepZ.cons a (b.map rv)
def RepZ.snoc(rv:Rep K H m s v p)(h:RepZ K H m s vs l):RepZ K H m s (vs++[(k,v)]) (l++[(k,p)]) :=
 ⟨by rw[au,au,h.1];rfl,by rw[au,au];exact h.2.append (.cons rv .nil)⟩
def RepZ.put{k:κ}{v:V}{p:PV}(rv:Rep K H m s v p){l:List (κ×PV)}{vs:List (κ×V)}(h:RepZ K H m s vs l):RepZ K H m s (qI vs k v) (CD l k p):=by
 unfold qI CD;rw[h.any (k:=k)];split
 ·exact h.map rv
 ·exact h.snoc rv
theorem xw{κ:Type}[DecidableEq κ][BEq κ][LawfulBEq κ](k:κ):∀fs:List (κ×V),fs.lookup k=oO fs k
 |[]=>rfl
 |(g,x)::r=>by
  rw[bI];unfold oO;rw[bF];by_cases c:g=k
  ·subst c;simp
  ·have h1:(k==g)=false:=by simpa using bW c
   rw[h1];simp only[c,decide_false];exact xw k r
def AT(f:Str)(v:PV):List (Str×PV)->List (Str×PV)
 |[]=>[(f,v)]
 |(g,x)::r=>if g=f then(g,v)::r else(g,x)::AT f v r
theorem RepZ.putF(rv:Rep K H m s v p):∀{l:List (Str×PV)}{vs:List (Str×V)},RepZ K H m s vs l->RepZ K H m s (putF f v vs) (AT f p l)
 |[],vs,h=>by
  have:=h.length;rw[cB.mp this];exact RepZ.cons (q:=(f,p)) rv .nil
 |(g,x)::l,vs,h=>by
  obtain⟨w,r,rfl,a,b⟩:=h.cons_inv;show RepZ K H m s (if g=f then(g,v)::r else(g,w)::L2.putF f v r) (if g=f then(g,p)::l else(g,x)::AT f p l);split
  ·exact RepZ.cons (q:=(g,p)) rv b
  ·exact RepZ.cons (q:=(g,x)) a (b.putF rv)
end
section
variable{X:Cx}{CB:ak}{E:XK}{a b c e:bo}{es:List bo}{f g h:XE}{fa:XA}{pos Pf Pg p Pu PX:Pos}{C:ak}{k n:Nat}{ps:List Str}{D:XF}{x:Str}
def SR.putO{K:aa}{H:Hp}{m:Mp}{s:Sto}{n:Nat}{dx:ak}{l l':List (Str×PV)}{P6:List (Str×V)}(S:SR K CB H m s)(hn:s.get n=Za (.obj C l))(r:RepZ K H m s P6 l') :
  SR K CB (upd H (m.ad n) (.ins C dx P6)) (m.fput n [m.ad n]) (s.set n (.obj C l'))/\Ext H m s (upd H (m.ad n) (.ins C dx P6)) (m.fput n [m.ad n]) (s.set n (.obj C l')):=by
 obtain⟨e1,dx',vs,h1,_⟩:=S.get hn;refine S.put hn (by intro _ z;cases z) _ _ (λa o h ha=>?_) (λa ha=>.inl (by rw[e1];exact ha)) λex=>⟨by show(if n=n then [m.ad n] else m.fp n)=_;rw[Zc rfl];rfl,dx,P6,lQ,r.1,r.2.ext0 ex⟩;rw[e1,ap] at ha;rw[lO ha];exact h
def SR.putT{K:aa}{H:Hp}{m:Mp}{s:Sto}{n:Nat}{l l':List (List Key×PV)}{P6:List (List Key×V)}(S:SR K CB H m s)(hn:s.get n=Za (.dtt l))(r:RepZ K H m s P6 l') :
  SR K CB (upd H (m.ad n) (.dT P6)) (m.fput n [m.ad n]) (s.set n (.dtt l'))/\Ext H m s (upd H (m.ad n) (.dT P6)) (m.fput n [m.ad n]) (s.set n (.dtt l')):=by
 obtain⟨e1,vs,h1,_⟩:=S.get hn;refine S.put hn (by intro _ z;cases z) _ _ (λa o h ha=>?_) (λa ha=>.inl (by rw[e1];exact ha)) λex=>⟨by show(if n=n then [m.ad n] else m.fp n)=_;rw[Zc rfl];rfl,P6,lQ,r.1,r.2.ext0 ex⟩;rw[e1,ap] at ha;rw[lO ha];exact h
def Ez(C:ak)(nm:Str)(f:XE)(Z:En)(s:Sto):Out PV:=(f Z s).bind λv s1=>match v with
 |.ref n=>match s1.get n with
  |some (.obj C' fs)=>if C'=C then(match tK fs nm with
   |some p=>.ok p s1
   |none=>.bad) else .bad
  |_=>.bad
 |_=>.bad
def Df(ho:DE X CB E a f)(hC:Cls X.K C)(hn:NoAttr X.K C nm)(hb:cz a nm X.env (eval a X.env)=eval a X.env:=by rfl):DE X CB E (.Attribute a nm pos) (Ez C nm f) :=
 ⟨(oH ho.pe hb).mono λO H Q=>oE λZ s m er S P=>⟨Z,s,m,er,S,P.bind λv s1 u H1 m1 e1 S1 r1 P1=>by
  split at P1
  ·split at P1
   ·rename_i hg;split at P1
    ·rename_i hc;subst hc;split at P1
     ·rename_i hv;obtain⟨_,dx,Qp,h1,rf⟩:=S1.get hg;cases r1 with
      |ref hl =>
       obtain⟨w,hw,P0⟩:=RepZ.val rf hv;exact⟨_,_,dx,Qp,w,rfl,h1,hC,hn,(xw nm Qp).trans hw,P1.here S1 P0⟩
     ·exact P1.elim
    ·exact P1.elim
   ·exact P1.elim
  ·exact P1.elim⟩⟩
def Ex(C:ak)(nm:Str)(f g:XE)(Z:En)(s:Sto):SO:=(g Z s).so λp s1=>(f Z s1).so λv s2=>match v with
 |.ref n=>match s2.get n with
  |some (.obj C' fs)=>if C'=C/\fs.length<1000 then .nx Z (s2.set n (.obj C (AT nm p fs))) else .bad
  |_=>.bad
 |_=>.bad
def Kk{nm:Str}(ho:DE X CB E a f)(hv:DE X CB E e g)(hC:Cls X.K C)(hn:NoAttr X.K C nm)(hs:dM e (Za (.Attribute a nm Pu)) pos.line X.env=pure false:=by rfl):DS X CB E (.Assign [.Attribute a nm Pu] e pos) (Ex C nm f g) :=
 ⟨(yt ho.pe hv.pe hs).mono λD O H=>oE λZ s m er S P=>⟨Z,s,m,er,S,Post.so P λp s1 u H1 m1 e1 S1 r1 P1=>⟨Z,s1,m1,er.ext e1,S1,Post.so P1 λv s2 u2 H2 m2 e2 S2 r2 P2=>by
  split at P2
  ·split at P2
   ·rename_i hg;split at P2
    ·rename_i hc;obtain⟨hc,hl⟩:=hc;subst hc;obtain⟨_,dx,Qp,h1,rf⟩:=S2.get hg;cases r2 with
     |ref Ps =>
      have rz:RepZ X.K H2 m2 s2 Qp _:=rf;obtain⟨S3,e3⟩:=S2.putO (dx:=dx) hg (rz.putF (f:=nm) (r1.ext e2));exact⟨_,_,dx,Qp,rfl,h1,hC,hn,by rw[rz.length];exact hl,P2 _ _ _ e3 S3 (((er.ext e1).ext e2).ext e3)⟩
    ·exact P2.elim
   ·exact P2.elim
  ·exact P2.elim⟩⟩⟩
def MR(_:En)(s:Sto):Out PV:=.ok (.ref s.nx) (s.add (.dtt []))
def Mv:DE X CB E (.Dict [] [] pos) MR:=⟨pe_dnewT.mono λO H Q=>oE λZ s m er S P p hp=>by
 obtain⟨S2,e2⟩:=S.add (c:=.dtt []) _ p [p] (My.sF hp) (λa ha=>by rw[ap.mp ha];exact hp) λex=>by
  have e1:(m.add s.nx p [p]).ad s.nx=p:=by show(if s.nx=s.nx then p else _)=_;rw[Zc rfl]
  have e2:(m.add s.nx p [p]).fp s.nx=[p]:=by show(if s.nx=s.nx then [p] else _)=_;rw[Zc rfl]
  exact⟨by rw[e1,e2],[],by rw[e1];exact lQ,rfl,.nil⟩
 exact P _ _ _ e2 S2 .new⟩
def AU:List PV->Option (List Key)
 |[]=>Za []
 |p::l=>match kyOf p,AU l with
  |some k,Za ks=>Za (k::ks)
  |_,_=>Zb
theorem vF{K:aa}{H:Hp}{m:Mp}{s:Sto}:∀{l:List PV}{vs:List V}{ks:List Key},Reps K H m s vs l->AU l=Za ks->vs=ks.map kV
 |[],_,ks,.nil,h=>by cases h;rfl
 |p::l,_,ks,.cons r rs,h=>by
  unfold AU at h;split at h
  ·rename_i k ks' h1 h2;cases h;rw[qi r h1,vF rs h2];rfl
  ·cases h
def KO(f:XE)(fa:XA)(Z:En)(s:Sto):Out PV:=(f Z s).bind λv s1=>(fa Z s1).bind λvs s2=>match v with
 |.ref n=>match s2.get n,AU vs with
  |some (.dtt l),Za ks=>if vs.length<=100000 then(match tK l ks with
   |some p=>.ok p s2
   |none=>.bad) else .bad
  |_,_=>.bad
 |_=>.bad
def OP{x1}(ho:DE X CB E a f)(hi:DA X CB E es fa){jr:Nat}(hr:Room jr X.A:=by assumption)(hs:Pd (.Tuple es x1 PX):=by exact λ_ _=>rfl):DE X CB E (.Subscript a (.Tuple es x1 PX) pos) (KO f fa) :=
 ⟨(rS (oi hr) ho.pe (vY hi.pa) hs).mono λO H Q=>oE λZ s m er S P=>⟨Z,s,m,er,S,P.bind λv s1 u H1 m1 e1 S1 r1 P1=>⟨Z,s1,m1,er.ext e1,S1,P1.bind λvs s2 us H2 m2 e2 S2 r2 P2=>by
  split at P2
  ·split at P2
   ·rename_i l ks hg hk;split at P2
    ·rename_i hl;split at P2
     ·rename_i hv;refine⟨by rw[r2.length];exact sz5 hl,λp hp=>?_⟩;obtain⟨_,P6,h1,rf⟩:=S2.get hg;have rz:RepZ X.K H2 m2 s2 P6 l:=rf;obtain⟨w,hw,P0⟩:=rz.val hv;have UL:=r1.ext e2;cases UL with
      |ref Ps =>
       have QX:p≠m2.ad _:=λz=>by rw[z,h1] at hp;cases hp
       have ek:=vF r2 hk;subst ek;exact⟨_,w,rfl,hw▸DGet.t (by rw[lO (bW QX)];exact h1) lQ,P2.new S2 hp λex S'=>P0.ext ex⟩
     ·exact P2.elim
    ·exact P2.elim
   ·exact P2.elim
  ·exact P2.elim⟩⟩⟩
def RepZ.same{κ:Type}{K:aa}{H H':Hp}{m m':Mp}{s s':Sto}{vs:List (κ×V)}{l:List (κ×PV)}(h:RepZ K H m s vs l)(e:Ext H m s H' m' s'):RepZ K H' m' s' vs l:=⟨h.1,h.2.ext e⟩
def HP(f:XE)(fa:XA)(h:XE)(Z:En)(s:Sto):SO:=(h Z s).so λq s1=>(f Z s1).so λv s2=>(fa Z s2).so λvs s3=>match v with
 |.ref n=>match s3.get n,AU vs with
  |some (.dtt l),Za ks=>if vs.length<=100000/\l.length<100000 then .nx Z (s3.set n (.dtt (CD l ks q))) else .bad
  |_,_=>.bad
 |_=>.bad
def Mi{x1}(ho:DE X CB E a f)(hi:DA X CB E es fa)(hv:DE X CB E e h)(hr:Room jr X.A:=by assumption)(hs:dM e (Za (.Subscript a (.Tuple es x1 PX) Pu)) pos.line X.env=pure false:=by rfl):DS X CB E (.Assign [.Subscript a (.Tuple es x1 PX) Pu] e pos) (HP f fa h) :=
 ⟨(rQ (oi hr) ho.pe (vY hi.pa) hv.pe hs).mono λD O H=>oE λZ s m er S P=>⟨Z,s,m,er,S,Post.so P λq s1 u H1 m1 e1 S1 r1 P1=>⟨Z,s1,m1,er.ext e1,S1,Post.so P1 λv s2 u2 H2 m2 e2 S2 r2 P2=>⟨Z,s2,m2,(er.ext e1).ext e2,S2,Post.so P2 λvs s3 us H3 m3 e3 S3 r3 P3=>by
  split at P3
  ·split at P3
   ·rename_i l ks hg hk;split at P3
    ·rename_i hl;refine⟨by rw[r3.length];exact sz5 hl.1,λp hp=>?_⟩;obtain⟨_,P6,h1,rf⟩:=S3.get hg;have rz:RepZ X.K H3 m3 s3 P6 l:=rf;have r2':=r2.ext e3;cases r2' with
     |ref Ps =>
      have QX:p≠m3.ad _:=λz=>by rw[z,h1] at hp;cases hp
      have ek:=vF r3 hk;subst ek;have kk:=My.sF (o:=.tup (ks.map kV)) hp;have S4:=S3.same kk;have e4:Ext H3 m3 s3 _ m3 s3:=.same kk;have rq:=((r1.ext e2).ext e3).ext e4;obtain⟨S5,e5⟩:=S4.putT hg ((rz.same e4).put (k:=ks) rq);exact⟨_,_,rfl,DPut.t (by rw[lO (bW QX)];exact h1) lQ (by rw[rz.length];exact sz6 hl.2),P3 _ _ _ (e4.trans e5) S5 (((((er.ext e1).ext e2).ext e3).ext e4).ext e5)⟩
    ·exact P3.elim
   ·exact P3.elim
  ·exact P3.elim⟩⟩⟩⟩
def xMk(C:ak)(n:Nat)(D:XF)(fa:XA)(Z:En)(s:Sto):Out PV:=(fa Z s).bind λvs s1=>if vs.length+1=n then(D (.ref s1.nx::vs) (s1.add (.obj C []))).bind (λv s2=>match v with
 |.non=>.ok (.ref s1.nx) s2
 |_=>.bad) else .bad
def pe_mk(M:MkB X.prog X.w X.K X.mg X.base x C k ps sp)(hr:Room (k+1) X.A)(hg:Gl X x)(hx:nZ (CXo X.prog X.w) X E)(ha:PA X (e::es) t)(P8:NDb x:=by decide)(he:SEb X e es:=by rfl)(PL:(bY pos (aB es X.env)).any (·.1)=false:=by rfl):PE X (.Call (.Name x p) (e::es) [] pos) (HV C sp [] E t):=by
 obtain⟨f,fd,F,hm,mk,hb⟩:=M;exact Lu mk F hr hg hm hb .nil hx ha P8 he PL
def Nq(M:MkB X.prog X.w X.K X.mg X.base x C k ps (spD X.K CB n D))(ha:DA X CB E (e::es) fa)(hr:Room jr X.A:=by assumption)(hk:k+1<=jr:=by first|decide|omega)(hg:Gl X x:=by rfl)(hx:nZ (CXo X.prog X.w) X E:=by first|exact oT|exact sI)(P8:NDb x:=by decide)(he:SEb X e es:=by rfl)(PL:(bY pos (aB es X.env)).any (·.1)=false:=by rfl):DE X CB E (.Call (.Name x p) (e::es) [] pos) (xMk C n D fa) :=
 ⟨(pe_mk M (hr.mono hk) hg hx ha.pa P8 he PL).mono λO H Q=>oE λZ s m er S P=>⟨Z,s,m,er,S,P.bind λvs s1 us H1 m1 e1 S1 r1 P1=>by
  split at P1
  ·rename_i hl;intro b dx hb Vj PH;rw[cT];have kk:Same H1 (upd (upd H1 dx (.own b)) b (.ins C dx [])):=λc o h=>by rw[lO (mh h hb),lO (mh h Vj)];exact h
   obtain⟨S2,e2⟩:=S1.add (c:=.obj C []) (upd (upd H1 dx (.own b)) b (.ins C dx [])) b [b] kk (λa ha=>by rw[ap.mp ha];exact hb) λex=>by
    have q1:(m1.add s1.nx b [b]).ad s1.nx=b:=by show(if s1.nx=s1.nx then b else _)=_;rw[Zc rfl]
    have q2:(m1.add s1.nx b [b]).fp s1.nx=[b]:=by show(if s1.nx=s1.nx then [b] else _)=_;rw[Zc rfl]
    exact⟨by rw[q1,q2],dx,[],by rw[q1];exact lQ,rfl,.nil⟩
   refine⟨by rw[aY,r1.length];exact hl,_,_,_,.cons .new (r1.ext e2),S2,(Post.shift e2 P1).bind λv s3 u H3 m3 e3 S3 r3 P3=>?_⟩;split at P3
   ·cases r3;exact⟨rfl,P3 _ _ _ .refl S3 (Rep.new.ext e3)⟩
   ·exact P3.elim
  ·exact P1.elim⟩⟩
theorem RepZ.none{κ:Type}[DecidableEq κ]{K:aa}{H:Hp}{m:Mp}{s:Sto}{k:κ}:∀{l:List (κ×PV)}{vs:List (κ×V)},RepZ K H m s vs l->tK l k=Zb->oO vs k=Zb
 |[],vs,h,_=>by
  have:=h.length;rw[cB.mp this];rfl
 |q::l,vs,h,e=>by
  obtain⟨w,r,rfl,a,b⟩:=h.cons_inv;unfold tK at e;unfold oO;rw[bF] at e ⊢;by_cases c:q.1=k
  ·rw[Zg c] at e;cases e
  ·rw[Zh c] at e;show kQ _ (match decide (q.1=k) with|true=>Za (q.1,w)|false=>_)=_;rw[Zh c];exact b.none e
def xOM(C:ak)(nm:Str)(n:Nat)(D:XF)(f:XE)(fa:XA)(Z:En)(s:Sto):Out PV:=(f Z s).bind λo s1=>match o with
 |.ref k=>match s1.get k with
  |some (.obj C' fs)=>if C'=C/\tK fs nm=Zb then(fa Z s1).bind λvs s2=>if vs.length+1=n then D (.ref k::vs) s2 else .bad else .bad
  |_=>.bad
 |_=>.bad
def KM(ho:DE X CB E a f)(M:Mt X.prog X.w X.K X.mg X.base C m k ps (spD X.K CB n D))(ha:DA X CB E (e::es) fa)(hr:Room jr X.A:=by assumption)(hk:k<=jr:=by first|decide|omega)(hx:nZ (CXo X.prog X.w) X E:=by first|exact oT|exact sI)(QI:SEb X e es:=by rfl)(PL:(bY pos (aB es X.env)).any (·.1)=false:=by rfl)(ht:eval (.Call (.Attribute a m Pf) (e::es) [] pos) X.env=(do
   let ov <-eval a X.env
   gv Pf.atName
   let(f,first) <-holding [ov] (fW ov m pl)
   iQ pos f first (bY pos (aB (e::es) X.env)) (eR pos (cW [] X.env))):=by rfl):DE X CB E (.Call (.Attribute a m Pf) (e::es) [] pos) (xOM C m n D f fa) :=
 ⟨(tw (pl:=pl) ho.pe M (hr.mono hk) hx ha.pa QI PL ht).mono λO H Q=>oE λZ s m' er S P=>⟨Z,s,m',er,S,P.bind λv s1 u H1 m1 e1 S1 r1 P1=>by
  split at P1
  ·split at P1
   ·rename_i hg;split at P1
    ·rename_i hc;obtain⟨hc,hn0⟩:=hc;subst hc;obtain⟨_,dx,Qp,h1,rf⟩:=S1.get hg;cases r1 with
     |ref hn =>
     refine⟨_,_,_,rfl,h1,(xw m Qp).trans (RepZ.none rf hn0),Z,s1,m1,er.ext e1,S1,P1.bind λvs s2 us H2 m2 e2 S2 r2 P2=>?_⟩;split at P2
     ·rename_i hl;rw[cT];refine⟨by rw[aY,r2.length];exact hl,_,s2,m2,.cons ?_ r2,S2,P2⟩;exact(Rep.ref hn).ext e2
     ·exact P2.elim
    ·exact P1.elim
   ·exact P1.elim
  ·exact P1.elim⟩⟩
def rIxL0(K:aa):R2:=λx y H Q=>∃(p:ak)(xs:List V)(j:Nat)(v:V),x=.ref p/\y=.int (j:Int)/\SqL K H p xs/\xs[j]?=Za v/\Q v H
def Jn:PGet X (rIxL0 X.K):=by intro Pe s O H x y v u Q I rx ry h;obtain⟨p,xs,j,z,rfl,rfl,hq,he,q⟩:=h;cases rx;obtain⟨t,rfl⟩:=ry;obtain⟨its,r,pl,hz⟩:=I.list hq;obtain⟨w,ew,P0⟩:=r.get he;have hl:=r.length;have hn:=wa;have hj:j<its.length:=(aW.mp ew).1;exact wpAny_getItem_list pl.isList (by lia) (by lia) (by simpa using ew) ⟨z,H,I,P0,q⟩
def HS(f g h:XE)(Z:En)(s:Sto):SO:=(f Z s).so λo s1=>(g Z s1).so λi s2=>match o,i with
 |.ref n,.int k=>if 0<=k then(match s2.get n with
  |some (.lst l)=>(match l[k.toNat]? with
   |some (.int x)=>(h Z s2).so λv s3=>match v with
    |.int y=>(match s3.get n with
     |some (.lst l')=>if k.toNat<l'.length then .nx Z (s3.set n (.lst (l'.set k.toNat (.int (x+y))))) else .bad
     |_=>.bad)
    |_=>.bad
   |_=>.bad)
  |_=>.bad) else .bad
 |_,_=>.bad
def Mj(ho:DE X CB E a f)(hi:DE X CB E b g)(he:DE X CB E e h)(ha:∀ov iv new,augStore b ov iv new=(do holding [new,ov,iv] (kf ov iv new);release [new,ov,iv] [];pure .next):=by intros;rfl):DS X CB E (.AugAssign (.Subscript a b PX) .Add e pos) (HS f g h) :=
 ⟨(Ll ho.pe hi.pe Jn he.pe J8 set_list ha).mono λD O H=>oE λZ s m er S P=>⟨Z,s,m,er,S,Post.so P λo s1 uo H1 m1 e1 S1 r1 P1=>⟨Z,s1,m1,er.ext e1,S1,Post.so P1 λi s2 ui H2 m2 e2 S2 r2 P2=>by
  split at P2
  ·rename_i n k;split at P2
   ·rename_i hk;split at P2
    ·rename_i l hg;split at P2
     ·rename_i x hx;obtain⟨_,vs,h1,q1⟩:=S2.get hg;obtain⟨u0,hu0,ru0⟩:=q1.get hx;cases ru0;have UL:=r1.ext e2;cases UL with
      |ref Ps =>
      cases r2;have ek:k=((k.toNat:Nat):Int):=by lia
      refine⟨_,vs,k.toNat,_,rfl,by rw[<-ek],SqL.of h1,hu0,Z,s2,m2,(er.ext e1).ext e2,S2,Post.so P2 λv s3 uv H3 m3 e3 S3 r3 P3=>?_⟩;split at P3
      ·split at P3
       ·rename_i l' hg';split at P3
        ·rename_i hl;cases r3;obtain⟨_,P6,SD,q1'⟩:=S3.get hg';have hn:n<s2.nx:=Ps;have ead:m3.ad n=m2.ad n:=e3.ad n hn;obtain⟨S4,e4⟩:=S3.putL hg' (q1'.set k.toNat (.int (i:=x+_)));rw[ead] at SD S4 e4;refine⟨_,_,rfl,rfl,_,P6,_,k.toNat,rfl,rfl,SD,?_,P3 _ _ _ e4 S4 ((((er.ext e1).ext e2).ext e3).ext e4)⟩;rw[q1'.length];unfold ixN;simp only[hk,if_true];rw[Zc (by lia)]
        ·exact P3.elim
       ·exact P3.elim
      ·exact P3.elim
     ·exact P2.elim
    ·exact P2.elim
   ·exact P2.elim
  ·exact P2.elim⟩⟩⟩
end
end L2
namespace PySem
open Sem (wp)
def Cr:typeLookup (.type "list") "keys"=pure none:=by rw[typeLookup_type,builtinLookup_eq_fast];kernel_rfl
def yM(hx:s.heap.get? a=Za o)(hc:o.cls=.type "list")(Rb:o.data=.seq xs k)(hd:o.dict=Zb)(hA:A.handled=Zb)(h:∀h' tk,(∀b o,s.heap.get? b=Za o->h'.get? b=Za o)->Q Zb { s with heap:=h',toks:=tk }) :
  aS (model prog w) A (getAttr? (.ref a) "keys") Q E s:=by
 obtain⟨c,dct,dat,sl⟩:=o;simp only at hc Rb hd;subst hc Rb hd;obtain⟨y1,y2,y3,y4,y5⟩:=s;have ty:∀z,(⟨y1,y2,y3,z,y5⟩:ax).TypeIs (.ref a) "list":=λ_=>⟨_,hx,rfl⟩;have f1:=sub_AttributeError;have f3:=gN.lookup;have f4:=gN.bind (.ref a);have f5:=am_list_getattr_none;unfold getAttr? getAttrBy? getAttrBy
 repeat (any_goals (first|assumption|exact ty _|((with_reducible show aS _ _ (call (Value.builtin "list.__getattribute__") _ _) _ _ _);refine iz gN (ty _) am_entry_list_getattribute (F.args_list_getattribute_2 _ _) (meets_getattribute_miss_list a xs k sl "keys" _ Cr (by decide +kernel) (by decide)) ⟨hx,hA,λh' tk' e QW=>?_⟩)|wp_step))
 obtain⟨t',u',he⟩:=QW.there;show aS _ _ (getattributeRaised _ _ _ _ _ _ _) _ _ _;unfold getattributeRaised
 repeat any_goals first|assumption|wp_step
 exact h _ _ QW.keeps
namespace F
def plain_dul:plainId "dict.update.loop"=true:=by decide +kernel
def entry_dul:entryFor table "dict.update.loop"=Za Builtin.«dict.update.loop»:=entryFor_of_tree (by kernel_rfl)
end F
section
variable{prog:aL}{w:bh}{K:Type}[DecidableEq K]{knd:KeyKind prog w K}{A:cA}{R:Result->ax->Prop}{D it l:ak}
structure PairAt(knd:KeyKind prog w K)(h:bv)(p:ak×K×ag×ag):Prop where
 at_:∃o n,h.get? p.1=Za o/\o.cls=.type "tuple"/\o.data=.seq #[p.2.2.1,p.2.2.2] n
 is:knd.is p.2.1 p.2.2.1=true
def wJ(kvs:List (K×ag)):List (ak×K×ag×ag)->List (K×ag)
 |[]=>kvs
 |p::ps=>wJ (stored kvs p.2.1 p.2.2.2) ps
theorem Ej(hh:A.handled=Zb)(Uo:D≠it)(hDl:D≠l)(hil:it≠l):∀(ps:List (ak×K×ag×ag))(i:Nat)(pre:List ag)(s:ax)(kvs:List (K×ag)),pre.length=i->s.heap.IsListIter it l i ->
  s.heap.IsList l (pre++ps.map λp=>bj p.1).toArray->(∀p∈ps,PairAt knd s.heap p/\p.1≠it/\p.1≠D)->s.heap.DictOf knd D kvs->kvs.length+ps.length<=aK ->
  (∀h' tk,h'.DictOf knd D (wJ kvs ps)->(∀b o,b≠it->b≠D->s.heap.get? b=Za o->h'.get? b=Za o)->R (.ok (.ret .none)) { s with heap:=h',toks:=tk }) ->
  gw (model prog w) A (.builtin "dict.update.loop" ⟨[.ref D,.ref it,rawInt i,.none],[]⟩) R s
 |[],i,pre,s,kvs,hi,R9,hl,hp,hd,hz,hR=>by
  refine codeAny_builtin F.entry_dul ?_;rw[ko F.plain_dul _];show aS _ A.in1 (pyNext (.ref it) >>= _) _ _ s;refine aq (wpAny_pyNext_list_end (A:=A.in1) hh R9 hl (by simp[hi]) λh' sb=>?_);exact aq (aN (aN (hR h' s.toks (hd.extBut sb Uo) λb o hb _ e=>sb b o hb e)))
 |p::ps,i,pre,s,kvs,hi,R9,hl,hp,hd,hz,hR=>by
  obtain⟨⟨⟨o,n,hT,hc,hdt⟩,hk⟩,ni,nD⟩:=hp p ai;refine codeAny_builtin F.entry_dul ?_;rw[ko F.plain_dul _];show aS _ A.in1 (pyNext (.ref it) >>= _) _ _ s;refine aq (wpAny_pyNext_list_item (A:=A.in1) (x:=.ref p.1) R9 hl (by simp[<-hi]) λh' Ve sb=>?_);have hT':h'.get? p.1=Za o:=(sb.2 _ ni).trans hT;have Td:(⟨h',s.gens,s.drawn,s.toks,s.os⟩:ax).TypeIs (.ref p.1) "tuple":=⟨_,hT',hc⟩;refine aq (ei (aq (wpAny_tryCatch ?_)));show aS _ A.in1 (jc (.ref p.1)) _ _ { s with heap:=h' };unfold jc;refine aq (wpAny_typeOf Td ?_);rw[Zc (by decide)];refine aq (wpAny_seqItems hT' hdt (aN ?_));show aS _ A.in1 (holding [p.2.2.1,p.2.2.2] (dictSet D p.2.2.1 p.2.2.2)) _ _ _;have TC:h'.DictOf knd D kvs:=hd.sameBut sb Uo;refine ei (wpAny_dictSet_pairs (hsz:=by rw[aY] at hz;lia) hk TC λh2 SB sb2=>?_);refine aN ⟨plainId_quiet F.plain_dul _,?_⟩;have kp:∀b,b≠it->b≠D->h2.get? b=s.heap.get? b:=λb h1 h2=>(sb2.2 b h2).trans (sb.2 b h1);have:=Ej hh Uo hDl hil ps (i+1) (pre++[.ref p.1]) { s with heap:=h2,toks:=s.toks+1 } (stored kvs p.2.1 p.2.2.2) (by simp[hi])
   (Ve.at λo e=>(sb2.2 it (bW Uo)).trans e) (by
    have e:(pre++[bj p.1]++ps.map λp=>bj p.1)=pre++(p::ps).map λp=>bj p.1:=by simp
    rw[e];exact hl.at λo e=>(kp l (bW hil) (bW hDl)).trans e) (λq hq=>by
    obtain⟨⟨⟨o,n,g,g2⟩,k⟩,a1,a2⟩:=hp q (ae _ hq);exact⟨⟨⟨o,n,(kp _ a1 a2).trans g,g2⟩,k⟩,a1,a2⟩) SB (by
    have:=stored_length_le kvs p.2.1 p.2.2.2;rw[aY] at hz;lia) λh3 tk hd3 k3=>?_
  ·exact this
  ·exact hR h3 tk hd3 λb o h1 h2 e=>k3 b o h1 h2 ((kp b h1 h2).trans e)
end
open Sem (wp)
section
variable{prog:aL}{w:bh}{K:Type}[DecidableEq K]{knd:KeyKind prog w K}{E:ag->ax->Prop}{A:cA}{s:ax}
def yo(hh:A.handled=Zb)(hx:s.heap.get? l=Za ol)(Sf:ol.cls=.type "list")(Vk:ol.dict=Zb)(Ul:ol.data=.seq (ps.map λp=>bj p.1).toArray n)(hp:∀p∈ps,PairAt knd s.heap p)(hz:ps.length<=aK)(h:∀h' tk,h'.DictOf knd s.heap.objs.size (wJ [] ps)->(∀b o,s.heap.get? b=Za o->h'.get? b=Za o)->Q (.ref s.heap.objs.size) { s with heap:=h',toks:=tk }) :
  aS (model prog w) A (call (.type "dict") [.ref l]) Q E s:=by
 refine callType_codes (Q₁:=λob s0=>ob=.ref s.heap.objs.size/\s0={ s with heap:=s.heap.push { cls:=.type "dict",data:=.dict #[] } }) F.kt_called_dict (F.kt_typeCall_dict_1 _) F.entry_dict_init (kt_code_dict_new _ ⟨rfl,rfl⟩) ?_
 rintro _ _ ⟨rfl,rfl⟩
 have nw:(s.heap.push { cls:=.type "dict",data:=.dict #[] }).DictOf knd s.heap.objs.size []:=km s.heap;have QW:(s.heap.push { cls:=.type "dict",data:=.dict #[] }).get? l=Za ol:=ar _ hx;have hTl:({ s with heap:=s.heap.push { cls:=.type "dict",data:=.dict #[] } }:ax).TypeIs (.ref l) "list":=⟨_,QW,Sf⟩;have Uh:l<s.heap.objs.size:=az hx;refine⟨nw.typeIs,F.args_dict_init_2 _ _,?_⟩;unfold Builtin.«dict.__init__»;refine aq ?_;unfold Builtin.Dict.selfAndRest;refine aq (wpAny_notOrdered_dict nw.typeIs ?_);show aS _ _ (pure (s.heap.objs.size,[bj l])) _ _ _;refine aN ?_;show aS _ _ (ja "dict.__init__" s.heap.objs.size (.ref l) [] .none) _ _ _;unfold ja;refine aq (wpAny_typeOf hTl ?_);rw[Zc (by decide)];refine aq (yM QW Sf Ul Vk hh λh1 tk kp=>?_);rw[Zc (show(Zb:Option ag).isNone=true from rfl)];refine aq (wpAny_rule ?_);have Q9:h1.IsList l (ps.map λp=>bj p.1).toArray:=⟨_,kp _ _ QW,Sf,_,Ul⟩;refine aq (gP Q9 ?_);obtain⟨od,es,ep,hod,rd⟩:=nw;have hD1:h1.get? s.heap.objs.size=Za od:=kp _ _ hod;have Tz:h1.DictOf knd s.heap.objs.size []:=⟨od,es,ep,hD1,rd⟩;have l1:l<h1.objs.size:=az (kp _ _ QW);have lD:s.heap.objs.size<h1.objs.size:=az hD1;have Rq:(h1.push { cls:=.type "list_iterator",data:=.fields #[.ref l,.int 0 0] }).IsListIter h1.objs.size l 0:=⟨_,ba _ rfl,rfl,rfl⟩;refine aN ⟨plainId_quiet F.plain_dul _,Ej (A:=A.in1) hh (aG lD) (gc Uh) (gc l1) ps 0 [] _ [] rfl Rq (Q9.push _) (λp q=>?_) (Tz.push _) (by simpa using hz) λh2 tk2 SB k2=>⟨rfl,h h2 tk2 SB λb o e=>?_⟩⟩
 ·obtain⟨⟨o,n,g,g2⟩,k⟩:=hp p q;have g1:=kp _ _ (ar { cls:=.type "dict",data:=.dict #[] } g);exact⟨⟨⟨o,n,ar _ g1,g2⟩,k⟩,aG (az g1),aG (az g)⟩
 ·have g1:=kp _ _ (ar { cls:=.type "dict",data:=.dict #[] } e);exact k2 b o (aG (az g1)) (aG (az e)) (ar _ g1)
end
end PySem
namespace L2
open PySem PySem.Spec PyProof.Rows
section
variable{X:Cx}{CB:ak}{E:XK}{a b c e:bo}{f g h:XE}{p pos Pf Pg:Pos}
def putAll(kvs:List (Key×V)):List (Key×V)->List (Key×V)
 |[]=>kvs
 |p::ps=>putAll (qI kvs p.1 p.2) ps
def rDP(K:aa):List V->Hp->VK->Prop:=λxs H Q=>∃(l:ak)(ts:List (ak×Key×V)),xs=[.ref l]/\SqL K H l (ts.map λt=>V.ref t.1)/\(∀t∈ts,SqT K H t.1 [kV t.2.1,t.2.2])/\∀p,H p=Zb->Q (.ref p) (upd H p (.dK (putAll [] (ts.map (·.2)))))
theorem vj:∀(ps kvs:List (Key×V)),(putAll kvs ps).length<=kvs.length+ps.length
 |[],kvs=>ao _
 |p::ps,kvs=>by have h1:=vj ps (qI kvs p.1 p.2);have h2:=qX kvs p.1 p.2;show(putAll (qI kvs p.1 p.2) ps).length<=kvs.length+(ps.length+1);lia
theorem KV.putAll:∀{ts:List (ak×Key×V)}{ps:List (ak×Key×ag×ag)}{kvs:List (Key×V)}{vs:List (Key×ag)},KV kvs vs->fc (λ(t:ak×Key×V)(p:ak×Key×ag×ag)=>t.1=p.1/\t.2.1=p.2.1/\RelV t.2.2 p.2.2.2) ts ps->KV (L2.putAll kvs (ts.map (·.2))) (wJ vs ps)
 |[],_,_,_,r,.nil=>r
 |t::ts,p::ps,kvs,vs,r,.cons h hs=>by obtain⟨_,h2,h3⟩:=h;show KV (L2.putAll (qI kvs t.2.1 t.2.2) (ts.map (·.2))) (wJ (stored vs p.2.1 p.2.2.2) ps);rw[<-h2];exact KV.putAll (r.put t.2.1 h3) hs
def MG(hc:X.calm=true):CallR X (.type "dict") (rDP X.K):=by
 intro Pe s O H xs us Q I r h;obtain⟨l,ts,rfl,hl,ht,q⟩:=h;obtain⟨u,rfl,rx⟩:=qH r;cases rx;obtain⟨its,rv,pl,hz⟩:=I.list hl;have UK:∀{ts:List (ak×Key×V)}{its:List ag},Vals (ts.map λt=>V.ref t.1) its->its=ts.map λt=>bj t.1:=by
  intro ts;induction ts with
  |nil=>intro its rv;cases rv;rfl
  |cons t ts ih =>
   intro its rv;cases rv with
   |cons r rs =>
    cases r;rw[ih rs];rfl
 have SW:∀(ts:List (ak×Key×V)),(∀t∈ts,SqT X.K H t.1 [kV t.2.1,t.2.2])->∃ps:List (ak×Key×ag×ag),(∀p∈ps,PairAt (mT X.prog X.w) s.heap p)/\fc (λ(t:ak×Key×V)(p:ak×Key×ag×ag)=>t.1=p.1/\t.2.1=p.2.1/\RelV t.2.2 p.2.2.2) ts ps:=by
  intro ts;induction ts with
  |nil=>exact λ_=>⟨[],(λ_ z=>nomatch z),.nil⟩
  |cons t ts ih =>
   intro h;obtain⟨ps,h1,h2⟩:=ih λt' z=>h t' (ae _ z);obtain⟨Qm,Sr,⟨o,ho,Sf,n,hd⟩,_⟩:=I.tuple (h t ai);obtain⟨u1,u2,rfl,r1,r2⟩:=MT Sr;refine⟨(t.1,t.2.1,u1,u2)::ps,λp z=>?_,.cons ⟨rfl,rfl,r2⟩ h2⟩;rcases af.mp z with z|z
   ·rw[z];exact⟨⟨o,n,ho,Sf,hd⟩,yk r1⟩
   ·exact h1 p z
 obtain⟨ps,h1,h2⟩:=SW ts ht;have eps:∀{ts:List (ak×Key×V)}{ps:List (ak×Key×ag×ag)},fc (λ(t:ak×Key×V)(p:ak×Key×ag×ag)=>t.1=p.1/\t.2.1=p.2.1/\RelV t.2.2 p.2.2.2) ts ps->(ts.map λt=>bj t.1)=ps.map λp=>bj p.1:=by
  intro ts;induction ts with
  |nil=>intro ps h;cases h;rfl
  |cons t ts ih =>
   intro ps h;cases h with
   |cons a b=>rw[al,al,ih b,a.1]
 rw[UK rv,eps h2] at pl;obtain⟨o,n,ho,Sf,Vk,Ul⟩:=pl;rw[ac] at hz;have Pi:ps.length=ts.length:=(iB h2).symm;refine yo (knd:=mT X.prog X.w) (I.ok.hd hc) ho Sf Vk Ul h1 (by rw[Pi];exact hz) λh' tk dd kp=>?_;refine⟨.ref s.heap.objs.size,_,I.laid (a:=s.heap.objs.size) (o:=.dK (putAll [] (ts.map (·.2)))) (t':=tk) (λb o e=>kp b o e) (ao _) (De ?_ (beq_eq_false_iff_ne.mpr (bW (aG I.big))) (KV.putAll .nil h2) dd),rfl,q _ (I.hok.fresh (ao _))⟩;have:=vj (ts.map (·.2)) [];rw[ac] at this;simp only[jn,fF] at this;exact aE this hz
def AZ:List (Key×PV)->List PV->Option (List (Key×PV))
 |kvs,[]=>Za kvs
 |kvs,.tup [k,p]::l=>match kyOf k with
  |some key=>AZ (xN kvs key p) l
  |none=>Zb
 |_,_=>Zb
def AX(vs:List PV)(s:Sto):Out PV:=match vs with
 |[v]=>match lsOf s v with
  |some l=>match AZ [] l with
   |some d=>.ok (.dct d) s
   |none=>.bad
  |none=>.bad
 |_=>.bad
theorem zD{K:aa}{H:Hp}{m:Mp}{s:Sto}:∀{l:List PV}{vs:List V}{kvs:List (Key×V)}{q d:List (Key×PV)},Reps K H m s vs l->RepKs K H m s kvs q->AZ q l=Za d->∃ts:List (ak×Key×V),vs=(ts.map λt=>V.ref t.1)/\(∀t∈ts,SqT K H t.1 [kV t.2.1,t.2.2])/\RepKs K H m s (putAll kvs (ts.map (·.2))) d
 |[],_,kvs,q,d,.nil,rq,h=>by cases h;exact⟨[],rfl,(λ_ z=>nomatch z),rq⟩
 |p::l,_,kvs,q,d,.cons r rs,rq,h=>by
  unfold AZ at h;split at h
  ·rename_i z;cases z
  ·rename_i k p' l' heq;cases heq;split at h
   ·rename_i key hk;obtain⟨a,P6,rfl,sq,rr⟩:=r.tp;cases rr with
    |cons r1 rr =>
     cases rr with
     |cons r2 rr =>
      cases rr;obtain⟨ts,e1,e2,e3⟩:=zD rs (rq.put key r2) h;have ek:=qi r1 hk;subst ek;refine⟨(a,key,_)::ts,by rw[e1];rfl,λt z=>?_,e3⟩;rcases af.mp z with z|z
      ·rw[z];exact sq
      ·exact e2 t z
   ·cases h
  ·cases h
def FI(hc:X.calm=true):BltR X CB E (.type "dict") AX:=⟨_,MG hc,by
 intro H m s v x Q S rx P;unfold AX at P;split at P
 ·cases rx with
  |cons r n =>
   cases n;split at P
   ·rename_i l hl;split at P
    ·rename_i d hd;obtain⟨a,vs,rfl,q,r⟩:=r.ls S hl;obtain⟨ts,rfl,e2,e3⟩:=zD r .nil hd;exact⟨a,ts,rfl,q,e2,λp hp=>P.new S hp λex S'=>.dct (.inl lQ) (S.pure_none hp) (e3.ext ex)⟩
    ·exact P.elim
   ·exact P.elim
 ·exact P.elim⟩
def AS(d:ak):Obj:={ cls:=.type "dict_values",data:=.fields #[.ref d] }
def tVals(td:TE):TE:=λO H Q=>td O H λx H1=>∃(d:ak)(kvs:List (Key×V)),x=.ref d/\Rd H1 d (.dK kvs)/\∀v,H1 v=Zb->Q (.ref v) (upd H1 v (fzO (AS d)))
def Lq(ho:PE X a td)(Pz:cz a "values" X.env (eval a X.env)=eval a X.env:=by rfl)(Py:(Pf.endLine==Pg.line)=true:=by rfl):PE X (.Call (.Attribute a "values" Pf) [] [] Pg) (tVals td):=by intro Pe s O H Q I h;refine lv Pz Py (thn (ho Pe s O H _ I h) λv s1=>e4 λx H1 I1 r1 ⟨d,kvs,ex,hd,q⟩=>?_);subst ex;obtain rfl:v=bj d:=r1;obtain⟨t1,t2,_⟩:=Fz I1 (.inl ⟨kvs,hd⟩);refine⟨"dict","dict.values",gz,jx,PySem.F.type_dict_values,t1,t2,dJ rfl (kP ?_)⟩;obtain⟨z,hs,vs,rel,dd⟩:=tH I1.hok hd;refine ju jx dd.typeIs PySem.F.entry_dict_values (PySem.F.args_dict_values_1 _) (meets_dict_values (mT X.prog X.w) d hs) ⟨⟨vs,dd⟩,?_⟩;have e0:(s1.heap.push (AS d)).get? s1.heap.objs.size=Za (AS d):=ba _ rfl;exact⟨.ref s1.heap.objs.size,_,I1.laid (a:=s1.heap.objs.size) (o:=fzO (AS d)) (t':=s1.toks) (λb o e=>ar _ e) (ao _) ⟨e0,_,e0⟩,rfl,q _ (I1.hok.fresh (ao _))⟩
def HH(hc:X.calm=true):CallR X (.builtin "sum") (λxs H Q=>∃(v d:ak)(kvs:List (Key×V))(is:List Int),xs=[.ref v]/\H v=Za (fzO (AS d))/\Rd H d (.dK kvs)/\kvs.map (·.2)=is.map V.int/\Q (.int is.sum) H):=by
 intro Pe s O H xs us Q I r h;obtain⟨v,d,kvs,is,rfl,hv,hd,hi,q⟩:=h;obtain⟨u,rfl,ru⟩:=qH r;cases ru;obtain⟨z,hs,vs,rel,dd⟩:=tH I.hok hd;obtain⟨hov,_⟩:=(show ObjOk X.prog X.w H s.heap v (fzO (AS d)) from I.hok v _ hv);obtain⟨ep,QQ⟩:=dd.dictAt;have Sl:∀{is:List Int}{kvs:List (Key×V)}{vs:List (Key×ag)},KV kvs vs->kvs.map (·.2)=is.map V.int->∀(i:Nat)(k:Key)(w:ag),vs[i]?=Za (k,w)->∃t,w=f7 ((is[i]?).getD 0) t:=by
  intro is;induction is with
  |nil =>
   intro kvs vs rel e i k w hw;have:kvs=[]:=List.map_eq_nil_iff.mp e;subst this;cases rel;cases hw
  |cons x is ih =>
   intro kvs vs rel e i k w hw;cases rel with
   |nil=>cases e
   |cons a b =>
    rw[al,al] at e;obtain⟨e1,e2⟩:=eB e;cases i with
    |zero =>
     cases hw;have:=a.2;rw[e1] at this;obtain⟨t,rfl⟩:=this;exact⟨t,rfl⟩
    |succ i=>exact ih b e2 i k w hw
 have Pi:vs.length=is.length:=by have h1:=rel.length;have h2:=congrArg b6 hi;rw[ac,ac] at h2;lia
 have Ry:d<s.heap.objs.size:=by obtain⟨o,_,_,ho,_⟩:=dd;exact az ho
 refine call_sum_walkG (wpAny_pyIter_values (knd:=mT X.prog X.w) ⟨_,hov,rfl,rfl⟩ QQ ?_);refine⟨s.heap.objs.size,_,_,vs.length,_,_,λi=>(is[i]?).getD 0,rfl,Walks.dictValues (show X.A.in1.handled=Zb from I.ok.hd hc) s.heap.objs.size d (aG Ry) vs ep,⟨⟨_,ba _ rfl,rfl,rfl⟩,QQ.push _⟩,λb hb=>?_,λi w ⟨k,hk⟩=>Sl rel hi i k w hk,λh' tk t' hk=>?_⟩
 ·show b<(s.heap.push _).objs.size;rw[jB];simp only[af,cK,or_false] at hb;rcases hb with z|z<;>rw[z]
  ·exact cC _
  ·exact cj Ry
 ·have ps:∀(is:List Int)(n:Nat),preSum (λi=>(is[i]?).getD 0) n=(is.take n).sum:=by
   intro is n;induction n with
   |zero=>rfl
   |succ n ih =>
    show preSum _ n+(is[n]?).getD 0=_;rw[ih,dX,List.sum_append];cases is[n]?<;>simp
  rw[ps,Pi,gI];refine⟨.int _,H,I.kept λb o e=>hk b o ?_ (ar _ e),⟨_,rfl⟩,q⟩;simp only[ap];exact aG (az e)
def Ew(f:XE)(Z:En)(s:Sto):Out PV:=(f Z s).bind λv s1=>match dcOf s1 v with
 |some l=>match tR (l.map (·.2)) with
  |some is=>.ok (.int is.sum) s1
  |none=>.bad
 |none=>.bad
theorem yZ{K:aa}{H:Hp}{m:Mp}{s:Sto}:∀{vs:List (Key×V)}{l:List (Key×PV)},RepKs K H m s vs l->Reps K H m s (vs.map (·.2)) (l.map (·.2))
 |_,_,.nil=>.nil
 |_,_,.cons a b=>.cons a (yZ b)
def Ms(ho:DE X CB E a f)(hc:X.calm=true:=by rfl)(hg:Gl X "sum":=by rfl)(hm:X.mg "sum"=none:=by assumption)(Pz:cz a "values" X.env (eval a X.env)=eval a X.env:=by rfl)(Py:(Pf.endLine==Pg.line)=true:=by rfl)(hs:aB [Expr.Call (.Attribute a "values" Pf) [] [] Pg] X.env=(false,eval (Expr.Call (.Attribute a "values" Pf) [] [] Pg) X.env)::aB [] X.env:=by rfl)(PL:(bY pos (aB [] X.env)).any (·.1)=false:=by rfl):DE X CB E (.Call (.Name "sum" p) [.Call (.Attribute a "values" Pf) [] [] Pg] [] pos) (Ew f) :=
 ⟨(pG (HH hc) hg hm Kn (mf (Lq ho.pe Pz Py) pa_nil hs) (by decide) (by decide) hs PL).mono λO H Q=>oE λZ s m er S P=>⟨Z,s,m,er,S,P.bind λv s1 u H1 m1 e1 S1 r1 P1=>by
  split at P1
  ·rename_i l hl;split at P1
   ·rename_i is hi;obtain⟨d,vs,rfl,hd,rr⟩:=r1.dc S1 hl;have e:=uu (yZ rr) hi;refine⟨d,vs,rfl,hd,λw hw=>?_⟩;have kk:=My.sF (o:=fzO (AS d)) hw;exact⟨w,d,vs,is,rfl,lQ,hd.same kk,e,P1 _ _ _ (.same kk) (S1.same kk) .int⟩
   ·exact P1.elim
  ·exact P1.elim⟩⟩
def M4:R2:=λx y H Q=>∃a b kvs,x=.ref a/\y=.ref b/\Rd H a (.dK kvs)/\Rd H b (.dK [])/\Q (.bl kvs.isEmpty) H
def Lz(hu:X.A.units<eY):OpR X (bP .Eq) M4:=by
 intro Pe s O H x y v u Q I rx ry h;obtain⟨a,b,kvs,rfl,rfl,ha,hb,k⟩:=h;cases rx;cases ry;obtain⟨z,hs,vs,rel,dd⟩:=tH I.hok ha;obtain⟨z2,Rt,vs2,UJ,VF⟩:=tH I.hok hb;cases UJ;refine PySem.W.keq_eq (r:=true) hs Rt dd VF hu (λe=>?_) ⟨.bl _,H,I,rfl,?_⟩
 ·have:vs=[]:=cB.mp e;subst this;exact .nil
 ·have q:kvs.isEmpty=(vs.length==([]:List (Key×ag)).length&&true):=by cases rel<;>rfl
  rw[<-q];exact k
def AW(v w:PV)(s:Sto):Out PV:=match dcOf s v,dcOf s w with
 |some l,Za []=>.ok (.bl l.isEmpty) s
 |_,_=>.bad
def Og:Op2 X.K CB E M4 AW:=by
 intro H m s v w x y Q S rx ry P;unfold AW at P;split at P
 ·rename_i l h1 h2;obtain⟨a,vs,rfl,q,r⟩:=rx.dc S h1;obtain⟨b,vs2,rfl,q2,r2⟩:=ry.dc S h2;cases r2;refine⟨a,b,vs,rfl,rfl,q,q2,?_⟩;have:vs.isEmpty=l.isEmpty:=by cases r<;>rfl
  rw[this];exact P.here S .bl
 ·exact P.elim
def OT(hr:Room jr X.A:=by assumption):CmpR X CB E .Eq AW:=⟨_,Lz (Nat.lt_of_succ_lt (oi hr)),Og⟩
end
end L2
namespace My
open PySem L2 Fra
section
variable{P:aL}{w:bh}{K:aa}{mg:Str->Option ag}{base:bv}{a:Adr}{f:ak}{fd:cq}
def mW(a:Adr)(vs:List PV)(s:Sto):Out PV:=match vs with
 |[.int n,.int m]=>if 0<m then .ok (.int (aF n m)) s else .bad
 |_=>.bad
def K1(vs)(H)(Q)(E)(h:spD K a.Book 2 (mW a) vs H Q E):Fp vs H Q E:=by
 obtain⟨_,ps,s,m,r,S,P⟩:=h;unfold mW at P;split at P
 ·split at P
  ·rename_i hz;cases r with
   |cons r1 r=>cases r with
    |cons r2 r =>
     cases r;cases r1;cases r2;exact⟨_,_,rfl,hz,P.here S .int⟩
  ·exact P.elim
 ·exact P.elim
structure Yz(K:aa)(mg:Str->Option ag)(a:Adr):Prop where
 T:Txt K mg a
 h:∃h:bv,K.In h/\h.Ns bc mg
def gof{x}{st}{k}{ps}{sp:Sp}(c:Gf K x st)(Y:Yz K mg a)(o:∀{f:ak}{fd:cq},Txt K mg a->Fun K x x st f fd->FnOk P w K mg base (CXo P w) k f fd ps sp)(b:Bd x x st ps:=by first|exact bd1|exact bd2|exact bd3|exact bd4|exact bd5|exact bd6|exact bd0):Fn P w K mg base x k ps sp :=
 let⟨_,X,G⟩:=Y.h;c.fn X G (o Y.T) b
variable (P w K mg base a) in abbrev AR:=Mt P w K mg base a.Book "person" 4 ["self","name"] (spD K a.Book 2 (uS a))
variable (P w K mg base a) in abbrev Cv:=Mt P w K mg base a.Book "house" 4 ["self","name","owner","things","mark","loss"] (spD K a.Book 6 (w6 a))
variable (P w K mg base a) in abbrev yf:=Mt P w K mg base a.Book "sale" 4 ["self","house","one","other","share"] (spD K a.Book 5 (rM a))
variable (P w K mg base a) in abbrev tZ:=Mt P w K mg base a.Book "persons" 1 ["self"] (spD K a.Book 1 (o6 a))
variable (P w K mg base a) in abbrev oK:=Mt P w K mg base a.Book "houses" 1 ["self"] (spD K a.Book 1 (nG a))
variable (P w K mg base a) in abbrev rL:=Mt P w K mg base a.Book "shares" 3 ["self","house"] (spD K a.Book 2 (nF a))
variable (P w K mg base a) in abbrev HN:=Mt P w K mg base a.Book "of" 3 ["self","house"] (spD K a.Book 2 (Kq a))
variable (P w K mg base a) in abbrev yq:=Mt P w K mg base a.Book "is_house" 1 ["self","name"] (spD K a.Book 2 (qR a))
variable (P w K mg base a) in abbrev vO:=Mt P w K mg base a.Book "need_house" 2 ["self","name"] (spD K a.Book 2 (pj a))
variable (P w K mg base a) in abbrev Dv:=MkB P w K mg base "Book" a.Book 1 ["self"] (JR K a.Book)
variable (P w K mg base a) in abbrev rZ:=Fn P w K mg base "common_divisor" 1 ["number","other"] (spD K a.Book 2 (mW a))
abbrev sR:bQ:=top 44
def Au:FnScope ["_law_cell","_law_k","_law_number_here"] ["_law_cell","_law_k"] (lR sR):=fsc
def vV(a:Adr):XS:=(xSeq (xSet 2 (x2 (x2 (x2 (x2 (x2 (x2 (xVar 0) (xVar 0) Fd) (x2 (xC (.int 3)) (xVar 0) fMul) fAdd) (x2 (xC (.int 7919)) (xVar 1) fMul) fAdd) (xC (.int 1)) fAdd) (xC (.int 48271)) fMul) (xC (.int 2147483629)) fMod)) (xRet (x2 (x2 (x2 (xVar 2) (xVar 2) fMul) (xC (.int 7)) fAdd) (xC (.int 2147483587)) fMod)))
def qx(a:Adr):XF:=(fnD 3 (vV a))
variable (P w K mg base a) in abbrev sY:=Fn P w K mg base "_law_mixed" 1 ["_law_cell","_law_k"] (spD K a.Book 2 (qx a))
def AG(Y:Yz K mg a)(c:Gf K "_law_mixed" sR):sY P w K mg base a :=
 gof c Y λT F=>nM F Au rfl λ_ _ _ _ _ _ hr S=>(lM (ma 2 (wf (nr (nu (nu (nu (Mw (lJ 0) (lJ 0)) (nr lT (lJ 0))) (nr lT (lJ 1))) lT) lT) lT)) (lW (mO (wf (nu (nr (lJ 2) (lJ 2)) lT) lT))))
abbrev sP:bQ:=top 45
def As:FnScope ["_law_script","_law_cells","_law_number_here","_law_k"] ["_law_script"] (lR sP):=fsc
def qC(a:Adr) :XS:=(xSet 2 (x2 (x2 (xVar 2) (xC (.int 2147483587)) fMul) (xCall 2 (qx a) (xCons (x2 (xVar 1) (x2 (xVar 3) (xB (xCons (xVar 1) xNil) fLen) fMod) fIx) (xCons (xVar 3) xNil))) fAdd))
def sU(a:Adr):XS:=(xSeq (xSet 1 (x2 (xSl (xVar 0) xNoP (xPart (xC (.int 63)))) (xLst (xCons (xC (.int 0)) xNil)) fAdd)) (xSeq (xSet 2 (xC (.int 1))) (xSeq (xFor (xRng1 (xCons (xC (.int 64)) xNil)) (yName 3) (qC a)) (xSeq (xIf (xTr (x2 (xB (xCons (x2 (xVar 1) (xC (.int 0)) fIx) xNil) fAbs) (x2 (xC (.int 10)) (xC (.int 18)) fPow) fGe)) (xRet (xLstC (xCons (xB (xCons (x2 (xVar 1) (xC (.int 0)) fIx) xNil) fAbs) (xCons (xVar 2) xNil)))) xEnd) (xRet (xLstC (xCons (xVar 2) (xCons (xVar 2) xNil))))))))
def oA(a:Adr):XF:=(fnD 4 (sU a))
variable (P w K mg base a) in abbrev sW:=Fn P w K mg base "_law_purse" 2 ["_law_script"] (spD K a.Book 1 (oA a))
def AE(Y:Yz K mg a)(c:Gf K "_law_purse" sP)(A0:sY P w K mg base a):sW P w K mg base a :=
 gof c Y λT F=>nM F As rfl λ_ _ _ _ _ _ hr S=>(lM (ma 1 (nu (Ic (lJ 0) zB (zA lT)) (rH (lN lT)))) (lM (ma 2 lT) (lM (qm (pY (lN lT)) (mM 3) (lW (ma 2 (nu (nr (lJ 2) lT) (mz A0 (lP (mw (lJ 1) (wf (lJ 3) (mD b_len (lN (lJ 1))))) (lN (lJ 3)))))))) (lM (pQ (oC Nt (mD b_abs (lN (mw (lJ 1) lT))) (we lT lT)) (lW (mO (zF (lP (mD b_abs (lN (mw (lJ 1) lT))) (lN (lJ 2)))))) nc) (lW (mO (zF (lP (lJ 2) (lN (lJ 2))))))))))
abbrev uk:bQ:=top 46
def Cd:FnScope ["_law_purse_here","_law_out_of","_law_drawn"] ["_law_purse_here","_law_out_of"] (lR uk):=fsc
def uz(a:Adr):XS:=(xSeq (xIf (xTr (x2 (x2 (xVar 0) (xC (.int 0)) fIx) (xC (.int 0)) fEq)) (xPut (xVar 0) (xC (.int 0)) (x2 (xVar 0) (xC (.int 1)) fIx)) xEnd) (xSeq (xSet 2 (x2 (x2 (xVar 0) (xC (.int 0)) fIx) (xVar 1) fMod)) (xSeq (xPut (xVar 0) (xC (.int 0)) (x2 (x2 (xVar 0) (xC (.int 0)) fIx) (xVar 1) fDiv)) (xRet (xVar 2)))))
def lZ(a:Adr):XF:=(fnD 3 (uz a))
variable (P w K mg base a) in abbrev nR:=Fn P w K mg base "_law_draw" 1 ["_law_purse_here","_law_out_of"] (spD K a.Book 2 (lZ a))
def Cp(Y:Yz K mg a)(c:Gf K "_law_draw" uk):nR P w K mg base a :=
 gof c Y λT F=>nM F Cd rfl λ_ _ _ _ _ _ hr S=>(lM (pQ (oC BR (mw (lJ 0) lT) lT) (lW (yx (lJ 0) lT (mw (lJ 0) lT))) nc) (lM (ma 2 (wf (mw (lJ 0) lT) (lJ 1))) (lM (yx (lJ 0) lT (tV (mw (lJ 0) lT) (lJ 1))) (lW (mO (lJ 2))))))
abbrev qA:bQ:=top 47
def yg:FnScope ["_law_one","_law_other"] ["_law_one","_law_other"] (lR qA):=fsc
def oy(a:Adr) :XS:=(xPar 0 1 (xCons (xVar 1) (xCons (x2 (xVar 0) (xVar 1) fMod) xNil)))
def tY(a:Adr):XS:=(xSeq (xSet 0 (xB (xCons (xVar 0) xNil) fAbs)) (xSeq (xSet 1 (xB (xCons (xVar 1) xNil) fAbs)) (xSeq (tN (xTr (x2 (xVar 1) (xC (.int 0)) fGt)) (oy a)) (xRet (xVar 0)))))
def pb(a:Adr):XF:=(fnD 2 (tY a))
variable (P w K mg base a) in abbrev qE:=Fn P w K mg base "_law_divisor" 1 ["_law_one","_law_other"] (spD K a.Book 2 (pb a))
def yi(Y:Yz K mg a)(c:Gf K "_law_divisor" qA):qE P w K mg base a :=
 gof c Y λT F=>nM F yg rfl λ_ _ _ _ _ _ hr S=>(lM (ma 0 (mD b_abs (lN (lJ 0)))) (lM (ma 1 (mD b_abs (lN (lJ 1)))) (lM (Ab (oC Pb (lJ 1) lT) (lW (OI (i:=0) (j:=1) rfl S.nd rfl rfl (by decide) rfl rfl (lP (lJ 1) (lN (wf (lJ 0) (lJ 1)))) rfl))) (lW (mO (lJ 0))))))
abbrev uh:bQ:=top 48
def Cb:FnScope ["_law_top","_law_bottom","_law_by"] ["_law_top","_law_bottom"] (lR uh):=fsc
def xU(a:Adr):XS:=(xSeq (xSet 2 (xCall 2 (pb a) (xCons (xVar 0) (xCons (xVar 1) xNil)))) (xSeq (xIf (xTr (x2 (xVar 1) (xC (.int 0)) fLt)) (xSet 2 (x2 (xC (.int 0)) (xVar 2) fSub)) xEnd) (xRet (xTup (xCons (x2 (xVar 0) (xVar 2) fDiv) (xCons (x2 (xVar 1) (xVar 2) fDiv) xNil))))))
def m8(a:Adr):XF:=(fnD 3 (xU a))
variable (P w K mg base a) in abbrev rb:=Fn P w K mg base "_law_made" 2 ["_law_top","_law_bottom"] (spD K a.Book 2 (m8 a))
def Cn(Y:Yz K mg a)(c:Gf K "_law_made" uh)(A0:qE P w K mg base a):rb P w K mg base a :=
 gof c Y λT F=>nM F Cb rfl λ_ _ _ _ _ _ hr S=>(lM (ma 2 (mz A0 (lP (lJ 0) (lN (lJ 1))))) (lM (pQ (oC c_lt (lJ 1) lT) (lW (ma 2 (yy lT (lJ 2)))) nc) (lW (mO (rG (lP (tV (lJ 0) (lJ 2)) (lN (tV (lJ 1) (lJ 2)))))))))
abbrev sQ:bQ:=top 49
def At:FnScope ["_law_purse_here","_law_many","_law_letters","_law_long","_law_stem","_law_at","_law_found","_law_k","_law_spots"] ["_law_purse_here","_law_many"] (lR sQ):=fsc
def om(a:Adr) :XS:=(xSeq (xSet 8 (pE (xRng1 (xCons (xVar 3) xNil)) [4,7,5] m9 (x2 (x2 (xVar 1) (xVar 0) fIx) (x2 (x2 (xC (.int 5)) (xVar 2) fMul) (xB (xCons (x2 (xVar 0) (xVar 3) fEq) xNil) fInt) fMul) fAdd))) (xDo (xAppend (xVar 6) (xCons (xJoin (xC (.str "")) (xCons (pE (xIter (xVar 8)) [2] m9 (x2 (xVar 1) (x2 (xVar 0) (xC (.int 26)) fMod) fIx)) xNil)) xNil))))
def sV(a:Adr):XS:=(xSeq (xSet 2 (xC (.str "abcdefghijklmnopqrstuvwxyz"))) (xSeq (xSet 3 (x2 (xC (.int 1)) (xCall 2 (lZ a) (xCons (xVar 0) (xCons (xC (.int 7)) xNil))) fAdd)) (xSeq (xSet 4 (pE (xRng1 (xCons (xVar 3) xNil)) [0] m9 (xCall 2 (lZ a) (xCons (xVar 1) (xCons (xC (.int 26)) xNil))))) (xSeq (xSet 5 (xCall 2 (lZ a) (xCons (xVar 0) (xCons (xVar 3) xNil)))) (xSeq (xSet 6 (xLstC xNil)) (xSeq (xFor (xRng1 (xCons (xVar 1) xNil)) (yName 7) (om a)) (xSeq (xIf (xTr (x2 (xCall 2 (lZ a) (xCons (xVar 0) (xCons (xC (.int 4)) xNil))) (xC (.int 0)) fEq)) (xSet 6 (oV (wk (xCons (xFrz (xVar 6)) xNil)) [] m9 (x2 (xVar 1) (x2 (xC (.str "x")) (x2 (xVar 0) (xC (.int 2)) fMod) zx) fAdd))) xEnd) (xRet (Ey (xVar 6))))))))))
def tf(a:Adr):XF:=(fnD 9 (sV a))
variable (P w K mg base a) in abbrev sX:=Fn P w K mg base "_law_names" 2 ["_law_purse_here","_law_many"] (spD K a.Book 2 (tf a))
def AF(Y:Yz K mg a)(c:Gf K "_law_names" sQ)(EN:mg "enumerate"=Zb)(A0:nR P w K mg base a):sX P w K mg base a :=
 gof c Y λT F=>nM F At rfl λ_ _ _ _ _ _ hr S=>(lM (ma 2 FF) (lM (ma 3 (nu lT (mz A0 (lP (lJ 0) (lN lT))))) (lM (ma 4 (qN (fr:=["_law_purse_here"]) (pY (lN (lJ 3))) (λ_ _ _ _ _=>(mz A0 (lP (lJ 1) (lN lT)))))) (lM (ma 5 (mz A0 (lP (lJ 0) (lN (lJ 3))))) (lM (ma 6 (zF wj)) (lM (qm (pY (lN (lJ 1))) (mM 7) (lM (zy (fr:=["_law_stem","_law_k","_law_at"]) (pY (lN (lJ 3))) (λ_ _ _ _ _=>(nu (mw (lJ 1) (lJ 0)) (nr (nr lT (lJ 2)) (sx b_int (lN (Dg BR (lJ 0) (lJ 3)))))))) (lW (wB (BG (lJ 6) (lN (Mz FF (lN (qN (fr:=["_law_letters"]) (qZ (lJ 8)) (λ_ _ _ _ _=>(mw (lJ 1) (wf (lJ 0) lT)))))))))))) (lM (pQ (oC BR (mz A0 (lP (lJ 0) (lN lT))) lT) (lW (xY (fr:=[]) (CM (lN (OQ (lJ 6))) rfl EN) (λ_ _ _ _ _=>(nu (lJ 1) (Mu FF (wf (lJ 0) lT)))))) nc) (lW (mO (MA (lJ 6)))))))))))
abbrev rm:bQ:=top 50
def yC:FnScope ["_law_purse_here","_law_most"] ["_law_purse_here"] (lR rm):=fsc
def vp(a:Adr):XS:=(xSeq (xSet 1 (x2 (xLst (xCons (xC (.int 10)) (xCons (xC (.int 10)) (xCons (xC (.int 100)) (xCons (xC (.int 3)) (xCons (x2 (xC (.int 10)) (xC (.int 6)) fPow) (xCons (x2 (xC (.int 10)) (xC (.int 20)) fPow) xNil))))))) (xCall 2 (lZ a) (xCons (xVar 0) (xCons (xC (.int 6)) xNil))) fIx)) (xRet (x2 (xCall 2 (lZ a) (xCons (xVar 0) (xCons (x2 (xC (.int 2)) (xVar 1) fMul) xNil))) (x2 (xVar 1) (xC (.int 3)) fDiv) fSub)))
def ny(a:Adr):XF:=(fnD 2 (vp a))
variable (P w K mg base a) in abbrev rJ:=Fn P w K mg base "_law_number" 2 ["_law_purse_here"] (spD K a.Book 1 (ny a))
def yJ(Y:Yz K mg a)(c:Gf K "_law_number" rm)(A0:nR P w K mg base a):rJ P w K mg base a :=
 gof c Y λT F=>nM F yC rfl λ_ _ _ _ _ _ hr S=>(lM (ma 1 (mw (rH (lP lT (lP lT (lP lT (lP lT (lP (we lT lT) (lN (we lT lT)))))))) (mz A0 (lP (lJ 0) (lN lT))))) (lW (mO (yy (mz A0 (lP (lJ 0) (lN (nr lT (lJ 1))))) (tV (lJ 1) lT)))))
abbrev ug:bQ:=top 51
def Ca:FnScope ["_law_purse_here","_law_share","_law_kind","_law_low"] ["_law_purse_here","_law_share"] (lR ug):=fsc
def uy(a:Adr):XS:=(xSeq (xSet 2 (xCall 2 (lZ a) (xCons (xVar 0) (xCons (xC (.int 5)) xNil)))) (xSeq (xIf (xTr (x2 (xVar 2) (xC (.int 0)) fEq)) (xRet (xVar 1)) xEnd) (xSeq (xSet 3 (x2 (xLst (xCons (xC (.int 2)) (xCons (xC (.int 3)) (xCons (xC (.int 7)) (xCons (x2 (xC (.int 10)) (xC (.int 6)) fPow) xNil))))) (x2 (xVar 2) (xC (.int 1)) fSub) fIx)) (xRet (xCall 2 (m8 a) (xCons (x2 (x2 (xVar 1) (xC (.int 0)) fIx) (x2 (xC (.int 1)) (xCall 2 (lZ a) (xCons (xVar 0) (xCons (x2 (xVar 3) (xC (.int 1)) fSub) xNil))) fAdd) fMul) (xCons (x2 (x2 (xVar 1) (xC (.int 1)) fIx) (xVar 3) fMul) xNil)))))))
def oY(a:Adr):XF:=(fnD 4 (uy a))
variable (P w K mg base a) in abbrev ra:=Fn P w K mg base "_law_part" 3 ["_law_purse_here","_law_share"] (spD K a.Book 2 (oY a))
def Cm(Y:Yz K mg a)(c:Gf K "_law_part" ug)(A0:nR P w K mg base a)(A1:rb P w K mg base a):ra P w K mg base a :=
 gof c Y λT F=>nM F Ca rfl λ_ _ _ _ _ _ hr S=>(lM (ma 2 (mz A0 (lP (lJ 0) (lN lT)))) (lM (pQ (oC BR (lJ 2) lT) (lW (mO (lJ 1))) nc) (lM (ma 3 (mw (rH (lP lT (lP lT (lP lT (lN (we lT lT)))))) (yy (lJ 2) lT))) (lW (mO (mz A1 (lP (nr (mw (lJ 1) lT) (nu lT (mz A0 (lP (lJ 0) (lN (yy (lJ 3) lT)))))) (lN (nr (mw (lJ 1) lT) (lJ 3))))))))))
abbrev uf:bQ:=top 52
def B9:FnScope ["_law_purse_here","_law_model","_law_holders","_law_book","_law_houses","_law_house","_law_shares","_law_owners","_law_one","_law_other","_law_part_here","_law_top","_law_low","_law_rest"] ["_law_purse_here","_law_model","_law_holders","_law_book"] (lR uf):=fsc
def ux(a:Adr):XS:=(xSeq (xSet 4 (xB (xCons (xVar 1) xNil) mv)) (xSeq (xSet 5 (x2 (xVar 4) (xCall 2 (lZ a) (xCons (xVar 0) (xCons (xB (xCons (xVar 4) xNil) fLen) xNil))) fIx)) (xSeq (xSet 6 (x2 (x2 (xVar 1) (xVar 5) fIx) (xC (.int 0)) fIx)) (xSeq (xSet 7 (xB (xCons (xVar 6) xNil) mv)) (xSeq (xSet 8 (x2 (xVar 7) (xCall 2 (lZ a) (xCons (xVar 0) (xCons (xB (xCons (xVar 7) xNil) fLen) xNil))) fIx)) (xSeq (xSet 9 (x2 (xVar 2) (xCall 2 (lZ a) (xCons (xVar 0) (xCons (xB (xCons (xVar 2) xNil) fLen) xNil))) fIx)) (xSeq (xSet 10 (xCall 2 (oY a) (xCons (xVar 0) (xCons (x2 (xVar 6) (xVar 8) fIx) xNil)))) (xSeq (xIf (xTr (x2 (x2 (xVar 10) (xC (.int 1)) fIx) (x2 (xC (.int 10)) (xC (.int 29)) fPow) fGe)) xRetN xEnd) (xSeq (xDo (xBM 5 (rM a) (xVar 3) (xCons (xVar 5) (xCons (xVar 8) (xCons (xVar 9) (xCons (xVar 10) xNil)))))) (xSeq (xAsg (EA (xVar 6) (xVar 8)) (yTup 2 (yCons (yName 11) (yCons (yName 12) yNil)))) (xSeq (xSet 13 (xCall 2 (m8 a) (xCons (x2 (x2 (xVar 11) (x2 (xVar 10) (xC (.int 1)) fIx) fMul) (x2 (x2 (xVar 10) (xC (.int 0)) fIx) (xVar 12) fMul) fSub) (xCons (x2 (xVar 12) (x2 (xVar 10) (xC (.int 1)) fIx) fMul) xNil)))) (xSeq (xIf (xTr (x2 (x2 (xVar 13) (xC (.int 0)) fIx) (xC (.int 0)) fGt)) (xPut (xVar 6) (xVar 8) (xVar 13)) xEnd) (xSeq (xAsg (xGet (xVar 6) (xVar 9) (xTup (xCons (xC (.int 0)) (xCons (xC (.int 1)) xNil)))) (yTup 2 (yCons (yName 11) (yCons (yName 12) yNil)))) (xPut (xVar 6) (xVar 9) (xCall 2 (m8 a) (xCons (x2 (x2 (xVar 11) (x2 (xVar 10) (xC (.int 1)) fIx) fMul) (x2 (x2 (xVar 10) (xC (.int 0)) fIx) (xVar 12) fMul) fAdd) (xCons (x2 (xVar 12) (x2 (xVar 10) (xC (.int 1)) fIx) fMul) xNil)))))))))))))))))
def rg(a:Adr):XF:=(fnD 14 (ux a))
variable (P w K mg base a) in abbrev uC:=Fn P w K mg base "_law_sold" 5 ["_law_purse_here","_law_model","_law_holders","_law_book"] (spD K a.Book 4 (rg a))
def Ck(Y:Yz K mg a)(c:Gf K "_law_sold" uf)(A0:ra P w K mg base a)(A1:yf P w K mg base a)(A2:rb P w K mg base a)(A3:nR P w K mg base a):uC P w K mg base a :=
 gof c Y λT F=>nM F B9 rfl λ_ _ _ _ _ _ hr S=>(lM (ma 4 (mD (b_sorted rfl) (lN (lJ 1)))) (lM (ma 5 (mw (lJ 4) (mz A3 (lP (lJ 0) (lN (mD b_len (lN (lJ 4)))))))) (lM (ma 6 (mw (mw (lJ 1) (lJ 5)) lT)) (lM (ma 7 (mD (b_sorted rfl) (lN (lJ 6)))) (lM (ma 8 (mw (lJ 7) (mz A3 (lP (lJ 0) (lN (mD b_len (lN (lJ 7)))))))) (lM (ma 9 (mw (lJ 2) (mz A3 (lP (lJ 0) (lN (mD b_len (lN (lJ 2)))))))) (lM (ma 10 (mz A0 (lP (lJ 0) (lN (mw (lJ 6) (lJ 8)))))) (lM (pQ (oC Nt (mw (lJ 10) lT) (we lT lT)) (lW Mh) nc) (lM (wB (vI (lJ 3) A1 (lP (lJ 5) (lP (lJ 8) (lP (lJ 9) (lN (lJ 10))))))) (lM (FC (MB (lJ 6) (lJ 8)) (tU (mV (mM 11) (mV (mM 12) qM)))) (lM (ma 13 (mz A2 (lP (yy (nr (lJ 11) (mw (lJ 10) lT)) (nr (mw (lJ 10) lT) (lJ 12))) (lN (nr (lJ 12) (mw (lJ 10) lT)))))) (lM (pQ (oC Pb (mw (lJ 13) lT) lT) (lW (yx (lJ 6) (lJ 8) (lJ 13))) nc) (lM (FC (FH (lJ 6) (lJ 9) (rG (lP lT (lN lT)))) (tU (mV (mM 11) (mV (mM 12) qM)))) (lW (yx (lJ 6) (lJ 9) (mz A2 (lP (nu (nr (lJ 11) (mw (lJ 10) lT)) (nr (mw (lJ 10) lT) (lJ 12))) (lN (nr (lJ 12) (mw (lJ 10) lT))))))))))))))))))))
abbrev sS:bQ:=top 53
def Av:FnScope ["_law_purse_here","_law_most","_law_many","_law_count","_law_names_here","_law_book","_law_model","_law_name","_law_k","_law_owner","_law_three"] ["_law_purse_here","_law_most"] (lR sS):=fsc
def qD(a:Adr) :XS:=(xDo (xBM 2 (uS a) (xVar 5) (xCons (xVar 7) xNil)))
def o9(a:Adr) :XS:=(xSeq (xSet 9 (x2 (xVar 4) (xCall 2 (lZ a) (xCons (xVar 0) (xCons (x2 (xVar 2) (xVar 8) fAdd) xNil))) fIx)) (xSeq (xSet 10 (xTup (xCons (xCall 1 (ny a) (xCons (xVar 0) xNil)) (xCons (xCall 1 (ny a) (xCons (xVar 0) xNil)) (xCons (xB (xCons (xCall 1 (ny a) (xCons (xVar 0) xNil)) xNil) fAbs) xNil))))) (xSeq (xDo (xBM 6 (w6 a) (xVar 5) (xCons (x2 (xVar 4) (x2 (xVar 2) (xVar 8) fAdd) fIx) (xCons (xVar 9) (xCons (x2 (xVar 10) (xC (.int 0)) fIx) (xCons (x2 (xVar 10) (xC (.int 1)) fIx) (xCons (x2 (xVar 10) (xC (.int 2)) fIx) xNil))))))) (xPut (xVar 6) (x2 (xVar 4) (x2 (xVar 2) (xVar 8) fAdd) fIx) (xLst (xCons (xDisp (xVar 9) (xTup (xCons (xC (.int 1)) (xCons (xC (.int 1)) xNil)))) (xCons (xVar 10) xNil)))))))
def o8(a:Adr) :XS:=(xDo (xCall 4 (rg a) (xCons (xVar 0) (xCons (xVar 6) (xCons (xVar 4) (xCons (xVar 5) xNil))))))
def vW(a:Adr):XS:=(xSeq (xSet 2 (x2 (xC (.int 1)) (xCall 2 (lZ a) (xCons (xVar 0) (xCons (xC (.int 3)) xNil))) fAdd)) (xSeq (xSet 3 (xCall 2 (lZ a) (xCons (xVar 0) (xCons (x2 (xVar 1) (xC (.int 1)) fAdd) xNil)))) (xSeq (xSet 4 (xCall 2 (tf a) (xCons (xVar 0) (xCons (x2 (xVar 2) (xVar 3) fAdd) xNil)))) (xSeq (xSet 5 xBook) (xSeq (xSet 6 xNewD) (xSeq (xFor (xIter (xSl (xVar 4) xNoP (xPart (xVar 2)))) (yName 7) (qD a)) (xSeq (xFor (xRng1 (xCons (xVar 3) xNil)) (yName 8) (o9 a)) (xSeq (xIf (xTr (x2 (xVar 3) (xC (.int 0)) fGt)) (xFor (xRng1 (xCons (xCall 2 (lZ a) (xCons (xVar 0) (xCons (x2 (x2 (xC (.int 4)) (xVar 3) fMul) (xC (.int 1)) fAdd) xNil))) xNil)) (yName 8) (o8 a)) xEnd) (xRet (xTup (xCons (xVar 5) (xCons (xB (xCons (xSl (xVar 4) xNoP (xPart (xVar 2))) xNil) mv) (xCons (xVar 6) xNil)))))))))))))
def qy(a:Adr):XF:=(fnD 11 (vW a))
variable (P w K mg base a) in abbrev sZ:=Fn P w K mg base "_law_built" 6 ["_law_purse_here","_law_most"] (spD K a.Book 2 (qy a))
def AH(Y:Yz K mg a)(c:Gf K "_law_built" sS)(A0:nR P w K mg base a)(A1:sX P w K mg base a)(A2:Dv P w K mg base a)(A3:AR P w K mg base a)(A4:Cv P w K mg base a)(A5:rJ P w K mg base a)(A6:uC P w K mg base a):sZ P w K mg base a :=
 gof c Y λT F=>nM F Av rfl λ_ _ _ _ _ _ hr S=>(lM (ma 2 (nu lT (mz A0 (lP (lJ 0) (lN lT))))) (lM (ma 3 (mz A0 (lP (lJ 0) (lN (nu (lJ 1) lT))))) (lM (ma 4 (mz A1 (lP (lJ 0) (lN (nu (lJ 2) (lJ 3)))))) (lM (ma 5 (MD A2)) (lM (ma 6 CO) (lM (qm (qZ (Ic (lJ 4) zB (zA (lJ 2)))) (mM 7) (lW (wB (vI (lJ 5) A3 (lN (lJ 7)))))) (lM (qm (pY (lN (lJ 3))) (mM 8) (lM (ma 9 (mw (lJ 4) (mz A0 (lP (lJ 0) (lN (nu (lJ 2) (lJ 8))))))) (lM (ma 10 (rG (lP (mz A5 (lN (lJ 0))) (lP (mz A5 (lN (lJ 0))) (lN (mD b_abs (lN (mz A5 (lN (lJ 0)))))))))) (lM (wB (vI (lJ 5) A4 (lP (mw (lJ 4) (nu (lJ 2) (lJ 8))) (lP (lJ 9) (lP (mw (lJ 10) lT) (lP (mw (lJ 10) lT) (lN (mw (lJ 10) lT)))))))) (lW (yx (lJ 6) (mw (lJ 4) (nu (lJ 2) (lJ 8))) (rH (lP (MC (lJ 9) (rG (lP lT (lN lT)))) (lN (lJ 10)))))))))) (lM (pQ (oC Pb (lJ 3) lT) (lW (qm (pY (lN (mz A0 (lP (lJ 0) (lN (nu (nr lT (lJ 3)) lT)))))) (mM 8) (lW (wB (mz A6 (lP (lJ 0) (lP (lJ 6) (lP (lJ 4) (lN (lJ 5)))))))))) nc) (lW (mO (rG (lP (lJ 5) (lP (mD (b_sorted rfl) (lN (Ic (lJ 4) zB (zA (lJ 2))))) (lN (lJ 6)))))))))))))))
structure Wy(K:aa)(mg:Str->Option ag)(a:Adr):Prop where
 c:Cls K a.HALF
 n_bottom:NoAttr K a.HALF "bottom"
 n_top_of:NoAttr K a.HALF "top_of"
 g:mg "Ways"=Za (.ref a.HALF)
 m:fK K a.HALF=true
 k:cD K (.ref a.HALF)=true
def gom(c:Gm K a.HALF x q st)(Y:Yz K mg a)(W:Wy K mg a)(o:∀{f:ak}{fd:cq},Txt K mg a->Fun K x q st f fd->FnOk P w K mg base (CXo P w) k f fd ps sp)(b:Bd x q st ps:=by first|exact bd1|exact bd2|exact bd3|exact bd4|exact bd5|exact bd6|exact bd0):Mt P w K mg base a.HALF x k ps sp:=Gm.mt W.c c (o Y.T) b
def gok(c:Gm K a.HALF "__init__" q st)(Y:Yz K mg a)(W:Wy K mg a)(o:∀{f:ak}{fd:cq},Txt K mg a->Fun K "__init__" q st f fd->FnOk P w K mg base (CXo P w) k f fd ps sp)(b:Bd "__init__" q st ps:=by first|exact bd1|exact bd2|exact bd3|exact bd4|exact bd5|exact bd6|exact bd0):MkB P w K mg base "Ways" a.HALF k ps sp :=
 let⟨f,fd,n,i,U⟩:=c.ex;⟨f,fd,o Y.T U,W.g,⟨W.m,n,i,W.k⟩,U.binds b⟩
abbrev z5:bQ:=top 17
def G3:FnScope ["top","bottom","common"] ["top","bottom"] (lR z5):=fsc
def Ed(a:Adr):XS:=(xSeq (xSet 2 (xCall 2 (mW a) (xCons (xVar 0) (xCons (xVar 1) xNil)))) (xRet (xTup (xCons (x2 (xVar 0) (xVar 2) fDiv) (xCons (x2 (xVar 1) (xVar 2) fDiv) xNil)))))
def wG(a:Adr):XF:=(fnD 3 (Ed a))
variable (P w K mg base a) in abbrev Aj:=Fn P w K mg base "lowest" 2 ["top","bottom"] (spD K a.Book 2 (wG a))
def Hj(Y:Yz K mg a)(c:Gf K "lowest" z5)(A0:rZ P w K mg base a):Aj P w K mg base a :=
 gof c Y λT F=>nM F G3 rfl λ_ _ _ _ _ _ hr S=>(lM (ma 2 (mz A0 (lP (lJ 0) (lN (lJ 1))))) (lW (mO (rG (lP (tV (lJ 0) (lJ 2)) (lN (tV (lJ 1) (lJ 2))))))))
abbrev xm:bQ:=top 29
def EK:FnScope ["row","by","turn","former"] ["row","by","turn","former"] (lR xm):=fsc
def BC(a:Adr):XS:=(xRet (oV (Ev (xCons (xVar 0) (xCons (xVar 1) xNil))) [3,1,2,0] m9 (x2 (x2 (x2 (x2 (xVar 3) (xVar 4) fIx) (xVar 0) fMul) (x2 (x2 (xVar 5) (xVar 4) fIx) (xVar 1) fMul) fSub) (xVar 2) fDiv)))
def sD(a:Adr):XF:=(fnD 4 (BC a))
variable (P w K mg base a) in abbrev xH:=Fn P w K mg base "cleared" 1 ["row","by","turn","former"] (spD K a.Book 4 (sD a))
def EZ(Y:Yz K mg a)(c:Gf K "cleared" xm)(ZN:mg "zip"=Zb):xH P w K mg base a :=
 gof c Y λT F=>nM F EK rfl λ_ _ _ _ _ _ hr S=>(lW (mO (Ac (fr:=["former","by","turn","row"]) (FE (lP (lJ 0) (lN (lJ 1))) (hm:=ZN)) (λ_ _ _ _ _=>(tV (yy (nr (mw (lJ 3) (lJ 4)) (lJ 0)) (nr (mw (lJ 5) (lJ 4)) (lJ 1))) (lJ 2))))))
abbrev zZ:bQ:=top 30
def GY:FnScope ["rows","bottom","now","turn","by"] ["rows"] (lR zZ):=fsc
def tI(a:Adr) :XS:=(xSeq (xSet 4 (x2 (xVar 2) (xVar 3) fIx)) (xSeq (xSet 2 (oV (wk (xCons (xVar 2) xNil)) [3,4,1] m9 (xIfe (xTr (x2 (xVar 0) (xVar 2) fEq)) (xVar 1) (xCall 4 (sD a) (xCons (xVar 1) (xCons (xVar 3) (xCons (xVar 2) (xCons (xVar 4) xNil)))))))) (xSet 1 (x2 (xVar 4) (xVar 3) fIx))))
def Eb(a:Adr):XS:=(xSeq (xSet 1 (xC (.int 1))) (xSeq (xSet 2 (xVar 0)) (xSeq (xFor (xRng1 (xCons (xB (xCons (xVar 0) xNil) fLen) xNil)) (yName 3) (tI a)) (xRet (xTup (xCons (pE (xIter (xVar 2)) [0] m9 (xSl (xVar 0) (xPart (xB (xCons (xVar 1) xNil) fLen)) xNoP)) (xCons (xVar 1) xNil)))))))
def wF(a:Adr):XF:=(fnD 5 (Eb a))
variable (P w K mg base a) in abbrev Ah:=Fn P w K mg base "solved" 2 ["rows"] (spD K a.Book 1 (wF a))
def Hf(Y:Yz K mg a)(c:Gf K "solved" zZ)(EN:mg "enumerate"=Zb)(A0:xH P w K mg base a):Ah P w K mg base a :=
 gof c Y λT F=>nM F GY rfl λ_ _ _ _ _ _ hr S=>(lM (ma 1 lT) (lM (ma 2 (lJ 0)) (lM (qm (pY (lN (mD b_len (lN (lJ 0))))) (mM 3) (lM (ma 4 (mw (lJ 2) (lJ 3))) (lM (xY (fr:=["turn","by","bottom"]) (CM (lN (lJ 2)) rfl EN) (λ_ _ _ _ _=>(FG (oC BR (lJ 0) (lJ 2)) (lJ 1) (mz A0 (lP (lJ 1) (lP (lJ 3) (lP (lJ 2) (lN (lJ 4))))))))) (lW (ma 1 (mw (lJ 4) (lJ 3))))))) (lW (mO (rG (lP (qN (fr:=["rows"]) (qZ (lJ 2)) (λ_ _ _ _ _=>(Ic (lJ 0) (zA (mD b_len (lN (lJ 1)))) zB))) (lN (lJ 1)))))))))
abbrev pH:bQ:=top 32
def vL:FnScope ["book","house","group"] ["book","house","group"] (lR pH):=fsc
def rX(a:Adr):XS:=(xRet (xB (xCons (oV (xIter (xBM 2 (nF a) (xVar 0) (xCons (xVar 1) xNil))) [2] m9 (x2 (xVar 0) (xVar 2) fIn)) xNil) fAll))
def oz(a:Adr):XF:=(fnD 3 (rX a))
variable (P w K mg base a) in abbrev pM:=Fn P w K mg base "is_held_within" 4 ["book","house","group"] (spD K a.Book 3 (oz a))
def vN(Y:Yz K mg a)(c:Gf K "is_held_within" pH)(A0:rL P w K mg base a):pM P w K mg base a :=
 gof c Y λT F=>nM F vL rfl λ_ _ _ _ _ _ hr S=>(lW (mO (mD (b_all rfl) (lN (Ac (fr:=["group"]) (qZ (vI (lJ 0) A0 (lN (lJ 1)))) (λ_ _ _ _ _=>(Dg c_in (lJ 0) (lJ 2))))))))
abbrev rj:bQ:=top 33
def yB:FnScope ["book","group","inside"] ["book"] (lR rj):=fsc
def mI(a:Adr) :XS:=(xSeq (xSet 2 (pE (xIter (xVar 1)) [0,1] (xTr (xCall 3 (oz a) (xCons (xVar 1) (xCons (xVar 0) (xCons (xVar 2) xNil))))) (xVar 0))) (xSeq (xIf (xTr (x2 (xVar 2) (xVar 1) fEq)) (xRet (xVar 1)) xEnd) (xSet 1 (xVar 2))))
def vo(a:Adr):XS:=(xSeq (xSet 1 (xBM 1 (nG a) (xVar 0) xNil)) (tN (xTr (xC (.bl true))) (mI a)))
def nv(a:Adr):XF:=(fnD 3 (vo a))
variable (P w K mg base a) in abbrev pT:=Fn P w K mg base "whole_group" 5 ["book"] (spD K a.Book 1 (nv a))
def yH(Y:Yz K mg a)(c:Gf K "whole_group" rj)(A0:oK P w K mg base a)(A1:pM P w K mg base a):pT P w K mg base a :=
 gof c Y λT F=>nM F yB rfl λ_ _ _ _ _ _ hr S=>(lM (ma 1 (wg (lJ 0) A0)) (lW (Ab (AM Ba) (lM (zy (fr:=["book","group"]) (qZ (lJ 1)) (λ_ _ _ _ _=>(lJ 0)) (λ_ _ _ _ _=>(Ju (AM (mz A1 (lP (lJ 1) (lP (lJ 0) (lN (lJ 2))))))))) (lM (pQ (oC BR (lJ 2) (lJ 1)) (lW (mO (lJ 1))) nc) (lW (ma 1 (lJ 2))))))))
abbrev nU:bQ:=top 34
def sf:FnScope ["book","group"] ["book"] (lR nU):=fsc
def pC(a:Adr):XS:=(xSeq (xSet 1 (xCall 1 (nv a) (xCons (xVar 0) xNil))) (xIf (xTr (x2 (xVar 1) (xLst xNil) fNe)) xBad xEnd))
def nW(a:Adr):XF:=(fnD 2 (pC a))
variable (P w K mg base a) in abbrev nV:=Fn P w K mg base "need_no_whole_group" 6 ["book"] (spD K a.Book 1 (nW a))
def si(Y:Yz K mg a)(c:Gf K "need_no_whole_group" nU)(A0:pT P w K mg base a):nV P w K mg base a :=
 gof c Y λT F=>nM F sf rfl λ_ _ _ _ _ _ hr S=>(lM (ma 1 (mz A0 (lN (lJ 0)))) (lW (pQ (oC MH (lJ 1) (rH wj)) (lW OJ) nc)))
abbrev Kv:bQ:=top 35
def NI:FnScope ["shares","pieces","holder","share"] ["shares"] (lR Kv):=fsc
def wZ(a:Adr) :XS:=(xSet 1 (x2 (xVar 1) (x2 (x2 (xVar 3) (xC (.int 1)) fIx) (xCall 2 (mW a) (xCons (xVar 1) (xCons (x2 (xVar 3) (xC (.int 1)) fIx) xNil))) fDiv) fMul))
def Ni(a:Adr):XS:=(xSeq (xSet 1 (xC (.int 1))) (xSeq (xFor (xIter (xVar 0)) (yTup 2 (yCons (yName 2) (yCons (yName 3) yNil))) (wZ a)) (xRet (xB (xCons (oV (xIter (xVar 0)) [1] m9 (xTup (xCons (xVar 0) (xCons (x2 (x2 (xVar 1) (xC (.int 0)) fIx) (x2 (xVar 2) (x2 (xVar 1) (xC (.int 1)) fIx) fDiv) fMul) xNil)))) xNil) AX))))
def Ie(a:Adr):XF:=(fnD 4 (Ni a))
variable (P w K mg base a) in abbrev KN:=Fn P w K mg base "cut" 2 ["shares"] (spD K a.Book 1 (Ie a))
def Od(Y:Yz K mg a)(c:Gf K "cut" Kv)(DN:mg "dict"=Zb)(A0:rZ P w K mg base a):KN P w K mg base a :=
 gof c Y λT F=>nM F NI rfl λ_ _ _ _ _ _ hr S=>(lM (ma 1 lT) (lM (qm (qZ (lJ 0)) (tU (mV (mM 2) (mV (mM 3) qM))) (lW (ma 1 (nr (lJ 1) (tV (mw (lJ 3) lT) (mz A0 (lP (lJ 1) (lN (mw (lJ 3) lT))))))))) (lW (mO (sx (FI rfl) (lN (Ac (fr:=["pieces"]) (qZ (lJ 0)) (λ_ _ _ _ _=>(rG (lP (lJ 0) (lN (nr (mw (lJ 1) lT) (tV (lJ 2) (mw (lJ 1) lT))))))))) (hm:=DN) (hv:=bt_dict))))))
abbrev xn:bQ:=top 36
def EL:FnScope ["book"] ["book"] (lR xn):=fsc
def BD(a:Adr):XS:=(xRet (xB (xCons (pE (xIter (xBM 1 (nG a) (xVar 0) xNil)) [0] m9 (xTup (xCons (xVar 0) (xCons (xCall 1 (Ie a) (xCons (xBM 2 (nF a) (xVar 1) (xCons (xVar 0) xNil)) xNil)) xNil)))) xNil) AX))
def xK(a:Adr):XF:=(fnD 1 (BD a))
variable (P w K mg base a) in abbrev xI:=Fn P w K mg base "all_cut" 4 ["book"] (spD K a.Book 1 (xK a))
def E1(Y:Yz K mg a)(c:Gf K "all_cut" xn)(DN:mg "dict"=Zb)(A0:KN P w K mg base a)(A1:oK P w K mg base a)(A2:rL P w K mg base a):xI P w K mg base a :=
 gof c Y λT F=>nM F EL rfl λ_ _ _ _ _ _ hr S=>(lW (mO (sx (FI rfl) (lN (qN (fr:=["book"]) (qZ (wg (lJ 0) A1)) (λ_ _ _ _ _=>(rG (lP (lJ 0) (lN (mz A0 (lN (vI (lJ 1) A2 (lN (lJ 0))))))))))) (hm:=DN) (hv:=bt_dict))))
abbrev z3:bQ:=top 37
def GZ:FnScope ["house","houses","pieces_of","row"] ["house","houses","pieces_of"] (lR z3):=fsc
def Ec(a:Adr):XS:=(xSeq (xSet 3 (yr (xIter (xVar 1)) [0,2] m9 (x1 (xGet (x2 (xVar 2) (xVar 0) fIx) (xVar 1) (xC (.int 0))) fNeg))) (xSeq (HS (xVar 3) (Al (xVar 1) (xCons (xVar 0) xNil)) (Ew (x2 (xVar 2) (xVar 0) fIx))) (xRet (xVar 3))))
def Ak(a:Adr):XF:=(fnD 4 (Ec a))
variable (P w K mg base a) in abbrev Ai:=Fn P w K mg base "owning" 1 ["house","houses","pieces_of"] (spD K a.Book 3 (Ak a))
def Hi(Y:Yz K mg a)(c:Gf K "owning" z3)(SM:mg "sum"=Zb):Ai P w K mg base a :=
 gof c Y λT F=>nM F GZ rfl λ_ _ _ _ _ _ hr S=>(lM (Dt (fr:=["house","pieces_of"]) (qZ (lJ 1)) (λ_ _ _ _ _=>(OO (FH (mw (lJ 2) (lJ 0)) (lJ 1) lT)))) (lM (Mj (lJ 3) (Jv (lJ 1) (lN (lJ 0))) (Ms (mw (lJ 2) (lJ 0)) (hm:=SM))) (lW (mO (lJ 3)))))
abbrev ue:bQ:=top 38
def B8:FnScope ["house","houses","pieces_of"] ["house","houses","pieces_of"] (lR ue):=fsc
def xT(a:Adr):XS:=(xRet (x2 (xCall 3 (Ak a) (xCons (xVar 0) (xCons (xVar 1) (xCons (xVar 2) xNil)))) (pE (xIter (xVar 1)) [0] m9 (xIfe (xTr (x2 (xVar 0) (xVar 1) fEq)) (xC (.int 1)) (xC (.int 0)))) fAdd))
def re(a:Adr):XF:=(fnD 3 (xT a))
variable (P w K mg base a) in abbrev uB:=Fn P w K mg base "agreement" 2 ["house","houses","pieces_of"] (spD K a.Book 3 (re a))
def Cj(Y:Yz K mg a)(c:Gf K "agreement" ue)(A0:Ai P w K mg base a):uB P w K mg base a :=
 gof c Y λT F=>nM F B8 rfl λ_ _ _ _ _ _ hr S=>(lW (mO (nu (mz A0 (lP (lJ 0) (lP (lJ 1) (lN (lJ 2))))) (qN (fr:=["house"]) (qZ (lJ 1)) (λ_ _ _ _ _=>(FG (oC BR (lJ 0) (lJ 1)) lT lT))))))
abbrev ul:bQ:=nQ (top 39) 0
def Ce:FnScope ["self","book","houses","pieces_of","solution","place","house","holder","top","other","piece"] ["self","book"] (lR ul):=fsc
def oJ(a:Adr) :XS:=(MS 8 (x2 (xGet (x2 (xVar 3) (xVar 9) fIx) (xVar 7) (xC (.int 0))) (x2 (xVar 10) (xVar 5) fIx) fMul))
def nY(a:Adr) :XS:=(xSeq (xSet 8 (xIfe (xTr (x2 (xVar 7) (xVar 6) fEq)) (Ez a.HALF "bottom" (xVar 0)) (xC (.int 0)))) (xSeq (xFor (Ev (xCons (xVar 2) (xCons (x2 (xVar 4) (xC (.int 0)) fIx) xNil))) (yTup 2 (yCons (yName 9) (yCons (yName 10) yNil))) (oJ a)) (HP (Ez a.HALF "top_of" (xVar 0)) (xCons (xVar 7) (xCons (xVar 6) xNil)) (xVar 8))))
def pS(a:Adr) :XS:=(xFor (xIter (x2 (xBM 1 (o6 a) (xVar 1) xNil) (xVar 2) fAdd)) (yName 7) (nY a))
def xW(a:Adr):XS:=(xSeq (xDo (xCall 1 (nW a) (xCons (xVar 1) xNil))) (xSeq (xSet 2 (xBM 1 (nG a) (xVar 1) xNil)) (xSeq (xSet 3 (xCall 1 (xK a) (xCons (xVar 1) xNil))) (xSeq (xSet 4 (xCall 1 (wF a) (xCons (pE (xIter (xVar 2)) [2,3] m9 (xCall 3 (re a) (xCons (xVar 0) (xCons (xVar 1) (xCons (xVar 2) xNil))))) xNil))) (xSeq (Ex a.HALF "bottom" (xVar 0) (x2 (xVar 4) (xC (.int 1)) fIx)) (xSeq (Ex a.HALF "top_of" (xVar 0) MR) (xFor (wk (xCons (xVar 2) xNil)) (yTup 2 (yCons (yName 5) (yCons (yName 6) yNil))) (pS a))))))))
def p7(a:Adr):XF:=(fnD 11 (xW a))
variable (P w K mg base a) in abbrev rc:=MkB P w K mg base "Ways" a.HALF 7 ["self","book"] (spD K a.Book 2 (p7 a))
def Cq(Y:Yz K mg a)(WY:Wy K mg a)(c:Gm K a.HALF "__init__" "Ways.__init__" ul)(EN:mg "enumerate"=Zb)(ZN:mg "zip"=Zb)(A0:nV P w K mg base a)(A1:oK P w K mg base a)(A2:xI P w K mg base a)(A3:Ah P w K mg base a)(A4:uB P w K mg base a)(A5:tZ P w K mg base a):rc P w K mg base a :=
 gok c Y WY λT F=>nM F Ce rfl λ_ _ _ _ _ _ hr S=>(lM (wB (mz A0 (lN (lJ 1)))) (lM (ma 2 (wg (lJ 1) A1)) (lM (ma 3 (mz A2 (lN (lJ 1)))) (lM (ma 4 (mz A3 (lN (qN (fr:=["houses","pieces_of"]) (qZ (lJ 2)) (λ_ _ _ _ _=>(mz A4 (lP (lJ 0) (lP (lJ 1) (lN (lJ 2)))))))))) (lM (Kk (lJ 0) (mw (lJ 4) lT) WY.c WY.n_bottom) (lM (Kk (lJ 0) Mv WY.c WY.n_top_of) (lW (qm (CM (lN (lJ 2)) rfl EN) (tU (mV (mM 5) (mV (mM 6) qM))) (lW (qm (qZ (nu (wg (lJ 1) A5) (lJ 2))) (mM 7) (lM (ma 8 (FG (oC BR (lJ 7) (lJ 6)) (Df (lJ 0) WY.c WY.n_bottom) lT)) (lM (qm (FE (lP (lJ 2) (lN (mw (lJ 4) lT))) (hm:=ZN)) (tU (mV (mM 9) (mV (mM 10) qM))) (lW (OK 8 (nr (FH (mw (lJ 3) (lJ 9)) (lJ 7) lT) (mw (lJ 10) (lJ 5)))))) (lW (Mi (Df (lJ 0) WY.c WY.n_top_of) (lP (lJ 7) (lN (lJ 6))) (lJ 8)))))))))))))))
abbrev rn:bQ:=nQ (top 39) 1
def yD:FnScope ["self","holder","things"] ["self","holder","things"] (lR rn):=fsc
def vq(a:Adr):XS:=(xRet (xB (xCons (pE (xIterD (xVar 2)) [2,0,1] m9 (x2 (KO (Ez a.HALF "top_of" (xVar 2)) (xCons (xVar 3) (xCons (xVar 0) xNil))) (x2 (xVar 1) (xVar 0) fIx) fMul)) xNil) Nk))
def pV(a:Adr):XF:=(fnD 3 (vq a))
variable (P w K mg base a) in abbrev rK:=Mt P w K mg base a.HALF "top_by" 1 ["self","holder","things"] (spD K a.Book 3 (pV a))
def yK(Y:Yz K mg a)(WY:Wy K mg a)(c:Gm K a.HALF "top_by" "Ways.top_by" rn)(SM:mg "sum"=Zb):rK P w K mg base a :=
 gom c Y WY λT F=>nM F yD rfl λ_ _ _ _ _ _ hr S=>(lW (mO (mD (b_sum rfl) (lN (qN (fr:=["things","self","holder"]) (Mm (lJ 2)) (λ_ _ _ _ _=>(nr (OP (Df (lJ 2) WY.c WY.n_top_of) (lP (lJ 3) (lN (lJ 0)))) (mw (lJ 1) (lJ 0)))))) (hm:=SM) (hv:=Kn))))
abbrev rA:bQ:=nQ (top 39) 2
def yE:FnScope ["self","holders","things"] ["self","holders","things"] (lR rA):=fsc
def vt(a:Adr):XS:=(xRet (pE (xIter (xVar 1)) [2,0] m9 (xTup (xCons (xVar 0) (xCons (xCall 2 (wG a) (xCons (xOM a.HALF "top_by" 3 (pV a) (xVar 2) (xCons (xVar 0) (xCons (xVar 1) xNil))) (xCons (Ez a.HALF "bottom" (xVar 2)) xNil))) xNil)))))
def pW(a:Adr):XF:=(fnD 3 (vt a))
variable (P w K mg base a) in abbrev pU:=Mt P w K mg base a.HALF "all_by" 3 ["self","holders","things"] (spD K a.Book 3 (pW a))
def yL(Y:Yz K mg a)(WY:Wy K mg a)(c:Gm K a.HALF "all_by" "Ways.all_by" rA)(A0:Aj P w K mg base a)(A1:rK P w K mg base a):pU P w K mg base a :=
 gom c Y WY λT F=>nM F yE rfl λ_ _ _ _ _ _ hr S=>(lW (mO (qN (fr:=["things","self"]) (qZ (lJ 1)) (λ_ _ _ _ _=>(rG (lP (lJ 0) (lN (mz A0 (lP (KM (lJ 2) A1 (lP (lJ 0) (lN (lJ 1)))) (lN (Df (lJ 2) WY.c WY.n_bottom)))))))))))
abbrev sO:bQ:=top 40
def Ar:FnScope ["book"] ["book"] (lR sO):=fsc
def vU(a:Adr):XS:=(xRet (xB (xCons (pE (xIter (xBM 1 (nG a) (xVar 0) xNil)) [0] m9 (xTup (xCons (xVar 0) (xCons (x2 (xBM 2 (Kq a) (xVar 1) (xCons (xVar 0) xNil)) (xC (.int 0)) fIx) xNil)))) xNil) AX))
def qw(a:Adr):XF:=(fnD 1 (vU a))
variable (P w K mg base a) in abbrev qu:=Fn P w K mg base "own_things" 4 ["book"] (spD K a.Book 1 (qw a))
def AC(Y:Yz K mg a)(c:Gf K "own_things" sO)(DN:mg "dict"=Zb)(A0:oK P w K mg base a)(A1:HN P w K mg base a):qu P w K mg base a :=
 gof c Y λT F=>nM F Ar rfl λ_ _ _ _ _ _ hr S=>(lW (mO (sx (FI rfl) (lN (qN (fr:=["book"]) (qZ (wg (lJ 0) A0)) (λ_ _ _ _ _=>(rG (lP (lJ 0) (lN (mw (vI (lJ 1) A1 (lN (lJ 0))) lT))))))) (hm:=DN) (hv:=bt_dict))))
abbrev zY:bQ:=top 41
def GX:FnScope ["book"] ["book"] (lR zY):=fsc
def Ea(a:Adr):XS:=(xRet (xOM a.HALF "all_by" 3 (pW a) (xMk a.HALF 2 (p7 a) (xCons (xVar 0) xNil)) (xCons (xBM 1 (nG a) (xVar 0) xNil) (xCons (xCall 1 (qw a) (xCons (xVar 0) xNil)) xNil))))
def qU(a:Adr):XF:=(fnD 1 (Ea a))
variable (P w K mg base a) in abbrev Ag:=Fn P w K mg base "worths" 9 ["book"] (spD K a.Book 1 (qU a))
def He(Y:Yz K mg a)(c:Gf K "worths" zY)(A0:pU P w K mg base a)(A1:oK P w K mg base a)(A2:qu P w K mg base a)(A3:rc P w K mg base a):Ag P w K mg base a :=
 gof c Y λT F=>nM F GX rfl λ_ _ _ _ _ _ hr S=>(lW (mO (KM (Nq A3 (lN (lJ 0))) A0 (lP (wg (lJ 0) A1) (lN (mz A2 (lN (lJ 0))))))))
abbrev CA:bQ:=top 42
def Ix:FnScope ["book"] ["book"] (lR CA):=fsc
def Gp(a:Adr):XS:=(xRet (xOM a.HALF "all_by" 3 (pW a) (xMk a.HALF 2 (p7 a) (xCons (xVar 0) xNil)) (xCons (xBM 1 (o6 a) (xVar 0) xNil) (xCons (xCall 1 (qw a) (xCons (xVar 0) xNil)) xNil))))
def tM(a:Adr):XF:=(fnD 1 (Gp a))
variable (P w K mg base a) in abbrev CU:=Fn P w K mg base "parts" 9 ["book"] (spD K a.Book 1 (tM a))
def IT(Y:Yz K mg a)(c:Gf K "parts" CA)(A0:pU P w K mg base a)(A1:tZ P w K mg base a)(A2:qu P w K mg base a)(A3:rc P w K mg base a):CU P w K mg base a :=
 gof c Y λT F=>nM F Ix rfl λ_ _ _ _ _ _ hr S=>(lW (mO (KM (Nq A3 (lN (lJ 0))) A0 (lP (wg (lJ 0) A1) (lN (mz A2 (lN (lJ 0))))))))
abbrev xl:bQ:=top 2
def EI:FnScope ["book","house","found","waiting","at","holder","share"] ["book","house"] (lR xl):=fsc
def oX(a:Adr) :XS:=(xIf (xTr (x2 (xVar 5) (xVar 2) wc)) (xSeq (xPut (xVar 2) (xVar 5) (xC (.bl true))) (xIf (xTr (xBM 2 (qR a) (xVar 0) (xCons (xVar 5) xNil))) (xDo (xAppend (xVar 3) (xCons (xVar 5) xNil))) xEnd)) xEnd)
def oo(a:Adr) :XS:=(xSeq (xSet 4 (HQ (xVar 3))) (xFor (xIter (xBM 2 (nF a) (xVar 0) (xCons (xVar 4) xNil))) (yTup 2 (yCons (yName 5) (yCons (yName 6) yNil))) (oX a)))
def BB(a:Adr):XS:=(xSeq (xDo (xBM 2 (pj a) (xVar 0) (xCons (xVar 1) xNil))) (xSeq (xSet 2 xNewD) (xSeq (xSet 3 (xLstC (xCons (xVar 1) xNil))) (xSeq (tN (xTr (x2 (xVar 3) (xLst xNil) fNe)) (oo a)) (xRet (xB (xCons (xVar 2) xNil) wz))))))
def xJ(a:Adr):XF:=(fnD 7 (BB a))
variable (P w K mg base a) in abbrev xG:=Fn P w K mg base "reached" 4 ["book","house"] (spD K a.Book 2 (xJ a))
def EW(Y:Yz K mg a)(c:Gf K "reached" xl)(A0:vO P w K mg base a)(A1:rL P w K mg base a)(A2:yq P w K mg base a):xG P w K mg base a :=
 gof c Y λT F=>nM F EI rfl λ_ _ _ _ _ _ hr S=>(lM (wB (vI (lJ 0) A0 (lN (lJ 1)))) (lM (ma 2 CO) (lM (ma 3 (zF (lN (lJ 1)))) (lM (Ab (oC MH (lJ 3) (rH wj)) (lM (ma 4 (Mx (lJ 3))) (lW (qm (qZ (vI (lJ 0) A1 (lN (lJ 4)))) (tU (mV (mM 5) (mV (mM 6) qM))) (lW (pQ (oC CS (lJ 5) (lJ 2)) (lM (yx (lJ 2) (lJ 5) Ba) (lW (pQ (AM (vI (lJ 0) A2 (lN (lJ 5)))) (lW (wB (BG (lJ 3) (lN (lJ 5))))) nc))) nc)))))) (lW (mO (mD (HL rfl) (lN (lJ 2)))))))))
abbrev uj:bQ:=top 54
def Cc:FnScope ["_law_ahead","_law_behind","_law_some","_law_one","_law_other"] ["_law_ahead","_law_behind","_law_some"] (lR uj):=fsc
def oI(a:Adr) :XS:=(xIf (xAnd (xTr (x2 (xVar 3) (xVar 4) fNe)) (xTr (x2 (x2 (xVar 3) (xC (.int 0)) fIx) (xVar 2) wc))) (xRet (xC (.bl false))) xEnd)
def xV(a:Adr):XS:=(xSeq (xFor (Ev (xCons (xVar 0) (xCons (xVar 1) xNil))) (yTup 2 (yCons (yName 3) (yCons (yName 4) yNil))) (oI a)) (xRet (x2 (xB (xCons (xVar 0) xNil) fLen) (xB (xCons (xVar 1) xNil) fLen) fEq)))
def nS(a:Adr):XF:=(fnD 5 (xV a))
variable (P w K mg base a) in abbrev uD:=Fn P w K mg base "_law_kept" 1 ["_law_ahead","_law_behind","_law_some"] (spD K a.Book 3 (nS a))
def Co(Y:Yz K mg a)(c:Gf K "_law_kept" uj)(ZN:mg "zip"=Zb):uD P w K mg base a :=
 gof c Y λT F=>nM F Cc rfl λ_ _ _ _ _ _ hr S=>(lM (qm (FE (lP (lJ 0) (lN (lJ 1))) (hm:=ZN)) (tU (mV (mM 3) (mV (mM 4) qM))) (lW (pQ (DW.dt (OG (oC MH (lJ 3) (lJ 4)) (Me (oC CS (mw (lJ 3) lT) (lJ 2))))) (lW (mO Ba)) nc))) (lW (mO (Dg BR (mD b_len (lN (lJ 0))) (mD b_len (lN (lJ 1)))))))
abbrev p8:bQ:=top 55
def wO:FnScope ["_law_book","_law_model","_law_holders","_law_found","_law_holder"] ["_law_book","_law_model","_law_holders"] (lR p8):=fsc
def mJ(a:Adr) :XS:=(xIf (xTr (x2 (xVar 4) (xVar 1) fIn)) (xSet 3 (x2 (xVar 3) (xCall 2 (xJ a) (xCons (xVar 0) (xCons (xVar 4) xNil))) fAdd)) xEnd)
def tE(a:Adr):XS:=(xSeq (xSet 3 (xB (xCons (xVar 2) xNil) fList)) (xSeq (xFor (xIter (xVar 2)) (yName 4) (mJ a)) (xRet (xVar 3))))
def nT(a:Adr):XF:=(fnD 5 (tE a))
variable (P w K mg base a) in abbrev qe:=Fn P w K mg base "_law_reaching" 5 ["_law_book","_law_model","_law_holders"] (spD K a.Book 3 (nT a))
def wT(Y:Yz K mg a)(c:Gf K "_law_reaching" p8)(A0:xG P w K mg base a):qe P w K mg base a :=
 gof c Y λT F=>nM F wO rfl λ_ _ _ _ _ _ hr S=>(lM (ma 3 (sx b_list (lN (lJ 2)))) (lM (qm (qZ (lJ 2)) (mM 4) (lW (pQ (oC c_in (lJ 4) (lJ 1)) (lW (ma 3 (nu (lJ 3) (mz A0 (lP (lJ 0) (lN (lJ 4))))))) nc))) (lW (mO (lJ 3)))))
abbrev Ku:bQ:=top 56
def NH:FnScope ["_law_script","_law_purse_here","_law_book","_law_persons","_law_model","_law_house","_law_owners","_law_one","_law_holders","_law_other","_law_part_here","_law_worth","_law_paid","_law_some","_law_group"] ["_law_script"] (lR Ku):=fsc
def Da(a:Adr):XS:=(xSeq (xSet 1 (xCall 1 (oA a) (xCons (xVar 0) xNil))) (xSeq (xAsg (xCall 2 (qy a) (xCons (xVar 1) (xCons (xC (.int 6)) xNil))) (yTup 3 (yCons (yName 2) (yCons (yName 3) (yCons (yName 4) yNil))))) (xSeq (xIf (xOr (xTr (x2 (xVar 4) xNewD AW)) (xTr (x2 (xCall 1 (nv a) (xCons (xVar 2) xNil)) (xLst xNil) fNe))) (xRet (xC (.bl true))) xEnd) (xSeq (xSet 5 (x2 (xB (xCons (xVar 4) xNil) mv) (xCall 2 (lZ a) (xCons (xVar 1) (xCons (xB (xCons (xVar 4) xNil) fLen) xNil))) fIx)) (xSeq (xSet 6 (xB (xCons (x2 (x2 (xVar 4) (xVar 5) fIx) (xC (.int 0)) fIx) xNil) mv)) (xSeq (xSet 7 (x2 (xVar 6) (xCall 2 (lZ a) (xCons (xVar 1) (xCons (xB (xCons (xVar 6) xNil) fLen) xNil))) fIx)) (xSeq (xSet 8 (x2 (xVar 3) (xB (xCons (xVar 4) xNil) mv) fAdd)) (xSeq (xSet 9 (x2 (xVar 8) (xCall 2 (lZ a) (xCons (xVar 1) (xCons (xB (xCons (xVar 8) xNil) fLen) xNil))) fIx)) (xSeq (xSet 10 (xCall 2 (oY a) (xCons (xVar 1) (xCons (x2 (x2 (x2 (xVar 4) (xVar 5) fIx) (xC (.int 0)) fIx) (xVar 7) fIx) xNil)))) (xSeq (xIf (xTr (x2 (x2 (xVar 10) (xC (.int 1)) fIx) (x2 (xC (.int 10)) (xC (.int 29)) fPow) fGe)) (xSet 10 (x2 (x2 (x2 (xVar 4) (xVar 5) fIx) (xC (.int 0)) fIx) (xVar 7) fIx)) xEnd) (xSeq (xIf (xTr (x2 (x2 (xVar 10) (xC (.int 1)) fIx) (x2 (xC (.int 10)) (xC (.int 29)) fPow) fGe)) (xRet (xC (.bl true))) xEnd) (xSeq (xSet 11 (xCall 1 (qU a) (xCons (xVar 2) xNil))) (xSeq (xSet 12 (xCall 1 (tM a) (xCons (xVar 2) xNil))) (xSeq (xSet 13 (xCall 3 (nT a) (xCons (xVar 2) (xCons (xVar 4) (xCons (xLst (xCons (xVar 7) (xCons (xVar 9) xNil))) xNil))))) (xSeq (xDo (xBM 5 (rM a) (xVar 2) (xCons (xVar 5) (xCons (xVar 7) (xCons (xVar 9) (xCons (xVar 10) xNil)))))) (xSeq (xSet 14 (xCall 1 (nv a) (xCons (xVar 2) xNil))) (xSeq (xIf (xTr (x2 (xVar 14) (xLst xNil) fNe)) (xIf (xTr (x2 (xVar 5) (xVar 14) wc)) (xRet (xC (.bl false))) xEnd) (xSeq (xSet 13 (x2 (xVar 13) (xCall 3 (nT a) (xCons (xVar 2) (xCons (xVar 4) (xCons (xLst (xCons (xVar 7) (xCons (xVar 9) xNil))) xNil)))) fAdd)) (xIf (xOr (xNot (xTr (xCall 3 (nS a) (xCons (xVar 11) (xCons (xCall 1 (qU a) (xCons (xVar 2) xNil)) (xCons (xVar 13) xNil)))))) (xNot (xTr (xCall 3 (nS a) (xCons (xVar 12) (xCons (xCall 1 (tM a) (xCons (xVar 2) xNil)) (xCons (xVar 13) xNil))))))) (xRet (xC (.bl false))) xEnd))) (xSeq (xDo (xBM 5 (rM a) (xVar 2) (xCons (xVar 5) (xCons (xVar 9) (xCons (xVar 7) (xCons (xVar 10) xNil)))))) (xRet (xAndV (x2 (xCall 1 (nv a) (xCons (xVar 2) xNil)) (xLst xNil) fEq) (xAndV (x2 (xCall 1 (qU a) (xCons (xVar 2) xNil)) (xVar 11) fEq) (x2 (xCall 1 (tM a) (xCons (xVar 2) xNil)) (xVar 12) fEq))))))))))))))))))))))
def Bb(a:Adr):XF:=(fnD 15 (Da a))
def Ob(T:Txt K mg a)(F:Fun K "law" "law" Ku f fd)(A0:sW P w K mg base a)(A1:sZ P w K mg base a)(A2:ra P w K mg base a)(A3:Ag P w K mg base a)(A4:CU P w K mg base a)(A5:qe P w K mg base a)(A6:yf P w K mg base a)(A7:pT P w K mg base a)(A8:nR P w K mg base a)(A9:uD P w K mg base a):FnOk P w K mg base (CXo P w) 10 f fd ["_law_script"] (spD K a.Book 1 (Bb a)) :=
 nM F NH rfl λ_ _ _ _ _ _ hr S=>(lM (ma 1 (mz A0 (lN (lJ 0)))) (lM (FC (mz A1 (lP (lJ 1) (lN lT))) (tU (mV (mM 2) (mV (mM 3) (mV (mM 4) qM))))) (lM (pQ (DW.dt (Np (oC OT (lJ 4) CO) (Kh (oC MH (mz A7 (lN (lJ 2))) (rH wj))))) (lW (mO Ba)) nc) (lM (ma 5 (mw (mD (b_sorted rfl) (lN (lJ 4))) (mz A8 (lP (lJ 1) (lN (mD b_len (lN (lJ 4)))))))) (lM (ma 6 (mD (b_sorted rfl) (lN (mw (mw (lJ 4) (lJ 5)) lT)))) (lM (ma 7 (mw (lJ 6) (mz A8 (lP (lJ 1) (lN (mD b_len (lN (lJ 6)))))))) (lM (ma 8 (nu (lJ 3) (mD (b_sorted rfl) (lN (lJ 4))))) (lM (ma 9 (mw (lJ 8) (mz A8 (lP (lJ 1) (lN (mD b_len (lN (lJ 8)))))))) (lM (ma 10 (mz A2 (lP (lJ 1) (lN (mw (mw (mw (lJ 4) (lJ 5)) lT) (lJ 7)))))) (lM (pQ (oC Nt (mw (lJ 10) lT) (we lT lT)) (lW (ma 10 (mw (mw (mw (lJ 4) (lJ 5)) lT) (lJ 7)))) nc) (lM (pQ (oC Nt (mw (lJ 10) lT) (we lT lT)) (lW (mO Ba)) nc) (lM (ma 11 (mz A3 (lN (lJ 2)))) (lM (ma 12 (mz A4 (lN (lJ 2)))) (lM (ma 13 (mz A5 (lP (lJ 2) (lP (lJ 4) (lN (rH (lP (lJ 7) (lN (lJ 9))))))))) (lM (wB (vI (lJ 2) A6 (lP (lJ 5) (lP (lJ 7) (lP (lJ 9) (lN (lJ 10))))))) (lM (ma 14 (mz A7 (lN (lJ 2)))) (lM (pQ (oC MH (lJ 14) (rH wj)) (lW (pQ (oC CS (lJ 5) (lJ 14)) (lW (mO Ba)) nc)) (lM (ma 13 (nu (lJ 13) (mz A5 (lP (lJ 2) (lP (lJ 4) (lN (rH (lP (lJ 7) (lN (lJ 9)))))))))) (lW (pQ (DW.dt (Np (Kj (AM (mz A9 (lP (lJ 11) (lP (mz A3 (lN (lJ 2))) (lN (lJ 13))))))) (Kh (Kj (AM (mz A9 (lP (lJ 12) (lP (mz A4 (lN (lJ 2))) (lN (lJ 13)))))))))) (lW (mO Ba)) nc)))) (lM (wB (vI (lJ 2) A6 (lP (lJ 5) (lP (lJ 9) (lP (lJ 7) (lN (lJ 10))))))) (lW (mO (Kl (Dg BR (mz A7 (lN (lJ 2))) (rH wj)) (Kl (Dg BR (mz A3 (lN (lJ 2))) (lJ 11)) (ON (Dg BR (mz A4 (lN (lJ 2))) (lJ 12)))))))))))))))))))))))))
end
def Sm(x:Str):Prop:=x.length<=9/\∀c∈x.cps.toList,c<128
def Sm.nm{x}(h:Sm x):Nm x:=⟨aE h.1 (by decide),λc hc=>gZ (h.2 c hc) (by decide)⟩
def Jg(x:Str):x.length=x.cps.toList.length:=by show x.cps.size=_;simp
def Af(x y:Str):(x++y).cps.toList=x.cps.toList++y.cps.toList:=PyProof.Rows.cps_toList_append x y
def LR:∀j,j<26->(aQ "abcdefghijklmnopqrstuvwxyz").cps.toList[j]?=Za (97+j):=by decide +kernel
def Op{i}(h0:0<=i)(h1:i<26):atI (aQ "abcdefghijklmnopqrstuvwxyz").cps.toList i=Za (97+i.toNat):=by
 have e:i=(i.toNat:Int):=by lia
 have:=mY (LR i.toNat (by lia));rw[<-e] at this;exact this
def Iq{ys:List Str}(h:∀y∈ys,y.length<=1):(ys.map (·.length)).sum<=ys.length:=by
 induction ys with
 |nil=>exact ao _
 |cons y r ih =>
  have:=ih λz hz=>h z (ae _ hz);have:=h y ai;simp only[al,iJ,aY];lia
structure FrB(k:Nat)(v:Int)(q:Int×Int):Prop where
 low:Low q
 nn:0<=q.1
 le:q.1<=v*q.2
 bb:Bt k q.2
def Lf{q}(h:0<q.2):(red q).2∣q.2:=by obtain⟨v,hv⟩:(aF q.1 q.2:Int)∣q.2:=cm ..;have hg:0<aF q.1 q.2:=bG _ (by lia);refine⟨(aF q.1 q.2:Int),?_⟩;unfold red;simp only;rw[Int.ediv_mul_cancel (cm ..)]
def wD{p q}(hp:0<p.2)(hq:0<q.2):(nL p q).1*(p.2*q.2)=(p.1*q.2+q.1*p.2)*(nL p q).2:=(rP (q:=(p.1*q.2+q.1*p.2,p.2*q.2)) (bx hp hq)).2
def GL{k l}{p q}(hp:0<p.2)(hq:0<q.2)(bp:Bt k p.2)(bq:Bt l q.2):Bt (k+l) (nL p q).2 :=
 (bp.mul bq).dvd (Int.ne_of_gt (bx hp hq)) (Lf (q:=(p.1*q.2+q.1*p.2,p.2*q.2)) (bx hp hq))
def uW{a b d:Int}(hd:0<d)(h:a*d<=b*d):a<=b:=jP h hd
def yQ{k:Nat}{v:Int}{g q:Int×Int}(hg:FrB k v g)(hq:Low q)(q0:0<q.1)(h:q.1*g.2<=g.1*q.2)(bq:Bt 97 q.2):FrB (k+97) v (nL g (-q.1,q.2)):=by
 have g0:=hg.low.1;have p0:=hq.1;have lq:Low (-q.1,q.2):=⟨hq.1,by have:=hq.2;unfold Cop aF at *;simp only[iC];exact this⟩;have lo:=Es hg.low lq;have D0:0<g.2*q.2:=bx g0 p0;have ev:=wD (p:=g) (q:=(-q.1,q.2)) g0 p0;simp only at ev;generalize hr:nL g (-q.1,q.2)=r at *;have r0:=lo.1;refine⟨lo,?_,?_,?_⟩
 ·refine uW D0 ?_;rw[ev,jb];refine jO ?_ (bA r0);rw[gD];lia
 ·refine uW D0 ?_;rw[ev];have h1:g.1*q.2+-q.1*g.2<=v*g.2*q.2:=by have a1:g.1*q.2<=v*g.2*q.2:=aZ hg.le (bA p0);have a2:0<=q.1*g.2:=jO (bA q0) (bA g0);rw[gD];lia
  have h2:=aZ h1 (bA r0);have e:v*g.2*q.2*r.2=v*r.2*(g.2*q.2):=by simp only[aT,fG,br]
  rw[<-e];exact h2
 ·rw[<-hr];exact GL g0 p0 hg.bb bq
def MN{k:Nat}{v:Int}{g q:Int×Int}(hg:FrB k v g)(hq:Low q)(q0:0<q.1)(h:q.1<=v*q.2)(bq:Bt 97 q.2):FrB (k+97) (2*v) (nL g q)/\0<(nL g q).1:=by
 have g0:=hg.low.1;have p0:=hq.1;have lo:=Es hg.low hq;have D0:0<g.2*q.2:=bx g0 p0;have ev:=wD (p:=g) (q:=q) g0 p0;have bt:=GL (p:=g) (q:=q) g0 p0 hg.bb bq;generalize hr:nL g q=r at *;have r0:=lo.1;have pos:0<r.1:=by
  have a1:0<=g.1*q.2:=jO hg.nn (bA p0);have a2:0<q.1*g.2:=bx q0 g0;have a3:0<(g.1*q.2+q.1*g.2)*r.2:=bx (by lia) r0;rw[<-ev] at a3;by_cases z:0<r.1
  ·exact z
  ·have:=iW (show r.1<=0 by lia) (bA D0);lia
 refine⟨⟨lo,bA pos,?_,bt⟩,pos⟩;refine uW D0 ?_;rw[ev];have h1:g.1*q.2+q.1*g.2<=2*v*g.2*q.2:=by
  have a1:g.1*q.2<=v*g.2*q.2:=aZ hg.le (bA p0);have a2:q.1*g.2<=v*q.2*g.2:=aZ h (bA g0);have e1:v*q.2*g.2=v*g.2*q.2:=fk ..;have e2:2*v*g.2*q.2=2*(v*g.2*q.2):=by rw[aT 2,aT 2]
  rw[e2];lia
 have h2:=aZ h1 (bA r0);have e:2*v*g.2*q.2*r.2=2*v*r.2*(g.2*q.2):=by simp only[aT,fG,br]
 rw[<-e];exact h2
def F0{k:Nat}{v:Int}{g q:Int×Int}(hg:FrB k v g)(hq:Low q)(h:q.1*g.2<=g.1*q.2):q.1<=v*q.2:=by refine uW hg.low.1 (g8 h ?_);have:=aZ hg.le (bA hq.1);rw[fk];exact this
def FrC(c:Nat)(q:Int×Int):Prop:=FrB (194*c+2) (2^c:Nat) q
def FrC.top{c}{q}(h:FrC c q):Bt (195*c+2) q.1:=by
 have h1:=h.le;have h0:=h.nn;have hb:Bt (c+1) ((2^c:Nat):Int):=by unfold Bt;rw[iV,gY];have:=cX c;lia
 have h2:q.1.natAbs<=(((2^c:Nat):Int)*q.2).natAbs:=by lia
 unfold Bt;refine aX h2 ?_;rw[iD,iV];have hb2:q.2.natAbs<2^(194*c+2):=h.bb;have:2^c*q.2.natAbs<2^c*2^(194*c+2):=Nat.mul_lt_mul_of_pos_left hb2 (cX c);rw[<-jk] at this;have e:c+(194*c+2)=195*c+2:=by lia
 rw[e] at this;exact this
def FrC.sz{c}{q}(h:FrC c q)(hc:c<=45):Sz q:=⟨h.low,h.top.mono (by lia),h.bb.mono (by lia)⟩
theorem FrC.mono{c d}{q}(h:FrC c q)(hc:c<=d):FrC d q:=by refine⟨h.low,h.nn,g8 h.le ?_,h.bb.mono (by lia)⟩;refine aZ ?_ (bA h.low.1);exact g7.mpr (b7 (by decide) hc)
def frc0(c):FrC c (0,1):=⟨⟨by decide,(rfl:aF 0 1=1)⟩,li _,by rw[lh];exact Int.natCast_nonneg _,bt1 (by lia)⟩
def frc1(c):FrC c (1,1):=⟨⟨by decide,(rfl:aF 1 1=1)⟩,by decide,by rw[lh];exact g7.mpr (cX c),bt1 (by lia)⟩
structure ShOk(q:Int×Int):Prop where
 low:Low q
 bt:Bt 200 q.1
 bb:Bt 97 q.2
def ShOk.sz{q}(h:ShOk q):Sz q:=⟨h.low,h.bt.mono (by decide),h.bb.mono (by decide)⟩
def vn{l}{n}(h:n∉l.map (·.1)):l7 l n=(0,1):=by
 unfold l7 mC;have:l.find? (λq=>decide (q.1=n))=none:=by rw[cy];intro x hx z;exact h (ah.mpr ⟨x,hx,Zf z⟩)
 rw[this];rfl
def rv(q:Int×Int):Rat:=ej q.1 q.2
def CY{p q}(hp:0<p.2)(hq:0<q.2):rv (nL p q)=rv p+rv q:=by have h:=wD hp hq;have h2:0<(nL p q).2:=(rP (q:=(p.1*q.2+q.1*p.2,p.2*q.2)) (bx hp hq)).1.1;unfold rv;rw[kO _ _ (by lia) (by lia),jX (by lia) (by have:=bx hp hq;lia)];exact h
def CW(q):rv (-q.1,q.2)=-rv q:=by unfold rv;rw[Rat.neg_divInt]
def mE:List Rat->Rat
 |[]=>0
 |x::l=>x+mE l
theorem zW:∀l m:List Rat,mE (l++m)=mE l+mE m
 |[],m=>by show mE m=0+mE m;rw[Rat.zero_add]
 |x::l,m=>by show x+mE (l++m)=x+mE l+mE m;rw[zW l m,Rat.add_assoc]
theorem DB{f g}{o}(h:∀n,n≠o->f n=g n):∀ns:List Str,ns.Nodup->mE (ns.map f)=if o∈ns then mE (ns.map g)+(f o-g o) else mE (ns.map g)
 |[],_=>rfl
 |n::ns,nd=>by
  obtain⟨n1,n2⟩:=aI.mp nd;have ih:=DB h ns n2;show f n+mE (ns.map f)=_;by_cases e:n=o
  ·subst e;rw[Zd n1] at ih;rw[Zc ai,ih];show f n+mE (ns.map g)=g n+mE (ns.map g)+(f n-g n)
   grind
  ·have m:o∈n::ns↔o∈ns:=⟨λz=>(af.mp z).resolve_left λq=>e q.symm,ae _⟩;by_cases z:o∈ns
   ·rw[Zc z] at ih;rw[Zc (m.mpr z),ih,h n e];show g n+(mE (ns.map g)+(f o-g o))=g n+mE (ns.map g)+(f o-g o);rw[Rat.add_assoc]
   ·rw[Zd z] at ih;rw[Zd (λq=>z (m.mp q)),ih,h n e];rfl
def Ih(l:Hl):Rat:=mE ((l.map (·.1)).map λn=>rv (l7 l n))
def DC{l}(nd:(l.map (·.1)).Nodup)(o)(q):Ih (nK l o q)=Ih l+(rv q-rv (l7 l o)):=by
 have h:∀n,n≠o->rv (l7 (nK l o q) n)=rv (l7 l n):=λn hn=>by rw[mU,Zd hn]
 have ho:rv (l7 (nK l o q) o)=rv q:=by rw[mU,Zc rfl]
 have u:=DB h (l.map (·.1)) nd;unfold Ih;rw[nq];by_cases z:o∈l.map (·.1)
 ·rw[Zc z] at u ⊢;rw[u,ho]
 ·rw[Zd z] at u ⊢;rw[au,zW,u,vn z];show _+(rv (l7 (nK l o q) o)+0)=_;have:rv (0,1)=0:=Rat.zero_divInt 1;rw[ho,this]
  grind
structure On(D:Int)(q:Int×Int)(u:Int):Prop where
 low:Low q
 ev:q.1*D=u*q.2
def On.dvd{D}{q}{u}(h:On D q u):q.2∣D:=CQ h.low.2.symm ⟨u,by rw[h.ev,br]⟩
def On.add{D}{p q}{u v}(h:On D p u)(g:On D q v):On D (nL p q) (u+v):=by
 have p0:=h.low.1;have q0:=g.low.1;have ev:=wD p0 q0;have pq:0<p.2*q.2:=bx p0 q0;refine⟨(rP (q:=(p.1*q.2+q.1*p.2,p.2*q.2)) pq).1,eE (a:=p.2*q.2) (by lia) ?_⟩;generalize nL p q=r at ev ⊢;have e1:=h.ev;have e2:=g.ev
 calc r.1*D*(p.2*q.2)=(r.1*(p.2*q.2))*D:=by rw[aT,br D,<-aT]
  _=((p.1*q.2+q.1*p.2)*r.2)*D:=by rw[ev]
  _=((p.1*D)*q.2+(q.1*D)*p.2)*r.2:=by
   rw[aT,br r.2 D,<-aT,Int.add_mul (p.1*q.2)]
   congr 2
   ·rw[aT,br q.2,<-aT]
   ·rw[aT,br p.2,<-aT]
  _=((u*p.2)*q.2+(v*q.2)*p.2)*r.2:=by rw[e1,e2]
  _=(u+v)*r.2*(p.2*q.2):=by
   have a1:u*p.2*q.2=u*(p.2*q.2):=aT ..;have a2:v*q.2*p.2=v*(p.2*q.2):=by rw[aT,br q.2]
   rw[a1,a2,<-Int.add_mul,aT,br (p.2*q.2),<-aT]
def On.neg{D}{q}{u}(h:On D q u):On D (-q.1,q.2) (-u) :=
 ⟨⟨h.low.1,by have:=h.low.2;unfold Cop aF at *;simp only[iC];exact this⟩,by show -q.1*D=-u*q.2;rw[gD,gD,h.ev]⟩
def On.scale{D}{q}{u}(h:On D q u)(k):On (D*k) q (u*k) :=
 ⟨h.low,by rw[<-aT,h.ev,aT,br q.2,<-aT]⟩
def LD(D):On D (0,1) 0:=⟨⟨by decide,rfl⟩,by simp⟩
def Oa(D):On D (1,1) D:=⟨⟨by decide,rfl⟩,by show 1*D=D*1;lia⟩
def LF{q}(h:Low q):On q.2 q q.1:=⟨h,rfl⟩
structure HR(c:Nat)(hl hm:Hl):Prop where
 q:∀n,l7 hl n=l7 hm n
 nm:∀n,n∈hl.map (·.1)↔0<(l7 hl n).1
 n1:(hl.map (·.1)).Nodup
 n2:(hm.map (·.1)).Nodup
 l1:hl.length<=c+1
 l2:hm.length<=c+1
 fr:∀n,FrC c (l7 hl n)
 ex:∃n,0<(l7 hl n).1
 sm:∀n∈hm.map (·.1),Sm n
 one:Ih hm=1
 dv:∃(D:Int)(U:Str->Int),0<D/\Bt (97*c+1) D/\∀n,On D (l7 hm n) (U n)
def Oy(c){o}(ho:Sm o):HR c [(o,1,1)] [(o,1,1)]:=by
 have g:∀n,l7 [(o,1,1)] n=if n=o then(1,1) else(0,1):=λn=>by
  unfold l7 mC;rw[bF];by_cases e:o=n
  ·rw[show decide ((o,((1:Int),(1:Int))).1=n)=true from Zg e,Zc e.symm];rfl
  ·rw[show decide ((o,((1:Int),(1:Int))).1=n)=false from Zh e,Zd λz=>e z.symm];rfl
 refine⟨λ_=>rfl,λn=>?_,by simp,by simp,by simp,by simp,λn=>?_,⟨o,by rw[g,Zc rfl];decide⟩,λn hn=>by rw[ap.mp hn];exact ho,by
  show rv (l7 [(o,1,1)] o)+0=1;rw[g,Zc rfl,fC];exact Rat.divInt_self' (by decide),1,λn=>if n=o then 1 else 0,by decide,bt1 (by lia),λn=>by
   rw[g];by_cases e:n=o
   ·rw[Zc e];show On 1 (1,1) (if n=o then 1 else 0);rw[Zc e];exact Oa 1
   ·rw[Zd e];show On 1 (0,1) (if n=o then 1 else 0);rw[Zd e];exact LD 1⟩
 ·rw[g];by_cases e:n=o
  ·rw[Zc e];simp[e]
  ·rw[Zd e];simp[e]
 ·rw[g];by_cases e:n=o
  ·rw[Zc e];exact frc1 c
  ·rw[Zd e];exact frc0 c
def HR.had{c}{hl hm}(h:HR c hl hm){n}(h0:0<(l7 hm n).1):n∈hm.map (·.1):=by
 by_cases z:n∈hm.map (·.1)
 ·exact z
 ·rw[vn z] at h0;exact absurd h0 (by decide)
def z9{q}(h:Low q)(h0:q.1=0):q=(0,1):=by
 obtain⟨t,b⟩:=q;obtain⟨h1,h2⟩:=h;simp only at h0 h1 h2;subst h0;have e:b=1:=by have:aF 0 b=1:=h2;rw[Int.gcd_zero_left] at this;lia
 rw[e]
def HR.sale{c}{hl hm}(h:HR c hl hm){o1 o2}{q}(hq:ShOk q)(so:Sm o2)(nt:¬mR hl o1 q):HR (c+1) (sold hl o1 o2 q) (Ia hm o1 o2 q):=by
 have q0:0<q.1:=by by_cases z:0<q.1;exact z;exact absurd (.inl z) nt
 have Qn:q.1*(l7 hl o1).2<=(l7 hl o1).1*q.2:=by
  by_cases z:q.1*(l7 hl o1).2>(l7 hl o1).1*q.2
  ·exact absurd (.inr z) nt
  ·lia
 have R:=yQ (h.fr o1) hq.low q0 Qn hq.bb;have qv:=F0 (h.fr o1) hq.low Qn;have Q3:o1∈hl.map (·.1):=by
  rw[h.nm];by_cases z:0<(l7 hl o1).1
  ·exact z
  ·have a1:(l7 hl o1).1*q.2<=0:=iW (by lia) (bA hq.low.1);have a2:0<q.1*(l7 hl o1).2:=bx q0 (h.fr o1).low.1;lia
 have SY:o1∈hm.map (·.1):=h.had (by rw[<-h.q];exact(h.nm o1).mp Q3);generalize hr:nL (l7 hl o1) (-q.1,q.2)=r at *;have key:∃l1 m1:Hl,sold hl o1 o2 q=nK l1 o2 (nL (l7 l1 o2) q)/\Ia hm o1 o2 q=nK m1 o2 (nL (l7 m1 o2) q)/\(∀n,l7 l1 n=l7 m1 n)/\(∀n,n∈l1.map (·.1)↔0<(l7 l1 n).1)/\(l1.map (·.1)).Nodup/\(m1.map (·.1)).Nodup/\l1.length<=c+1/\m1.length<=c+1/\(∀n,FrB (194*c+2+97) (2^c:Nat) (l7 l1 n))/\(∀n∈m1.map (·.1),Sm n)/\Ih m1+rv q=1/\∃(D:Int)(U:Str->Int),0<D/\Bt (97*(c+1)+1) D/\On D q (U cx)/\∀n,∃u,On D (l7 m1 n) u:=by
  have gm:∀n,l7 (nK hm o1 r) n=if n=o1 then r else l7 hl n:=λn=>by rw[mU,h.q]
  have lm:(nK hm o1 r).length<=c+1:=by have:=congrArg b6 (nq hm o1 r);rw[Zc SY,ac,ac] at this;rw[this];exact h.l2
  have SE:∀n,FrB (194*c+2+97) (2^c:Nat) (if n=o1 then r else l7 hl n):=λn=>by
   by_cases e:n=o1
   ·rw[Zc e];exact R
   ·rw[Zd e];exact⟨(h.fr n).low,(h.fr n).nn,(h.fr n).le,(h.fr n).bb.mono (by lia)⟩
  have em:Ia hm o1 o2 q=nK (nK hm o1 r) o2 (nL (l7 (nK hm o1 r) o2) q):=by unfold Ia;simp only[<-h.q o1,hr]
  have smm:∀n∈(nK hm o1 r).map (·.1),Sm n:=λn hn=>by rw[nq,Zc SY] at hn;exact h.sm n hn
  have one1:Ih (nK hm o1 r)+rv q=1:=by
   rw[DC h.n2,h.one,<-hr,CY (q:=(-q.1,q.2)) (h.fr o1).low.1 hq.low.1,CW,h.q]
   grind
  have dv1:∃(D:Int)(U:Str->Int),0<D/\Bt (97*(c+1)+1) D/\On D q (U cx)/\∀n,∃u,On D (l7 (nK hm o1 r) n) u:=by
   obtain⟨D,U,d1,d2,d3⟩:=h.dv;have oq:On (D*q.2) q (q.1*D):=by rw[br D];exact(LF hq.low).scale D
   refine⟨D*q.2,λ_=>q.1*D,bx d1 hq.low.1,(d2.mul hq.bb).mono (by lia),oq,λn=>?_⟩;rw[mU];by_cases e:n=o1
   ·rw[Zc e,<-hr,h.q];exact⟨_,((d3 o1).scale q.2).add oq.neg⟩
   ·rw[Zd e];exact⟨_,(d3 n).scale q.2⟩
  by_cases rz:r=(0,1)
  ·have gl:∀n,l7 (na hl o1) n=if n=o1 then r else l7 hl n:=λn=>by rw[o4,rz]
   refine⟨na hl o1,nK hm o1 r,?_,em,λn=>by rw[gl,gm],λn=>?_,CH _ h.n1,vZ _ _ h.n2,aE (D5 _ _) h.l1,lm,λn=>by rw[gl];exact SE n,smm,one1,dv1⟩
   ·unfold sold;simp only[hr,rz,if_true]
   ·rw[zg,bu,gl,h.nm,decide_eq_true_iff];by_cases e:n=o1
    ·rw[Zc e,rz];exact⟨λz=>absurd e z.2,λz=>absurd z (by decide)⟩
    ·rw[Zd e];exact⟨λz=>z.1,λz=>⟨z,e⟩⟩
  ·have gl:∀n,l7 (nK hl o1 r) n=if n=o1 then r else l7 hl n:=λn=>mU ..
   have rp:0<r.1:=by
    have:=R.nn;by_cases z:r.1=0
    ·exact absurd (z9 R.low z) rz
    ·lia
   refine⟨nK hl o1 r,nK hm o1 r,?_,em,λn=>by rw[gl,gm],λn=>?_,vZ _ _ h.n1,vZ _ _ h.n2,?_,lm,λn=>by rw[gl];exact SE n,smm,one1,dv1⟩
   ·unfold sold;simp only[hr,rz,if_false]
   ·rw[nq,Zc Q3,gl,h.nm];by_cases e:n=o1
    ·rw[Zc e];exact⟨λ_=>rp,λ_=>by rw[e];exact(h.nm o1).mp Q3⟩
    ·rw[Zd e]
   ·have:=congrArg b6 (nq hl o1 r);rw[Zc Q3,ac,ac] at this;rw[this];exact h.l1
 obtain⟨l1,m1,es,em,gq,nm1,nd1,nd2,len1,len2,SE,sm1,one1,D1,U1,d1,d2,oq,dm⟩:=key;obtain⟨U,up⟩:=MN (SE o2) hq.low q0 qv hq.bb;have ev:(2*((2^c:Nat):Int))=((2^(c+1):Nat):Int):=by rw[gY,Int.natCast_mul,br];rfl
 rw[es,em];refine⟨λn=>?_,λn=>?_,vZ _ _ nd1,vZ _ _ nd2,aE (F8 _ _ _) (by lia),aE (F8 _ _ _) (by lia),λn=>?_,⟨o2,by rw[mU,Zc rfl];exact up⟩,λn hn=>?_,?_,?_⟩
 ·rw[mU,mU,gq,gq]
 ·rw[mU,nq];by_cases e:n=o2
  ·rw[Zc e];refine⟨λ_=>up,λ_=>?_⟩;rw[e];by_cases z:o2∈l1.map (·.1)
   ·rw[Zc z];exact z
   ·rw[Zd z];exact aA _ (ap.mpr rfl)
  ·rw[Zd e,<-nm1];by_cases z:o2∈l1.map (·.1)
   ·rw[Zc z]
   ·rw[Zd z,aJ];exact⟨λy=>y.elim id λy=>absurd (ap.mp y) e,λy=>.inl y⟩
 ·rw[mU];by_cases e:n=o2
  ·rw[Zc e];unfold FrC;rw[<-ev];exact⟨U.low,U.nn,U.le,U.bb.mono (by lia)⟩
  ·rw[Zd e];have:=SE n;refine⟨this.low,this.nn,g8 this.le ?_,this.bb.mono (by lia)⟩;exact aZ (g7.mpr (b7 (by decide) (by lia))) (bA this.low.1)
 ·rw[nq] at hn;by_cases z:o2∈m1.map (·.1)
  ·rw[Zc z] at hn;exact sm1 n hn
  ·rw[Zd z] at hn;rcases aJ.mp hn with y|y
   ·exact sm1 n y
   ·rw[ap.mp y];exact so
 ·rw[DC nd2,CY (by rw[<-gq];exact(SE o2).low.1) hq.low.1]
  grind
 ·have:∀n,∃u,On D1 (l7 (nK m1 o2 (nL (l7 m1 o2) q)) n) u:=λn=>by
   rw[mU];by_cases e:n=o2
   ·rw[Zc e];obtain⟨u,hu⟩:=dm o2;exact⟨_,hu.add oq⟩
   ·rw[Zd e];exact dm n
  exact⟨D1,λn=>Classical.choose (this n),d1,d2,λn=>Classical.choose_spec (this n)⟩
def HR.saleOk{c}{hl hm}(h:HR c hl hm)(hc:c<=44){o1}{q}(hq:ShOk q):SaleOk hl o1 q:=by
 refine⟨aX h.l1 (by lia),λn=>(h.fr n).sz (by lia),λnt=>?_⟩;have q0:0<q.1:=by by_cases z:0<q.1;exact z;exact absurd (.inl z) nt
 have Qn:q.1*(l7 hl o1).2<=(l7 hl o1).1*q.2:=by
  by_cases z:q.1*(l7 hl o1).2>(l7 hl o1).1*q.2
  ·exact absurd (.inr z) nt
  ·lia
 have R:=yQ (h.fr o1) hq.low q0 Qn hq.bb;refine FrC.sz (c:=c+1) ⟨R.low,R.nn,g8 R.le ?_,R.bb.mono (by lia)⟩ (by lia);exact aZ (g7.mpr (b7 (by decide) (by lia))) (bA R.low.1)
def F7{body:PV->XS}(l:List PV)(I:Nat->En->Sto->Prop)(h:∀k q Z s,l[k]?=Za q->I k Z s->∃ρ' s',body q Z s=.nx ρ' s'/\I (k+1) ρ' s'){Z:En}{s:Sto}(h0:I 0 Z s):∃ρ' s',nJ body l Z s=.nx ρ' s'/\I l.length ρ' s':=by
 have main:∀(r:List PV)(k:Nat)(Z:En)(s:Sto),k<=l.length->l.drop k=r->I k Z s->∃ρ' s',nJ body r Z s=.nx ρ' s'/\I l.length ρ' s':=by
  intro r;induction r with
  |nil =>
   intro k Z s hk e hI;have:k=l.length:=jA hk (kU.mp e);subst this;exact⟨Z,s,rfl,hI⟩
  |cons q r ih =>
   intro k Z s hk e hI;have hq:l[k]?=Za q:=by have:=congrArg List.head? e;rw[List.head?_drop] at this;simpa using this
   obtain⟨ρ',s',h1,h2⟩:=h k q Z s hq hI;have e2:l.drop (k+1)=r:=by rw[<-List.tail_drop,e];rfl
   obtain⟨ρ2,s2,h3,h4⟩:=ih (k+1) ρ' s' ((aW.mp hq).1) e2 h2;refine⟨ρ2,s2,?_,h4⟩;unfold nJ;rw[h1];exact h3
 exact main l 0 Z s (a7 _) rfl h0
def wu(n:Nat):(vb 0 n).length=n:=by simp[vb]
def ID{n k:Nat}{q:PV}(h:(vb 0 n)[k]?=Za q):k<n/\q=.int (k:Int):=by
 unfold vb at h;rw[aC] at h;by_cases hk:k<n
 ·rw[fZ hk] at h;cases h;exact⟨hk,by simp⟩
 ·rw[cJ (by simpa using hk)] at h;cases h
def uM{body:PV->XS}(n:Nat)(I:Nat->En->Sto->Prop)(h:∀(k:Nat) Z s,k<n->I k Z s->∃ρ' s',body (.int (k:Int)) Z s=.nx ρ' s'/\I (k+1) ρ' s'){Z:En}{s:Sto}(h0:I 0 Z s):∃ρ' s',nJ body (vb 0 n) Z s=.nx ρ' s'/\I n ρ' s':=by have:=F7 (vb 0 n) I (λk q Z s hq hI=>by obtain⟨h1,h2⟩:=ID hq;rw[h2];exact h k Z s h1 hI) h0;rw[wu] at this;exact this
def oB(s:Sto)(i:Int):PV.data s 12 (.int i)=Za (.int i):=rfl
def qL(i j:Int):bH (.int i) (.int j)=(i==j):=by unfold bH;rfl
theorem D8:∀(l:List (Nat×Cell))(n:Nat)(c d:Cell),ql l n=Za c->ql (tL n d l) n=Za d
 |(k,e)::r,n,c,d,h=>by
  unfold ql at h;unfold tL;split at h
  ·rename_i z;rw[Zc z];unfold ql;rw[Zc rfl]
  ·rename_i z;rw[Zd z];unfold ql;rw[Zd z];exact D8 r n c d h
def ot{s:Sto}{n:Nat}{c d:Cell}(h:s.get n=Za c):(s.set n d).get n=Za d:=D8 s.cs n c d h
def C1(s:Sto)(c:Cell):(s.add c).nx=s.nx+1:=rfl
def mG(s:Sto)(c:Cell)(k:Nat):(s.add c).get k=if s.nx=k then Za c else s.get k:=by show ql ((s.nx,c)::s.cs) k=_;unfold ql;rfl
def lU(s:Sto){n k:Nat}(c:Cell)(h:k≠n):(s.set n c).get k=s.get k:=uw h
def yX(s:Sto)(c d:Cell){p:Nat}(h:s.nx≠p):(s.add d).set p c=(s.set p c).add d:=by unfold Sto.set Sto.add;simp[tL,h]
def tm(s:Sto)(c d:Cell):(s.add d).set s.nx c=s.add c:=by unfold Sto.set Sto.add;simp[tL]
def rO(s:Sto)(n:Nat)(c d:Cell):(s.set n c).set n d=s.set n d:=by
 have:∀l,tL n d (tL n c l)=tL n d l:=by
  intro l;induction l with
  |nil=>rfl
  |cons q r ih =>
   obtain⟨k,e⟩:=q;by_cases h:k=n
   ·simp[tL,h]
   ·simp[tL,h,ih]
 unfold Sto.set;simp[this]
def zX(s:Sto)(n:Nat)(c:Cell)(h:s.get n=Za c):s.set n c=s:=by
 have:∀l,ql l n=Za c->tL n c l=l:=by
  intro l;induction l with
  |nil=>intro h;rfl
  |cons q r ih =>
   intro h;obtain⟨k,e⟩:=q;by_cases hk:k=n
   ·simp[ql,hk] at h;simp[tL,hk,h]
   ·simp[ql,hk] at h;simp[tL,hk,ih h]
 unfold Sto.set;rw[this _ h]
def Sto.bump(s:Sto):Sto:=⟨s.nx+1,s.cs⟩
def Mn(s:Sto)(d:Cell):(s.add d).del s.nx=Sto.bump s:=by unfold Sto.del Sto.add Sto.bump;simp[CN]
def Jo(s:Sto)(k:Nat):(Sto.bump s).get k=s.get k:=rfl
def IsPurse(s:Sto)(p:Nat):Prop:=∃x y,s.get p=Za (.lst [.int x,.int y])
def pst(s:Sto)(p:Nat)(x y:Int):Sto:=s.set p (.lst [.int x,.int y])
def NP(s:Sto)(p:Nat)(x y:Int):(pst s p x y).nx=s.nx:=rfl
theorem IsPurse.pst{s:Sto}{p:Nat}(h:IsPurse s p)(x y:Int):IsPurse (pst s p x y) p:=let⟨_,_,h⟩:=h;⟨x,y,K8 h⟩
theorem IsPurse.add{s:Sto}{p:Nat}(h:IsPurse s p)(c:Cell)(hp:p<s.nx):IsPurse (s.add c) p:=by obtain⟨x,y,h⟩:=h;exact⟨x,y,by rw[mG,Zd (by lia)];exact h⟩
def Lk(s:Sto)(p:Nat)(x y x' y':Int)(d:Cell)(hp:p<s.nx):((pst s p x y).add d).set p (.lst [.int x',.int y'])=(pst s p x' y').add d:=by rw[yX _ _ _ (by rw[NP];lia)];unfold pst;rw[rO]
def MF{c:XT}{e:XE}{cap:En}(l:List PV)(I:Nat->List PV->Sto->Prop)(h:∀k q vs s,l[k]?=Za q->I k vs s->(∃s1,c (Za q::cap) s=.ok false s1/\I (k+1) vs s1)\/(∃s1 v s2,c (Za q::cap) s=.ok true s1/\e (Za q::cap) s1=.ok v s2/\I (k+1) (vs++[v]) s2)){s:Sto}(h0:I 0 [] s) :
  ∃vs s',nN c e cap l s=.ok vs s'/\I l.length vs s':=by
 have main:∀(r:List PV)(k:Nat)(vs:List PV)(s:Sto),k<=l.length->l.drop k=r->I k vs s->∃ws s',nN c e cap r s=.ok ws s'/\I l.length (vs++ws) s':=by
  intro r;induction r with
  |nil =>
   intro k vs s hk e hI;have:k=l.length:=jA hk (kU.mp e);subst this;exact⟨[],s,rfl,by simpa using hI⟩
  |cons q r ih =>
   intro k vs s hk e' hI;have hq:l[k]?=Za q:=by have:=congrArg List.head? e';rw[List.head?_drop] at this;simpa using this
   have e2:l.drop (k+1)=r:=by rw[<-List.tail_drop,e'];rfl
   have Ui:k+1<=l.length:=(aW.mp hq).1;rcases h k q vs s hq hI with⟨s1,h1,h2⟩|⟨s1,v,s2,h1,h2,h3⟩
   ·obtain⟨ws,s',h3,h4⟩:=ih (k+1) vs s1 Ui e2 h2;exact⟨ws,s',by rw[oU,h1];exact h3,h4⟩
   ·obtain⟨ws,s',h4,h5⟩:=ih (k+1) (vs++[v]) s2 Ui e2 h3;refine⟨v::ws,s',by rw[oU,h1];simp[h2,h4],by simpa using h5⟩
 obtain⟨ws,s',h1,h2⟩:=main l 0 [] s (a7 _) rfl h0;exact⟨ws,s',h1,by simpa using h2⟩
theorem sC{c:XT}{e:XE}{cap:En}{s:Sto}(p:PV->Bool)(f:PV->PV):∀(l:List PV),(∀q∈l,c (Za q::cap) s=.ok (p q) s)->(∀q∈l,p q=true->e (Za q::cap) s=.ok (f q) s)->nN c e cap l s=.ok ((l.filter p).map f) s
 |[],_,_=>rfl
 |q::l,h1,h2=>by
  rw[oU,h1 q ai];have ih:=sC p f l (λx hx=>h1 x (ae _ hx)) (λx hx=>h2 x (ae _ hx));cases hp:p q with
  |false=>simp[ih,hp]
  |true=>simp[ih,hp,h2 q ai hp]
def oR{n:Int}(h0:0<n)(h1:n<2^64):Bt 9000 n:=by
 have:Bt 64 n:=by unfold Bt;lia
 exact this.mono (by decide)
def Ds:(aQ "abcdefghijklmnopqrstuvwxyz").length<=100000:=by decide
def rY(a:Adr)(s:Sto)(p:Nat)(n:Int)(h:IsPurse s p)(h0:0<n)(h1:Bt 9000 n):∃r x y,0<=r/\r<n/\lZ a [.ref p,.int n] s=.ok (.int r) (s.set p (.lst [.int x,.int y])):=by
 obtain⟨x,y,h⟩:=h;have hd:zC n:=⟨h0,h1⟩;by_cases hx:x=0
 ·refine⟨y%n,y/n,y,dB _ (by lia),cN _ h0,?_⟩;subst hx;simp[sem,qp,mv,tG,lZ,uz,h,atI,ixN,oB,qL,hd,h0,ot h,rO]
 ·refine⟨x%n,x/n,y,dB _ (by lia),cN _ h0,?_⟩;simp[sem,qp,mv,tG,lZ,uz,h,atI,ixN,oB,qL,hd,h0,hx]
def Jz(l:List Int)(lo hi:Option Int):∃k:List Int,CP (l.map PV.int) lo hi=k.map PV.int/\k.length<=l.length/\∀x∈k,x∈l:=by
 refine⟨(l.drop (HT.sIx l.length 0 lo)).take (HT.sIx l.length l.length hi-HT.sIx l.length 0 lo),?_,?_,λx hx=>kS (kR hx)⟩
 ·unfold CP;simp[List.map_take,List.map_drop]
 ·rw[eK,gJ];lia
def GJ{l:List Int}{i:Int}(h0:0<=i)(h1:i<l.length):∃x∈l,atI (l.map PV.int) i=Za (.int x):=by
 obtain⟨j,rfl⟩:∃j:Nat,i=j:=⟨i.toNat,by lia⟩;have hj:j<l.length:=by lia
 exact⟨l[j],ce hj,mY (by simp[hj])⟩
def Jc(a:Adr)(s:Sto)(c:Int)(k:Nat)(hc:bU c<=1048576)(hk:k<64):∃v,qx a [.int c,.int k] s=.ok (.int v) s:=by have m1:iT c c:=Ol (by lia) (by lia);have m2:qq 3 c:=.inr (.inl ⟨by decide,by decide⟩);have m3:qq 7919 (k:Int):=.inr (.inl ⟨by decide,by decide⟩);have m4:qq (c*c+3*c+7919*(k:Int)+1) 48271:=.inr (.inr ⟨by decide,by decide⟩);generalize hz:((c*c+3*c+7919*(k:Int)+1)*48271)%2147483629=z;have b0:0<=z:=hz▸dB _ (by decide);have b1:z<2147483629:=hz▸cN _ (by decide);have m5:qq z z:=.inr (.inl ⟨by lia,by lia⟩);refine⟨(z*z+7)%2147483587,?_⟩;simp[sem,qp,mv,tG,qx,vV,Fd,m1,m2,m3,m4,hz,m5]
def IH(a:Adr)(s:Sto)(l:List Int)(hl:l.length<=63)(hw:Att.WtOk l):∃x y,oA a [.seq (l.map .int)] s=.ok (.ref s.nx) (s.add (.lst [.int x,.int y])):=by
 obtain⟨c,hc,Pi,R6⟩:=Jz l Zb (Za 63);have hsz:c.length<=99999:=by lia
 have R3:(0:Int)<(c.length:Int)+1:=by lia
 have h2:2<=aK:=by decide
 have hw2:∀x∈c++[0],bU x<=1048576:=λx hx=>by
  rcases aJ.mp hx with z|z
  ·exact hw x (R6 x z)
  ·rw[ap.mp z];decide
 obtain⟨ρ',s',Q8,rfl,v,k,rfl⟩:=uM (body:=mQ (yName 3) (qC a)) 64
  (λ_ Z t=>t=s/\∃v k,Z=[Za (.seq (l.map .int)),Za (.lst ((c++[0]).map .int)),Za (.int v),k])
  (λk Z t hk hI=>by obtain⟨rfl,v,k',rfl⟩:=hI;obtain⟨x,hxm,hx⟩:=GJ (l:=c++[0]) (i:=(k:Int)%((c.length:Int)+1)) (dB _ (by lia)) (by have:=cN (k:Int) R3;simpa using this);obtain⟨u,hu⟩:=Jc a t x k (hw2 x hxm) hk;have m3:qq v 2147483587:=.inr (.inr ⟨by decide,by decide⟩);refine⟨_,_,?_,rfl,v*2147483587+u,Za (.int k),rfl⟩;simp only[au,al,dA] at hx;simp[sem,qp,mv,tG,mQ,qC,hx,m3,R3,hu]) ⟨rfl,1,Zb,rfl⟩
 obtain⟨x0,_,Tc⟩:=GJ (l:=c++[0]) (i:=0) (by lia) (by simp);simp only[au,al,dA] at Tc Q8;generalize hab:(if x0<0 then -x0 else x0)=x1 at *;by_cases h18:(1000000000000000000:Int)<=x1
 ·refine⟨x1,v,?_⟩;simp[sem,qp,mv,tG,oA,sU,hc,hsz,Q8,Tc,hab,h18,h2]
 ·refine⟨v,v,?_⟩;simp[sem,qp,mv,tG,oA,sU,hc,hsz,Q8,Tc,hab,h18,h2]
structure Two'(p q:Int×Int):Prop where
 p0:0<p.2
 q0:0<q.2
 b:Bt 4400 p.2/\Bt 4400 q.2
 t:Bt 9000 p.1/\Bt 9000 q.1
def rV{i j:Int}(h:Bt 9000 i)(g:Bt 9000 j):qq i j:=.inl ⟨h.mono (by decide),g.mono (by decide)⟩
def Cs(a:Adr)(s:Sto):∀(k:Nat)(t b:Int),0<=t->0<=b->b.toNat<=k->∃n t',mL (xTr (x2 (xVar 1) (xC (.int 0)) fGt)) (oy a) n [Za (.int t),Za (.int b)] s=.nx [Za (.int t'),Za (.int 0)] s/\0<=t'/\t'.natAbs=aF t b:=by
 intro k;induction k with
 |zero =>
  intro t b ht h0 hk;have:b=0:=by lia
  subst this;refine⟨1,t,?_,ht,by simp[aF]⟩;unfold mL;simp[sem,qp,mv,tG]
 |succ k ih =>
  intro t b ht h0 hk;by_cases hb:b=0
  ·subst hb;refine⟨1,t,?_,ht,by simp[aF]⟩;unfold mL;simp[sem,qp,mv,tG]
  ·have hp:0<b:=by lia
   have m0:=dB t hb;have m1:=cN t hp;obtain⟨n,t',h1,h3,h2⟩:=ih b (t%b) h0 m0 (by lia);refine⟨n+1,t',?_,h3,by rw[h2];exact D9 t b hp⟩;have hs:oy a [Za (.int t),Za (.int b)] s=.nx [Za (.int b),Za (.int (t%b))] s:=by simp[sem,qp,mv,tG,oy,hp]
   unfold mL;simp[sem,qp,mv,tG,hp,hs,h1]
def Ff(a:Adr)(s:Sto)(t b:Int):pb a [.int t,.int b] s=.ok (.int (aF t b)) s:=by
 have e1:(if t<0 then -t else t)=(t.natAbs:Int):=by split<;>lia
 have e2:(if b<0 then -b else b)=(b.natAbs:Int):=by split<;>lia
 obtain⟨n,t',h1,h3,h2⟩:=Cs a s (b.natAbs:Int).toNat (t.natAbs:Int) (b.natAbs:Int) (by lia) (by lia) (ao _);have hw:=xg h1 (by simp);simp[sem,qp,mv,tG,pb,tY,e1,e2,hw];have:aF (t.natAbs:Int) (b.natAbs:Int)=aF t b:=by simp[aF]
 rw[<-this,<-h2];lia
def CI(a:Adr)(s:Sto)(t b:Int)(hb:0<b)(hB:Bt 9000 b):m8 a [.int t,.int b] s=.ok (frP (red (t,b))) s:=by
 have hg:0<aF t b:=bG _ (by lia);have hd:zC (aF t b:Int):=⟨by lia,hB.dvd (by lia) (cm ..)⟩;have e:=Ff a s t b;have hn:¬b<0:=by lia
 simp[sem,qp,mv,tG,m8,xU,e,hd,hn,frP,red]
def AQ{n:Int}{k:Nat}(h:n.natAbs<2^k)(hk:k<=9000):Bt 9000 n:=ay h (b7 (by decide) hk)
def six{r:Int}(h0:0<=r)(h1:r<6):r=0\/r=1\/r=2\/r=3\/r=4\/r=5:=by lia
def Bq{s:Sto}{p:Nat}{x y:Int}(h:IsPurse s p):IsPurse (s.set p (.lst [.int x,.int y])) p:=by obtain⟨u,v,h⟩:=h;exact⟨x,y,ot h⟩
def Hn(a:Adr)(s:Sto)(p:Nat)(h:IsPurse s p):∃v x y,ny a [.ref p] s=.ok (.int v) (s.set p (.lst [.int x,.int y]))/\Bt 100 v:=by
 obtain⟨r,x,y,r0,r1,e1⟩:=rY a s p 6 h (by decide) (AQ (k:=4) (by decide) (by decide));have h2:=Bq (x:=x) (y:=y) h;obtain⟨m,hm,hm0,hmB,QQ⟩:∃m:Int,atI [PV.int 10,.int 10,.int 100,.int 3,.int (10^6),.int (10^20)] r=Za (.int m)/\0<m/\(2*m).natAbs<2^100/\True:=by
  rcases six r0 r1 with z|z|z|z|z|z<;>subst z
  ·exact⟨10,rfl,by decide,by decide,trivial⟩
  ·exact⟨10,rfl,by decide,by decide,trivial⟩
  ·exact⟨100,rfl,by decide,by decide,trivial⟩
  ·exact⟨3,rfl,by decide,by decide,trivial⟩
  ·exact⟨10^6,rfl,by decide,by decide,trivial⟩
  ·exact⟨10^20,rfl,by decide,by decide,trivial⟩
 obtain⟨r',x',y',q0,q1,e2⟩:=rY a (s.set p (.lst [.int x,.int y])) p (2*m) h2 (by lia) (AQ (k:=100) hmB (by decide));have m2:qq 2 m:=.inr (.inl ⟨by decide,by decide⟩);have d3:zC 3:=⟨by decide,AQ (k:=4) (by decide) (by decide)⟩;rw[rO] at e2;refine⟨r'-m/3,x',y',?_,by unfold Bt;lia⟩;have RG:atI [PV.int 10,.int 10,.int 100,.int 3,.int 1000000,.int 100000000000000000000] r=Za (.int m):=hm;simp[sem,qp,mv,tG,ny,vp,e1,RG,e2,m2,d3]
def five{r:Int}(h0:0<=r)(h1:r<5):r=0\/r=1\/r=2\/r=3\/r=4:=by lia
structure PartOf(q q':Int×Int):Prop where
 low:Low q'
 pos:0<q'.1
 le:q'.1*q.2<=q.1*q'.2
def IR{q:Int×Int}(h:Low q)(h0:0<q.1){m l:Int}(m0:0<m)(ml:m<=l):PartOf q (red (q.1*m,q.2*l)):=by
 have hl:0<l:=by lia
 have hb:0<q.2*l:=bx h.1 hl;obtain⟨lo,ev⟩:=rP (q:=(q.1*m,q.2*l)) hb;have b0:=lo.1;have ev:(red (q.1*m,q.2*l)).1*(q.2*l)=q.1*m*(red (q.1*m,q.2*l)).2:=ev;generalize red (q.1*m,q.2*l)=z at *;have p1:0<q.1*m*z.2:=bx (bx h0 m0) b0;have p2:0<z.1:=by
  rw[<-ev] at p1;by_cases z0:0<z.1
  ·exact z0
  ·have:=aZ (show z.1<=0 by lia) (bA hb);rw[jb] at this;lia
 refine⟨lo,p2,?_⟩;refine jP (a:=l) ?_ hl;have e1:z.1*q.2*l=z.1*(q.2*l):=by rw[aT]
 have e2:q.1*z.2*l=q.1*l*z.2:=by rw[aT,br z.2 l,<-aT]
 rw[e1,ev,e2];exact aZ (Int.mul_le_mul_of_nonneg_left ml (bA h0)) (bA b0)
def F3(a:Adr)(s:Sto)(p:Nat)(h:IsPurse s p)(q:Int×Int)(hq:Low q)(h0:0<q.1)(hB:Bt 8900 q.2):∃q' x y,PartOf q q'/\oY a [.ref p,frP q] s=.ok (frP q') (s.set p (.lst [.int x,.int y])):=by
 obtain⟨r,x,y,r0,r1,e1⟩:=rY a s p 5 h (by decide) (AQ (k:=4) (by decide) (by decide));have h2:=Bq (x:=x) (y:=y) h;by_cases hz:r=0
 ·subst hz;refine⟨q,x,y,⟨hq,h0,li _⟩,?_⟩;simp[sem,qp,mv,tG,oY,uy,e1,oB,qL,frP]
 ·obtain⟨l,hl,l1,lB,_⟩:∃l:Int,atI [PV.int 2,.int 3,.int 7,.int (10^6)] (r-1)=Za (.int l)/\1<l/\l<=10^6/\True:=by
   rcases five r0 r1 with z|z|z|z|z<;>subst z
   ·exact absurd rfl hz
   ·exact⟨2,rfl,by decide,by decide,trivial⟩
   ·exact⟨3,rfl,by decide,by decide,trivial⟩
   ·exact⟨7,rfl,by decide,by decide,trivial⟩
   ·exact⟨10^6,rfl,by decide,by decide,trivial⟩
  obtain⟨r',x',y',s0,s1,e2⟩:=rY a (s.set p (.lst [.int x,.int y])) p (l-1) h2 (by lia) (AQ (k:=20) (by show(l-1).natAbs<1048576;lia) (by decide));rw[rO] at e2;have m1:qq q.1 (1+r'):=.inr (.inr ⟨by lia,by lia⟩);have m2:qq q.2 l:=.inr (.inr ⟨by lia,by lia⟩);have bB:Bt 9000 (q.2*l):=(hB.mul (show Bt 20 l by show l.natAbs<1048576;lia)).mono (by decide);have em:=CI a (s.set p (.lst [.int x',.int y'])) (q.1*(1+r')) (q.2*l) (bx hq.1 (by lia)) bB;refine⟨red (q.1*(1+r'),q.2*l),x',y',IR hq h0 (by lia) (by lia),?_⟩;have Tq:atI [PV.int 2,.int 3,.int 7,.int 1000000] (r-1)=Za (.int l):=hl;have q1:atI [PV.int q.1,.int q.2] 0=Za (.int q.1):=rfl;have q2:atI [PV.int q.1,.int q.2] 1=Za (.int q.2):=rfl;simp[sem,qp,mv,tG,oY,uy,e1,oB,qL,frP,hz,Tq,e2,m1,m2,q1,q2,em]
def Cy{x y:Str}(h:x.cps.toList=y.cps.toList):x=y:=by obtain⟨a⟩:=x;obtain⟨b⟩:=y;have:a=b:=Array.toList_inj.mp h;rw[this]
def mkW(cs:List Nat):Str:=⟨cs.toArray⟩
def qT(cs):(mkW cs).cps.toList=cs:=by simp[mkW]
def F6(cs):(mkW cs).length=cs.length:=by rw[Jg,qT]
theorem zo:∀cs:List Nat,Str.join (aQ "") (cs.map λc=>(⟨#[c]⟩:Str))=mkW cs
 |[]=>rfl
 |[c]=>rfl
 |c::d::r=>by have ih:=zo (d::r);have e:Str.join (aQ "") ((c::d::r).map λc=>(⟨#[c]⟩:Str))=(⟨#[c]⟩:Str)++aQ ""++Str.join (aQ "") ((d::r).map λc=>(⟨#[c]⟩:Str)):=rfl;rw[e,ih];refine Cy ?_;rw[Af,Af,qT,qT];rfl
def Fa(cs):Txt.join (aQ "") (cs.map λc=>(⟨#[c]⟩:Str))=mkW cs:=(StrLaws.glued_eq_join _ _).trans (zo cs)
def Ao(vs:List Int)(j:Nat):Int:=(vs[j]?).getD 0
def oW(vs:List Int)(d k j:Nat):Int:=Ao vs j+5*(k:Int)*(if j=d then 1 else 0)
def wcs(vs:List Int)(d k:Nat):List Nat:=(bw vs.length).map λj=>97+(oW vs d k j%26).toNat
def wH(vs)(d k):(wcs vs d k).length=vs.length:=by simp[wcs]
def KQ(vs)(d k):∀c∈wcs vs d k,97<=c/\c<=122:=λc hc=>by obtain⟨j,_,rfl⟩:=ah.mp hc;have m0:=dB (oW vs d k j) (show(26:Int)≠0 by decide);have m1:=cN (oW vs d k j) (show(0:Int)<26 by decide);lia
def JK(vs)(hd:d<vs.length)(k):(wcs vs d k)[d]?=Za (97+((Ao vs d+5*(k:Int))%26).toNat):=by unfold wcs oW;rw[aC,fZ hd];simp
def wrd(vs:List Int)(d:Nat)(fl:Bool)(k:Nat):Str:=mkW (wcs vs d k++if fl=true/\k%2=1 then [120] else [])
def KP(hd:d<vs.length)(hi:i<10)(hj:j<10)(h:wrd vs d fl i=wrd vs d fl j):i=j:=by
 have e:wcs vs d i++(if fl=true/\i%2=1 then [120] else [])=wcs vs d j++(if fl=true/\j%2=1 then [120] else []):=by have:=congrArg (λx:Str=>x.cps.toList) h;simpa[wrd,qT] using this
 have e2:(wcs vs d i++(if fl=true/\i%2=1 then [120] else []))[d]?=(wcs vs d j++(if fl=true/\j%2=1 then [120] else []))[d]?:=congrArg (λl:List Nat=>l[d]?) e;rw[dq (by rw[wH];exact hd),dq (by rw[wH];exact hd),JK vs hd,JK vs hd] at e2;have e3:=aP e2;generalize Ao vs d=z at *;omega
def JJ(h0:0<vs.length)(h7:vs.length<=7)(d)(fl)(k):Sm (wrd vs d fl k)/\vT (wrd vs d fl k)=true:=by
 have hl:(wrd vs d fl k).length=vs.length+(if fl=true/\k%2=1 then 1 else 0):=by unfold wrd;rw[F6,aD,wH];split<;>rfl
 have hc:∀c∈(wrd vs d fl k).cps.toList,97<=c/\c<=122:=λc hc=>by
  unfold wrd at hc;rw[qT] at hc;rcases aJ.mp hc with z|z
  ·exact KQ vs d k c z
  ·split at z
   ·rw[ap.mp z];decide
   ·cases z
 have Tp:1<=(wrd vs d fl k).length/\(wrd vs d fl k).length<=8:=by rw[hl];split<;>lia
 refine⟨⟨by lia,λc h=>by have:=hc c h;lia⟩,?_⟩;unfold vT;rw[Zg Tp.1,Zg Tp.2];simp only[iL,dg];intro c h;have:=hc c h;simp[low];lia
theorem zM(g:Nat->Str->Str):∀(ws:List Str)(k:Nat),(∀j w,w∈ws->e [Za (.int (j:Nat)),Za (.str w)] s=.ok (.str (g j w)) s)->mP m9 e [] (qY k (ws.map .str)) s=.ok (((bw ws.length).map λi=>g (k+i) ((ws[i]?).getD cx)).map .str) s
 |[],k,_=>rfl
 |w::r,k,h=>by have ih:=zM g r (k+1) λj w hw=>h j w (ae _ hw);show mP m9 e [] (.tup [.int (k:Nat),.str w]::qY (k+1) (r.map .str)) s=_;rw[x8];have h0:=h k w ai;simp only[CZ,m9,h0,ih];simp[ku,Function.comp_def,ka,kL 1]
def JT{f g:XS}{Z ρ':En}{s s':Sto}(h:f Z s=.nx ρ' s'):xSeq f g Z s=g ρ' s':=by unfold xSeq;rw[h]
def uR{α β:Type}(v:α)(s:Sto)(f:α->Sto->Out β):(Out.ok v s).bind f=f v s:=rfl
def p62:(2:Int)^62=4611686018427387904:=by decide
def lo62(n:Nat):-(2^62)<=(n:Int):=by
 rw[p62];have:(-4611686018427387904:Int)<=n:=by lia
 exact this
def hi62{n:Nat}(hn:n<1000000):(n:Int)<2^62:=by
 rw[p62];have:(n:Int)<4611686018427387904:=by lia
 exact this
def Ld{fa:XA}{Z:En}{s s1:Sto}{j:Int}(h:fa Z s=.ok [.int j] s1):xRng1 fa Z s=if -(2^62)<=j/\j<2^62 then Out.ok (vb 0 j.toNat) s1 else Out.bad:=by unfold xRng1;rw[h,uR]
def vd{fa:XA}{Z:En}{s s1:Sto}{n:Nat}(h:fa Z s=.ok [.int n] s1)(hn:n<1000000):xRng1 fa Z s=.ok (vb 0 n) s1:=by rw[Ld h,Zc ⟨lo62 n,hi62 hn⟩,Int.toNat_natCast]
def qG{fi:XA}{y:XG}{body:XS}{Z ρ':En}{s s1 s':Sto}{l:List PV}(h1:fi Z s=.ok l s1)(h2:nJ (mQ y body) l Z s1=.nx ρ' s'):xFor fi y body Z s=.nx ρ' s':=by unfold xFor;rw[h1];simp only[Out.so];rw[h2];rfl
def pL{fi:XA}{ix:List Nat}{c:XT}{e:XE}{Z:En}{s s1 s2:Sto}{l vs:List PV}(h1:fi Z s=.ok l s1)(hl:l.length<=100000)(h2:nN c e (nC ix Z) l s1=.ok vs s2):pE fi ix c e Z s=.ok (.lst vs) s2:=by unfold pE;rw[h1];simp only[Out.bind,hl,if_true];rw[h2]
def Aq{f g:XS}{Z:En}{s s':Sto}{v:PV}(h:f Z s=.rt v s'):xSeq f g Z s=.rt v s':=by unfold xSeq;rw[h]
def me{f:XE}{i:Nat}{Z:En}{s s':Sto}{v:PV}(h:f Z s=.ok v s'):xSet i f Z s=.nx (Z.set i (Za v)) s':=by unfold xSet;rw[h];rfl
def mq{f g:XE}{F:PV->PV->Sto->Out PV}{Z:En}{s s1 s2:Sto}{v w:PV}(h1:f Z s=.ok v s1)(h2:g Z s1=.ok w s2):x2 f g F Z s=F v w s2:=by unfold x2;rw[h1];simp only[Out.bind];rw[h2]
def lL{f:XE}{fa:XA}{Z:En}{s s1 s2:Sto}{v:PV}{vs:List PV}(h1:f Z s=.ok v s1)(h2:fa Z s1=.ok vs s2):xCons f fa Z s=.ok (v::vs) s2:=by unfold xCons;rw[h1];simp only[Out.bind];rw[h2]
def tO{fa:XA}{Z:En}{s s1:Sto}{vs:List PV}(h1:fa Z s=.ok vs s1)(hl:vs.length<=100000:=by exact dW rfl):xTup fa Z s=.ok (.tup vs) s1:=by unfold xTup;rw[h1];exact Zc hl
def qK{c:XT}{A B:XS}{Z:En}{s s1:Sto}(h:c Z s=.ok false s1):xIf c A B Z s=B Z s1:=by unfold xIf;rw[h];rfl
def qt{f:XE}{fa:XA}{Z:En}{s s1 s2:Sto}{k m:Nat}{D:XF}{pp:List Str}{L:List Ent}{vs:List PV}(h1:f Z s=.ok (.ref k) s1)(h2:s1.get k=Za (.book pp L))(h3:fa Z s1=.ok vs s2)(h4:vs.length+1=m):xBM m D f fa Z s=D (.ref k::vs) s2:=by unfold xBM;rw[h1];simp only[Out.bind,h2];rw[h3];simp only[h4,if_true]
def vi{fa:XA}{Z:En}{s s1:Sto}{vs:List PV}(h1:fa Z s=.ok vs s1)(hl:vs.length<=100000:=by exact dW rfl):xLst fa Z s=.ok (.lst vs) s1:=by unfold xLst;rw[h1];exact Zc hl
def l9{D:XF}{fa:XA}{Z:En}{s s1:Sto}{vs:List PV}{n:Nat}{o:Out PV}(h1:fa Z s=.ok vs s1)(hn:vs.length=n)(h2:D vs s1=o):xCall n D fa Z s=o:=by unfold xCall;rw[h1];simp only[Out.bind];rw[Zc hn];exact h2
def o5{i:Nat}{u:XS}{q:PV}{Z:En}{s:Sto}:mQ (yName i) u q Z s=u (Z.set i (Za q)) s:=rfl
def tS{c:XT}{A B:XS}{Z:En}{s s1:Sto}(h:c Z s=.ok true s1):xIf c A B Z s=A Z s1:=by unfold xIf;rw[h];rfl
def wC{f:XE}{Z:En}{s s':Sto}{v:PV}(h:f Z s=.ok v s'):xDo f Z s=.nx Z s':=by unfold xDo;rw[h];rfl
def nO{f:XE}{Z:En}{s s':Sto}{v:PV}(h:f Z s=.ok v s'):xRet f Z s=.rt v s':=by unfold xRet;rw[h];rfl
def vK{fa:XA}{F:List PV->Sto->Out PV}{Z:En}{s s1:Sto}{vs:List PV}(h1:fa Z s=.ok vs s1):xB fa F Z s=F vs s1:=by unfold xB;rw[h1];rfl
def abc:Str:="abcdefghijklmnopqrstuvwxyz"
def DU(n:Nat):vb 0 n=(bw n).map λk=>PV.int (k:Nat):=by unfold vb;refine aV λk _=>?_;rw[Int.zero_add]
abbrev nE(p m:Nat)(vs:List Int)(d x:Nat)(u v:Option PV):En:=[Za (.ref p),Za (.int (m:Nat)),Za (.str abc),Za (.int (vs.length:Nat)),Za (.lst (vs.map .int)),Za (.int (d:Nat)),Za (.ref x),u,v]
def Hq(a:Adr)(T:Sto)(p m:Nat)(vs:List Int)(h0:0<vs.length)(h7:vs.length<=7)(d:Nat)(hd:d<vs.length)(ws:List Str)(hw:ws.length<100)(k:Nat)(hk:k<100)(u v:Option PV) :
  mQ (yName 7) (om a) (.int (k:Nat)) (nE p m vs d T.nx u v) (T.add (.lst (ws.map .str))) =
   .nx (nE p m vs d T.nx (Za (.int (k:Nat))) (Za (.lst (((bw vs.length).map (oW vs d k)).map .int)))) (T.add (.lst ((ws++[mkW (wcs vs d k)]).map .str))):=by
 have Tg:(-4611686018427387904:Int)<=(vs.length:Int):=by lia
 have hr2:(vs.length:Int)<(4611686018427387904:Int):=by lia
 have Pi:(vb 0 vs.length).length<=100000:=by rw[wu];lia
 have m1:qq 5 (k:Int):=.inr (.inl ⟨by decide,by decide⟩);have m2:∀z:Int,qq z 0:=λz=>.inr (.inr ⟨by decide,by decide⟩);have m3:∀z:Int,qq z 1:=λz=>.inr (.inr ⟨by decide,by decide⟩);have c1:nN m9 (x2 (x2 (xVar 1) (xVar 0) fIx) (x2 (x2 (xC (.int 5)) (xVar 2) fMul) (xB (xCons (x2 (xVar 0) (xVar 3) fEq) xNil) fInt) fMul) fAdd) [Za (.lst (vs.map .int)),Za (.int (k:Nat)),Za (.int (d:Nat))] (vb 0 vs.length) (T.add (.lst (ws.map .str)))=.ok (((bw vs.length).map (oW vs d k)).map .int) (T.add (.lst (ws.map .str))):=by
  have:=sC (c:=m9) (e:=x2 (x2 (xVar 1) (xVar 0) fIx) (x2 (x2 (xC (.int 5)) (xVar 2) fMul) (xB (xCons (x2 (xVar 0) (xVar 3) fEq) xNil) fInt) fMul) fAdd) (cap:=[Za (.lst (vs.map .int)),Za (.int (k:Nat)),Za (.int (d:Nat))]) (s:=T.add (.lst (ws.map .str))) (λ_=>true) (λq=>match q with|.int j=>.int (oW vs d k j.toNat)|_=>.non) (vb 0 vs.length) (λ_ _=>rfl) λq hq _=>by
   rw[DU] at hq;obtain⟨j,hj,rfl⟩:=ah.mp hq;have hj:j<vs.length:=cF.mp hj;have e1:atI (vs.map PV.int) (j:Nat)=Za (.int (Ao vs j)):=mY (by unfold Ao;rw[aC,aw hj];rfl);by_cases hz:j=d
   ·subst hz;simp[sem,qp,mv,tG,e1,m1,m3,oB,qL,oW]
   ·have U0:((j:Int)==(d:Int))=false:=by simp;lia
    simp[sem,qp,mv,tG,e1,m1,m2,oB,qL,oW,hz,U0]
  rw[this]
  congr 1
  rw[iG.mpr (λ_ _=>rfl),DU,aH,aH];rfl
 have c2:nN m9 (x2 (xVar 1) (x2 (xVar 0) (xC (.int 26)) fMod) fIx) [Za (.str abc)] (((bw vs.length).map (oW vs d k)).map .int) (T.add (.lst (ws.map .str)))=.ok (((wcs vs d k).map λc=>(⟨#[c]⟩:Str)).map .str) (T.add (.lst (ws.map .str))):=by
  have:=sC (c:=m9) (e:=x2 (xVar 1) (x2 (xVar 0) (xC (.int 26)) fMod) fIx) (cap:=[Za (.str abc)]) (s:=T.add (.lst (ws.map .str))) (λ_=>true) (λq=>match q with|.int j=>.str ⟨#[97+(j%26).toNat]⟩|_=>.non) (((bw vs.length).map (oW vs d k)).map .int) (λ_ _=>rfl) λq hq _=>by obtain⟨z,_,rfl⟩:=ah.mp hq;have e1:=Op (dB z (show(26:Int)≠0 by decide)) (cN z (show(0:Int)<26 by decide));simp[sem,qp,mv,tG,abc,e1,Ds]
  rw[this]
  congr 1
  rw[iG.mpr (λ_ _=>rfl),aH,aH,aH];unfold wcs;rw[aH];rfl
 have hj:((((wcs vs d k).map λc=>(⟨#[c]⟩:Str)).map (·.length)).sum+((wcs vs d k).map λc=>(⟨#[c]⟩:Str)).length*(aQ "").length)<=16777216:=by
  have e:(aQ "").length=0:=rfl;have:=Iq (ys:=(wcs vs d k).map λc=>(⟨#[c]⟩:Str)) λz hz=>by obtain⟨c,_,rfl⟩:=ah.mp hz;exact ao _
  rw[ac,wH] at this;rw[e];lia
 have To:(((bw vs.length).map (oW vs d k)).map PV.int).length<=100000:=by simp;lia
 have hg:(T.add (.lst (ws.map .str))).get T.nx=Za (.lst (ws.map .str)):=by rw[mG,Zc rfl]
 have U3:∀c,(T.add (.lst (ws.map .str))).set T.nx c=T.add c:=λc=>tm T _ _;have s1:pE (xRng1 (xCons (xVar 3) xNil)) [4,7,5] m9 (x2 (x2 (xVar 1) (xVar 0) fIx) (x2 (x2 (xC (.int 5)) (xVar 2) fMul) (xB (xCons (x2 (xVar 0) (xVar 3) fEq) xNil) fInt) fMul) fAdd) (nE p m vs d T.nx (Za (.int (k:Nat))) (v)) (T.add (.lst (ws.map .str)))=.ok (.lst (((bw vs.length).map (oW vs d k)).map .int)) (T.add (.lst (ws.map .str))):=by
  have er:xRng1 (xCons (xVar 3) xNil) (nE p m vs d T.nx (Za (.int (k:Nat))) (v)) (T.add (.lst (ws.map .str)))=.ok (vb 0 vs.length) (T.add (.lst (ws.map .str))):=by exact vd rfl (by lia)
  exact pL er Pi c1
 refine(o5 (i:=7)).trans ?_;unfold om;refine(JT (me s1)).trans ?_;have e2:pE (xIter (xVar 8)) [2] m9 (x2 (xVar 1) (x2 (xVar 0) (xC (.int 26)) fMod) fIx) (nE p m vs d T.nx (Za (.int (k:Nat))) (Za (.lst (((bw vs.length).map (oW vs d k)).map .int)))) (T.add (.lst (ws.map .str)))=.ok (.lst (((wcs vs d k).map λc=>(⟨#[c]⟩:Str)).map .str)) (T.add (.lst (ws.map .str))):=pL rfl To c2;show xDo (xAppend (xVar 6) (xCons (xJoin (xC (.str "")) (xCons (pE (xIter (xVar 8)) [2] m9 (x2 (xVar 1) (x2 (xVar 0) (xC (.int 26)) fMod) fIx)) xNil)) xNil)) (nE p m vs d T.nx (Za (.int (k:Nat))) (Za (.lst (((bw vs.length).map (oW vs d k)).map .int)))) (T.add (.lst (ws.map .str)))=_;have e3:xJoin (xC (.str "")) (xCons (pE (xIter (xVar 8)) [2] m9 (x2 (xVar 1) (x2 (xVar 0) (xC (.int 26)) fMod) fIx)) xNil) (nE p m vs d T.nx (Za (.int (k:Nat))) (Za (.lst (((bw vs.length).map (oW vs d k)).map .int)))) (T.add (.lst (ws.map .str)))=.ok (.str (mkW (wcs vs d k))) (T.add (.lst (ws.map .str))):=by unfold xJoin;have e4:=lL (fa:=xNil) e2 rfl;simp only[xC,Out.bind,e4,lsOf,vy];rw[Zc hj,Fa]
 refine wC (v:=.non) ?_;have e4:=lL (fa:=xNil) e3 rfl;unfold xAppend;simp only[xVar,Out.bind,gL,fj,hg,e4,U3,ac];rw[Zc (show ws.length<100000 by lia)];simp
def lK(h:Z[i]?=Za (Za v)):xVar i Z s=.ok v s:=by unfold xVar;rw[h]
def wQ(s)(p)(x y x' y'):(pst s p x y).set p (.lst [.int x',.int y'])=pst s p x' y':=rO _ _ _ _
def uO(a)(hP:IsPurse s p)(x y)(h0:0<n)(h1:Bt 9000 n):∃r x' y',0<=r/\r<n/\lZ a [.ref p,.int n] (pst s p x y)=.ok (.int r) (pst s p x' y'):=by obtain⟨r,x',y',r0,r1,e⟩:=rY a (pst s p x y) p n (hP.pst x y) h0 h1;rw[wQ] at e;exact⟨r,x',y',r0,r1,e⟩
def uK(hP:IsPurse s p):∃x y,s=pst s p x y:=by obtain⟨x,y,h⟩:=hP;exact⟨x,y,(zX s p _ h).symm⟩
def lV(h:f Z s=.nx ρ' s')(k:g ρ' s'=o):xSeq f g Z s=o:=(JT h).trans k
def mK(h:g (vs.map Za++aR (N-vs.length) Zb) s=.rt v s'):fnD N g vs s=.ok v s':=by unfold fnD;rw[h]
def Aa(h:g (vs.map Za++aR (N-vs.length) Zb) s=.nx Z s'):fnD N g vs s=.ok .non s':=by unfold fnD;rw[h]
def rh(vs:List Int)(d k:Nat):List Str:=(bw k).map λi=>mkW (wcs vs d i)
def Ja(a)(s)(p)(hp:p<s.nx)(hP:IsPurse s p)(m)(hm:m<=10):∃x y vs d fl,0<vs.length/\vs.length<=7/\d<vs.length/\tf a [.ref p,.int (m:Nat)] s=.ok (.lst (((bw m).map (wrd vs d fl)).map .str)) (Sto.bump (pst s p x y)):=by
 obtain⟨xa,y0,es⟩:=uK hP;obtain⟨r,xb,y1,r0,r1,e1⟩:=uO a hP xa y0 (n:=7) (by decide) (oR (by decide) (by decide));rw[<-es] at e1;obtain⟨n,hn,rfl⟩:∃n:Nat,1<=n/\r=(n:Int)-1:=⟨r.toNat+1,by lia,by lia⟩;have Uf:n<=7:=by lia
 obtain⟨pv,t2,hc,vs,xc,y2,rfl,rfl,hvl⟩:=MF (c:=m9) (e:=xCall 2 (lZ a) (xCons (xVar 1) (xCons (xC (.int 26)) xNil))) (cap:=[Za (.ref p)]) (vb 0 n)
  (λi pv t=>∃(vs:List Int)(x y:Int),pv=vs.map PV.int/\t=pst s p x y/\vs.length=i)
  (λi q pv t hq hI=>by obtain⟨vs,x,y,rfl,rfl,hl⟩:=hI;obtain⟨b,x',y',_,_,e⟩:=uO a hP x y (n:=26) (by decide) (oR (by decide) (by decide));exact .inr ⟨_,.int b,_,rfl,l9 (lL (lK rfl) (lL rfl rfl)) rfl e,vs++[b],x',y',by simp,rfl,by simp[hl]⟩)
  (s:=pst s p xb y1) ⟨[],xb,y1,rfl,rfl,rfl⟩
 rw[wu] at hvl;subst hvl;obtain⟨d',xd,y3,d0,d1,e3⟩:=uO a hP xc y2 (n:=(vs.length:Int)) (by lia) (oR (by lia) (by lia));obtain⟨d,rfl⟩:∃d:Nat,d'=d:=⟨d'.toNat,by lia⟩;have hd:d<vs.length:=by lia
 have lp:∃u v,nJ (mQ (yName 7) (om a)) (vb 0 m) (nE p m vs d s.nx Zb Zb) ((pst s p xd y3).add (.lst []))=.nx (nE p m vs d s.nx u v) ((pst s p xd y3).add (.lst ((rh vs d m).map .str))):=by
  obtain⟨ρ',s',hl,u,v,rfl,rfl⟩:=uM (body:=mQ (yName 7) (om a)) m
   (λk Z t=>∃u v,Z=(nE p m vs d s.nx u v)/\t=(pst s p xd y3).add (.lst ((rh vs d k).map .str)))
   (λk Z t hk hI=>by
    obtain⟨u,v,rfl,rfl⟩:=hI;have:=Hq a (pst s p xd y3) p m vs (by lia) Uf d hd (rh vs d k) (by simp[rh];lia) k (by lia) u v;refine⟨_,_,this,_,_,rfl,?_⟩;have:rh vs d (k+1)=rh vs d k++[mkW (wcs vs d k)]:=by unfold rh;rw[List.range_succ,au];rfl
    rw[this]) (Z:=(nE p m vs d s.nx Zb Zb)) (s:=(pst s p xd y3).add (.lst [])) ⟨Zb,Zb,rfl,rfl⟩
  exact⟨u,v,hl⟩
 obtain⟨u,v,lp⟩:=lp;have hq:IsPurse ((pst s p xd y3).add (.lst ((rh vs d m).map .str))) p:=(hP.pst xd y3).add _ hp;obtain⟨f,xe,y4,_,_,e4⟩:=rY a _ p 4 hq (by decide) (oR (by decide) (by decide));rw[Lk _ _ _ _ _ _ _ hp] at e4;have hg:((pst s p xe y4).add (.lst ((rh vs d m).map .str))).get s.nx=Za (.lst ((rh vs d m).map .str)):=by have:(pst s p xe y4).nx=s.nx:=rfl;rw[mG,Zc this]
 have Ry:((pst s p xe y4).add (.lst ((rh vs d m).map .str))).del s.nx=Sto.bump (pst s p xe y4):=Mn (pst s p xe y4) _;have head:∀(o:SO),xSeq (xIf (xTr (x2 (xCall 2 (lZ a) (xCons (xVar 0) (xCons (xC (.int 4)) xNil))) (xC (.int 0)) fEq)) (xSet 6 (oV (wk (xCons (xFrz (xVar 6)) xNil)) [] m9 (x2 (xVar 1) (x2 (xC (.str "x")) (x2 (xVar 0) (xC (.int 2)) fMod) zx) fAdd))) xEnd) (xRet (Ey (xVar 6))) (nE p m vs d s.nx u v) ((pst s p xd y3).add (.lst ((rh vs d m).map .str)))=o->sV a [Za (.ref p),Za (.int (m:Nat)),Zb,Zb,Zb,Zb,Zb,Zb,Zb] s=o:=λo ho=>by
  unfold sV;refine lV (me rfl) ?_;refine lV (me (v:=.int (vs.length:Nat)) (s':=pst s p xb y1) ((mq rfl (l9 (lL (lK rfl) (lL rfl rfl)) rfl e1)).trans ?_)) ?_
  ·show Out.ok (PV.int (1+((vs.length:Int)-1))) _=_;rw[show(1:Int)+((vs.length:Int)-1)=(vs.length:Nat) by lia]
  refine lV (me (pL (vd (n:=vs.length) rfl (by lia)) (by rw[wu];lia) hc)) ?_;refine lV (me (l9 (lL (lK rfl) (lL (lK rfl) rfl)) rfl e3)) ?_;refine lV (me (v:=.ref s.nx) (s':=(pst s p xd y3).add (.lst [])) rfl) ?_;refine lV (qG (vd (n:=m) rfl (by lia)) lp) ?_;exact ho
 have c1:x2 (xCall 2 (lZ a) (xCons (xVar 0) (xCons (xC (.int 4)) xNil))) (xC (.int 0)) fEq (nE p m vs d s.nx u v) ((pst s p xd y3).add (.lst ((rh vs d m).map .str)))=.ok (.bl (f==0)) ((pst s p xe y4).add (.lst ((rh vs d m).map .str))):=by refine(mq (l9 (lL (lK rfl) (lL rfl rfl)) rfl e4) rfl).trans ?_;show fEqN false _ _ _=_;unfold fEqN;rw[oB,oB];simp[qL,Eu]
 by_cases hf:f=0
 ·refine⟨xe,y4,vs,d,true,by lia,Uf,hd,mK (head _ ?_)⟩;refine lV ((tS (s1:=(pst s p xe y4).add (.lst ((rh vs d m).map .str))) (by unfold xTr;rw[c1,hf];rfl)).trans (me (v:=.lst (((bw m).map (wrd vs d true)).map .str)) (s':=Sto.bump (pst s p xe y4)) ?_)) ?_
  ·unfold oV wk;have ef:xCons (xFrz (xVar 6)) xNil (nE p m vs d s.nx u v) ((pst s p xe y4).add (.lst ((rh vs d m).map .str)))=.ok [.lst ((rh vs d m).map .str)] (Sto.bump (pst s p xe y4)):=by refine lL ?_ rfl;unfold xFrz;rw[lK (v:=.ref s.nx) rfl];simp only[Out.bind,frz1,hg,Ry]
   rw[ef];simp only[Out.bind];rw[Zc (by rw[su,ac];simp[rh];lia)];have cp:=zM (e:=x2 (xVar 1) (x2 (xC (.str "x")) (x2 (xVar 0) (xC (.int 2)) fMod) zx) fAdd) (s:=Sto.bump (pst s p xe y4)) (λj w=>w++if j%2=1 then aQ "x" else cx) (rh vs d m) 0 λj w hw=>by
    obtain⟨k,_,rfl⟩:=ah.mp hw;have hl:(mkW (wcs vs d k)).length<=7:=by rw[F6,wH];exact Uf
    have Tp:(mkW (wcs vs d k)).length+1<=100000:=by lia
    have R7:(mkW (wcs vs d k)).length<=100000:=by lia
    have lx:(aQ "x").length=1:=rfl;have l0:cx.length=0:=rfl;rcases jM j with z|z
    ·have z':(j:Int)%2=0:=by lia
     simp[sem,qp,mv,tG,zx,z,z',l0,R7]
    ·have z':(j:Int)%2=1:=by lia
     simp[sem,qp,mv,tG,zx,z,z',lx,Tp]
   have el:((bw (rh vs d m).length).map λi=>(((rh vs d m)[i]?).getD cx)++if(0+i)%2=1 then aQ "x" else cx)=(bw m).map (wrd vs d true):=by
    have:(rh vs d m).length=m:=by simp[rh]
    rw[this];refine aV λk hk=>?_;have hk:=cF.mp hk;have:(rh vs d m)[k]?=Za (mkW (wcs vs d k)):=by unfold rh;rw[aC,fZ hk];rfl
    rw[this,fF];refine Cy ?_;unfold wrd;rw[Af,qT];simp only[Option.getD_some,qT];by_cases hk2:k%2=1
    ·rw[Zc hk2,Zc ⟨trivial,hk2⟩];rfl
    ·rw[Zd hk2,Zd (λz=>hk2 z.2)];rfl
   rw[el] at cp;show((mP m9 _ [] _ _).bind _)=_;rw[cp];rfl
  ·refine nO ?_;unfold Ey;rw[lK (v:=.lst (((bw m).map (wrd vs d true)).map .str)) rfl];rfl
 ·refine⟨xe,y4,vs,d,false,by lia,Uf,hd,mK (head _ ?_)⟩;refine lV ((qK (s1:=(pst s p xe y4).add (.lst ((rh vs d m).map .str))) (by unfold xTr;rw[c1,beq_eq_false_iff_ne.mpr hf];rfl)).trans rfl) ?_;refine nO ?_;unfold Ey;rw[lK (v:=.ref s.nx) rfl];simp only[Out.bind,O9,frz1,hg,Ry];have:(bw m).map (wrd vs d false)=rh vs d m:=aV λk _=>by unfold wrd;simp
  rw[this]
def yj(l:Hl)(o1 o2:Str)(q:Int×Int):Hl :=
 let r:=nL (l7 l o1) (-q.1,q.2);let l1:=if 0<r.1 then nK (na l o1) o1 r else na l o1
 nK l1 o2 (nL (l7 l1 o2) q)
structure HM(c:Nat)(hl hm:Hl):Prop where
 r:∃hz,HR c hl hz
 nd:(hm.map (·.1)).Nodup
 q:∀n,l7 hm n=l7 hl n
 mem:∀n,n∈hm.map (·.1)↔n∈hl.map (·.1)
def Oz(c)(ho:Sm o):HM c [(o,1,1)] [(o,1,1)]:=⟨⟨_,Oy c ho⟩,by simp,λ_=>rfl,λ_=>Iff.rfl⟩
def rW:n∈(nK l o q).map (·.1)↔n=o\/n∈l.map (·.1):=by
 rw[nq];split
 ·rename_i h;exact⟨.inr,λz=>z.elim (λe=>e▸h) id⟩
 ·rw[aJ,ap];exact⟨λz=>z.elim .inr .inl,λz=>z.elim .inr .inl⟩
def mem_drop:n∈(na l o).map (·.1)↔n≠o/\n∈l.map (·.1):=by
 unfold na;simp only[ah,bu,decide_eq_true_eq];constructor
 ·rintro⟨x,⟨h1,h2⟩,rfl⟩;exact⟨h2,x,h1,rfl⟩
 ·rintro⟨h2,x,h1,rfl⟩;exact⟨x,⟨h1,h2⟩,rfl⟩
theorem HM.sale{c:Nat}{hl hm:Hl}(h:HM c hl hm){o1 o2:Str}{q:Int×Int}(hq:ShOk q)(so:Sm o2)(nt:¬mR hl o1 q):HM (c+1) (sold hl o1 o2 q) (yj hm o1 o2 q):=by
 obtain⟨hz,R⟩:=h.r;have q0:0<q.1:=by by_cases z:0<q.1;exact z;exact absurd (.inl z) nt
 have Qn:q.1*(l7 hl o1).2<=(l7 hl o1).1*q.2:=by
  by_cases z:q.1*(l7 hl o1).2>(l7 hl o1).1*q.2
  ·exact absurd (.inr z) nt
  ·lia
 have B:=yQ (R.fr o1) hq.low q0 Qn hq.bb;have VB:=h.q o1;generalize hr:nL (l7 hl o1) (-q.1,q.2)=r at B;have e1:∀n,l7 (if 0<r.1 then nK (na hm o1) o1 r else na hm o1) n=l7 (if r=(0,1) then na hl o1 else nK hl o1 r) n:=λn=>by
  by_cases z:0<r.1
  ·have z':r≠(0,1):=λe=>by rw[e] at z;exact absurd z (by decide)
   rw[Zc z,Zd z',mU,mU,o4];by_cases e:n=o1
   ·rw[Zc e,Zc e]
   ·rw[Zd e,Zd e,Zd e,h.q]
  ·have z':r=(0,1):=z9 B.low (by have:=B.nn;lia);rw[Zd z,Zc z',o4,o4];by_cases e:n=o1
   ·rw[Zc e,Zc e]
   ·rw[Zd e,Zd e,h.q]
 have Q3:o1∈hl.map (·.1):=by
  refine(R.nm o1).mpr ?_;by_cases z:0<(l7 hl o1).1
  ·exact z
  ·exfalso;have b0:=(R.fr o1).low.1;have b1:=hq.low.1;have n0:=(R.fr o1).nn;have:(l7 hl o1).1=0:=by lia
   rw[this,jb] at Qn;have:=bx q0 b0;lia
 have m1:∀n,n∈(if 0<r.1 then nK (na hm o1) o1 r else na hm o1).map (·.1)↔n∈(if r=(0,1) then na hl o1 else nK hl o1 r).map (·.1):=λn=>by
  by_cases z:0<r.1
  ·have z':r≠(0,1):=λe=>by rw[e] at z;exact absurd z (by decide)
   rw[Zc z,Zd z',rW,rW,mem_drop,h.mem];exact⟨λk=>k.imp id (·.2),λk=>k.elim .inl λk=>if e:n=o1 then .inl e else .inr ⟨e,k⟩⟩
  ·have z':r=(0,1):=z9 B.low (by have:=B.nn;lia);rw[Zd z,Zc z',mem_drop,mem_drop,h.mem]
 have em:yj hm o1 o2 q=nK (if 0<r.1 then nK (na hm o1) o1 r else na hm o1) o2 (nL (l7 (if 0<r.1 then nK (na hm o1) o1 r else na hm o1) o2) q):=by unfold yj;simp only[VB,hr]
 have es:sold hl o1 o2 q=nK (if r=(0,1) then na hl o1 else nK hl o1 r) o2 (nL (l7 (if r=(0,1) then na hl o1 else nK hl o1 r) o2) q):=by unfold sold;simp only[hr]
 refine⟨⟨_,R.sale hq so nt⟩,?_,λn=>?_,λn=>?_⟩
 ·rw[em];refine vZ _ _ ?_;split
  ·exact vZ _ _ (CH _ h.nd)
  ·exact CH _ h.nd
 ·rw[em,es,mU,mU,e1 o2,e1 n]
 ·rw[em,es,rW,rW,m1]
theorem HM.srt(h:HM c hl hm):srt (hm.map (·.1))=srt (hl.map (·.1)):=by obtain⟨hz,R⟩:=h.r;refine pO ?_ (pN _) (pN _);refine(jF ((lY _).nodup_iff.mpr h.nd) ((lY _).nodup_iff.mpr R.n1)).mpr λn=>?_;rw[(lY _).mem_iff,(lY _).mem_iff,h.mem]
def HM.len(h:HM c hl hm):hm.length=hl.length:=by have:=congrArg b6 h.srt;rw[(lY _).length_eq,(lY _).length_eq,ac,ac] at this;exact this
def Bg(h:k∉l.map (·.1)):oZ l k=none:=by unfold oZ;rw[gH,cy];intro q hq z;exact h (ah.mpr ⟨q,hq,Zf z⟩)
def hP(l:Hl):List (Key×PV):=l.map λq=>(aj q.1,frP q.2)
def C9(l)(n)(h:n∈l.map (·.1)):oZ (hP l) (aj n)=Za (frP (l7 l n)):=by
 unfold oZ hP l7 mC;rw[fw,Option.map_map];have e:((λkv:Key×PV=>decide (kv.1=aj n))∘λq:Str×Int×Int=>((aj q.1:Key),frP q.2))=λq=>decide (q.1=n):=by
  funext q
  show decide ((aj q.1:Key)=aj n)=_;rw[AL]
 rw[e];cases hf:l.find? (λq=>decide (q.1=n)) with
 |none =>
  exfalso;rw[cy] at hf;obtain⟨q,hq,e⟩:=ah.mp h;exact hf q hq (Zg e)
 |some q=>rfl
def Gk(l):(hP l).map (·.1)=l.map λq=>aj q.1:=by unfold hP;rw[aH];rfl
def OB(l)(n):(oZ (hP l) (aj n)).getD (.tup [.int 0,.int 1])=frP (l7 l n):=by
 by_cases h:n∈l.map (·.1)
 ·rw[C9 l n h];rfl
 ·rw[Bg,vn h]
  ·rfl
  ·rw[Gk];intro z;obtain⟨q,hq,e⟩:=ah.mp z;cases e;exact h (ah.mpr ⟨q,hq,rfl⟩)
def J9(l)(n)(q):xN (hP l) (aj n) (frP q)=hP (nK l n q):=by
 unfold xN nK hP;rw[gT];have e:((λkv:Key×PV=>decide (kv.1=aj n))∘λq:Str×Int×Int=>((aj q.1:Key),frP q.2))=λq=>decide (q.1=n):=by
  funext q
  show decide ((aj q.1:Key)=aj n)=_;rw[AL]
 rw[e];split
 ·rw[aH,aH];refine aV λz _=>?_;show(if(aj z.1:Key)=aj n then((aj z.1:Key),frP q) else(aj z.1,frP z.2))=_;by_cases hz:z.1=n
  ·simp[hz]
  ·simp[hz]
 ·simp
def wy(pp)(w):oF pp w=true↔w∈pp:=by
 unfold oF;rw[gB];constructor
 ·rintro⟨x,hx,e⟩
  have:=Zf e;subst this;exact hx
 ·intro h;exact⟨w,h,Zg rfl⟩
def n9(L)(w):mj L w=true↔w∈L.map (·.nm):=by
 unfold mj mH;rw[gB];constructor
 ·rintro⟨x,hx,e⟩
  exact ah.mpr ⟨x,hx,Zf e⟩
 ·intro h;obtain⟨x,hx,e⟩:=ah.mp h;exact⟨x,hx,Zg e⟩
def Bu(a)(h1:vT w=true)(h2:w∉pp)(h3:w∉L.map (·.nm)):rT a pp L w=none:=by
 unfold rT;have e1:oF pp w=false:=by rw[dZ];exact λz=>h2 ((wy _ _).mp z)
 have e2:mj L w=false:=by rw[dZ];exact λz=>h3 ((n9 _ _).mp z)
 rw[Zd (by rw[h1];decide),e1,e2];rfl
def Er{ws:List Str}{r:Int}(h0:0<=r)(h1:r<ws.length):∃w∈ws,atI (ws.map PV.str) r=Za (.str w):=by
 obtain⟨j,rfl⟩:∃j:Nat,r=j:=⟨r.toNat,by lia⟩;have hj:j<ws.length:=by lia
 exact⟨ws[j],ce hj,mY (by simp[hj])⟩
def sL(hn:e.nm∉A.map (·.nm)):mH (A++e::B) e.nm=Za e:=by
 unfold mH;rw[i0,cy.mpr]
 ·simp
 ·intro x hx z;exact hn (ah.mpr ⟨x,hx,Zf z⟩)
def GV(g)(h1:e.nm∉A.map (·.nm))(h2:e.nm∉B.map (·.nm)):vA (A++e::B) e.nm g=A++g e::B:=by
 have no:∀{l:List Ent},e.nm∉l.map (·.nm)->l.map (λx=>if x.nm=e.nm then g x else x)=l:=λ{l} h=>by
  conv=>rhs;rw[<-ir l]
  refine aV λx hx=>?_;rw[Zd λz=>h (ah.mpr ⟨x,hx,z⟩)];rfl
 unfold vA;rw[au,al,Zc rfl,no h1,no h2]
def L5(l)(n):Dd (hP l) (aj n)=hP (na l n):=by
 unfold Dd hP na;rw[fU]
 congr 1
 refine List.filter_congr λx _=>?_;simp[Function.comp]
def OA(l):(hP l).length=l.length:=by unfold hP;rw[ac]
theorem zn:∀(l:List (Key×PV))(ss:List Str),l.map (·.1)=ss.map aj->keysOf l=Za ss
 |[],[],_=>rfl
 |(k,v)::r,s::ss,h=>by have h1:k=aj s:=(eB h).1;have h2:=zn r ss (eB h).2;subst h1;simp[keysOf,h2]
def Ga(l):keysOf (hP l)=Za (l.map (·.1)):=zn _ _ (by rw[Gk,aH];rfl)
structure Md where
 nm:Str
 cell:Nat
 hl:Hl
 th:Int
 mr:Int
 ls:Int
def mdP(e:Md):Key×PV:=(aj e.nm,.lst [.ref e.cell,.tup [.int e.th,.int e.mr,.int e.ls]])
def F9(M:List Md):keysOf (M.map mdP)=Za (M.map (·.nm)):=zn _ _ (by rw[aH,aH];rfl)
structure MRel(N:List Str)(c:Nat)(e:Ent)(m:Md):Prop where
 nm:e.nm=m.nm
 th:e.th=m.th
 mr:e.mr=m.mr
 ls:e.ls=m.ls
 hm:HM c e.held m.hl
 ow:∀n∈m.hl.map (·.1),n∈N
 tb:Bt 100 e.th/\Bt 100 e.mr/\Bt 100 e.ls
inductive Prs (N:List Str):Nat->List Ent->List Md->Prop
 |nil {c:Nat}:Prs N c [] []
 |cons {c1 c2 c:Nat}{e:Ent}{m:Md}{L:List Ent}{M:List Md}:MRel N c1 e m->Prs N c2 L M->c1+c2<=c->Prs N c (e::L) (m::M)
def Prs.mono(hc:c<=d):∀{L:List Ent}{M:List Md},Prs N c L M->Prs N d L M
 |_,_,.nil=>.nil
 |_,_,.cons h r k=>.cons h r (aE k hc)
theorem Prs.names:∀{c:Nat}{L:List Ent}{M:List Md},Prs N c L M->L.map (·.nm)=M.map (·.nm)
 |_,_,_,.nil=>rfl
 |_,_,_,.cons h r _=>by rw[al,al,h.nm,r.names]
theorem Prs.app:∀{c:Nat}{L L':List Ent}{M M':List Md},Prs N c L M->Prs N d L' M'->Prs N (c+d) (L++L') (M++M')
 |_,_,_,_,_,.nil,k=>k.mono (Nat.le_add_left _ _)
 |_,_,_,_,_,.cons h r q,k=>.cons h (r.app k) (by lia)
theorem Prs.cut:∀{c:Nat}{L:List Ent}{M:List Md},Prs N c L M->∀{h:Str},h∈M.map (·.nm)->∃A e B A' m B' k1 k2 k3,L=A++e::B/\M=A'++m::B'/\m.nm=h/\h∉A'.map (·.nm)/\Prs N k1 A A'/\MRel N k2 e m/\Prs N k3 B B'/\k1+k2+k3<=c
 |_,_,_,.nil,_,hh=>nomatch hh
 |c,e::L,m::M,.cons (c1:=c1) (c2:=c2) k r q,h,hh=>by
  by_cases z:m.nm=h
  ·exact⟨[],e,L,[],m,M,0,c1,c2,rfl,rfl,z,by simp,.nil,k,r,by lia⟩
  ·have Rj:h∈M.map (·.nm):=(af.mp hh).elim (λq=>absurd q.symm z) id;obtain⟨A,e',B,A',m',B',k1,k2,k3,e1,e2,e3,e4,e5,e6,e7,e8⟩:=r.cut Rj;refine⟨e::A,e',B,m::A',m',B',c1+k1,k2,k3,by rw[e1];rfl,by rw[e2];rfl,e3,λq=>?_,.cons k e5 (ao _),e6,e7,by lia⟩;rcases af.mp q with q|q
   ·exact z q.symm
   ·exact e4 q
structure Wst(t:Sto)(p nb nd:Nat)(N:List Str)(c:Nat)(pp:List Str)(L:List Ent)(M:List Md):Prop where
 pu:IsPurse t p
 bk:t.get nb=Za (.book pp L)
 md:t.get nd=Za (.dct (M.map mdP))
 sh:∀m∈M,t.get m.cell=Za (.dct (hP m.hl))
 i1:p≠nb
 i2:p≠nd
 i3:nb≠nd
 i4:∀m∈M,m.cell≠p/\m.cell≠nb/\m.cell≠nd
 i5:(M.map (·.cell)).Nodup
 lt:p<t.nx/\nb<t.nx/\nd<t.nx/\∀m∈M,m.cell<t.nx
 pr:Prs N c L M
theorem Wst.pst(W:Wst t p nb nd N c pp L M)(x y):Wst (pst t p x y) p nb nd N c pp L M :=
 ⟨W.pu.pst x y,by rw[<-W.bk];exact lU _ _ (bW W.i1),by rw[<-W.md];exact lU _ _ (bW W.i2),λm hm=>by rw[<-W.sh m hm];exact lU _ _ (W.i4 m hm).1,W.i1,W.i2,W.i3,W.i4,W.i5,W.lt,W.pr⟩
theorem Wst.mono(W:Wst t p nb nd N c pp L M)(hc:c<=d):Wst t p nb nd N d pp L M :=
 ⟨W.pu,W.bk,W.md,W.sh,W.i1,W.i2,W.i3,W.i4,W.i5,W.lt,W.pr.mono hc⟩
def Wst.sale(W:Wst t p nb nd N c pp (A++e::B) (A'++m::B'))(c1:Prs N k1 A A')(c2:MRel N k2 e m)(c3:Prs N k3 B B')(ck:k1+k2+k3<=c)(h:HM (k2+1) Tq RG)(ow:∀n∈RG.map (·.1),n∈N):Wst ((t.set nb (.book pp (A++{ e with held:=Tq }::B))).set m.cell (.dct (hP RG))) p nb nd N (c+1) pp (A++{ e with held:=Tq }::B) (A'++{ m with hl:=RG }::B'):=by
 have hm:=W.i4 m (aA _ ai);have UQ:=W.i5;rw[au,al] at UQ;obtain⟨nA,nB,nX⟩:=bJ.mp UQ;obtain⟨nm,nB⟩:=aI.mp nB;have Q0:∀m'∈A'++B',m'.cell≠m.cell/\m'∈A'++m::B':=λm' h'=>by
  rcases aJ.mp h' with z|z
  ·exact⟨λq=>nX _ (ah.mpr ⟨m',z,rfl⟩) _ ai q,aO _ z⟩
  ·exact⟨λq=>nm (q▸ah.mpr ⟨m',z,rfl⟩),aA _ (ae _ z)⟩
 have g1:(t.set nb (.book pp (A++{ e with held:=Tq }::B))).get m.cell=Za (.dct (hP m.hl)):=by rw[lU _ _ hm.2.1];exact W.sh m (aA _ ai)
 refine⟨?_,?_,?_,λm' h'=>?_,W.i1,W.i2,W.i3,λm' h'=>?_,?_,⟨W.lt.1,W.lt.2.1,W.lt.2.2.1,λm' h'=>?_⟩,Prs.mono (c:=k1+(k2+1+k3)) (by lia) (c1.app (.cons (c1:=k2+1) ⟨c2.nm,c2.th,c2.mr,c2.ls,h,ow,c2.tb⟩ c3 (ao _)))⟩
 ·obtain⟨x,y,e⟩:=W.pu;exact⟨x,y,by rw[lU _ _ (bW hm.1),lU _ _ W.i1];exact e⟩
 ·rw[lU _ _ (bW hm.2.1)];exact ot W.bk
 ·rw[lU _ _ (bW hm.2.2),lU _ _ (bW W.i3),W.md];simp[mdP]
 ·rcases aJ.mp h' with z|z
  ·obtain⟨q1,q2⟩:=Q0 m' (aO _ z);rw[lU _ _ q1,lU _ _ (W.i4 m' q2).2.1];exact W.sh m' q2
  ·rcases af.mp z with z|z
   ·subst z;exact ot g1
   ·obtain⟨q1,q2⟩:=Q0 m' (aA _ z);rw[lU _ _ q1,lU _ _ (W.i4 m' q2).2.1];exact W.sh m' q2
 ·rcases aJ.mp h' with z|z
  ·exact W.i4 m' (aO _ z)
  ·rcases af.mp z with z|z
   ·subst z;exact hm
   ·exact W.i4 m' (aA _ (ae _ z))
 ·rw[au,al];exact UQ
 ·rcases aJ.mp h' with z|z
  ·exact W.lt.2.2.2 m' (aO _ z)
  ·rcases af.mp z with z|z
   ·subst z;exact W.lt.2.2.2 m (aA _ ai)
   ·exact W.lt.2.2.2 m' (aA _ (ae _ z))
def Lb(a)(hb:t.get nb=Za (.book pp (A++e::B)))(nd:((A++e::B).map (·.nm)).Nodup)(hn:Nm e.nm/\Nm o1/\Nm o2)(hz:Sz q)(ok:SaleOk e.held o1 q)(h1:(oF pp o1||mj (A++e::B) o1)=true)(h2:(oF pp o2||mj (A++e::B) o2)=true)(nt:¬mR e.held o1 q) :
  rM a [.ref nb,.str e.nm,.str o1,.str o2,frP q] t=.ok .non (t.set nb (.book pp (A++{ e with held:=sold e.held o1 o2 q }::B))):=by
 rw[au,al] at nd;have n1:e.nm∉A.map (·.nm):=λz=>(bJ.mp nd).2.2 _ z _ ai rfl;have n2:e.nm∉B.map (·.nm):=(aI.mp (bJ.mp nd).2.1).1;have hS:SaleE (A++e::B) e.nm o1 o2 q:=⟨by rw[au,al];exact nd,hn,hz,λe' he=>by rw[sL n1] at he;cases he;exact ok⟩;obtain⟨x,y⟩:=q;simp[rM,m7,hb,hS,sL n1,nt,frP,GV _ n1 n2];rw[du] at h1 h2;rw[Zd (by intro z;rcases h1 with h|h<;>simp_all),Zd (by intro z;rcases h2 with h|h<;>simp_all)]
def tj(h:t.get n=Za (.dct l))(hk:keysOf l=Za ss)(hl:ss.length<64):mv [.ref n] t=.ok (.lst ((srt ss).map .str)) t:=by simp[mv,lsOf,dcOf,h,hk,hl]
def yw{t:Sto}{ws:List Str}{r:Int}{w:Str}(h:atI (ws.map PV.str) r=Za (.str w)):fIx (.lst (ws.map .str)) (.int r) t=.ok (.str w) t:=by simp[fIx,lsOf,h]
def zk:fLen [.lst l] t=.ok (.int (l.length:Nat)) t:=by simp[fLen,lsOf]
def C8(h:t.get n=Za (.dct l))(hv:oZ l (aj w)=Za v):fIx (.ref n) (.str w) t=.ok v t:=by simp[fIx,lsOf,dcOf,h,kyOf,hv]
def Fw(h:m.nm∉A'.map (·.nm)):oZ ((A'++m::B').map mdP) (aj m.nm)=Za (.lst [.ref m.cell,.tup [.int m.th,.int m.mr,.int m.ls]]):=by
 unfold oZ;rw[au,i0];have:(A'.map mdP).find? (λkv=>decide (kv.1=aj m.nm))=none:=by rw[cy];intro x hx;obtain⟨m',h',rfl⟩:=ah.mp hx;intro z;have z:(aj m'.nm:Key)=aj m.nm:=Zf z;exact h (cM z▸ah.mpr ⟨m',h',rfl⟩)
 rw[this];simp[mdP]
theorem HM.fr(h:HM c hl hm)(n):FrC c (l7 hm n):=by obtain⟨z,R⟩:=h.r;rw[h.q];exact R.fr n
def HM.pos(h:HM c hl hm)(hn:n∈hm.map (·.1)):0<(l7 hm n).1:=by obtain⟨z,R⟩:=h.r;rw[h.q];exact(R.nm n).mp ((h.mem n).mp hn)
def FZ(hc:c<=40)(hg:FrC c g)(h:PartOf g q)(hb:q.2<10^29):ShOk q:=by
 have b0:=h.low.1;have hq:=F0 hg h.low h.le;have b97:Bt 97 q.2:=by
  show q.2.natAbs<2^97;have:(2:Nat)^97=158456325028528675187087900672:=by decide
  rw[this];lia
 refine⟨h.low,?_,b97⟩;have h2:Bt 200 (((2^c:Nat):Int)*q.2):=((show Bt (c+1) ((2^c:Nat):Int) from by show((2^c:Nat):Int).natAbs<2^(c+1);rw[iV];exact lc (by decide) (by lia)).mul b97).mono (by lia)
 show q.1.natAbs<2^200;have h3:(((2^c:Nat):Int)*q.2).natAbs<2^200:=h2;have:=h.pos;generalize (2:Nat)^200=Zj at *;generalize ((2^c:Nat):Int)*q.2=Y at *;lia
def Wst.draw'(W:Wst t p nb nd N c pp L M)(a)(x y)(h0:0<n)(h1:Bt 9000 n):∃r x' y',0<=r/\r<n/\lZ a [.ref p,.int n] (My.pst t p x y)=.ok (.int r) (My.pst t p x' y'):=by obtain⟨r,x',y',r0,r1,e⟩:=rY a (My.pst t p x y) p n (W.pst x y).pu h0 h1;rw[wQ] at e;exact⟨r,x',y',r0,r1,e⟩
def asg2(h:f Z s=.ok (.tup [v,w]) s'):xAsg f (yTup 2 (yCons (yName i) (yCons (yName j) yNil))) Z s=.nx ((Z.set i (Za v)).set j (Za w)) s':=by unfold xAsg;rw[h];rfl
def y7(h1:fv Z s=.ok v s1)(h2:fo Z s1=.ok (.ref n) s1)(h3:fi Z s1=.ok (.str w) s1)(hg:s1.get n=Za (.dct l))(hl:l.length<100000):xPut fo fi fv Z s=.nx Z (s1.set n (.dct (xN l (aj w) v))):=by unfold xPut;rw[h1];simp only[Out.so];rw[h2];simp only;rw[h3];simp[tG,hg,kyOf,hl]
def Je(a)(s)(hg:Low g)(hq:Low q)(bg:Bt 8800 g.2)(bq:Bt 100 q.2):m8 a [.int (g.1*q.2-q.1*g.2),.int (g.2*q.2)] s=.ok (frP (nL g (-q.1,q.2))) s:=by have e:=CI a s (g.1*q.2-q.1*g.2) (g.2*q.2) (bx hg.1 hq.1) ((bg.mul bq).mono (by decide));rw[e];unfold nL;rw[show g.1*(-q.1,q.2).2+(-q.1,q.2).1*g.2=g.1*q.2-q.1*g.2 by show g.1*q.2+-q.1*g.2=_;rw[gD];rfl]
def Jf(a)(s)(hg:Low g)(hq:Low q)(bg:Bt 8800 g.2)(bq:Bt 100 q.2):m8 a [.int (g.1*q.2+q.1*g.2),.int (g.2*q.2)] s=.ok (frP (nL g q)) s :=
 CI a s (g.1*q.2+q.1*g.2) (g.2*q.2) (bx hg.1 hq.1) ((bg.mul bq).mono (by decide))
def ix0:fIx (frP q) (.int 0) t=.ok (.int q.1) t:=by simp[fIx,frP,atI,ixN]
def ix1:fIx (frP q) (.int 1) t=.ok (.int q.2) t:=by simp[fIx,frP,atI,ixN]
def rF(h1:f Z s=.ok (.int i) s1)(h2:g Z s1=.ok (.int j) s2)(hm:qq i j):x2 f g fMul Z s=.ok (.int (i*j)) s2:=by rw[mq h1 h2];simp[fMul,hm]
def NE(h1:f Z s=.ok (.int i) s1)(h2:g Z s1=.ok (.int j) s2):x2 f g fSub Z s=.ok (.int (i-j)) s2:=by rw[mq h1 h2];rfl
def yz(h1:f Z s=.ok (.int i) s1)(h2:g Z s1=.ok (.int j) s2):x2 f g fAdd Z s=.ok (.int (i+j)) s2:=by rw[mq h1 h2];rfl
def OD(h1:f Z s=.ok (.ref n) s)(hg:s.get n=Za (.dct l))(h2:g Z s=.ok (.str w) s)(h3:h Z s=.ok z s):xGet f g h Z s=.ok ((oZ l (aj w)).getD z) s:=by unfold xGet;rw[h1];simp[Out.bind,dcOf,hg,h2,h3,kyOf]
def Ml(h1:f Z s=.ok (.ref n) s)(hg:s.get n=Za (.dct l))(h2:g Z s=.ok (.str w) s)(hv:oZ l (aj w)=Za v):EA f g Z s=.ok v (s.set n (.dct (Dd l (aj w)))):=by unfold EA;rw[h1];simp[Out.bind,hg,h2,kyOf,hv]
def Hr(h1:o1∈l.map (·.1))(h:n∈(yj l o1 o2 q).map (·.1)):n∈l.map (·.1)\/n=o2:=by
 unfold yj at h;simp only at h;rw[rW] at h;rcases h with h|h
 ·exact .inr h
 ·refine .inl ?_;split at h
  ·rw[rW] at h;rcases h with h|h
   ·rw[h];exact h1
   ·exact(mem_drop.mp h).2
  ·exact(mem_drop.mp h).2
def Fo(h:l≠[]):0<(srt l).length:=by rw[(lY l).length_eq];exact fY.mpr h
def O8(a:Adr){t:Sto}{p nb nd:Nat}{N:List Str}{c:Nat}{pp:List Str}{L:List Ent}{M:List Md}(W:Wst t p nb nd N c pp L M)(x y:Int){ws:List Str}(h0:0<ws.length)(hl:ws.length<1000){i:Nat}{Z:En}(hp:Z[0]?=Za (Za (.ref p)))(hi:Z[i]?=Za (Za (.lst (ws.map .str)))) :
  ∃w x' y',w∈ws/\x2 (xVar i) (xCall 2 (lZ a) (xCons (xVar 0) (xCons (xB (xCons (xVar i) xNil) fLen) xNil))) fIx Z (pst t p x y)=.ok (.str w) (pst t p x' y'):=by
 obtain⟨r,x',y',r0,r1,e⟩:=W.draw' a x y (n:=(ws.length:Nat)) (by lia) (oR (by lia) (by lia));obtain⟨w,hw,QQ⟩:=Er r0 r1;refine⟨w,x',y',hw,?_⟩;have e2:xB (xCons (xVar i) xNil) fLen Z (pst t p x y)=.ok (.int (ws.length:Nat)) (pst t p x y):=by rw[vK (lL (lK hi) rfl),zk,ac]
 exact(mq (lK hi) (l9 (lL (lK hp) (lL e2 rfl)) rfl e)).trans (yw QQ)
abbrev sE(p nd:Nat)(N:List Str)(nb:Nat)(r:En):En:=Za (.ref p)::Za (.ref nd)::Za (.lst (N.map .str))::Za (.ref nb)::r
def K4(a:Adr){t:Sto}{p nb nd:Nat}{N:List Str}{c:Nat}{pp:List Str}{L:List Ent}{M:List Md}(W:Wst t p nb nd N c pp L M)(hc:c<=40)(hM:M≠[])(hnd:(L.map (·.nm)).Nodup)(Um:∀n∈N,Sm n)(hLN:∀n∈L.map (·.nm),n∈N)(hN1:∀n∈N,(oF pp n||mj L n)=true)(hN0:N≠[])(hNl:N.length<64)(hL8:L.length<=8) :
  ∃t' L' M',rg a [.ref p,.ref nd,.lst (N.map .str),.ref nb] t=.ok .non t'/\Wst t' p nb nd N (c+1) pp L' M'/\L'.map (·.nm)=L.map (·.nm)/\M'.map (·.cell)=M.map (·.cell)/\t'.nx=t.nx/\∀k,k≠p->k≠nb->k∉M.map (·.cell)->t'.get k=t.get k:=by
 have hml:M.length=L.length:=by have:=congrArg b6 W.pr.names;simpa using this.symm
 obtain⟨x0,y0,et⟩:=uK W.pu;have s1:mv [.ref nd] t=.ok (.lst ((srt (M.map (·.nm))).map .str)) t:=tj W.md (F9 M) (by rw[ac];lia);obtain⟨h,xa,ya,hh,eh⟩:=O8 a W x0 y0 (ws:=srt (M.map (·.nm))) (Fo (by simpa using hM)) (by rw[(lY _).length_eq,ac];lia) (i:=4) (Z:=(sE p nd N nb [Za (.lst ((srt (M.map (·.nm))).map .str)),Zb,Zb,Zb,Zb,Zb,Zb,Zb,Zb,Zb])) rfl rfl;rw[<-et] at eh;have hh:=(lY _).mem_iff.mp hh;obtain⟨A,e,B,A',m,B',k1,kk,k3,rfl,rfl,rfl,hA,c1,c2,c3,ck⟩:=W.pr.cut hh;have hck:kk<=40:=by lia
 have U9:m∈A'++m::B':=aA _ ai;obtain⟨i4a,i4b,i4c⟩:=W.i4 m U9;have g0:∀x y,(pst t p x y).get m.cell=Za (.dct (hP m.hl)):=λx y=>(W.pst x y).sh m U9;have gd:∀x y,(pst t p x y).get nd=Za (.dct ((A'++m::B').map mdP)):=λx y=>(W.pst x y).md;have gb:∀x y,(pst t p x y).get nb=Za (.book pp (A++e::B)):=λx y=>(W.pst x y).bk;obtain⟨hz,R⟩:=c2.hm.r;have Pi:m.hl.length<=45:=by rw[c2.hm.len];exact aE R.l1 (by lia)
 have PH:m.hl.map (·.1)≠[]:=by obtain⟨n,hn⟩:=R.ex;exact iN ((c2.hm.mem n).mpr ((R.nm n).mpr hn))
 have s2:∀x y,mv [.ref m.cell] (pst t p x y)=.ok (.lst ((srt (m.hl.map (·.1))).map .str)) (pst t p x y):=λx y=>tj (g0 x y) (Ga m.hl) (by rw[ac];lia);obtain⟨o1,xb,yb,ho,eo⟩:=O8 a W xa ya (ws:=srt (m.hl.map (·.1))) (Fo PH) (by rw[(lY _).length_eq,ac];lia) (i:=7) (Z:=(sE p nd N nb [Za (.lst ((srt ((A'++m::B').map (·.nm))).map .str)),Za (.str m.nm),Za (.ref m.cell),Za (.lst ((srt (m.hl.map (·.1))).map .str)),Zb,Zb,Zb,Zb,Zb,Zb])) rfl rfl;have ho:=(lY _).mem_iff.mp ho;obtain⟨o2,xc,yc,Q5,eo2⟩:=O8 a W xb yb (ws:=N) (fY.mpr hN0) (by lia) (i:=2) (Z:=(sE p nd N nb [Za (.lst ((srt ((A'++m::B').map (·.nm))).map .str)),Za (.str m.nm),Za (.ref m.cell),Za (.lst ((srt (m.hl.map (·.1))).map .str)),Za (.str o1),Zb,Zb,Zb,Zb,Zb])) rfl rfl;have F1:=c2.hm.fr o1;have p0:=c2.hm.pos ho;obtain⟨q,xd,yd,hq,ep⟩:=F3 a (pst t p xc yc) p (W.pst xc yc).pu (l7 m.hl o1) F1.low p0 (F1.bb.mono (by lia));rw[wQ] at ep;have v1:∀x y,fIx (.ref m.cell) (.str o1) (pst t p x y)=.ok (frP (l7 m.hl o1)) (pst t p x y):=λx y=>C8 (g0 x y) (C9 m.hl o1 ho);have v0:∀x y,fIx (.ref nd) (.str m.nm) (pst t p x y)=.ok (.lst [.ref m.cell,.tup [.int m.th,.int m.mr,.int m.ls]]) (pst t p x y):=λx y=>C8 (gd x y) (Fw hA);have head:∀(o:SO),xSeq (xIf (xTr (x2 (x2 (xVar 10) (xC (.int 1)) fIx) (x2 (xC (.int 10)) (xC (.int 29)) fPow) fGe)) xRetN xEnd) (xSeq (xDo (xBM 5 (rM a) (xVar 3) (xCons (xVar 5) (xCons (xVar 8) (xCons (xVar 9) (xCons (xVar 10) xNil)))))) (xSeq (xAsg (EA (xVar 6) (xVar 8)) (yTup 2 (yCons (yName 11) (yCons (yName 12) yNil)))) (xSeq (xSet 13 (xCall 2 (m8 a) (xCons (x2 (x2 (xVar 11) (x2 (xVar 10) (xC (.int 1)) fIx) fMul) (x2 (x2 (xVar 10) (xC (.int 0)) fIx) (xVar 12) fMul) fSub) (xCons (x2 (xVar 12) (x2 (xVar 10) (xC (.int 1)) fIx) fMul) xNil)))) (xSeq (xIf (xTr (x2 (x2 (xVar 13) (xC (.int 0)) fIx) (xC (.int 0)) fGt)) (xPut (xVar 6) (xVar 8) (xVar 13)) xEnd) (xSeq (xAsg (xGet (xVar 6) (xVar 9) (xTup (xCons (xC (.int 0)) (xCons (xC (.int 1)) xNil)))) (yTup 2 (yCons (yName 11) (yCons (yName 12) yNil)))) (xPut (xVar 6) (xVar 9) (xCall 2 (m8 a) (xCons (x2 (x2 (xVar 11) (x2 (xVar 10) (xC (.int 1)) fIx) fMul) (x2 (x2 (xVar 10) (xC (.int 0)) fIx) (xVar 12) fMul) fAdd) (xCons (x2 (xVar 12) (x2 (xVar 10) (xC (.int 1)) fIx) fMul) xNil)))))))))
   (sE p nd N nb [Za (.lst ((srt ((A'++m::B').map (·.nm))).map .str)),Za (.str m.nm),Za (.ref m.cell),Za (.lst ((srt (m.hl.map (·.1))).map .str)),Za (.str o1),Za (.str o2),Za (frP q),Zb,Zb,Zb]) (pst t p xd yd)=o ->
   ux a (sE p nd N nb [Zb,Zb,Zb,Zb,Zb,Zb,Zb,Zb,Zb,Zb]) t=o:=λo ho=>by
  unfold ux;refine lV (me ((vK (lL (lK rfl) rfl)).trans s1)) ?_;refine lV (me eh) ?_;refine lV (me (v:=.ref m.cell) (s':=pst t p xa ya) ((mq ((mq (lK rfl) (lK rfl)).trans (v0 xa ya)) rfl).trans rfl)) ?_;refine lV (me ((vK (lL (lK rfl) rfl)).trans (s2 xa ya))) ?_;refine lV (me eo) ?_;refine lV (me eo2) ?_;refine lV (me (l9 (lL (lK rfl) (lL ((mq (lK rfl) (lK rfl)).trans (v1 xc yc)) rfl)) rfl ep)) ?_;exact ho
 have pw:∀(Z:En)(s:Sto),x2 (xC (.int 10)) (xC (.int 29)) fPow Z s=.ok (.int (10^29)) s:=λZ s=>by simp[x2,xC,fPow,Out.bind]
 generalize hρ:(sE p nd N nb [Za (.lst ((srt ((A'++m::B').map (·.nm))).map .str)),Za (.str m.nm),Za (.ref m.cell),Za (.lst ((srt (m.hl.map (·.1))).map .str)),Za (.str o1),Za (.str o2),Za (frP q)])=ρ1 at *;have RE:∀u v w,(sE p nd N nb [Za (.lst ((srt ((A'++m::B').map (·.nm))).map .str)),Za (.str m.nm),Za (.ref m.cell),Za (.lst ((srt (m.hl.map (·.1))).map .str)),Za (.str o1),Za (.str o2),Za (frP q),u,v,w])=ρ1++[u,v,w]:=λu v w=>by rw[<-hρ];rfl
 rw[RE] at head;have r3:∀u v w,(ρ1++[u,v,w])[3]?=Za (Za (.ref nb)):=λu v w=>by rw[<-hρ];rfl
 have r5:∀u v w,(ρ1++[u,v,w])[5]?=Za (Za (.str m.nm)):=λu v w=>by rw[<-hρ];rfl
 have r6:∀u v w,(ρ1++[u,v,w])[6]?=Za (Za (.ref m.cell)):=λu v w=>by rw[<-hρ];rfl
 have r8:∀u v w,(ρ1++[u,v,w])[8]?=Za (Za (.str o1)):=λu v w=>by rw[<-hρ];rfl
 have r9:∀u v w,(ρ1++[u,v,w])[9]?=Za (Za (.str o2)):=λu v w=>by rw[<-hρ];rfl
 have RU:∀u v w,(ρ1++[u,v,w])[10]?=Za (Za (frP q)):=λu v w=>by rw[<-hρ];rfl
 have SV:∀u v w,(ρ1++[u,v,w])[11]?=Za u:=λu v w=>by rw[<-hρ];rfl
 have Ss:∀u v w,(ρ1++[u,v,w])[12]?=Za v:=λu v w=>by rw[<-hρ];rfl
 have TZ:∀u v w,(ρ1++[u,v,w])[13]?=Za w:=λu v w=>by rw[<-hρ];rfl
 have st:∀u v w u' v',((ρ1++[u,v,w]).set 11 u').set 12 v'=ρ1++[u',v',w]:=λu v w u' v'=>by rw[<-hρ];rfl
 have UF:∀u v w w',(ρ1++[u,v,w]).set 13 w'=ρ1++[u,v,w']:=λu v w w'=>by rw[<-hρ];rfl
 clear RE;have cond:∀s,x2 (x2 (xVar 10) (xC (.int 1)) fIx) (x2 (xC (.int 10)) (xC (.int 29)) fPow) fGe (ρ1++[Zb,Zb,Zb]) s=.ok (.bl (decide ((10:Int)^29<=q.2))) s:=λs=>(mq ((mq (lK (RU _ _ _)) rfl).trans ix1) (pw _ _)).trans rfl;by_cases hb:(10:Int)^29<=q.2
 ·refine⟨pst t p xd yd,_,_,mK (head _ (Aq ((tS (s1:=pst t p xd yd) (by unfold xTr;rw[cond,Zg hb];rfl)).trans rfl))),(W.pst xd yd).mono (fS _),rfl,rfl,rfl,λk k1 _ _=>lU _ _ k1⟩
 have P4:ShOk q:=FZ hck F1 hq (by lia);have nt:¬mR e.held o1 q:=λz=>by
  unfold mR at z;rw[<-c2.hm.q] at z;rcases z with z|z
  ·exact z hq.pos
  ·have:=hq.le;lia
 have oN1:=c2.ow o1 ho;have hnm:m.nm∈N:=hLN _ (by rw[<-c2.nm];exact ah.mpr ⟨e,aA _ ai,rfl⟩);have sl:=Lb a (gb xd yd) hnd ⟨by rw[c2.nm];exact(Um _ hnm).nm,(Um _ oN1).nm,(Um _ Q5).nm⟩ P4.sz (R.saleOk (by lia) P4) (hN1 _ oN1) (hN1 _ Q5) nt;have sl:rM a [.ref nb,.str m.nm,.str o1,.str o2,frP q] (pst t p xd yd)=.ok .non ((pst t p xd yd).set nb (.book pp (A++{ e with held:=sold e.held o1 o2 q }::B))):=by have h:=sl;rw[show PV.str m.nm=PV.str e.nm by rw[c2.nm]];exact h
 have B1:=yQ (R.fr o1) P4.low hq.pos (by rw[<-c2.hm.q];exact hq.le) P4.bb;rw[<-c2.hm.q] at B1;generalize hr:nL (l7 m.hl o1) (-q.1,q.2)=r at B1;have Fr:FrC (kk+1) r:=⟨B1.low,B1.nn,g8 B1.le (aZ (g7.mpr (b7 (by decide) (by lia))) (bA B1.low.1)),B1.bb.mono (by lia)⟩;have T:∀{d:Nat}{g:Int×Int},d<=41->FrC d g->Bt 9000 g.1/\Bt 8800 g.2/\Low g:=λhd h=>⟨h.top.mono (by lia),h.bb.mono (by lia),h.low⟩;obtain⟨g1,g2,g3⟩:=T (by lia) F1;have qa:Bt 9000 q.1:=P4.bt.mono (by decide);have qb:Bt 9000 q.2:=P4.bb.mono (by decide);have qc:Bt 100 q.2:=P4.bb.mono (by decide);have b9:∀{x:Int},Bt 8800 x->Bt 9000 x:=λh=>h.mono (by decide);generalize hT:(pst t p xd yd).set nb (.book pp (A++{ e with held:=sold e.held o1 o2 q }::B))=T6 at sl;have g6:T6.get m.cell=Za (.dct (hP m.hl)):=by rw[<-hT,lU _ _ i4b];exact g0 xd yd
 have c6:∀l l',(T6.set m.cell (.dct (hP l))).set m.cell (.dct (hP l'))=T6.set m.cell (.dct (hP l')):=λl l'=>rO _ _ _ _;have gl:∀l,(T6.set m.cell (.dct (hP l))).get m.cell=Za (.dct (hP l)):=λl=>ot g6;have RD:∀l:Hl,l.length<=46->(hP l).length<100000:=λl h=>by rw[OA];lia
 have VE:(na m.hl o1).length<=45:=aE (fI _ _) Pi;have UN:∀(l:Hl) o q,l.length<=45->(nK l o q).length<=46:=λl o q h=>by
  have:=congrArg b6 (nq l o q);rw[ac] at this;rw[this];split
  ·rw[ac];lia
  ·rw[aD,ac];simp;lia
 generalize Q9:(if 0<r.1 then nK (na m.hl o1) o1 r else na m.hl o1)=l1;have em:yj m.hl o1 o2 q=nK l1 o2 (nL (l7 l1 o2) q):=by unfold yj;simp only[hr,Q9]
 have F2:FrC (kk+1) (l7 l1 o2):=by
  rw[<-Q9];split
  ·rw[mU,o4];split
   ·exact Fr
   ·exact(c2.hm.fr o2).mono (by lia)
  ·rw[o4];split
   ·exact frc0 _
   ·exact(c2.hm.fr o2).mono (by lia)
 obtain⟨k1,k2,k3⟩:=T (by lia) F2;have l1l:l1.length<=46:=by
  rw[<-Q9];split
  ·exact UN _ _ _ VE
  ·lia
 refine⟨T6.set m.cell (.dct (hP (yj m.hl o1 o2 q))),A++{ e with held:=sold e.held o1 o2 q }::B,A'++{ m with hl:=yj m.hl o1 o2 q }::B',Aa (Z:=ρ1++[Za (.int (l7 l1 o2).1),Za (.int (l7 l1 o2).2),Za (frP r)]) (head _ ?_),?_,?_,?_,?_,λk h1 h2 h3=>?_⟩
 ·refine lV ((qK (s1:=pst t p xd yd) (by unfold xTr;rw[cond,Zh hb];rfl)).trans rfl) ?_;refine lV (wC ((qt (lK (r3 _ _ _)) (gb xd yd) (lL (lK (r5 _ _ _)) (lL (lK (r8 _ _ _)) (lL (lK (r9 _ _ _)) (lL (lK (RU _ _ _)) rfl)))) rfl).trans sl)) ?_;refine lV (asg2 (v:=.int (l7 m.hl o1).1) (w:=.int (l7 m.hl o1).2) (s':=T6.set m.cell (.dct (hP (na m.hl o1)))) ((Ml (lK (r6 _ _ _)) g6 (lK (r8 _ _ _)) (C9 m.hl o1 ho)).trans (by rw[L5];exact rfl))) ?_;rw[st];have Qg:∀u v w s,x2 (xVar 10) (xC (.int 1)) fIx (ρ1++[u,v,w]) s=.ok (.int q.2) s:=λu v w s=>(mq (lK (RU _ _ _)) rfl).trans ix1;have x0':∀u v w s,x2 (xVar 10) (xC (.int 0)) fIx (ρ1++[u,v,w]) s=.ok (.int q.1) s:=λu v w s=>(mq (lK (RU _ _ _)) rfl).trans ix0;refine lV (me (l9 (lL (NE (rF (lK (SV _ _ _)) (Qg _ _ _ _) (rV g1 qb)) (rF (x0' _ _ _ _) (lK (Ss _ _ _)) (rV qa (b9 g2)))) (lL (rF (lK (Ss _ _ _)) (Qg _ _ _ _) (rV (b9 g2) qb)) rfl)) rfl (Je a _ g3 P4.low g2 qc))) ?_;rw[UF,hr];have cr:∀u v s,x2 (x2 (xVar 13) (xC (.int 0)) fIx) (xC (.int 0)) fGt (ρ1++[u,v,Za (frP r)]) s=.ok (.bl (decide (0<r.1))) s:=λu v s=>(mq ((mq (lK (TZ _ _ _)) rfl).trans ix0) rfl).trans rfl;refine lV (ρ':=ρ1++[Za (.int (l7 m.hl o1).1),Za (.int (l7 m.hl o1).2),Za (frP r)]) (s':=T6.set m.cell (.dct (hP l1))) ?_ ?_
  ·rw[<-Q9];by_cases z:0<r.1
   ·rw[Zc z];refine(tS (s1:=T6.set m.cell (.dct (hP (na m.hl o1)))) (by unfold xTr;rw[cr,Zg z];rfl)).trans ?_;refine(y7 (lK (TZ _ _ _)) (lK (r6 _ _ _)) (lK (r8 _ _ _)) (gl _) (RD _ (by lia))).trans ?_;rw[J9,c6]
   ·rw[Zd z];exact(qK (s1:=T6.set m.cell (.dct (hP (na m.hl o1)))) (by unfold xTr;rw[cr,Zh z];rfl)).trans rfl
  refine lV (asg2 (v:=.int (l7 l1 o2).1) (w:=.int (l7 l1 o2).2) (s':=T6.set m.cell (.dct (hP l1))) ((OD (lK (r6 _ _ _)) (gl l1) (lK (r9 _ _ _)) (tO (lL rfl (lL rfl rfl)))).trans (by rw[OB];rfl))) ?_;rw[st];refine(y7 (l9 (lL (yz (rF (lK (SV _ _ _)) (Qg _ _ _ _) (rV k1 qb)) (rF (x0' _ _ _ _) (lK (Ss _ _ _)) (rV qa (b9 k2)))) (lL (rF (lK (Ss _ _ _)) (Qg _ _ _ _) (rV (b9 k2) qb)) rfl)) rfl (Jf a _ k3 P4.low k2 qc)) (lK (r6 _ _ _)) (lK (r9 _ _ _)) (gl l1) (RD _ l1l)).trans ?_;rw[J9,c6,em]
 ·rw[<-hT];exact(W.pst xd yd).sale c1 c2 c3 ck (c2.hm.sale P4 (Um _ Q5) nt) λn hn=>(Hr ho hn).elim (c2.ow n) λz=>z▸Q5
 ·rw[au,au];rfl
 ·rw[au,au];rfl
 ·rw[<-hT];rfl
 ·have hk:k≠m.cell:=λz=>h3 (z▸ah.mpr ⟨m,U9,rfl⟩);rw[lU _ _ hk,<-hT,lU _ _ h2];exact lU _ _ h1
def G9(a)(hb:t.get nb=Za (.book pp L))(h1:vT w=true)(hs:Sm w)(h2:w∉pp)(h3:w∉L.map (·.nm))(h6:pp.length<6):uS a [.ref nb,.str w] t=.ok .non (t.set nb (.book (pp++[w]) L)):=by
 have e:wR a pp L w=none:=by unfold wR;rw[Bu a h1 h2 h3];exact Zd (by lia)
 simp[uS,m7,hb,hs.nm,e]
def Jk(a)(hb:t.get nb=Za (.book pp L))(h1:vT w=true)(hs:Sm w)(so:Sm o)(h2:w∉pp)(h3:w∉L.map (·.nm))(ho:(oF pp o||mj L o)=true)(hl:0<=ls)(h8:L.length<8):w6 a [.ref nb,.str w,.str o,.int th,.int mr,.int ls] t=.ok .non (t.set nb (.book pp (L++[⟨w,th,mr,ls,[(o,1,1)]⟩]))):=by
 have e:wY a pp L w o ls=none:=by unfold wY;rw[Bu a h1 h2 h3];show(if(oF pp o||mj L o)=false then _ else _)=_;rw[ho,Zd (by decide),Zd (by lia),Zd (by lia)]
 simp[w6,m7,hb,hs.nm,so.nm,e]
structure Bst(s t:Sto)(p nb nd:Nat)(N:List Str)(c:Nat)(pp:List Str)(L:List Ent)(M:List Md):Prop where
 w:Wst t p nb nd N c pp L M
 nx:s.nx<=t.nx
 fr:∀j,j<s.nx->j≠p->t.get j=s.get j
 lo:s.nx<=nb/\s.nx<=nd/\∀m∈M,s.nx<=m.cell
section
variable{s t:Sto}{p nb nd:Nat}{N:List Str}{c:Nat}{pp:List Str}{L:List Ent}{M:List Md}
theorem Bst.pst(B:Bst s t p nb nd N c pp L M)(x y):Bst s (My.pst t p x y) p nb nd N c pp L M:=⟨B.w.pst x y,B.nx,λj h1 h2=>(lU _ _ h2).trans (B.fr j h1 h2),B.lo⟩
def Bst.person(B:Bst s t p nb nd N c pp L M)(w):Bst s (t.set nb (.book (pp++[w]) L)) p nb nd N c (pp++[w]) L M:=by have W:=B.w;refine⟨⟨?_,ot W.bk,by rw[lU _ _ (bW W.i3)];exact W.md,λm hm=>by rw[lU _ _ (W.i4 m hm).2.1];exact W.sh m hm,W.i1,W.i2,W.i3,W.i4,W.i5,W.lt,W.pr⟩,B.nx,λj h1 h2=>(lU _ _ (by have:=B.lo.1;lia)).trans (B.fr j h1 h2),B.lo⟩;obtain⟨x,y,e⟩:=W.pu;exact⟨x,y,by rw[lU _ _ W.i1];exact e⟩
def Oo(h:x∉M.map (·.nm)):xN (M.map mdP) (aj x) v=M.map mdP++[(aj x,v)]:=by unfold xN;rw[Zd];intro z;obtain⟨kv,h1,h2⟩:=cL.mp z;obtain⟨m,hm,rfl⟩:=ah.mp h1;have:(aj m.nm:Key)=aj x:=Zf h2;exact h (cM this▸ah.mpr ⟨m,hm,rfl⟩)
def Bst.house(B:Bst s t p nb nd N c pp L M){w o:Str}{th mr ls:Int}(hw:w∉M.map (·.nm))(so:Sm o)(oN:o∈N)(tb:Bt 100 th/\Bt 100 mr/\Bt 100 ls) :
  Bst s (((t.set nb (.book pp (L++[⟨w,th,mr,ls,[(o,1,1)]⟩]))).add (.dct [(aj o,frP (1,1))])).set nd (.dct (xN (M.map mdP) (aj w) (.lst [.ref t.nx,.tup [.int th,.int mr,.int ls]])))) p nb nd N c pp (L++[⟨w,th,mr,ls,[(o,1,1)]⟩]) (M++[⟨w,t.nx,[(o,1,1)],th,mr,ls⟩]):=by
 have W:=B.w;obtain⟨l1,l2,l3,l4⟩:=W.lt;have g:∀k,k≠nd->k≠nb->k≠t.nx->(((t.set nb (.book pp (L++[⟨w,th,mr,ls,[(o,1,1)]⟩]))).add (.dct [(aj o,frP (1,1))])).set nd (.dct (xN (M.map mdP) (aj w) (.lst [.ref t.nx,.tup [.int th,.int mr,.int ls]])))).get k=t.get k:=λk h1 h2 h3=>by rw[lU _ _ h1,mG,Zd (show(t.set nb _).nx≠k from λz=>h3 z.symm),lU _ _ h2]
 have onl:∀n∈[(o,(1:Int),(1:Int))].map (·.1),n∈N:=λn hn=>by
  have:n=o:=by simpa using hn
  rw[this];exact oN
 have gnd:((t.set nb (.book pp (L++[⟨w,th,mr,ls,[(o,1,1)]⟩]))).add (.dct [(aj o,frP (1,1))])).get nd=Za (.dct (M.map mdP)):=by rw[mG,Zd (show(t.set nb _).nx≠nd from λz=>by have:t.nx=nd:=z;lia),lU _ _ (bW W.i3)];exact W.md
 refine⟨⟨?_,?_,?_,λm hm=>?_,W.i1,W.i2,W.i3,λm hm=>?_,?_,⟨cj l1,cj l2,cj l3,λm hm=>?_⟩,W.pr.app (d:=0) (.cons (c1:=0) (c2:=0) ⟨rfl,rfl,rfl,rfl,Oz 0 so,onl,tb⟩ .nil (ao _))⟩,Nat.le_succ_of_le B.nx,λj h1 h2=>?_,B.lo.1,B.lo.2.1,λm hm=>?_⟩
 ·obtain⟨x,y,e⟩:=W.pu;exact⟨x,y,by rw[g p W.i2 W.i1 (by lia)];exact e⟩
 ·rw[lU _ _ W.i3,mG,Zd (show(t.set nb _).nx≠nb from λz=>by have:t.nx=nb:=z;lia)];exact ot W.bk
 ·rw[ot gnd,Oo hw,au];rfl
 ·rcases aJ.mp hm with z|z
  ·obtain⟨a1,a2,a3⟩:=W.i4 m z;rw[g _ a3 a2 (by have:=l4 m z;lia)];exact W.sh m z
  ·rw[ap.mp z];show((_:Sto).set nd _).get t.nx=_;rw[lU _ _ (by lia),mG,Zc (show(t.set nb _).nx=t.nx from rfl)];rfl
 ·rcases aJ.mp hm with z|z
  ·exact W.i4 m z
  ·rw[ap.mp z];exact⟨by show t.nx≠p;lia,by show t.nx≠nb;lia,by show t.nx≠nd;lia⟩
 ·rw[au,bJ];refine⟨W.i5,by simp,λx hx y hy z=>?_⟩;obtain⟨m,hm,rfl⟩:=ah.mp hx;have:y=t.nx:=by simpa using hy
  have:=l4 m hm;lia
 ·rcases aJ.mp hm with z|z
  ·exact cj (l4 m z)
  ·rw[ap.mp z];exact cC _
 ·have:=B.lo;rw[g j (by lia) (by lia) (by have:=B.nx;lia)];exact B.fr j h1 h2
 ·rcases aJ.mp hm with z|z
  ·exact B.lo.2.2 m z
  ·rw[ap.mp z];exact B.nx
end
structure Wds(N:List Str):Prop where
 nd:N.Nodup
 sm:∀n∈N,Sm n
 nm:∀n∈N,vT n=true
def Ik(h0:0<vs.length)(h7:vs.length<=7)(hd:d<vs.length)(hm:m<=10):Wds ((bw m).map (wrd vs d fl)):=by
 refine⟨?_,λn hn=>?_,λn hn=>?_⟩
 ·show List.Pairwise _ _;rw[List.pairwise_map];exact List.Pairwise.imp_of_mem (λ{i j} hi hj Tu e=>Tu (KP hd (by have:=cF.mp hi;lia) (by have:=cF.mp hj;lia) e)) List.nodup_range
 ·obtain⟨k,_,rfl⟩:=ah.mp hn;exact(JJ h0 h7 d fl k).1
 ·obtain⟨k,_,rfl⟩:=ah.mp hn;exact(JJ h0 h7 d fl k).2
def Ht(h:body q Z s=.nx ρ' s'):nJ body (q::l) Z s=nJ body l ρ' s':=by
 conv=>lhs;unfold nJ
 rw[h]
def bE(p nb nd:Nat)(mo my cn:PV)(N:List Str)(u7 u8 u9 Pt:Option PV):En:=[Za (.ref p),Za mo,Za my,Za cn,Za (.lst (N.map .str)),Za (.ref nb),Za (.ref nd),u7,u8,u9,Pt]
theorem vQ(a)(WN:Wds N)(mo my cn)(u8 u9 Pt):∀(r done:List Str)(u:Option PV)(t:Sto),Bst s t p nb nd N 0 done [] []->(∀n∈done++r,n∈N)->(done++r).Nodup->(done++r).length<=6->∃u' t',nJ (mQ (yName 7) (qD a)) (r.map .str) (bE p nb nd mo my cn N u u8 u9 Pt) t=.nx (bE p nb nd mo my cn N u' u8 u9 Pt) t'/\Bst s t' p nb nd N 0 (done++r) [] []
 |[],done,u,t,B,_,_,_=>⟨u,t,rfl,by rw[cT];exact B⟩
 |w::r,done,u,t,B,hN,nd',hl=>by
  have hw:=hN w (aA _ ai);have n1:w∉done:=λz=>(bJ.mp nd').2.2 _ z _ ai rfl;have e1:=G9 a B.w.bk (WN.nm w hw) (WN.sm w hw) n1 (by simp) (by rw[aD,aY] at hl;lia);have e2:done++w::r=done++[w]++r:=by simp
  obtain⟨u',t',h1,h2⟩:=vQ a WN mo my cn u8 u9 Pt r (done++[w]) (Za (.str w)) _ (B.person w) (by rw[<-e2];exact hN) (by rw[<-e2];exact nd') (by rw[<-e2];exact hl);refine⟨u',t',?_,by rw[e2];exact h2⟩;rw[<-h1];refine Ht ((o5 (i:=7)).trans ?_);unfold qD;exact wC ((qt (lK rfl) B.w.bk (lL (lK rfl) rfl) rfl).trans e1)
def Ip{N:List Str}{k:Nat}{r:Int}(h0:0<=r)(h1:r<(k:Nat))(hk:k<=N.length):∃w∈N.take k,atI (N.map PV.str) r=Za (.str w):=by
 obtain⟨j,rfl⟩:∃j:Nat,r=j:=⟨r.toNat,by lia⟩;have hj:j<N.length:=by lia
 refine⟨N[j],?_,mY (by simp[hj])⟩;rw[bX];exact⟨j,by rw[List.getElem?_take,Zc (by lia),aw hj]⟩
def vE(a)(hP:IsPurse t p)(x y):∃v x' y',ny a [.ref p] (pst t p x y)=.ok (.int v) (pst t p x' y')/\Bt 100 v:=by obtain⟨v,x',y',e,b⟩:=Hn a (pst t p x y) p (hP.pst x y);rw[wQ] at e;exact⟨v,x',y',e,b⟩
def E7(a:Adr){s t:Sto}{p nb nd:Nat}{pp hs:List Str}(WN:Wds (pp++hs))(hp6:pp.length<=6)(QY:1<=pp.length)(hh:hs.length<=8){L:List Ent}{M:List Md}(mo cn:PV)(u7 u8 u9 Pt:Option PV)(k:Nat)(hk:k<hs.length)(B:Bst s t p nb nd (pp++hs) 0 pp L M)(hL:L.map (·.nm)=hs.take k) :
  ∃Sn u9' Uy t' L' M',mQ (yName 8) (o9 a) (.int (k:Nat)) (bE p nb nd mo (.int (pp.length:Nat)) cn (pp++hs) u7 u8 u9 Pt) t=.nx (bE p nb nd mo (.int (pp.length:Nat)) cn (pp++hs) u7 Sn u9' Uy) t'/\Bst s t' p nb nd (pp++hs) 0 pp L' M'/\L'.map (·.nm)=hs.take (k+1):=by
 obtain⟨x0,y0,et⟩:=uK B.w.pu;have ek:((pp.length:Int)+(k:Int))=((pp.length+k:Nat):Int):=by lia
 obtain⟨r,xa,ya,r0,r1,e1⟩:=B.w.draw' a x0 y0 (n:=((pp.length+k:Nat):Int)) (by lia) (oR (by lia) (by lia));rw[<-et] at e1;obtain⟨o,ho,QQ⟩:=Ip (N:=pp++hs) r0 r1 (by rw[aD];lia);obtain⟨v1,xb,yb,f1,b1⟩:=vE a B.w.pu xa ya;obtain⟨v2,xc,yc,f2,b2⟩:=vE a B.w.pu xb yb;obtain⟨v3,xd,yd,f3,b3⟩:=vE a B.w.pu xc yc;have oN:o∈pp++hs:=kR ho;have Q5:(oF pp o||mj L o)=true:=by rw[du,wy,n9,hL];rw[List.take_length_add_append] at ho;exact aJ.mp ho
 obtain⟨w,hw⟩:∃w,hs[k]?=Za w:=⟨hs[k],aw hk⟩;have wh:w∈hs:=dy hw;have wN:w∈pp++hs:=aA _ wh;have wpp:w∉pp:=λz=>(bJ.mp WN.nd).2.2 _ z _ wh rfl;have tk:hs.take (k+1)=hs.take k++[w]:=by rw[dX,hw];rfl
 have wL:w∉L.map (·.nm):=λz=>by rw[hL] at z;have:=(bJ.mp WN.nd).2.1;have h2:(hs.take (k+1)).Nodup:=this.sublist (List.take_sublist _ _);rw[tk] at h2;exact(bJ.mp h2).2.2 _ z _ (by simp) rfl
 have wat:atI ((pp++hs).map PV.str) ((pp.length+k:Nat):Int)=Za (.str w):=mY (by rw[aC,cG (by lia),kq,hw];rfl);have L8:L.length<8:=by have:=congrArg b6 hL;rw[ac,eK] at this;lia
 have nn:(0:Int)<=if v3<0 then -v3 else v3:=by split<;>lia
 have bz:Bt 100 (if v3<0 then -v3 else v3):=by
  split
  ·exact by unfold Bt at *;lia
  ·exact b3
 generalize hz:(if v3<0 then -v3 else v3)=z at nn bz;have B4:=B.pst xd yd;have eh:=Jk a (th:=v1) (mr:=v2) (ls:=z) B4.w.bk (WN.nm w wN) (WN.sm w wN) (WN.sm o oN) wpp wL Q5 nn L8;have B5:=B4.house (w:=w) (o:=o) (th:=v1) (mr:=v2) (ls:=z) (by rw[<-B.w.pr.names];exact wL) (WN.sm o oN) oN ⟨b1,b2,bz⟩;refine⟨Za (.int (k:Nat)),Za (.str o),Za (.tup [.int v1,.int v2,.int z]),_,_,_,?_,B5,by rw[au,hL,tk];rfl⟩;refine(o5 (i:=8)).trans ?_;unfold o9;have ad:∀u9 Pt s,x2 (xVar 2) (xVar 8) fAdd (bE p nb nd mo (.int (pp.length:Nat)) cn (pp++hs) u7 (Za (.int (k:Nat))) u9 Pt) s=.ok (.int ((pp.length+k:Nat):Int)) s:=λu9 Pt s=>(yz (i:=(pp.length:Nat)) (j:=(k:Nat)) (lK rfl) (lK rfl)).trans (by rw[ek]);have nw:∀u9 Pt s,x2 (xVar 4) (x2 (xVar 2) (xVar 8) fAdd) fIx (bE p nb nd mo (.int (pp.length:Nat)) cn (pp++hs) u7 (Za (.int (k:Nat))) u9 Pt) s=.ok (.str w) s:=λu9 Pt s=>(mq (lK rfl) (ad _ _ _)).trans (yw wat);refine lV (me (v:=.str o) (s':=pst t p xa ya) ((mq (lK rfl) (l9 (lL (lK rfl) (lL (ad _ _ _) rfl)) rfl e1)).trans (yw QQ))) ?_;refine lV (me (v:=.tup [.int v1,.int v2,.int z]) (s':=pst t p xd yd) (tO (lL (l9 (lL (lK rfl) rfl) rfl f1) (lL (l9 (lL (lK rfl) rfl) rfl f2) (lL ((vK (lL (l9 (lL (lK rfl) rfl) rfl f3) rfl)).trans (show fAbs [.int v3] (pst t p xd yd)=.ok (.int z) (pst t p xd yd) by rw[<-hz];rfl)) rfl))))) ?_;refine lV (wC ((qt (lK rfl) B4.w.bk (lL (nw _ _ _) (lL (lK rfl) (lL ((mq (lK rfl) rfl).trans rfl) (lL ((mq (lK rfl) rfl).trans rfl) (lL ((mq (lK rfl) rfl).trans rfl) rfl))))) rfl).trans eh)) ?_;have l4:=B4.w.lt.2.2.1;refine(y7 (vi (lL (v:=.ref t.nx) (s1:=((pst t p xd yd).set nb (.book pp (L++[⟨w,v1,v2,z,[(o,1,1)]⟩]))).add (.dct [(aj o,frP (1,1))])) ?_ (lL (lK rfl) rfl))) (lK rfl) (nw _ _ _) (l:=M.map mdP) ?_ ?_).trans rfl
 ·rfl
 ·rw[mG,Zd (show((pst t p xd yd).set nb _).nx≠nd from λq=>by have:t.nx=nd:=q;have:nd<t.nx:=l4;lia),lU _ _ (bW B4.w.i3)];exact B4.w.md
 ·rw[ac];have:=congrArg b6 B.w.pr.names;rw[ac,ac] at this;lia
def Jx(ws:List PV)(k:Nat)(hk:k<=ws.length):CP ws Zb (Za (k:Int))=ws.take k:=by
 unfold CP;have e1:HT.sIx ws.length 0 Zb=0:=rfl;have e2:HT.sIx ws.length ws.length (Za (k:Int))=k:=by
  simp[HT.sIx];split
  ·lia
  ·exact Nat.min_eq_left hk
 rw[e1,e2];simp
def nz(h:f Z s=.ok (.lst l) s1):xIter f Z s=.ok l s1:=by unfold xIter;rw[h];rfl
def Bst.start(hp:p<s.nx)(hP:IsPurse s p)(x y)(N):Bst s (((Sto.bump (My.pst s p x y)).add (.book [] [])).add (.dct [])) p (s.nx+1) (s.nx+2) N 0 [] [] []:=by
 have n1:(Sto.bump (My.pst s p x y)).nx=s.nx+1:=rfl;have n2:((Sto.bump (My.pst s p x y)).add (.book [] [])).nx=s.nx+2:=rfl;have g:∀k,k<s.nx+1->(((Sto.bump (My.pst s p x y)).add (.book [] [])).add (.dct [])).get k=(My.pst s p x y).get k:=λk hk=>by rw[mG,Zd (by lia),mG,Zd (by lia),Jo]
 refine⟨⟨?_,?_,?_,(λm hm=>nomatch hm),by lia,by lia,by lia,(λm hm=>nomatch hm),by simp,⟨?_,?_,?_,(λm hm=>nomatch hm)⟩,.nil⟩,?_,λj h1 h2=>?_,by lia,by lia,(λm hm=>nomatch hm)⟩
 ·obtain⟨u,v,e⟩:=hP.pst x y;exact⟨u,v,by rw[g p (by lia)];exact e⟩
 ·rw[mG,Zd (by lia),mG,Zc n1]
 ·rw[mG,Zc n2];rfl
 ·show p<s.nx+3;lia
 ·show s.nx+1<s.nx+3;lia
 ·show s.nx+2<s.nx+3;lia
 ·show s.nx<=s.nx+3;lia
 ·rw[g j (by lia)];exact lU _ _ h2
def Bst.sold(B:Bst s t p nb nd (pp++hs) c pp L M)(a)(WN:Wds (pp++hs))(hL:L.map (·.nm)=hs)(hh:hs≠[])(h8:hs.length<=8)(hp6:pp.length<=6)(hc:c<=40) :
  ∃t' L' M',rg a [.ref p,.ref nd,.lst ((pp++hs).map .str),.ref nb] t=.ok .non t'/\Bst s t' p nb nd (pp++hs) (c+1) pp L' M'/\L'.map (·.nm)=hs:=by
 have l8:L.length<=8:=by have:=congrArg b6 hL;rw[ac] at this;lia
 have hM:M≠[]:=λz=>by have:=B.w.pr.names;rw[z,hL] at this;exact hh this
 obtain⟨t',L',M',e,W,n1,n2,nx,fr⟩:=K4 a B.w hc hM (by rw[hL];exact(bJ.mp WN.nd).2.1) WN.sm (λn hn=>aA _ (hL▸hn)) (λn hn=>by rw[du,wy,n9,hL];exact aJ.mp hn) (λz=>hh (List.append_eq_nil_iff.mp z).2) (by rw[aD];lia) l8
 refine⟨t',L',M',e,⟨W,by rw[nx];exact B.nx,λj h1 h2=>?_,B.lo.1,B.lo.2.1,λm hm=>?_⟩,n1.trans hL⟩
 ·rw[fr j h2 (by have:=B.lo.1;lia) λz=>?_]
  ·exact B.fr j h1 h2
  ·obtain⟨m,hm,z⟩:=ah.mp z;have:=B.lo.2.2 m hm;lia
 ·have:m.cell∈M.map (·.cell):=n2▸ah.mpr ⟨m,hm,rfl⟩;obtain⟨m',h',z⟩:=ah.mp this;rw[<-z];exact B.lo.2.2 m' h'
def JE(a:Adr)(s:Sto)(p:Nat)(hp:p<s.nx)(hP:IsPurse s p)(mx:Nat)(hm:mx<=7):∃t nb nd pp hs c L M,qy a [.ref p,.int (mx:Nat)] s=.ok (.tup [.ref nb,.lst ((srt pp).map .str),.ref nd]) t/\Bst s t p nb nd (pp++hs) c pp L M/\L.map (·.nm)=hs/\Wds (pp++hs)/\1<=pp.length/\pp.length<=3/\hs.length<=mx/\c<=28:=by
 obtain⟨x0,y0,et⟩:=uK hP;obtain⟨r,xa,ya,r0,r1,e1⟩:=uO a hP x0 y0 (n:=3) (by decide) (oR (by decide) (by decide));rw[<-et] at e1;obtain⟨my,hmy,rfl⟩:∃my:Nat,1<=my/\r=(my:Int)-1:=⟨r.toNat+1,by lia,by lia⟩;obtain⟨cn',xb,yb,c0,cn1,e2⟩:=uO a hP xa ya (n:=((mx+1:Nat):Int)) (by lia) (oR (by lia) (by lia));obtain⟨cn,rfl⟩:∃cn:Nat,cn'=cn:=⟨cn'.toNat,by lia⟩;obtain⟨xc,yc,vs,d,fl,v0,v7,hd,e3⟩:=Ja a (pst s p xb yb) p hp (hP.pst xb yb) (my+cn) (by lia);have WN:=Ik (fl:=fl) (m:=my+cn) v0 v7 hd (by lia);have pq:pst (pst s p xb yb) p xc yc=pst s p xc yc:=wQ _ _ _ _ _ _;rw[pq] at e3;generalize hN:(bw (my+cn)).map (wrd vs d fl)=N at *;have hNl:N.length=my+cn:=by rw[<-hN];simp
 obtain⟨pp,hs,rfl,Ph⟩:∃pp hs:List Str,N=pp++hs/\pp.length=my:=⟨N.take my,N.drop my,(kM my N).symm,by rw[eK];lia⟩;have hsl:hs.length=cn:=by rw[aD] at hNl;lia
 subst Ph;subst hsl;have B0:=Bst.start hp hP xc yc (pp++hs);obtain⟨u7,t1,lp1,B1⟩:=vQ a WN (.int (mx:Nat)) (.int (pp.length:Nat)) (.int (hs.length:Nat)) Zb Zb Zb pp [] Zb _ B0 (λn hn=>aO _ hn) ((bJ.mp WN.nd).1) (by rw[g5];lia);rw[g5] at B1;obtain⟨ρ2,t2,lp2,u8,u9,Pt,L2,M2,rfl,B2,Vt⟩:=uM (body:=mQ (yName 8) (o9 a)) hs.length
  (λk Z t=>∃u8 u9 Pt L M,Z=bE p (s.nx+1) (s.nx+2) (.int (mx:Nat)) (.int (pp.length:Nat)) (.int (hs.length:Nat)) (pp++hs) u7 u8 u9 Pt/\Bst s t p (s.nx+1) (s.nx+2) (pp++hs) 0 pp L M/\L.map (·.nm)=hs.take k)
  (λk Z t hk hI=>by obtain⟨u8,u9,Pt,L,M,rfl,B,hL⟩:=hI;obtain⟨a8,a9,a10,t',L',M',q1,q2,q3⟩:=E7 a WN (by lia) hmy (by lia) (.int (mx:Nat)) (.int (hs.length:Nat)) u7 u8 u9 Pt k hk B hL;exact⟨_,_,q1,_,_,_,_,_,rfl,q2,q3⟩) (Z:=bE p (s.nx+1) (s.nx+2) (.int (mx:Nat)) (.int (pp.length:Nat)) (.int (hs.length:Nat)) (pp++hs) u7 Zb Zb Zb) (s:=t1) ⟨Zb,Zb,Zb,[],[],rfl,B1,by simp⟩
 rw[gI] at Vt;have sl:∃Sn t3 c L3 M3,xIf (xTr (x2 (xVar 3) (xC (.int 0)) fGt)) (xFor (xRng1 (xCons (xCall 2 (lZ a) (xCons (xVar 0) (xCons (x2 (x2 (xC (.int 4)) (xVar 3) fMul) (xC (.int 1)) fAdd) xNil))) xNil)) (yName 8) (o8 a)) xEnd (bE p (s.nx+1) (s.nx+2) (.int (mx:Nat)) (.int (pp.length:Nat)) (.int (hs.length:Nat)) (pp++hs) u7 u8 u9 Pt) t2=.nx (bE p (s.nx+1) (s.nx+2) (.int (mx:Nat)) (.int (pp.length:Nat)) (.int (hs.length:Nat)) (pp++hs) u7 Sn u9 Pt) t3/\Bst s t3 p (s.nx+1) (s.nx+2) (pp++hs) c pp L3 M3/\L3.map (·.nm)=hs/\c<=28:=by
  by_cases hc0:hs=[]
  ·refine⟨u8,t2,0,L2,M2,(qK (s1:=t2) ?_).trans rfl,B2,Vt,by lia⟩;unfold xTr;rw[mq (lK rfl) rfl,hc0];rfl
  ·have R3:0<hs.length:=fY.mpr hc0;obtain⟨Qf,y2',et2⟩:=uK B2.w.pu;obtain⟨n',xe,ye,n0,n1,e5⟩:=B2.w.draw' a Qf y2' (n:=((4*hs.length+1:Nat):Int)) (by lia) (oR (by lia) (by lia));rw[<-et2] at e5;obtain⟨n,rfl⟩:∃n:Nat,n'=n:=⟨n'.toNat,by lia⟩;obtain⟨ρ3,t3,lp3,Sn,L3,M3,rfl,B3,Vs⟩:=uM (body:=mQ (yName 8) (o8 a)) n
    (λk Z t=>∃u8 L M,Z=bE p (s.nx+1) (s.nx+2) (.int (mx:Nat)) (.int (pp.length:Nat)) (.int (hs.length:Nat)) (pp++hs) u7 u8 u9 Pt/\Bst s t p (s.nx+1) (s.nx+2) (pp++hs) k pp L M/\L.map (·.nm)=hs)
    (λk Z t hk hI=>by obtain⟨u8,L,M,rfl,B,hL⟩:=hI;obtain⟨t',L',M',q1,q2,q3⟩:=B.sold a WN hL hc0 (by lia) (by lia) (by lia);refine⟨_,t',(o5 (i:=8)).trans ?_,Za (.int (k:Nat)),L',M',rfl,q2,q3⟩;unfold o8;exact wC (l9 (lL (lK rfl) (lL (lK rfl) (lL (lK rfl) (lL (lK rfl) rfl)))) rfl q1)) (Z:=bE p (s.nx+1) (s.nx+2) (.int (mx:Nat)) (.int (pp.length:Nat)) (.int (hs.length:Nat)) (pp++hs) u7 u8 u9 Pt) (s:=pst t2 p xe ye) ⟨u8,L2,M2,rfl,B2.pst xe ye,Vt⟩
   refine⟨Sn,t3,n,L3,M3,(tS (s1:=t2) ?_).trans (qG (vd (n:=n) (lL (l9 (lL (lK rfl) (lL ((yz (rF (i:=4) (j:=(hs.length:Nat)) rfl (lK rfl) (.inr (.inl ⟨by decide,by decide⟩))) rfl).trans ?_) rfl)) rfl e5) rfl) (by lia)) lp3),B3,Vs,by lia⟩
   ·unfold xTr;rw[mq (lK rfl) rfl];show Out.bind (Out.ok (PV.bl (decide ((0:Int)<(hs.length:Nat)))) _) _=_;rw[Zg (by lia)];rfl
   ·rw[show(4:Int)*(hs.length:Nat)+1=((4*hs.length+1:Nat):Int) by lia]
 obtain⟨Sn,t3,c,L3,M3,e6,B3,Vs,hc⟩:=sl;refine⟨t3,s.nx+1,s.nx+2,pp,hs,c,L3,M3,mK ?_,B3,Vs,WN,hmy,by lia,by lia,hc⟩;have TR:∀u7 u8 u9 Pt nb nd s',xSl (xVar 4) xNoP (xPart (xVar 2)) (bE p nb nd (.int (mx:Nat)) (.int (pp.length:Nat)) (.int (hs.length:Nat)) (pp++hs) u7 u8 u9 Pt) s'=.ok (.lst (pp.map .str)) s':=λu7 u8 u9 Pt nb nd s'=>by
  have:CP ((pp++hs).map PV.str) Zb (Za ((pp.length:Nat):Int))=pp.map PV.str:=by rw[Jx _ _ (by simp),<-List.map_take,List.take_left'];rfl
  simp only[xSl,xVar,bE,gL,fj,Out.bind,xNoP,xPart,fSl,lsOf,this]
 unfold vW;refine lV (me (v:=.int (pp.length:Nat)) (s':=pst s p xa ya) ((yz (i:=1) rfl (l9 (lL (lK rfl) (lL rfl rfl)) rfl e1)).trans (by rw[show(1:Int)+((pp.length:Int)-1)=(pp.length:Nat) by lia]))) ?_;refine lV (me (l9 (lL (lK rfl) (lL ((yz (i:=(mx:Nat)) (j:=1) (lK rfl) rfl).trans (by rw[show((mx:Nat):Int)+1=((mx+1:Nat):Int) by lia])) rfl)) rfl e2)) ?_;refine lV (me (l9 (lL (lK rfl) (lL ((yz (i:=(pp.length:Nat)) (j:=(hs.length:Nat)) (lK rfl) (lK rfl)).trans (by rw[show((pp.length:Nat):Int)+(hs.length:Nat)=((pp.length+hs.length:Nat):Int) by lia])) rfl)) rfl e3)) ?_;refine lV (me (v:=.ref (s.nx+1)) (s':=(Sto.bump (pst s p xc yc)).add (.book [] [])) rfl) ?_;refine lV (me (v:=.ref (s.nx+2)) (s':=((Sto.bump (pst s p xc yc)).add (.book [] [])).add (.dct [])) rfl) ?_;refine lV (qG (l:=pp.map .str) (s1:=((Sto.bump (pst s p xc yc)).add (.book [] [])).add (.dct [])) ?_ lp1) ?_
 ·exact nz (TR Zb Zb Zb Zb (s.nx+1) (s.nx+2) _)
 refine lV (qG (vd (n:=hs.length) (lL (lK rfl) rfl) (by lia)) lp2) ?_;refine lV e6 ?_;refine nO (tO (lL (lK rfl) (lL ((vK (lL (TR _ _ _ _ _ _ _) rfl)).trans ?_) (lL (lK rfl) rfl))));simp[mv,lsOf,vy,show pp.length<64 by lia]
def own(L:List Ent)(n:Str):List Str:=match mH L n with
 |some e=>srt (e.held.map (·.1))
 |none=>[]
def Cl(L:List Ent)(h:Str)(S:Str->Prop):Prop:=(∀x∈own L h,S x)/\∀y,S y->∀x∈own L y,S x
structure Rch(L:List Ent)(h:Str)(F:List Str):Prop where
 nd:F.Nodup
 cl:Cl L h (·∈F)
 mn:∀S,Cl L h S->∀x∈F,S x
def one1(L:List Ent)(q:List Str×List Str)(n:Str):List Str×List Str:=if n∈q.1 then q else(q.1++[n],if mj L n=true then q.2++[n] else q.2)
def qr(L:List Ent)(F W ns:List Str):List Str×List Str:=ns.foldl (one1 L) (F,W)
def zh(L)(F W)(n)(ns):qr L F W (n::ns)=qr L (one1 L (F,W) n).1 (one1 L (F,W) n).2 ns:=rfl
structure Inv1(L:List Ent)(N:List Str)(h:Str)(F W:List Str):Prop where
 nd:F.Nodup
 sub:∀x∈F,x∈N
 wt:∀x∈W,mj L x=true
 mn:∀S,Cl L h S->∀x∈F,S x
 wr:∀x∈W,x=h\/x∈F
def Done1(L:List Ent)(h:Str)(F W:List Str):Prop:=∀y,(y=h\/y∈F)->y∈W\/∀x∈own L y,x∈F
def C0(h:mj L n=false):own L n=[]:=by
 unfold mj at h;unfold own;cases c:mH L n with
 |none=>rfl
 |some e=>rw[c] at h;cases h
def IS(L)(q)(n):(∀x∈q.1,x∈(one1 L q n).1)/\(∀x∈q.2,x∈(one1 L q n).2)/\n∈(one1 L q n).1:=by
 unfold one1;split
 ·rename_i h;exact⟨λ_ z=>z,λ_ z=>z,h⟩
 ·refine⟨λ_ z=>aO _ z,λ_ z=>?_,by simp⟩;show _∈(if mj L n=true then q.2++[n] else q.2);split
  ·exact aO _ z
  ·exact z
theorem xt(L):∀(ns F W:List Str),(∀x∈F,x∈(qr L F W ns).1)/\(∀x∈W,x∈(qr L F W ns).2)/\∀x∈ns,x∈(qr L F W ns).1
 |[],F,W=>⟨λ_ z=>z,λ_ z=>z,λ_ z=>nomatch z⟩
 |n::ns,F,W=>by
  rw[zh];obtain⟨a1,a2,a3⟩:=IS L (F,W) n;obtain⟨b1,b2,b3⟩:=xt L ns (one1 L (F,W) n).1 (one1 L (F,W) n).2;refine⟨λx z=>b1 x (a1 x z),λx z=>b2 x (a2 x z),λx z=>?_⟩;rcases af.mp z with z|z
  ·rw[z];exact b1 n a3
  ·exact b3 x z
theorem C6:∀{F N:List Str},F.Nodup->(∀x∈F,x∈N)->F.length<=N.length
 |[],_,_,_=>a7 _
 |x::F,N,h,k=>by have hx:=k x ai;have h:=aI.mp h;have:=C6 (N:=N.erase x) h.2 λy z=>(List.mem_erase_of_ne (λe:y=x=>h.1 (e▸z))).mpr (k y (ae _ z));rw[List.length_erase_of_mem hx] at this;have:=List.length_pos_of_mem hx;show F.length+1<=_;lia
theorem uV(hy:∀S,Cl L h S->∀x∈own L y,S x)(ho:∀x∈own L y,x∈N):∀(ns F W:List Str),(∀x∈ns,x∈own L y)->Inv1 L N h F W->Inv1 L N h (qr L F W ns).1 (qr L F W ns).2/\(∀z,z∈(qr L F W ns).1->z∈F\/z∈(qr L F W ns).2\/mj L z=false)/\2*(N.length-(qr L F W ns).1.length)+(qr L F W ns).2.length<=2*(N.length-F.length)+W.length
 |[],F,W,_,I=>⟨I,λz hz=>.inl hz,ao _⟩
 |n::ns,F,W,Qq,I=>by
  rw[zh];have hn:=Qq n ai;by_cases c:n∈F
  ·have e:one1 L (F,W) n=(F,W):=Zc c;rw[e];exact uV hy ho ns F W (λx z=>Qq x (ae _ z)) I
  ·have e:one1 L (F,W) n=(F++[n],if mj L n=true then W++[n] else W):=Zd c;rw[e];have I2:Inv1 L N h (F++[n]) (if mj L n=true then W++[n] else W):=by
    refine⟨?_,λx z=>?_,λx z=>?_,λS hS x z=>?_,λx z=>?_⟩
    ·rw[bJ];exact⟨I.nd,by simp,λa ha b hb e=>c (by rw[<-ap.mp hb,<-e];exact ha)⟩
    ·rcases aJ.mp z with z|z
     ·exact I.sub x z
     ·rw[ap.mp z];exact ho n hn
    ·split at z
     ·rename_i q;rcases aJ.mp z with z|z
      ·exact I.wt x z
      ·rw[ap.mp z];exact q
     ·exact I.wt x z
    ·rcases aJ.mp z with z|z
     ·exact I.mn S hS x z
     ·rw[ap.mp z];exact hy S hS n hn
    ·split at z
     ·rcases aJ.mp z with z|z
      ·exact(I.wr x z).imp id (aO _)
      ·exact .inr (aA _ z)
     ·exact(I.wr x z).imp id (aO _)
   obtain⟨J,k1,k2⟩:=uV hy ho ns _ _ (λx z=>Qq x (ae _ z)) I2;refine⟨J,λz hz=>?_,aE k2 ?_⟩
   ·rcases k1 z hz with q|q|q
    ·rcases aJ.mp q with q|q
     ·exact .inl q
     ·have q:=ap.mp q;subst q;by_cases hh:mj L z=true
      ·refine .inr (.inl ((xt L ns _ _).2.1 z ?_));show z∈(if mj L z=true then W++[z] else W);rw[Zc hh];simp
      ·exact .inr (.inr (by simpa using hh))
    ·exact .inr (.inl q)
    ·exact .inr (.inr q)
   ·have hl:(F++[n]).length<=N.length:=by exact C6 I2.nd I2.sub
    rw[aD] at hl ⊢;simp only[dQ] at hl ⊢;split
    ·rw[aD];simp only[dQ];lia
    ·lia
abbrev LS(U:List Str):PV:=.lst (U.map .str)
def Il(h:mL c b n Z s=.nx ρ' s'):tN c b Z s=.nx ρ' s':=(xg h (by intro z;cases z)).trans rfl
theorem xr(s)(k):∀(U:List Str),(∀x∈U,bi x=true)->vR (PV.data s (k+1)) (U.map PV.str)=Za (U.map d6)
 |[],_=>rfl
 |x::r,h=>by
  rw[al];unfold vR;rw[xr s k r λy hy=>h y (ae _ hy)];have e:PV.data s (k+1) (.str x)=Za (.str x):=by unfold PV.data;rw[Zc (h x ai)]
  rw[e];rfl
def zG(s)(k)(h:∀x∈U,bi x=true):PV.data s (k+2) (LS U)=Za (.list (U.map d6)):=by unfold PV.data;rw[xr s k U h];rfl
def Jw{s:Sto}{n:Nat}(k:Nat){U:List Str}(h:∀x∈U,bi x=true)(hg:s.get n=Za (.lst (U.map .str))):PV.data s (k+2) (.ref n)=Za (.list (U.map d6)):=by unfold PV.data;rw[hg];show(vR (PV.data s (k+1)) (U.map PV.str)).map _=_;rw[xr s k U h];rfl
def J4{s:Sto}{n:Nat}{U:List Str}(h:∀x∈U,bi x=true)(hg:s.get n=Za (.lst (U.map .str))):fNe (.ref n) (.lst []) s=.ok (.bl (decide (U≠[]))) s:=by
 have e2:PV.data s 12 (.ref n)=Za (.list (U.map d6)):=Jw 10 h hg;have e3:PV.data s 12 (.lst [])=Za (.list []):=rfl;unfold fNe fEqN;rw[e2,e3];simp only[if_true];unfold bH;cases U with
 |nil=>simp[b5]
 |cons x r=>simp[b5]
def EG(h:Sm x):bi x=true:=by unfold bi;rw[<-Array.all_toList,dg];intro c hc;exact Zg (gZ (h.2 c hc) (by decide))
def oa(h:f Z s=.ok (.bl b) s1):xTr f Z s=.ok b s1:=by unfold xTr;rw[h];rfl
def fdP(F:List Str):List (Key×PV):=F.map λx=>(aj x,PV.bl true)
def rst(T:Sto)(F W:List Str):Sto:=(T.add (.dct (fdP F))).add (.lst (W.map .str))
def rE(nb:Nat)(h:Str)(T:Sto)(u4 u5 u6:Option PV):En:=[Za (.ref nb),Za (.str h),Za (.ref T.nx),Za (.ref (T.nx+1)),u4,u5,u6]
def Kx(T)(F W):(rst T F W).get T.nx=Za (.dct (fdP F)):=by unfold rst;rw[mG,Zd (by rw[C1];lia),mG,Zc rfl]
def EO(T)(F W):(rst T F W).get (T.nx+1)=Za (.lst (W.map .str)):=by unfold rst;rw[mG,Zc (C1 _ _)]
def Ft(T)(F W)(hk:k<T.nx):(rst T F W).get k=T.get k:=by unfold rst;rw[mG,Zd (by rw[C1];lia),mG,Zd (by lia)]
def IB(T)(F G W):(rst T F W).set T.nx (.dct (fdP G))=rst T G W:=by unfold rst;rw[yX _ _ _ (by rw[C1];lia),tm]
def DQ(T)(F W V):(rst T F W).set (T.nx+1) (.lst (V.map .str))=rst T F V:=tm _ _ _
def L7(F)(n):(oZ (fdP F) (aj n)).isSome=decide (n∈F):=by
 unfold oZ;rw[ci,bS,gB,decide_eq_true_iff];constructor
 ·intro⟨kv,h1,h2⟩;obtain⟨m,hm,rfl⟩:=ah.mp h1;have:(aj m:Key)=aj n:=Zf h2;exact cM this▸hm
 ·exact λz=>⟨_,ah.mpr ⟨n,z,rfl⟩,Zg rfl⟩
def OF(h:n∉F):xN (fdP F) (aj n) (.bl true)=fdP (F++[n]):=by
 unfold xN fdP;rw[Zd,au]
 ·rfl
 intro z;obtain⟨kv,h1,h2⟩:=cL.mp z;obtain⟨m,hm,rfl⟩:=ah.mp h1;have:(aj m:Key)=aj n:=Zf h2;exact h (cM this▸hm)
def L9(F):keysOf (fdP F)=Za F:=(zn _ _ (by unfold fdP;rw[aH];rfl))
def zt(l)(n):(mC l n).1=n:=by
 unfold mC;cases e:l.find? λq=>decide (q.1=n) with
 |none=>rfl
 |some q=>have:=eV e;exact Zf this
structure Ho(L:List Ent)(N:List Str):Prop where
 ow:∀n e,mH L n=Za e->e.held.length<64/\∀x∈e.held.map (·.1),x∈N
 sm:∀n∈N,Sm n
 le:N.length<64
 hn:∀n,mj L n=true->n∈N
def Ho.sub(H:Ho L N)(y):∀x∈own L y,x∈N:=by
 unfold own;cases e:mH L y with
 |none=>exact λ_ z=>nomatch z
 |some e'=>exact λx z=>(H.ow y e' e).2 x ((lY _).mem_iff.mp z)
section
variable{T:Sto}{nb:Nat}{pp N:List Str}{L:List Ent}{h:Str}
def LZ(a)(hb:T.get nb=Za (.book pp L))(Qa:nb<T.nx)(u4 u5 u6)(F W)(q)(hF:F.length<100000)(hW:W.length<100000) :
  mQ (yTup 2 (yCons (yName 5) (yCons (yName 6) yNil))) (oX a) (qJ q) (rE nb h T u4 u5 u6) (rst T F W)=.nx (rE nb h T u4 (Za (.str q.1)) (Za (frP q.2))) (rst T (one1 L (F,W) q.1).1 (one1 L (F,W) q.1).2):=by
 have e0:mQ (yTup 2 (yCons (yName 5) (yCons (yName 6) yNil))) (oX a) (qJ q) (rE nb h T u4 u5 u6) (rst T F W)=oX a (rE nb h T u4 (Za (.str q.1)) (Za (frP q.2))) (rst T F W):=rfl;rw[e0];generalize q.1=n;generalize frP q.2=fr;have en:x2 (xVar 5) (xVar 2) wc (rE nb h T u4 (Za (.str n)) (Za fr)) (rst T F W)=.ok (.bl !decide (n∈F)) (rst T F W):=by
  rw[mq (lK rfl) (lK rfl)];show qp true _ _ _=_;unfold qp;have:dcOf (rst T F W) (.ref T.nx)=Za (fdP F):=by simp only[dcOf,Kx]
  rw[this];show Out.ok (PV.bl (Eu true (oZ (fdP F) (aj n)).isSome)) _=_;rw[L7];rfl
 unfold oX one1;by_cases c:n∈F
 ·rw[qK (oa (en.trans (by rw[Zg c];rfl))),Zc c];rfl
 ·rw[tS (oa (en.trans (by rw[Zh c];rfl))),Zd c];have p1:=y7 (fo:=xVar 2) (fi:=xVar 5) (fv:=xC (.bl true)) (Z:=rE nb h T u4 (Za (.str n)) (Za fr)) (s:=rst T F W) rfl (lK rfl) (lK rfl) (Kx T F W) (by unfold fdP;rw[ac];exact hF);rw[OF c,IB] at p1;refine lV p1 ?_;have bk:(rst T (F++[n]) W).get nb=Za (.book pp L):=by rw[Ft _ _ _ Qa];exact hb
  have ih:xBM 2 (qR a) (xVar 0) (xCons (xVar 5) xNil) (rE nb h T u4 (Za (.str n)) (Za fr)) (rst T (F++[n]) W)=.ok (.bl (mj L n)) (rst T (F++[n]) W):=by refine Eq.trans (qt (lK rfl) bk (lL (lK rfl) rfl) rfl) ?_;unfold qR m7;simp only[bk]
  cases hc:mj L n with
  |false =>
   rw[hc] at ih;rw[qK (oa ih)];rfl
  |true =>
   rw[hc] at ih;rw[tS (oa ih)];refine(wC (v:=.non) (s':=rst T (F++[n]) (W++[n])) ?_).trans rfl;unfold xAppend;rw[lK (i:=3) (v:=.ref (T.nx+1)) rfl];simp only[Out.bind,EO];rw[lL (lK (i:=5) (v:=.str n) rfl) (vs:=[]) rfl];simp only[EO];rw[Zc (by rw[ac];exact hW)];rw[<-DQ T (F++[n]) W (W++[n]),au];rfl
theorem Gh(a)(H:Ho L N)(hb:T.get nb=Za (.book pp L))(Qa:nb<T.nx)(hy:∀S,Cl L h S->∀x∈own L y,S x)(l)(u4):∀(ns F W:List Str)(u5 u6:Option PV),(∀x∈ns,x∈own L y)->Inv1 L N h F W->2*(N.length-F.length)+W.length<=1000 ->
  ∃v5 v6,nJ (mQ (yTup 2 (yCons (yName 5) (yCons (yName 6) yNil))) (oX a)) (ns.map λn=>qJ (mC l n)) (rE nb h T u4 u5 u6) (rst T F W)=.nx (rE nb h T u4 v5 v6) (rst T (qr L F W ns).1 (qr L F W ns).2)
 |[],F,W,u5,u6,_,_,_=>⟨u5,u6,rfl⟩
 |n::ns,F,W,u5,u6,Qq,I,hm=>by have le:=H.le;have fl:=C6 I.nd I.sub;have s1:=LZ (h:=h) a hb Qa u4 u5 u6 F W (mC l n) (by lia) (by lia);rw[zt] at s1;obtain⟨J,_,m1⟩:=uV hy (H.sub y) [n] F W (λx z=>Qq x (by rw[ap.mp z];exact ai)) I;have e1:qr L F W [n]=one1 L (F,W) n:=rfl;rw[e1] at J m1;obtain⟨v5,v6,k⟩:=Gh a H hb Qa hy l u4 ns _ _ (Za (.str n)) (Za (frP (mC l n).2)) (λx z=>Qq x (ae _ z)) J (by lia);refine⟨v5,v6,?_⟩;rw[al];unfold nJ;rw[s1];exact k
def rwalk(a)(H:Ho L N)(hb:T.get nb=Za (.book pp L))(Qa:nb<T.nx):∀(k:Nat)(F W:List Str)(u4 u5 u6:Option PV),Inv1 L N h F W->Done1 L h F W->2*(N.length-F.length)+W.length<=k->k<=1000 ->
  ∃n F' v4 v5 v6,mL (xTr (x2 (xVar 3) (xLst xNil) fNe)) (oo a) n (rE nb h T u4 u5 u6) (rst T F W)=.nx (rE nb h T v4 v5 v6) (rst T F' [])/\Rch L h F'/\∀x∈F',x∈N:=by
 intro k;induction k with
 |zero =>
  intro F W u4 u5 u6 I Dn hk _;have:W=[]:=cB.mp (by lia);subst this;refine⟨1,F,u4,u5,u6,?_,⟨I.nd,⟨λx z=>?_,λy hy x z=>?_⟩,I.mn⟩,I.sub⟩
  ·unfold mL;rw[oa (b:=false) (s1:=rst T F []) ((mq (lK rfl) rfl).trans (J4 (U:=[]) (λ_ z=>nomatch z) (EO T F [])))];rfl
  ·exact(Dn h (.inl rfl)).elim (λz=>nomatch z) λq=>q x z
  ·exact(Dn y (.inr hy)).elim (λz=>nomatch z) λq=>q x z
 |succ k ih =>
  intro F W u4 u5 u6 I Dn hk k1;have hc:xTr (x2 (xVar 3) (xLst xNil) fNe) (rE nb h T u4 u5 u6) (rst T F W)=.ok (decide (W≠[])) (rst T F W) :=
   oa ((mq (lK rfl) rfl).trans (J4 (λx z=>EG (H.sm x (H.hn x (I.wt x z)))) (EO T F W)))
  rcases List.eq_nil_or_concat W with rfl|⟨W0,y,rfl⟩
  ·refine⟨1,F,u4,u5,u6,?_,⟨I.nd,⟨λx z=>?_,λy hy x z=>?_⟩,I.mn⟩,I.sub⟩
   ·unfold mL;rw[hc];rfl
   ·exact(Dn h (.inl rfl)).elim (λz=>nomatch z) λq=>q x z
   ·exact(Dn y (.inr hy)).elim (λz=>nomatch z) λq=>q x z
  ·rw[List.concat_eq_append] at *;have yW:y∈W0++[y]:=by simp
   have RX:=I.wr y yW;have hy:∀S,Cl L h S->∀x∈own L y,S x:=λS hS x z=>by
    rcases RX with e|e
    ·rw[e] at z;exact hS.1 x z
    ·exact hS.2 y (I.mn S hS y e) x z
   have sb:∀x∈W0,x∈W0++[y]:=λx z=>aO _ z;have I0:Inv1 L N h F W0:=⟨I.nd,I.sub,λx z=>I.wt x (sb x z),I.mn,λx z=>I.wr x (sb x z)⟩;rw[aD,dQ] at hk;obtain⟨J,j1,j2⟩:=uV hy (H.sub y) (own L y) F W0 (λ_ z=>z) I0;obtain⟨t1,t2,t3⟩:=xt L (own L y) F W0;obtain⟨e,fe,oe⟩:∃e,mH L y=Za e/\own L y=srt (e.held.map (·.1)):=by have:=I.wt y yW;unfold mj at this;obtain⟨e,he⟩:=dw.mp this;exact⟨e,he,by unfold own;rw[he]⟩
   obtain⟨v5,v6,lp⟩:=Gh a H hb Qa hy e.held (Za (.str y)) (own L y) F W0 u5 u6 (λ_ z=>z) I0 (by lia);obtain⟨n,F',v4',v5',v6',q1,q2⟩:=ih _ _ (Za (.str y)) v5 v6 J (λz hz=>by
    have old:(z=h\/z∈F)->z∈(qr L F W0 (own L y)).2\/∀x∈own L z,x∈(qr L F W0 (own L y)).1:=λhz=>by
     rcases Dn z hz with d|d
     ·rcases aJ.mp d with d|d
      ·exact .inl (t2 z d)
      ·rw[ap.mp d];exact .inr t3
     ·exact .inr λx hx=>t1 x (d x hx)
    rcases hz with hz|hz
    ·exact old (.inl hz)
    ·rcases j1 z hz with d|d|d
     ·exact old (.inr d)
     ·exact .inl d
     ·exact .inr (by rw[C0 d];exact λ_ z=>nomatch z)) (by lia) (by lia)
   have bd:oo a (rE nb h T u4 u5 u6) (rst T F (W0++[y]))=.nx (rE nb h T (Za (.str y)) v5 v6) (rst T (qr L F W0 (own L y)).1 (qr L F W0 (own L y)).2):=by
    unfold oo;have pop:HQ (xVar 3) (rE nb h T u4 u5 u6) (rst T F (W0++[y]))=.ok (.str y) (rst T F W0):=by unfold HQ;rw[lK (i:=3) (v:=.ref (T.nx+1)) rfl];simp only[Out.bind,EO];rw[au,al,dA,aD,dQ,Nat.add_sub_cancel,cG (ao _),Nat.sub_self];simp only[fj,List.dropLast_concat];rw[DQ]
    refine lV (me pop) ?_;have bk:(rst T F W0).get nb=Za (.book pp L):=by rw[Ft _ _ _ Qa];exact hb
    have sh:nF a [.ref nb,.str y] (rst T F W0)=.ok (qf e.held) (rst T F W0):=by simp only[nF,m7,bk];rw[Zc (H.sm y (H.hn y (I.wt y yW))).nm,fe];exact Zc (H.ow y e fe).1
    refine qG (nz (l:=(srt (e.held.map (·.1))).map λn=>qJ (mC e.held n)) ((qt (lK rfl) bk (lL (lK rfl) rfl) rfl).trans sh)) ?_;rw[<-oe];exact lp
   refine⟨n+1,F',v4',v5',v6',?_,q2⟩;unfold mL;rw[hc,Zg (by simp)];show(match oo a (rE nb h T u4 u5 u6) (rst T F (W0++[y])) with
    |.nx ρ' s'=>mL (xTr (x2 (xVar 3) (xLst xNil) fNe)) (oo a) n ρ' s'
    |.ct ρ' s'=>mL (xTr (x2 (xVar 3) (xLst xNil) fNe)) (oo a) n ρ' s'
    |.bk ρ' s'=>.nx ρ' s'
    |o=>o)=_
   rw[bd];exact q1
def IZ(a)(hb:T.get nb=Za (.book pp L))(hh:mj L h=true)(hs:Nm h):pj a [.ref nb,.str h] T=.ok .non T:=by simp only[pj,m7,hb];rw[Zc hs,Zc hh]
def EQ(a)(H:Ho L N)(hb:T.get nb=Za (.book pp L))(Qa:nb<T.nx)(hh:mj L h=true):∃F,xJ a [.ref nb,.str h] T=.ok (.ref (T.nx+2)) ((rst T F []).add (.lst ((srt F).map .str)))/\Rch L h F/\∀x∈F,x∈N:=by
 have sh:=H.sm h (H.hn h hh);obtain⟨n,F,v4,v5,v6,e,R,fN⟩:=rwalk (h:=h) a H hb Qa (2*N.length+1) [] [h] Zb Zb Zb ⟨.nil,(λ_ z=>nomatch z),(λx z=>by rw[ap.mp z];exact hh),(λ_ _ _ z=>nomatch z),λx z=>.inl (ap.mp z)⟩ (λy hy=>.inl (by rcases hy with e|e;exact ap.mpr e;cases e)) (by simp) (by have:=H.le;lia);refine⟨F,mK ?_,R,fN⟩;unfold BB;refine lV (wC ((qt (lK rfl) hb (lL (lK rfl) rfl) rfl).trans (IZ a hb hh sh.nm))) ?_;refine lV (me (v:=.ref T.nx) (s':=T.add (.dct [])) rfl) ?_;refine lV (me (v:=.ref (T.nx+1)) (s':=rst T [] [h]) rfl) ?_;refine lV (Il e) ?_;refine nO ((vK (lL (lK rfl) rfl)).trans ?_);unfold wz;have:dcOf (rst T F []) (.ref T.nx)=Za (fdP F):=by simp only[dcOf,Kx]
 simp only[this,L9];rw[Zc (aX (C6 R.nd fN) H.le)];rfl
end
abbrev LI(l:List Int):PV:=.lst (l.map .int)
theorem BO(g):∀(l k:List Int),(∀x∈l,∀y∈k,e (Za (.int x)::Za (.int y)::cap) s=.ok (.int (g x y)) s)->mP m9 e cap (tX (l.map .int) (k.map .int)) s=.ok ((kr g l k).map .int) s
 |[],_,_=>rfl
 |_::_,[],_=>rfl
 |x::l,y::k,h=>by
  have ih:=BO g l k λx' hx y' hy=>h x' (ae _ hx) y' (ae _ hy);have h0:=h x ai y ai;rw[al,al];show mP m9 e cap (.tup [.int x,.int y]::tX (l.map .int) (k.map .int)) s=_;unfold mP;show(match m9 (Za (.int x)::Za (.int y)::cap) s with
   |.ok true s1=>match e (Za (.int x)::Za (.int y)::cap) s1 with
    |.ok v s2=>match mP m9 e cap (tX (l.map .int) (k.map .int)) s2 with
     |.ok vs s3=>Out.ok (v::vs) s3
     |_=>.bad
    |_=>.bad
   |.ok false s1=>mP m9 e cap (tX (l.map .int) (k.map .int)) s1
   |_=>.bad)=_
  simp only[m9,h0,ih];rfl
def C7(h:l[i]?=Za x):fIx (LI l) (.int (i:Nat)) t=.ok (.int x) t:=by have:atI (l.map PV.int) (i:Int)=Za (.int x):=mY (by rw[aC,h];rfl);simp[fIx,lsOf,this]
def clr(p r d:Int)(row PM:List Int):List Int:=kr (λx y=>(p*x-r*y)/d) row PM
def AN(h1:f Z s=.ok (.int i) s1)(h2:g Z s1=.ok (.int j) s2)(hd:zC j):x2 f g fDiv Z s=.ok (.int (i/j)) s2:=by rw[mq h1 h2];exact Zc hd
def J5(h1:f Z s=.ok (.int i) s1)(h2:g Z s1=.ok (.int j) s2)(hm:qq i j):x2 f g fMul Z s=.ok (.int (i*j)) s2:=by rw[mq h1 h2];exact Zc hm
def ND(h1:f Z s=.ok (.int i) s1)(h2:g Z s1=.ok (.int j) s2):x2 f g fSub Z s=.ok (.int (i-j)) s2:=by rw[mq h1 h2];rfl
def Fh(a)(s)(hl:row.length<=1000)(hb:PM.length<=1000)(hp:PM[t]?=Za p)(hr:row[t]?=Za r)(hd:zC d)(m1:∀x∈row,qq p x)(m2:∀y∈PM,qq r y) :
  sD a [LI row,LI PM,.int (t:Nat),.int d] s=.ok (LI (clr p r d row PM)) s:=by
 refine mK ?_;unfold BC;refine nO ?_;have c:=BO (s:=s) (cap:=[Za (.int d),Za (LI PM),Za (.int (t:Nat)),Za (LI row)]) (e:=x2 (x2 (x2 (x2 (xVar 3) (xVar 4) fIx) (xVar 0) fMul) (x2 (x2 (xVar 5) (xVar 4) fIx) (xVar 1) fMul) fSub) (xVar 2) fDiv) (λx y=>(p*x-r*y)/d) row PM λx hx y hy =>
  AN (ND (J5 ((mq (lK rfl) (lK rfl)).trans (C7 hp)) (lK rfl) (m1 x hx)) (J5 ((mq (lK rfl) (lK rfl)).trans (C7 hr)) (lK rfl) (m2 y hy))) (lK rfl) hd
 unfold oV;have z:Ev (xCons (xVar 0) (xCons (xVar 1) xNil)) ([LI row,LI PM,PV.int (t:Nat),.int d].map Za++aR (4-4) Zb) s=.ok (tX (row.map .int) (PM.map .int)) s:=by unfold Ev;rw[lL (lK (v:=LI row) rfl) (lL (lK (v:=LI PM) rfl) rfl)];rfl
 show((Ev (xCons (xVar 0) (xCons (xVar 1) xNil)) ([LI row,LI PM,PV.int (t:Nat),.int d].map Za++aR (4-4) Zb) s).bind _)=_;rw[z];show(if(tX (row.map PV.int) (PM.map PV.int)).length<=100000 then _ else _)=_;rw[Zc (by rw[zT,ac,ac];lia)];show(mP m9 _ [Za (.int d),Za (LI PM),Za (.int (t:Nat)),Za (LI row)] (tX (row.map PV.int) (PM.map PV.int)) s).bind _=_;rw[c];rfl
theorem zK(g:Nat->List Int->List Int):∀(M:List (List Int))(k:Nat),(∀i row,M[i]?=Za row->e (Za (.int ((k+i:Nat):Int))::Za (LI row)::cap) s=.ok (LI (g (k+i) row)) s)->mP m9 e cap (qY k (M.map LI)) s=.ok ((M.mapIdx λi row=>g (k+i) row).map LI) s
 |[],_,_=>rfl
 |row::M,k,h=>by
  have ih:=zK (e:=e) (cap:=cap) (s:=s) g M (k+1) λi q' hq=>by have:=h (i+1) q' hq;rw[show k+(i+1)=k+1+i by lia] at this;exact this
  have h0:=h 0 row rfl;rw[Nat.add_zero] at h0;show mP m9 e cap (.tup [.int (k:Nat),LI row]::qY (k+1) (M.map LI)) s=_;unfold mP;show(match m9 (Za (.int (k:Nat))::Za (LI row)::cap) s with
   |.ok true s1=>match e (Za (.int (k:Nat))::Za (LI row)::cap) s1 with
    |.ok v s2=>match mP m9 e cap (qY (k+1) (M.map LI)) s2 with
     |.ok vs s3=>Out.ok (v::vs) s3
     |_=>.bad
    |_=>.bad
   |.ok false s1=>mP m9 e cap (qY (k+1) (M.map LI)) s1
   |_=>.bad)=_
  simp only[m9,h0,ih];rw[List.mapIdx_cons,al];have e2:(λ(i:Nat)(row:List Int)=>g (k+1+i) row)=λi row=>g (k+(i+1)) row:=by
   funext i row
   rw[show k+1+i=k+(i+1) by lia]
  rw[e2];rfl
abbrev LL(M:List (List Int)):PV:=.lst (M.map LI)
def at2(M:List (List Int))(i j:Nat):Int:=(((M[i]?).getD [])[j]?).getD 0
def nxt(t:Nat)(d:Int)(M:List (List Int)):List (List Int):=M.mapIdx λi row=>if i=t then row else clr (at2 M t t) ((row[t]?).getD 0) d row ((M[t]?).getD [])
def bmL(M:List (List Int)):Nat->Int×List (List Int)
 |0=>(1,M)
 |t+1=>(at2 (bmL M t).2 t t,nxt t (bmL M t).1 (bmL M t).2)
structure Rows(n w:Nat)(q:Int×List (List Int)):Prop where
 n:q.2.length=n
 w:∀row∈q.2,row.length=w
 b:∀row∈q.2,∀x∈row,Bt 20000 x
 d:zC q.1
def KW(a:Adr)(s:Sto)(R:Rows n w q)(hn:n<=1000)(hw:w<=1000)(ht:t<n)(Ue:n<=w)(rows:PV)(u4:Option PV) :
  tI a [Za rows,Za (.int q.1),Za (LL q.2),Za (.int (t:Nat)),u4] s=.nx [Za rows,Za (.int (at2 q.2 t t)),Za (LL (nxt t q.1 q.2)),Za (.int (t:Nat)),Za (LI ((q.2[t]?).getD []))] s:=by
 obtain⟨PM,hM⟩:∃r,q.2[t]?=Za r:=⟨_,aw (by rw[R.n];exact ht)⟩;have Vn:PM∈q.2:=bX.mpr ⟨t,hM⟩;have hbl:=R.w PM Vn;have hp:PM[t]?=Za (at2 q.2 t t):=by unfold at2;rw[hM];show PM[t]?=Za ((PM[t]?).getD 0);rw[aw (by lia)];rfl
 unfold tI;refine lV (me (v:=LI PM) (s':=s) ((mq (lK rfl) (lK rfl)).trans ?_)) ?_
 ·have:atI (q.2.map LI) (t:Int)=Za (LI PM):=mY (by rw[aC,hM];rfl);simp[fIx,lsOf,this]
 have lt:∀{row:List Int},row∈q.2->row[t]?=Za ((row[t]?).getD 0):=λ{row} hr=>by have:=R.w row hr;rw[aw (by lia)];rfl
 have c:=zK (s:=s) (cap:=[Za (.int (t:Nat)),Za (LI PM),Za (.int q.1)]) (e:=xIfe (xTr (x2 (xVar 0) (xVar 2) fEq)) (xVar 1) (xCall 4 (sD a) (xCons (xVar 1) (xCons (xVar 3) (xCons (xVar 2) (xCons (xVar 4) xNil))))))
  (λi row=>if i=t then row else clr (at2 q.2 t t) ((row[t]?).getD 0) q.1 row PM) q.2 0 λi row U5=>by
   have hm:row∈q.2:=bX.mpr ⟨i,U5⟩;have eq:xTr (x2 (xVar 0) (xVar 2) fEq) [Za (.int ((0+i:Nat):Int)),Za (LI row),Za (.int (t:Nat)),Za (LI PM),Za (.int q.1)] s=.ok (decide (i=t)) s:=by
    unfold xTr;rw[mq (lK rfl) (lK rfl),fF];show(fEqN false _ _ _).bind _=_;unfold fEqN;rw[oB,oB];show(Out.ok (PV.bl (bH (.int (i:Int)) (.int (t:Int)))) s).bind _=_;rw[qL];show Out.ok (((i:Int)==(t:Int))) s=_
    congr 1
    rw[bS,beq_iff_eq,decide_eq_true_iff];lia
   unfold xIfe;rw[eq,fF];by_cases z:i=t
   ·rw[Zg z,Zc z];rfl
   ·rw[Zh z,Zd z];have hl:=R.w row hm;show xCall 4 (sD a) (xCons (xVar 1) (xCons (xVar 3) (xCons (xVar 2) (xCons (xVar 4) xNil)))) [Za (.int (i:Int)),Za (LI row),Za (.int (t:Nat)),Za (LI PM),Za (.int q.1)] s=_;exact l9 (lL (lK rfl) (lL (lK rfl) (lL (lK rfl) (lL (lK rfl) rfl)))) rfl (Fh a s (by lia) (by lia) hp (lt hm) R.d (λx hx=>.inl ⟨R.b PM Vn _ (bX.mpr ⟨t,hp⟩),R.b row hm x hx⟩) (λy hy=>.inl ⟨R.b row hm _ (bX.mpr ⟨t,lt hm⟩),R.b PM Vn y hy⟩))
 have nx:nxt t q.1 q.2=q.2.mapIdx λi row=>if 0+i=t then row else clr (at2 q.2 t t) ((row[t]?).getD 0) q.1 row PM:=by
  unfold nxt;rw[hM]
  congr 1
  funext i row
  rw[fF];rfl
 rw[<-nx] at c;refine lV (me (v:=LL (nxt t q.1 q.2)) (s':=s) ?_) ((me ((mq (lK rfl) (lK rfl)).trans (C7 hp))).trans (by rw[hM];rfl));unfold oV;have z:wk (xCons (xVar 2) xNil) [Za rows,Za (.int q.1),Za (LL q.2),Za (.int (t:Nat)),Za (LI PM)] s=.ok (qY 0 (q.2.map LI)) s:=by unfold wk;rw[lL (lK (v:=LL q.2) rfl) rfl];rfl
 show((wk (xCons (xVar 2) xNil) [Za rows,Za (.int q.1),Za (LL q.2),Za (.int (t:Nat)),Za (LI PM)] s).bind _)=_;rw[z];show(if(qY 0 (q.2.map LI)).length<=100000 then _ else _)=_;rw[Zc (by rw[su,ac,R.n];lia)];show(mP m9 _ [Za (.int (t:Nat)),Za (LI PM),Za (.int q.1)] (qY 0 (q.2.map LI)) s).bind _=_;rw[c];rfl
def Jy(ws:List PV)(k:Nat)(hk:k<=ws.length):CP ws (Za (k:Int)) Zb=ws.drop k:=by
 unfold CP;have e1:HT.sIx ws.length 0 (Za (k:Int))=k:=by
  simp[HT.sIx];split
  ·omega
  ·exact Nat.min_eq_left hk
 have e2:HT.sIx ws.length ws.length Zb=ws.length:=rfl;rw[e1,e2];exact gS (by rw[gJ];omega)
def Hz(h:f Z s=.ok (.lst l) s1):xIter f Z s=.ok l s1:=by unfold xIter;rw[h];rfl
def GT(a:Adr)(s:Sto)(hn:n<=1000)(hw:w<=1000)(Ue:n<=w)(R:∀t,t<=n->Rows n w (bmL rows t)):wF a [LL rows] s=.ok (.tup [LL ((bmL rows n).2.map (·.drop n)),.int (bmL rows n).1]) s:=by
 have len:rows.length=n:=(R 0 (a7 _)).n;obtain⟨ρ',s',lp,u3,u4,rfl,rfl⟩:=uM (body:=mQ (yName 3) (tI a)) n
  (λk Z s'=>∃u3 u4,Z=[Za (LL rows),Za (.int (bmL rows k).1),Za (LL (bmL rows k).2),u3,u4]/\s'=s)
  (λk Z s' hk hI=>by obtain⟨u3,u4,rfl,rfl⟩:=hI;exact⟨_,_,(o5 (i:=3)).trans (KW a s' (R k (dN hk)) hn hw hk Ue (LL rows) u4),_,_,rfl,rfl⟩) (Z:=[Za (LL rows),Za (.int 1),Za (LL rows),Zb,Zb]) (s:=s) ⟨Zb,Zb,rfl,rfl⟩
 refine mK ?_;unfold Eb;have ln:∀(Z:En)(s:Sto)(i:Nat),Z[i]?=Za (Za (LL rows))->xB (xCons (xVar i) xNil) fLen Z s=.ok (.int (n:Nat)) s:=λZ s i h=>by rw[vK (lL (lK h) rfl)];show fLen [.lst (rows.map LI)] s=_;simp[fLen,lsOf,len]
 refine lV (me (v:=.int 1) (s':=s') rfl) ?_;refine lV (me (v:=LL rows) (s':=s') (lK rfl)) ?_;refine lV (qG (vd (n:=n) (lL (ln _ _ 0 rfl) rfl) (by omega)) lp) ?_;have c:=sC (s:=s') (cap:=[Za (LL rows)]) (c:=m9) (e:=xSl (xVar 0) (xPart (xB (xCons (xVar 1) xNil) fLen)) xNoP) (λ_=>true) (λp=>match p with|.lst l=>.lst (l.drop n)|p=>p) ((bmL rows n).2.map LI) (λq _=>rfl) (λq hq _=>by obtain⟨row,hr,rfl⟩:=ah.mp hq;have hl:=(R n (ao _)).w row hr;have cd:=Jy (row.map PV.int) n (by rw[ac];omega);have l1:=ln [Za (LI row),Za (LL rows)] s' 1 rfl;simp only[xSl,xVar,fj,Out.bind,xPart,l1,xNoP,fSl,lsOf,cd])
 have e1:((((bmL rows n).2.map LI).filter λ_=>true).map λp=>match p with|.lst l=>PV.lst (l.drop n)|p=>p)=((bmL rows n).2.map (·.drop n)).map LI:=by
  rw[iG.mpr (λ_ _=>rfl),aH,aH];exact aV λrow _=>by show PV.lst ((row.map PV.int).drop n)=PV.lst ((row.drop n).map PV.int);rw[List.map_drop]
 rw[e1] at c;exact nO (tO (lL (pL (l:=(bmL rows n).2.map LI) (s1:=s') (Hz (lK rfl)) (by rw[ac,(R n (ao _)).n];omega) c) (lL (lK rfl) rfl)))
end My
namespace El
def sm(f:Nat->Rat):Nat->Rat
 |0=>0
 |n+1=>sm f n+f n
theorem sm_congr:∀{n:Nat},(∀k,k<n->f k=g k)->sm f n=sm g n
 |0,_=>rfl
 |n+1,h=>by unfold sm;rw[sm_congr λk hk=>h k (by lia),h n (by lia)]
theorem sm_lin(a c)(f g):∀n:Nat,sm (λk=>a*f k+c*g k) n=a*sm f n+c*sm g n
 |0=>by unfold sm;grind
 |n+1=>by unfold sm;rw[sm_lin a c f g n];grind
theorem sm_mul(a)(f):∀n:Nat,sm (λk=>a*f k) n=a*sm f n
 |0=>by unfold sm;grind
 |n+1=>by unfold sm;rw[sm_mul a f n];grind
theorem sm_zero:∀{n:Nat},(∀k,k<n->f k=0)->sm f n=0
 |0,_=>rfl
 |n+1,h=>by unfold sm;rw[sm_zero λk hk=>h k (by lia),h n (by lia)];grind
theorem sm_one:∀{n:Nat},p<n->(∀k,k<n->k≠p->f k=0)->sm f n=f p
 |0,hp,_=>absurd hp (by lia)
 |n+1,hp,h=>by
  unfold sm;by_cases c:p=n
  ·subst c;rw[sm_zero λk hk=>h k (by lia) (by lia)];grind
  ·rw[sm_one (p:=p) (by lia) λk hk=>h k (by lia),h n (by lia) (by lia)];grind
theorem JS(hpq:p<q):∀{n:Nat},q<n->(∀k,k<n->k≠p->k≠q->f k=0)->sm f n=f p+f q
 |0,hp,_=>absurd hp (by lia)
 |n+1,hp,h=>by
  unfold sm;by_cases c:q=n
  ·subst c;rw[sm_one hpq λk hk z=>h k (by lia) z (by lia)]
  ·rw[JS hpq (by lia) λk hk=>h k (by lia),h n (by lia) (by lia) (by lia)];grind
def skip(j k:Nat):Nat:=if k<j then k else k+1
def sg(j:Nat):Rat:=if j%2=0 then 1 else -1
def K6(j):sg (j+1)=- sg j:=by
 unfold sg;rcases jM j with h|h
 ·rw[Zd (by lia),Zc h]
 ·rw[Zc (by lia),Zd (by lia)];grind
def dt:Nat->(Nat->Nat->Rat)->Rat
 |0,_=>1
 |n+1,M=>sm (λj=>sg j*M 0 j*dt n (λi k=>M (i+1) (skip j k))) (n+1)
def upd(M:Nat->Nat->Rat)(p:Nat)(b:Nat->Rat):Nat->Nat->Rat:=λi k=>if k=p then b i else M i k
theorem wA:∀{n:Nat}{M N:Nat->Nat->Rat},(∀i,i<n->∀k,k<n->M i k=N i k)->dt n M=dt n N
 |0,_,_,_=>rfl
 |n+1,M,N,h=>by unfold dt;refine sm_congr λj hj=>?_;rw[h 0 (by lia) j hj,wA (n:=n) λi hi k hk=>h (i+1) (by lia) (skip j k) (by unfold skip;split<;>lia)]
theorem dt_lin:∀{n:Nat}{M:Nat->Nat->Rat}{p:Nat}(a c:Rat)(u v:Nat->Rat),p<n->dt n (upd M p λi=>a*u i+c*v i)=a*dt n (upd M p u)+c*dt n (upd M p v)
 |0,_,_,_,_,_,_,hp=>absurd hp (by lia)
 |n+1,M,p,a,c,u,v,hp=>by
  unfold dt;rw[<-sm_lin];refine sm_congr λj hj=>?_;by_cases e:j=p
  ·subst e;have mi:∀w:Nat->Rat,(λi k=>upd M j w (i+1) (skip j k))=λi k=>M (i+1) (skip j k):=λw=>by
    funext i k
    unfold upd;rw[Zd (by unfold skip;split<;>lia)]
   rw[mi,mi,mi];unfold upd;rw[Zc rfl,Zc rfl,Zc rfl]
   grind
  ·have mi:∀w:Nat->Rat,(λi k=>upd M p w (i+1) (skip j k))=upd (λi k=>M (i+1) (skip j k)) (if p<j then p else p-1) λi=>w (i+1):=λw=>by
    funext i k
    unfold upd;have:skip j k=p↔k=if p<j then p else p-1:=by unfold skip;split<;>split<;>lia
    by_cases z:skip j k=p
    ·rw[Zc z,Zc (this.mp z)]
    ·rw[Zd z,Zd λy=>z (this.mpr y)]
   rw[mi,mi,mi,dt_lin a c (λi=>u (i+1)) (λi=>v (i+1)) (by split<;>lia)];unfold upd;rw[Zd e,Zd e,Zd e]
   grind
theorem FB:∀{n:Nat}{M:Nat->Nat->Rat}{p:Nat},p+1<n->(∀i,M i p=M i (p+1))->dt n M=0
 |0,_,_,hp,_=>absurd hp (by lia)
 |n+1,M,p,hp,h=>by
  unfold dt;rw[JS (p:=p) (q:=p+1) (by lia) hp]
  ·have mi:(λi k=>M (i+1) (skip p k))=λi k=>M (i+1) (skip (p+1) k):=by
    funext i k
    by_cases c:k=p
    ·subst c;have e1:skip k k=k+1:=by unfold skip;split<;>lia
     have e2:skip (k+1) k=k:=by unfold skip;split<;>lia
     rw[e1,e2,h]
    ·have:skip p k=skip (p+1) k:=by unfold skip;split<;>split<;>lia
     rw[this]
   rw[mi,K6,h 0]
   grind
  ·intro j hj h1 h2;rw[FB (n:=n) (p:=if p<j then p else p-1) (by split<;>lia)]
   ·grind
   ·intro i;have e1:skip j (if p<j then p else p-1)=p:=by unfold skip;split<;>(try split)<;>lia
    have e2:skip j ((if p<j then p else p-1)+1)=p+1:=by unfold skip;split<;>(try split)<;>lia
    rw[e1,e2];exact h _
def wI(M)(h:p≠q)(u v):upd (upd M p u) q v=upd (upd M q v) p u:=by
 funext i k
 unfold upd;by_cases a:k=q
 ·rw[Zc a,Zd (by lia),Zc a]
 ·rw[Zd a];split<;>rfl
def Mf(hp:p+1<n):dt n (upd (upd M p λi=>M i (p+1)) (p+1) λi=>M i p)=- dt n M:=by
 let F:=λu v:Nat->Rat=>dt n (upd (upd M p u) (p+1) v);have hF:∀u,F u u=0:=λu=>FB hp λi=>by unfold upd;rw[Zd (by lia),Zc rfl,Zc rfl]
 have l2:∀u v w,F u (λi=>1*v i+1*w i)=1*F u v+1*F u w:=λu v w=>dt_lin 1 1 v w hp;have l1:∀u v w,F (λi=>1*v i+1*w i) u=1*F v u+1*F w u:=λu v w=>by show dt n _=1*dt n _+1*dt n _;rw[wI M (show p≠p+1 by lia) _ u,wI M (show p≠p+1 by lia) v u,wI M (show p≠p+1 by lia) w u];exact dt_lin 1 1 v w (by lia)
 have e:=hF λi=>1*M i p+1*M i (p+1);rw[l1,l2,l2,hF,hF] at e;have e1:F (λi=>M i p) (λi=>M i (p+1))=dt n M:=by
  show dt n _=_
  congr 1
  funext i k
  unfold upd;split
  ·rename_i z;rw[z]
  ·split
   ·rename_i z;rw[z]
   ·rfl
 rw[e1] at e;show F _ _=_
 grind
theorem KI:∀(d:Nat){M:Nat->Nat->Rat}{p:Nat},p+d+1<n->(∀i,M i p=M i (p+d+1))->dt n M=0
 |0,_,_,hp,h=>FB hp h
 |d+1,M,p,hp,h=>by
  have e:=Mf (M:=M) (p:=p+d+1) hp;have z:=KI (n:=n) d (M:=upd (upd M (p+d+1) λi=>M i (p+d+1+1)) (p+d+1+1) λi=>M i (p+d+1)) (p:=p) (by lia) λi=>by unfold upd;rw[Zd (by lia),Zd (by lia),Zd (by lia),Zc rfl];exact h i
  rw[z] at e
  grind
def Mg(hp:p<n)(hq:q<n)(h:p≠q)(e:∀i,M i p=M i q):dt n M=0:=by
 rcases Nat.lt_or_gt_of_ne h with c|c
 ·obtain⟨d,rfl⟩:∃d,q=p+d+1:=⟨q-p-1,by lia⟩;exact KI d hq e
 ·obtain⟨d,rfl⟩:∃d,p=q+d+1:=⟨p-q-1,by lia⟩;exact KI d hp λi=>(e i).symm
theorem Ki(hp:p<n)(x:Nat->Rat)(C:Nat->Nat->Rat):∀m:Nat,dt n (upd M p λi=>sm (λl=>x l*C i l) m)=sm (λl=>x l*dt n (upd M p λi=>C i l)) m
 |0=>by
  have:=dt_lin (M:=M) 0 0 (λ_=>0) (λ_=>0) hp;unfold sm;have e:(λi:Nat=>(0:Rat)*(λ_:Nat=>(0:Rat)) i+0*(λ_:Nat=>(0:Rat)) i)=λ_=>0:=by funext i;grind
  rw[e] at this
  grind
 |m+1=>by
  have:=dt_lin (M:=M) 1 (x m) (λi=>sm (λl=>x l*C i l) m) (λi=>C i m) hp;unfold sm;rw[Ki hp x C m] at this;have e:(λi=>sm (λl=>x l*C i l) m+x m*C i m)=λi=>1*(λi=>sm (λl=>x l*C i l) m) i+x m*(λi=>C i m) i:=by funext i;grind
  rw[e,this]
  grind
def cramer(hp:p<n)(x b:Nat->Rat)(h:∀i,i<n->b i=sm (λl=>x l*M i l) n):dt n (upd M p b)=x p*dt n M:=by
 have e1:dt n (upd M p b)=dt n (upd M p λi=>sm (λl=>x l*M i l) n):=wA λi hi k hk=>by
  unfold upd;split
  ·exact h i hi
  ·rfl
 rw[e1,Ki hp x M n,sm_one (p:=p) hp]
 ·congr 2
  funext i k
  unfold upd;split
  ·rename_i z;rw[z]
  ·rfl
 ·intro k hk z;rw[Mg (p:=p) (q:=k) hp hk (by lia)]
  ·grind
  ·intro i;unfold upd;rw[Zc rfl,Zd z]
def Gs(x:Nat->Rat):dt (n+1) (upd M n λi=>M i n-sm (λl=>x l*M i l) n)=dt (n+1) M:=by
 have e:=cramer (n:=n+1) (M:=M) (p:=n) (by lia) (λl=>if l=n then 1 else-x l) (λi=>M i n-sm (λl=>x l*M i l) n) λi _=>by
  show M i n-sm (λl=>x l*M i l) n=sm (λl=>(if l=n then 1 else-x l)*M i l) n+(if n=n then 1 else-x n)*M i n;rw[Zc rfl];have:sm (λl=>(if l=n then 1 else-x l)*M i l) n=(-1)*sm (λl=>x l*M i l) n:=by rw[<-sm_mul];exact sm_congr λk hk=>by rw[Zd (by lia)];grind
  rw[this]
  grind
 rw[e,Zc rfl]
 grind
theorem CK:∀{n:Nat}{M:Nat->Nat->Rat},(∀i,i<n->M i n=0)->dt (n+1) M=M n n*dt n M
 |0,M,_=>by
  show sm (λj=>sg j*M 0 j*1) 1=M 0 0*1;unfold sm sm sg;simp
  grind
 |n+1,M,h=>by
  have e:dt (n+2) M=sm (λj=>sg j*M 0 j*dt (n+1) (λi k=>M (i+1) (skip j k))) (n+2):=rfl;have e2:dt (n+1) M=sm (λj=>sg j*M 0 j*dt n (λi k=>M (i+1) (skip j k))) (n+1):=rfl;rw[e,e2,<-sm_mul];show sm _ (n+1)+sg (n+1)*M 0 (n+1)*_=_;rw[h 0 (by lia),sm_congr (g:=λj=>M (n+1) (n+1)*(sg j*M 0 j*dt n (λi k=>M (i+1) (skip j k)))) λj hj=>?_]
  ·grind
  ·have sk:skip j n=n+1:=by unfold skip;split<;>lia
   rw[CK (n:=n) (M:=λi k=>M (i+1) (skip j k)) λi hi=>by rw[sk];exact h (i+1) (by lia),sk]
   grind
def isI(q:Rat):Prop:=∃z:Int,q=(z:Rat)
def isI.add:isI a->isI b->isI (a+b):=λ⟨x,h⟩ ⟨y,k⟩=>⟨x+y,by rw[h,k];exact(hJ x y).symm⟩
def isI.mul:isI a->isI b->isI (a*b):=λ⟨x,h⟩ ⟨y,k⟩=>⟨x*y,by rw[h,k];exact(cU x y).symm⟩
def isI.sub:isI a->isI b->isI (a-b):=λ⟨x,h⟩ ⟨y,k⟩=>⟨x-y,by rw[h,k];exact(g9 x y).symm⟩
theorem Fx:∀{n:Nat},(∀k,k<n->isI (f k))->isI (sm f n)
 |0,_=>⟨0,rfl⟩
 |n+1,h=>(Fx λk hk=>h k (by lia)).add (h n (by lia))
def Ox(j):isI (sg j):=by
 unfold sg;split
 ·exact⟨1,rfl⟩
 ·exact⟨-1,rfl⟩
theorem Fy:∀{n:Nat}{M:Nat->Nat->Rat},(∀i k,isI (M i k))->isI (dt n M)
 |0,_,_=>⟨1,rfl⟩
 |n+1,M,h=>Fx λj _=>((Ox j).mul (h 0 j)).mul (Fy λi k=>h _ _)
structure Cl(A:Nat->Nat->Rat)(t:Nat)(d:Rat)(M X:Nat->Nat->Rat):Prop where
 d0:d≠0
 dt:d=dt t A
 so:∀i,i<t->∀j,sm (λl=>X l j*A i l) t=A i j
 up:∀i,i<t->∀j,M i j=d*X i j
 lo:∀i,t<=i->∀j,M i j=d*(A i j-sm (λl=>X l j*A i l) t)
def nextM(t:Nat)(d:Rat)(M:Nat->Nat->Rat):Nat->Nat->Rat:=λi j=>if i=t then M t j else(M t t*M i j-M i t*M t j)/d
def Cl.zero(A):Cl A 0 1 A λ_ _=>0:=⟨by decide,rfl,λi h=>absurd h (by lia),λi h=>absurd h (by lia),λi _ j=>by show A i j=1*(A i j-0);grind⟩
def Cl.next(C:Cl A t d M X)(hp:M t t≠0):∃X',Cl A (t+1) (M t t) (nextM t d M) X':=by
 have d0:=C.d0;have hs:M t t=d*(A t t-sm (λl=>X l t*A t l) t):=C.lo t (ao _) t;generalize hsd:A t t-sm (λl=>X l t*A t l) t=s at hs;have s0:s≠0:=λz=>hp (by rw[hs,z];grind);let y:=λj=>(A t j-sm (λl=>X l j*A t l) t)/s;have hy:∀j,s*y j=A t j-sm (λl=>X l j*A t l) t:=λj=>by show s*(_/s)=_;grind
 let X':Nat->Nat->Rat:=λi j=>if i=t then y j else X i j-X i t*y j
 have hX:∀(c:Nat->Rat)(j:Nat),sm (λl=>X' l j*c l) (t+1)=sm (λl=>X l j*c l) t-y j*sm (λl=>X l t*c l) t+y j*c t:=λc j=>by
  show sm (λl=>X' l j*c l) t+X' t j*c t=_;have e:sm (λl=>X' l j*c l) t=sm (λl=>1*(X l j*c l)+(- y j)*(X l t*c l)) t:=sm_congr λk hk=>by
   show(if k=t then y j else X k j-X k t*y j)*c k=_;rw[Zd (by lia)]
   grind
  rw[e,sm_lin];show _+(if t=t then y j else _)*c t=_;rw[Zc rfl]
  grind
 refine⟨X',hp,?_,λi hi j=>?_,λi hi j=>?_,λi hi j=>?_⟩
 ·rw[<-Gs (n:=t) (M:=A) λl=>X l t,CK]
  ·have e:El.dt t (upd A t λi=>A i t-sm (λl=>X l t*A i l) t)=El.dt t A:=wA λi hi k hk=>by unfold upd;rw[Zd (by lia)]
   rw[e,<-C.dt];unfold upd;rw[Zc rfl];show M t t=(A t t-sm (λl=>X l t*A t l) t)*d;rw[hsd,hs]
   grind
  ·intro i hi;unfold upd;rw[Zc rfl];show A i t-sm (λl=>X l t*A i l) t=0;rw[C.so i hi t]
   grind
 ·rw[hX];by_cases c:i=t
  ·subst c;have:=hy j
   grind
  ·rw[C.so i (by lia) j,C.so i (by lia) t]
   grind
 ·show nextM t d M i j=_*(if i=t then y j else X i j-X i t*y j);unfold nextM;have hj:=C.lo t (ao _) j;have:=hy j;by_cases c:i=t
  ·rw[Zc c,Zc c,hj,hs]
   grind
  ·rw[Zd c,Zd c,C.up i (by lia) j,C.up i (by lia) t,hj,hs]
   grind
 ·rw[hX];unfold nextM;have hj:=C.lo t (ao _) j;have:=hy j;rw[Zd (by lia),C.lo i (by lia) j,C.lo i (by lia) t,hj,hs]
  grind
def Cl.whole(C:Cl A t d M X)(hA:∀i j,isI (A i j)):isI d/\∀i j,isI (M i j):=by
 have hd:isI d:=by rw[C.dt];exact Fy hA
 have up:∀i,i<t->∀j,isI (d*X i j):=λi hi j=>by
  have e:=cramer (n:=t) (M:=A) (p:=i) hi (λl=>X l j) (λk=>A k j) λk hk=>(C.so k hk j).symm;rw[<-C.dt] at e;have:d*X i j=El.dt t (upd A i λk=>A k j):=by rw[e];grind
  rw[this];refine Fy λk l=>?_;unfold upd;split
  ·exact hA _ _
  ·exact hA _ _
 refine⟨hd,λi j=>?_⟩;by_cases c:i<t
 ·rw[C.up i c j];exact up i c j
 ·rw[C.lo i (by lia) j];have e:d*(A i j-sm (λl=>X l j*A i l) t)=d*A i j-sm (λl=>(d*X l j)*A i l) t:=by
   have:sm (λl=>(d*X l j)*A i l) t=d*sm (λl=>X l j*A i l) t:=by rw[<-sm_mul];exact sm_congr λk _=>by grind
   rw[this]
   grind
  rw[e];exact(hd.mul (hA i j)).sub (Fx λk hk=>(up k hk j).mul (hA i k))
def gs(n:Nat)(G:Nat->Bool)(S:Nat->Nat->Rat)(j:Nat):Rat:=sm (λi=>if G i=true then S i j else 0) n
structure Zm(n t:Nat)(S:Nat->Nat->Rat):Prop where
 off:∀i j,t<=i->i<n->t<=j->j<n->i≠j->S i j<=0
 col:∀G:Nat->Bool,(∀i,G i=true->t<=i)->∀j,j<n->G j=true->0<=gs n G S j
 grp:∀G:Nat->Bool,(∀i,G i=true->t<=i/\i<n)->(∃j,G j=true)->∃j,G j=true/\0<gs n G S j
def D7(h:∀i,i<n->G i=true->S i j=T i j):gs n G S j=gs n G T j:=sm_congr λi hi=>by
 show(if G i=true then S i j else 0)=if G i=true then T i j else 0
 split
 ·exact h i hi (by assumption)
 ·rfl
def Zm.congr(h:Zm n t S)(e:∀i j,t<=i->i<n->T i j=S i j):Zm n t T:=by
 refine⟨λi j a b c d f=>by rw[e i j a b];exact h.off i j a b c d f,λG hG j hj gj=>?_,λG hG hx=>?_⟩
 ·rw[D7 λi hi gi=>e i j (hG i gi) hi];exact h.col G hG j hj gj
 ·obtain⟨j,gj,p⟩:=h.grp G hG hx;exact⟨j,gj,by rw[D7 λi hi gi=>e i j (hG i gi).1 hi];exact p⟩
def Zm.piv(h:Zm n t S)(ht:t<n):0<S t t:=by
 obtain⟨j,gj,p⟩:=h.grp (λi=>decide (i=t)) (λi z=>by have:=Zf z;lia) ⟨t,Zg rfl⟩;have:=Zf gj;subst this;have e:gs n (λi=>decide (i=j)) S j=S j j:=by
  unfold gs;rw[sm_one (p:=j) ht]
  ·simp
  ·intro k _ z;simp[z]
 rw[e] at p;exact p
def ze(t:Nat)(S:Nat->Nat->Rat):Nat->Nat->Rat:=λi j=>S i j-S i t*(S t j/S t t)
def Ka(ht:t<n)(hG:G t=false)(j):gs n (λi=>G i||decide (i=t)) S j=gs n G S j+S t j:=by
 unfold gs;have e:sm (λi=>if decide (i=t)=true then S t j else 0) n=S t j:=by
  rw[sm_one (p:=t) ht]
  ·simp
  ·intro k _ z;simp[z]
 rw[show sm (λi=>if G i=true then S i j else 0) n+S t j=1*sm (λi=>if G i=true then S i j else 0) n+1*sm (λi=>if decide (i=t)=true then S t j else 0) n by rw[e];grind,<-sm_lin];refine sm_congr λi _=>?_;by_cases c:i=t
 ·subst c;simp[hG];grind
 ·simp[c];grind
def Gn(j):gs n G (ze t S) j=gs n G S j-gs n G S t*(S t j/S t t):=by unfold gs;generalize hq:S t j/S t t=q;rw[show sm (λi=>if G i=true then S i j else 0) n-sm (λi=>if G i=true then S i t else 0) n*q=1*sm (λi=>if G i=true then S i j else 0) n+(-q)*sm (λi=>if G i=true then S i t else 0) n by grind,<-sm_lin];refine sm_congr λi _=>?_;unfold ze;rw[hq];split<;>grind
def np{a b:Rat}(ha:a<=0)(hb:b<=0):0<=a*b:=by
 have:=bK (a:=-a) (b:=-b) (by grind) (by grind)
 grind
def OL{a b:Rat}(ha:a<=0)(hb:0<b):a/b<=0:=by
 have h1:0<=b⁻¹:=kD (Rat.inv_pos.mpr hb);have:=bK (a:=-a) (b:=b⁻¹) (by grind) h1;rw[Rat.div_def]
 grind
def Jt{a b:Rat}(ha:a<0)(hb:0<b):a/b<0:=by
 have:=iu (a:=-a) (b:=b⁻¹) (by grind) (Rat.inv_pos.mpr hb);rw[Rat.div_def]
 grind
def Zm.next{n t:Nat}{S:Nat->Nat->Rat}(h:Zm n t S)(ht:t<n):Zm n (t+1) (ze t S):=by
 have pv:=h.piv ht;have q0:∀j,t+1<=j->j<n->S t j/S t t<=0:=λj h1 h2=>OL (h.off t j (ao _) ht (by lia) h2 (by lia)) pv;have main:∀G:Nat->Bool,(∀i,G i=true->t+1<=i)->∀j,gs n G (ze t S) j=gs n (λi=>G i||decide (i=t)) S j-gs n (λi=>G i||decide (i=t)) S t*(S t j/S t t):=λG hG j=>by
  have gt:G t=false:=by
   cases c:G t with
   |false=>rfl
   |true=>have:=hG t c;lia
  rw[Gn,Ka ht gt,Ka ht gt];have:S t t*(S t j/S t t)=S t j:=by grind
  grind
 have inG:∀G:Nat->Bool,(∀i,G i=true->t+1<=i)->∀i,(G i||decide (i=t))=true->t<=i:=λG hG i z=>by
  rcases(du _ _).mp z with z|z
  ·have:=hG i z;lia
  ·have:=Zf z;lia
 have sg0:∀G:Nat->Bool,(∀i,G i=true->t+1<=i)->0<=gs n (λi=>G i||decide (i=t)) S t:=λG hG=>h.col _ (inG G hG) t ht (by simp);have ge:∀G:Nat->Bool,(∀i,G i=true->t+1<=i)->∀j,j<n->G j=true->gs n (λi=>G i||decide (i=t)) S j<=gs n G (ze t S) j:=λG hG j hj gj=>by
  rw[main G hG];have:=bK (a:=gs n (λi=>G i||decide (i=t)) S t) (b:=-(S t j/S t t)) (sg0 G hG) (by have:=q0 j (hG j gj) hj;grind)
  grind
 refine⟨λi j a b c d f=>?_,λG hG j hj gj=>?_,λG hG hx=>?_⟩
 ·have h1:=h.off i j (by lia) b (by lia) d f;have h2:=np (h.off i t (by lia) b (ao _) ht (by lia)) (q0 j c d);unfold ze
  grind
 ·have h1:=h.col (λi=>G i||decide (i=t)) (inG G hG) j hj (by simp[gj]);have h2:=ge G hG j hj gj
  grind
 ·have Si:=λi z=>(hG i z).1;obtain⟨j,gj,p⟩:=h.grp (λi=>G i||decide (i=t)) (λi z=>⟨inG G Si i z,by
   rcases(du _ _).mp z with z|z
   ·exact(hG i z).2
   ·have:=Zf z;lia⟩) (by obtain⟨j,gj⟩:=hx;exact⟨j,by simp[gj]⟩)
  rcases(du _ _).mp gj with gj|gj
  ·refine⟨j,gj,?_⟩;have:=ge G Si j (hG j gj).2 gj
   grind
  ·have:=Zf gj;subst this;by_cases c:∃k,G k=true/\S j k<0
   ·obtain⟨k,gk,nk⟩:=c;refine⟨k,gk,?_⟩;rw[main G Si];have h1:=h.col (λi=>G i||decide (i=j)) (inG G Si) k (hG k gk).2 (by simp[gk]);have h2:=iu (a:=gs n (λi=>G i||decide (i=j)) S j) (b:=-(S j k/S j j)) p (by have:=Jt nk pv;grind)
    grind
   ·obtain⟨k,gk,pk⟩:=h.grp G (λi z=>⟨by have:=Si i z;lia,(hG i z).2⟩) hx;refine⟨k,gk,?_⟩;have h0:S j k=0:=by
     have h1:=h.off j k (ao _) ht (by have:=Si k gk;lia) (hG k gk).2 (by have:=Si k gk;lia);have h2:¬S j k<0:=λz=>c ⟨k,gk,z⟩
     grind
    rw[Gn,h0];have:(0:Rat)/S j j=0:=by grind
    rw[this]
    grind
def bm(A:Nat->Nat->Rat):Nat->Rat×(Nat->Nat->Rat)
 |0=>(1,A)
 |t+1=>((bm A t).2 t t,nextM t (bm A t).1 (bm A t).2)
theorem run(h:Zm n 0 A):∀t,t<=n->(∃X,Cl A t (bm A t).1 (bm A t).2 X)/\0<(bm A t).1/\Zm n t λi j=>(bm A t).2 i j/(bm A t).1
 |0,_=>⟨⟨_,Cl.zero A⟩,(by decide:(0:Rat)<1),h.congr λi j _ _=>by show A i j/1=A i j;grind⟩
 |t+1,ht=>by
  obtain⟨⟨X,C⟩,dp,Zj⟩:=run h t (by lia);have pv:=Zj.piv (by lia);have d0:(bm A t).1≠0:=λz=>by rw[z] at dp;exact absurd dp (by decide)
  have pp:0<(bm A t).2 t t:=by
   have:=iu dp pv;have e:(bm A t).1*((bm A t).2 t t/(bm A t).1)=(bm A t).2 t t:=by grind
   rw[e] at this;exact this
  have p0:(bm A t).2 t t≠0:=λz=>by rw[z] at pp;exact absurd pp (by decide)
  refine⟨C.next p0,pp,(Zj.next (by lia)).congr λi j hi _=>?_⟩;show nextM t (bm A t).1 (bm A t).2 i j/(bm A t).2 t t=ze t _ i j;unfold nextM ze;rw[Zd (by lia)]
  grind
end El
namespace My
open PySem L2 Fra
def qQ(h:M[i]?=Za row)(k:row[j]?=Za x):at2 M i j=x:=by unfold at2;rw[h];show(row[j]?).getD 0=x;rw[k];rfl
def MK(hn:M.length=n)(hw:∀row∈M,row.length=w)(ht:t<n)(htw:t<w)(hi:i<n)(hj:j<w):at2 (nxt t d M) i j=if i=t then at2 M t j else(at2 M t t*at2 M i j-at2 M i t*at2 M t j)/d:=by
 have get:∀k,k<n->∃row,M[k]?=Za row/\row.length=w:=λk hk=>by have e:M[k]?=Za (M[k]'(by lia)):=aw (by lia);exact⟨_,e,hw _ (ce _)⟩
 obtain⟨row,hr,rl⟩:=get i hi;obtain⟨PM,hb,bl⟩:=get t ht;obtain⟨x,hx⟩:∃x,row[j]?=Za x:=⟨_,aw (by lia)⟩;obtain⟨r,hrt⟩:∃r,row[t]?=Za r:=⟨_,aw (by lia)⟩;obtain⟨y,hy⟩:∃y,PM[j]?=Za y:=⟨_,aw (by lia)⟩;rw[qQ hb hy,qQ hr hx,qQ hr hrt];have e:(nxt t d M)[i]?=Za (if i=t then row else clr (at2 M t t) ((row[t]?).getD 0) d row ((M[t]?).getD [])):=by unfold nxt;rw[List.getElem?_mapIdx,hr];rfl
 by_cases c:i=t
 ·rw[Zc c] at e ⊢;subst c;rw[hr] at hb;cases hb;rw[hx] at hy;cases hy;exact qQ e hx
 ·rw[Zd c] at e ⊢;rw[hb,hrt] at e;refine qQ e ?_;show(kr (λx y=>(at2 M t t*x-r*y)/d) row PM)[j]?=_;rw[List.getElem?_zipWith,hx,hy]
def LM(t)(d)(M):(nxt t d M).length=M.length:=by unfold nxt;rw[List.length_mapIdx]
def nxt_w(hw:∀row∈M,row.length=w)(ht:t<M.length):∀row∈nxt t d M,row.length=w:=by
 intro row hr;unfold nxt at hr;obtain⟨i,hi,e⟩:=List.mem_mapIdx.mp hr;have h1:=hw _ (ce hi);have e2:M[t]?=Za M[t]:=aw ht;have h2:=hw _ (ce ht);rw[<-e];split
 ·exact h1
 ·rw[e2];unfold clr;rw[List.length_zipWith];show min _ (M[t]).length=w;lia
theorem Kp(hn:rows.length=n)(hw:∀row∈rows,row.length=w)(Ue:n<=w)(Zj:El.Zm n 0 λi j=>((at2 rows i j:Int):Rat)):∀t,t<=n->(bmL rows t).2.length=n/\(∀row∈(bmL rows t).2,row.length=w)/\(((bmL rows t).1:Int):Rat)=(El.bm (λi j=>((at2 rows i j:Int):Rat)) t).1/\∀i j,i<n->j<w->((at2 (bmL rows t).2 i j:Int):Rat)=(El.bm (λi j=>((at2 rows i j:Int):Rat)) t).2 i j
 |0,_=>⟨hn,hw,rfl,λ_ _ _ _=>rfl⟩
 |t+1,ht=>by
  obtain⟨h1,h2,h3,h4⟩:=Kp hn hw Ue Zj t (by lia);obtain⟨⟨X,C⟩,dp,_⟩:=El.run Zj t (by lia);obtain⟨⟨X',C'⟩,_,_⟩:=El.run Zj (t+1) ht;refine⟨(LM _ _ _).trans h1,nxt_w h2 (by lia),h4 t t (by lia) (by lia),λi j hi hj=>?_⟩;show((at2 (nxt t (bmL rows t).1 (bmL rows t).2) i j:Int):Rat)=El.nextM t _ _ i j;rw[MK h1 h2 (by lia) (by lia) hi hj];obtain⟨z,hz⟩:=(C'.whole λi j=>⟨_,rfl⟩).2 i j;have hz:El.nextM t _ _ i j=(z:Rat):=hz;unfold El.nextM at hz ⊢;by_cases c:i=t
  ·rw[Zc c] at hz ⊢;rw[Zc c];exact h4 t j (by lia) hj
  ·rw[Zd c] at hz ⊢;rw[Zd c,hz];rw[<-h4 t t (by lia) (by lia),<-h4 i j hi hj,<-h4 i t hi (by lia),<-h4 t j (by lia) hj,<-h3] at hz;rw[<-h3] at dp;have d0:(((bmL rows t).1:Int):Rat)≠0:=λq=>by rw[q] at dp;exact absurd dp (by decide)
   generalize (bmL rows t).1=d at *;generalize at2 (bmL rows t).2 t t=p at *;generalize at2 (bmL rows t).2 i j=x at *;generalize at2 (bmL rows t).2 i t=r at *;generalize at2 (bmL rows t).2 t j=y at *;have e:((p*x-r*y:Int):Rat)=((d*z:Int):Rat):=by
    rw[g9,cU,cU,cU]
    grind
   have e:p*x-r*y=d*z:=Rat.intCast_inj.mp e;have dz:d≠0:=λq=>d0 (by rw[q];rfl);rw[e,cP _ dz]
theorem uA(hl)(g):∀(ns:List Str),(∀n∈ns,e (Za (.str n)::Za (frP (mC hl n).2)::cap) s=.ok (g n) s)->mP m9 e cap (ns.map λn=>qJ (mC hl n)) s=.ok (ns.map g) s
 |[],_=>rfl
 |n::ns,h=>by
  have ih:=uA hl g ns λm hm=>h m (ae _ hm);have h0:=h n ai;rw[al];have ep:qJ (mC hl n)=.tup [.str n,frP (mC hl n).2]:=by unfold qJ;rw[zt]
  rw[ep];unfold mP;show(match m9 (Za (.str n)::Za (frP (mC hl n).2)::cap) s with
   |.ok true s1=>match e (Za (.str n)::Za (frP (mC hl n).2)::cap) s1 with
    |.ok v s2=>match mP m9 e cap (ns.map λn=>qJ (mC hl n)) s2 with
     |.ok vs s3=>Out.ok (v::vs) s3
     |_=>.bad
    |_=>.bad
   |.ok false s1=>mP m9 e cap (ns.map λn=>qJ (mC hl n)) s1
   |_=>.bad)=_
  simp only[m9,h0,ih];rfl
theorem vx:∀U:List Str,toVs (U.map PV.str)=Za (U.map V.str)
 |[]=>rfl
 |x::r=>by rw[al];unfold toVs;rw[vx r];rfl
def By(n:Str)(U:List Str):inV (.str n) (U.map V.str)=decide (n∈U):=by
 unfold inV;rw[gT,bS,cL,decide_eq_true_iff];constructor
 ·rintro⟨x,hx,e⟩
  have e:(x==n)=true:=e;rw[<-eq_of_beq e];exact hx
 ·intro h;exact⟨n,h,beq_self_eq_true n⟩
def in_LS(n:Str)(V:List Str)(s:Sto):fIn (.str n) (LS V) s=.ok (.bl (decide (n∈V))) s:=by simp[fIn,qp,dcOf,toV,lsOf,vx,Eu,By]
theorem GF(g):∀ns:List Str,zQ (ns.map λn=>PV.bl (g n))=Za (ns.map g)
 |[]=>rfl
 |n::ns=>by rw[al];unfold zQ;rw[GF g ns];rfl
def inG(L:List Ent)(G:List Str)(h:Str):Bool:=(own L h).all λn=>decide (n∈G)
def L4(a)(H:Ho L N)(hb:T.get nb=Za (.book pp L))(hh:mj L h=true):oz a [.ref nb,.str h,LS G] T=.ok (.bl (inG L G h)) T:=by
 obtain⟨e,fe,oe⟩:∃e,mH L h=Za e/\own L h=srt (e.held.map (·.1)):=by have:=hh;unfold mj at this;obtain⟨e,he⟩:=dw.mp this;exact⟨e,he,by unfold own;rw[he]⟩
 have hl:=(H.ow h e fe).1;have sh:nF a [.ref nb,.str h] T=.ok (qf e.held) T:=by simp only[nF,m7,hb];rw[Zc (H.sm h (H.hn h hh)).nm,fe];exact Zc hl
 refine mK ?_;unfold rX;have c:=uA (s:=T) (cap:=[Za (LS G)]) (e:=x2 (xVar 0) (xVar 2) fIn) e.held (λn=>.bl (decide (n∈G))) (srt (e.held.map (·.1))) λn _=>(mq (lK rfl) (lK rfl)).trans (in_LS n G T);have it:xIter (xBM 2 (nF a) (xVar 0) (xCons (xVar 1) xNil)) [Za (.ref nb),Za (.str h),Za (LS G)] T=.ok ((srt (e.held.map (·.1))).map λn=>qJ (mC e.held n)) T:=nz ((qt (lK rfl) hb (lL (lK rfl) rfl) rfl).trans sh);have cc:oV (xIter (xBM 2 (nF a) (xVar 0) (xCons (xVar 1) xNil))) [2] m9 (x2 (xVar 0) (xVar 2) fIn) [Za (.ref nb),Za (.str h),Za (LS G)] T=.ok (.lst ((srt (e.held.map (·.1))).map λn=>PV.bl (decide (n∈G)))) T:=by unfold oV;rw[it];show(if((srt (e.held.map (·.1))).map λn=>qJ (mC e.held n)).length<=100000 then _ else _)=_;rw[Zc (by rw[ac,(lY _).length_eq,ac];lia)];show(mP m9 _ [Za (LS G)] _ T).bind _=_;rw[c];rfl
 refine nO ((vK (lL cc rfl)).trans ?_);unfold fAll;show(match zQ ((srt (e.held.map (·.1))).map λn=>PV.bl (decide (n∈G))) with
  |some bs=>Out.ok (PV.bl (bs.all id)) T
  |none=>.bad)=_
 rw[GF (λn=>decide (n∈G))];unfold inG;rw[oe];show Out.ok (PV.bl (((srt (e.held.map (·.1))).map λn=>decide (n∈G)).all id)) T=_;rw[kA];rfl
end My
namespace El
def ab(x:Rat):Rat:=if x<0 then -x else x
def yp(x):0<=ab x:=by unfold ab;split<;>grind
def OZ(x y):ab (x+y)<=ab x+ab y:=by unfold ab;split<;>split<;>split<;>grind
def ab_mul(x y):ab (x*y)=ab x*ab y:=by
 unfold ab;by_cases hx:x<0<;>by_cases hy:y<0
 ·have:=iu (a:=-x) (b:=-y) (by grind) (by grind);rw[Zd (by grind),Zc hx,Zc hy];grind
 ·have:=bK (a:=-x) (b:=y) (by grind) (by grind);rw[Zc hx,Zd hy];split<;>grind
 ·have:=bK (a:=x) (b:=-y) (by grind) (by grind);rw[Zd hx,Zc hy];split<;>grind
 ·have:=bK (a:=x) (b:=y) (by grind) (by grind);rw[Zd hx,Zd hy,Zd (by grind)]
def ab_sg(j):ab (sg j)=1:=by unfold sg;split<;>decide
def pr(f:Nat->Rat):Nat->Rat
 |0=>1
 |n+1=>pr f n*f n
theorem Kz:∀{n:Nat},(∀k,k<n->0<=f k)->0<=pr f n
 |0,_=>by show(0:Rat)<=1;decide
 |n+1,h=>bK (Kz λk hk=>h k (by lia)) (h n (by lia))
theorem pr_congr:∀{n:Nat},(∀k,k<n->f k=g k)->pr f n=pr g n
 |0,_=>rfl
 |n+1,h=>by unfold pr;rw[pr_congr λk hk=>h k (by lia),h n (by lia)]
def KG{a b c d:Rat}(ha:0<=a)(hd:0<=d)(h1:a<=b)(h2:c<=d):a*c<=b*d:=by
 have e1:=bK (a:=a) (b:=d-c) ha (by grind);have e2:=bK (a:=b-a) (b:=d) (by grind) hd
 grind
theorem y9{f g:Nat->Rat}:∀{n:Nat},(∀k,k<n->0<=f k/\f k<=g k)->pr f n<=pr g n
 |0,_=>by show(1:Rat)<=1;grind
 |n+1,h=>by have ih:=y9 (f:=f) (g:=g) (n:=n) λk hk=>h k (by lia);have hn:=h n (by lia);have p0:0<=pr f n:=Kz λk hk=>(h k (by lia)).1;exact KG p0 (by grind) ih hn.2
theorem sm_mono:∀{n:Nat},(∀k,k<n->f k<=g k)->sm f n<=sm g n
 |0,_=>by show(0:Rat)<=0;grind
 |n+1,h=>by
  have ih:=sm_mono (f:=f) (g:=g) (n:=n) λk hk=>h k (by lia);have:=h n (by lia);unfold sm
  grind
theorem Nu(f):∀n:Nat,ab (sm f n)<=sm (λk=>ab (f k)) n
 |0=>by show ab 0<=0;decide
 |n+1=>by
  have ih:=Nu f n;have:=OZ (sm f n) (f n);show ab (sm f n+f n)<=sm (λk=>ab (f k)) n+ab (f n)
  grind
theorem Dz{a b:Nat->Rat}(ha:∀k,0<=a k)(hb:∀k,0<=b k):∀n:Nat,sm (λj=>a j*pr (λk=>b (skip j k)) n) (n+1)<=pr (λk=>a k+b k) (n+1)
 |0=>by
  show(0:Rat)+a 0*1<=1*(a 0+b 0);have:=hb 0
  grind
 |n+1=>by
  have ih:=Dz ha hb n;show sm (λj=>a j*pr (λk=>b (skip j k)) (n+1)) (n+1)+a (n+1)*pr (λk=>b (skip (n+1) k)) (n+1)<=pr (λk=>a k+b k) (n+1)*(a (n+1)+b (n+1));have e1:sm (λj=>a j*pr (λk=>b (skip j k)) (n+1)) (n+1)=b (n+1)*sm (λj=>a j*pr (λk=>b (skip j k)) n) (n+1):=by
   rw[<-sm_mul];refine sm_congr λj hj=>?_;show a j*(pr (λk=>b (skip j k)) n*b (skip j n))=_;rw[show skip j n=n+1 by unfold skip;split<;>lia]
   grind
  have e2:pr (λk=>b (skip (n+1) k)) (n+1)=pr b (n+1):=pr_congr λk hk=>by rw[show skip (n+1) k=k by unfold skip;split<;>lia]
  have e3:pr b (n+1)<=pr (λk=>a k+b k) (n+1):=y9 λk _=>⟨hb k,by have:=ha k;grind⟩;rw[e1,e2];have f1:=bK (a:=b (n+1)) (b:=pr (λk=>a k+b k) (n+1)-sm (λj=>a j*pr (λk=>b (skip j k)) n) (n+1)) (hb _) (by grind);have f2:=bK (a:=a (n+1)) (b:=pr (λk=>a k+b k) (n+1)-pr b (n+1)) (ha _) (by grind)
  grind
theorem KH:∀(n:Nat)(M:Nat->Nat->Rat),ab (dt n M)<=pr (λj=>sm (λi=>ab (M i j)) n) n
 |0,M=>by show ab 1<=1;decide
 |n+1,M=>by
  have h1:ab (dt (n+1) M)<=sm (λj=>ab (M 0 j)*pr (λk=>sm (λi=>ab (M (i+1) (skip j k))) n) n) (n+1):=by
   have:=Nu (λj=>sg j*M 0 j*dt n (λi k=>M (i+1) (skip j k))) (n+1);refine da this (sm_mono λj _=>?_);rw[ab_mul,ab_mul,ab_sg];have ih:=KH n λi k=>M (i+1) (skip j k);have f:=bK (a:=ab (M 0 j)) (b:=pr (λk=>sm (λi=>ab (M (i+1) (skip j k))) n) n-ab (dt n λi k=>M (i+1) (skip j k))) (yp _) (by grind)
   grind
  have sn:∀(f:Nat->Rat)(n:Nat),(∀k,0<=f k)->0<=sm f n:=λf n h=>by
   induction n with
   |zero=>show(0:Rat)<=0;grind
   |succ n ih=>show 0<=sm f n+f n;have:=h n;grind
  have h2:=Dz (a:=λj=>ab (M 0 j)) (b:=λj=>sm (λi=>ab (M (i+1) j)) n) (λ_=>yp _) (λj=>sn _ _ λ_=>yp _) n;have sh:∀(f:Nat->Rat)(n:Nat),sm f (n+1)=f 0+sm (λi=>f (i+1)) n:=λf n=>by
   induction n with
   |zero=>show 0+f 0=f 0+0;grind
   |succ n ih=>show sm f (n+1)+f (n+1)=f 0+(sm (λi=>f (i+1)) n+f (n+1));rw[ih];grind
  have e:pr (λj=>sm (λi=>ab (M i j)) (n+1)) (n+1)=pr (λk=>ab (M 0 k)+sm (λi=>ab (M (i+1) k)) n) (n+1):=pr_congr λk _=>sh (λi=>ab (M i k)) n;rw[e];exact da h1 h2
def Cl.low(C:Cl A t d M X)(hi:t<=i):M i j=El.dt (t+1) λr c=>A (if r=t then i else r) (if c=t then j else c):=by
 have lt:∀r,r<t->(if r=t then i else r)=r:=λr h=>Zd (by lia);have lj:∀c,c<t->(if c=t then j else c)=c:=λc h=>Zd (by lia);rw[<-Gs (n:=t) (M:=λr c=>A (if r=t then i else r) (if c=t then j else c)) λl=>X l j];have es:∀r,sm (λl=>X l j*A (if r=t then i else r) (if l=t then j else l)) t=sm (λl=>X l j*A (if r=t then i else r) l) t:=λr=>sm_congr λl hl=>by rw[lj l hl]
 rw[CK]
 ·have e1:El.dt t (upd (λr c=>A (if r=t then i else r) (if c=t then j else c)) t λr=>A (if r=t then i else r) (if t=t then j else t)-sm (λl=>X l j*A (if r=t then i else r) (if l=t then j else l)) t)=El.dt t A:=wA λr hr c hc=>by unfold upd;rw[Zd (by lia)];show A (if r=t then i else r) (if c=t then j else c)=A r c;rw[lt r hr,lj c hc]
  rw[e1,<-C.dt];unfold upd;rw[Zc rfl];show _=(A (if t=t then i else t) (if t=t then j else t)-sm (λl=>X l j*A (if t=t then i else t) (if l=t then j else l)) t)*d;rw[es,Zc rfl,Zc rfl,C.lo i hi j]
  grind
 ·intro r hr;unfold upd;rw[Zc rfl];show A (if r=t then i else r) (if t=t then j else t)-sm (λl=>X l j*A (if r=t then i else r) (if l=t then j else l)) t=0;rw[es,lt r hr,Zc rfl,C.so r hr j]
  grind
def Cl.upp(C:Cl A t d M X)(hi:i<t):M i j=El.dt t (upd A i λk=>A k j):=by
 have e:=cramer (n:=t) (M:=A) (p:=i) hi (λl=>X l j) (λk=>A k j) λk hk=>(C.so k hk j).symm;rw[e,<-C.dt,C.up i hi j]
 grind
theorem HX(h:∀k,0<=f k):∀n,0<=sm f n
 |0=>by show(0:Rat)<=0;grind
 |n+1=>by have:=HX h n;have:=h n;show 0<=sm f n+f n;grind
theorem HY(h:∀k,0<=f k):∀{n:Nat},t<=n->sm f t<=sm f n
 |0,ht=>by
  have:t=0:=by lia
  subst this
  grind
 |n+1,ht=>by
  by_cases c:t=n+1
  ·subst c;grind
  ·have:=HY h (t:=t) (n:=n) (by lia);have:=h n;show sm f t<=sm f n+f n
   grind
theorem xL(h:∀k,0<=f k)(hi:t<=i):∀{n:Nat},i<n->sm f t+f i<=sm f n
 |0,hn=>absurd hn (by lia)
 |n+1,hn=>by
  show sm f t+f i<=sm f n+f n;by_cases c:i=n
  ·subst c;have:=HY h hi
   grind
  ·have:=xL h hi (n:=n) (by lia);have:=h n
   grind
theorem FT(h:∀c,1<=B c):∀t,1<=pr B t
 |0=>by show(1:Rat)<=1;grind
 |t+1=>by
  have h1:=FT h t;have h2:=h t;have:=KG (a:=1) (b:=pr B t) (c:=1) (d:=B t) (by decide) (by grind) h1 h2;show 1<=pr B t*B t
  grind
theorem FS(h:∀c,1<=B c)(i j):∀t,pr (λc=>if c=i then B j else B c) t<=pr B t*B j
 |0=>by have:=h j;show(1:Rat)<=1*B j;grind
 |t+1=>by
  show pr (λc=>if c=i then B j else B c) t*(if t=i then B j else B t)<=pr B t*B t*B j;by_cases c:t=i
  ·have e:pr (λc=>if c=i then B j else B c) t=pr B t:=pr_congr λk hk=>Zd (by lia);rw[e,Zc c];have h1:=FT h t;have h2:=h t;have h3:=h j;have h4:0<=pr B t*B j:=bK (by grind) (by grind);have:=bK (a:=pr B t*B j) (b:=B t-1) h4 (by grind)
   grind
  ·rw[Zd c];have:=FS h i j t;have h2:=h t;have:=bK (a:=B t) (b:=pr B t*B j-pr (λc=>if c=i then B j else B c) t) (by grind) (by grind)
   grind
def Cl.le(C:Cl A t d M X)(ht:t<=n)(h1:∀c,1<=B c)(hB:∀c,sm (λr=>ab (A r c)) n<=B c)(hi:i<n)(j):ab (M i j)<=pr B t*B j:=by
 by_cases c:i<t
 ·rw[C.upp c];refine da (KH _ _) (da (y9 (g:=λc=>if c=i then B j else B c) λk _=>⟨HX (λ_=>yp _) _,?_⟩) (FS h1 i j t));show sm (λr=>ab (if k=i then A r j else A r k)) t<=if k=i then B j else B k
  split
  ·exact da (HY (λ_=>yp _) ht) (hB j)
  ·exact da (HY (λ_=>yp _) ht) (hB k)
 ·rw[C.low (by lia)];refine da (KH _ _) ?_;have col:∀k,sm (λr=>ab (A (if r=t then i else r) k)) (t+1)<=B k:=λk=>by show sm (λr=>ab (A (if r=t then i else r) k)) t+ab (A (if t=t then i else t) k)<=B k;rw[sm_congr (g:=λr=>ab (A r k)) λr hr=>by rw[Zd (by lia)],Zc rfl];exact da (xL (f:=λr=>ab (A r k)) (λ_=>yp _) (by lia) hi) (hB k)
  show pr (λc=>sm (λr=>ab (A (if r=t then i else r) (if c=t then j else c))) (t+1)) t*sm (λr=>ab (A (if r=t then i else r) (if t=t then j else t))) (t+1)<=pr B t*B j;refine KG (Kz λk _=>HX (λ_=>yp _) _) (by have:=h1 j;grind) (y9 λk hk=>⟨HX (λ_=>yp _) _,?_⟩) ?_
  ·rw[Zd (show ¬k=t by lia)];exact col k
  ·rw[Zc rfl];exact col j
end El
namespace My
open PySem L2 Fra
def GQ(h:l.Perm m):mE l=mE m:=by
 induction h with
 |nil=>rfl
 |cons x _ ih=>show x+_=x+_;rw[ih]
 |swap x y l=>show y+(x+mE l)=x+(y+mE l);grind
 |trans _ _ a b=>exact a.trans b
def nl(x)(l):mE (x::l)=x+mE l:=rfl
theorem qV:∀{l:List α},(∀x∈l,p x=false->f x=0)->mE ((l.filter p).map f)=mE (l.map f)
 |[],_=>rfl
 |x::l,h=>by
  have ih:=qV (f:=f) (p:=p) (l:=l) λy hy=>h y (ae _ hy);rw[al,nl,<-ih];cases c:p x with
  |true=>rw[List.filter_cons_of_pos c,al,nl]
  |false =>
   rw[List.filter_cons_of_neg (by rw[c];decide),h x ai c,Rat.zero_add]
def mS{α:Type}{f g:α->Rat}{l:List α}(h:∀x∈l,f x=g x):mE (l.map f)=mE (l.map g):=by rw[aV h]
def wo{U W:List Str}{g:Str->Rat}(hU:U.Nodup)(hW:W.Nodup)(h:∀x∈U,x∉W->g x=0):mE (U.map g)=mE (W.map λx=>if x∈U then g x else 0):=by have e1:mE ((U.filter λx=>decide (x∈W)).map g)=mE (U.map g):=qV λx hx c=>h x hx (of_decide_eq_false c);have e2:mE ((W.filter λx=>decide (x∈U)).map λx=>if x∈U then g x else 0)=mE (W.map λx=>if x∈U then g x else 0):=qV λx hx c=>Zd (of_decide_eq_false c);rw[<-e1,<-e2];have e3:mE ((W.filter λx=>decide (x∈U)).map λx=>if x∈U then g x else 0)=mE ((W.filter λx=>decide (x∈U)).map g):=mS λx hx=>Zc (Zf (bu.mp hx).2);rw[e3];refine GQ (List.Perm.map _ ((jF (hU.filter _) (hW.filter _)).mpr λx=>?_));rw[bu,bu,decide_eq_true_iff,decide_eq_true_iff];exact⟨λz=>⟨z.2,z.1⟩,λz=>⟨z.2,z.1⟩⟩
theorem yP:∀{l:List α},(∀x∈l,f x<=g x)->mE (l.map f)<=mE (l.map g)
 |[],_=>iw
 |x::l,h=>by
  have:=yP (f:=f) (g:=g) (l:=l) λy hy=>h y (ae _ hy);have:=h x ai;rw[al,al,nl,nl]
  grind
theorem FM:∀{l:List α},(∀x∈l,f x<=g x)->(∃x∈l,f x<g x)->mE (l.map f)<mE (l.map g)
 |[],_,⟨_,z,_⟩=>nomatch z
 |x::l,h,⟨y,hy,k⟩=>by
  have a1:=yP (f:=f) (g:=g) (l:=l) λy hy=>h y (ae _ hy);have a2:=h x ai;rw[al,al,nl,nl];rcases af.mp hy with e|hy
  ·subst e;grind
  ·have a3:=FM (f:=f) (g:=g) (l:=l) (λy hy=>h y (ae _ hy)) ⟨y,hy,k⟩
   grind
theorem qS(c)(f:α->Rat):∀l:List α,mE (l.map λx=>c*f x)=c*mE (l.map f)
 |[]=>(kC c).symm
 |x::l=>by rw[al,al,nl,nl,qS c f l];grind
theorem uE(f g:α->Rat):∀l:List α,mE (l.map λx=>f x+g x)=mE (l.map f)+mE (l.map g)
 |[]=>(fC 0).symm
 |x::l=>by rw[al,al,al,nl,nl,nl,uE f g l];grind
def Bj{α:Type}{f:α->Rat}{l:List α}(h:∀x∈l,f x=0):mE (l.map f)=0:=by
 induction l with
 |nil=>rfl
 |cons x l ih =>
  rw[al,nl,h x ai,ih λy hy=>h y (ae _ hy)];exact fC 0
def K5(f:α->Rat)(l:List α):El.sm (λi=>((l[i]?).map f).getD 0) l.length=mE (l.map f):=by
 have:∀(k:Nat),k<=l.length->El.sm (λi=>((l[i]?).map f).getD 0) k=mE ((l.take k).map f):=λk=>by
  induction k with
  |zero=>intro _;rfl
  |succ k ih =>
   intro hk;show El.sm _ k+_=_;rw[ih (by lia),dX,au,zW];have e:l[k]?=Za l[k]:=aw (by lia);show _+((l[k]?).map f).getD 0=_;rw[e];show _+f l[k]=_+(f l[k]+0);rw[fC]
 have h:=this l.length (ao _);rw[gI] at h;exact h
theorem Bk{α β:Type}(f:α->β->Rat)(l:List α):∀m:List β,mE (l.map λx=>mE (m.map λy=>f x y))=mE (m.map λy=>mE (l.map λx=>f x y))
 |[]=>Bj λ_ _=>rfl
 |y::m=>by show mE (l.map λx=>f x y+mE (m.map λy=>f x y))=mE (l.map λx=>f x y)+mE (m.map λy=>mE (l.map λx=>f x y));rw[uE,Bk f l m]
inductive Cts:Nat->List Ent->Prop
 |nil {c:Nat}:Cts c []
 |cons {c1 c2 c:Nat}{e:Ent}{L:List Ent}:(∃hz,HR c1 e.held hz)->Cts c2 L->c1+c2<=c->Cts c (e::L)
theorem Prs.cts:∀{c:Nat}{L:List Ent}{M:List Md},Prs N c L M->Cts c L
 |_,_,_,.nil=>.nil
 |_,_,_,.cons h r q=>.cons h.hm.r r.cts q
theorem Prs.tb:∀{c:Nat}{L:List Ent}{M:List Md},Prs N c L M->∀e∈L,Bt 100 e.th
 |_,_,_,.nil,_,z=>nomatch z
 |_,_,_,.cons h r q,e,z=>(af.mp z).elim (λz=>z▸h.tb.1) (r.tb e)
theorem Cts.mem:∀{c:Nat}{L:List Ent},Cts c L->∀e∈L,∃k hz,HR k e.held hz/\k<=c
 |_,_,.nil,_,z=>nomatch z
 |_,_,.cons (c1:=c1) ⟨hz,h⟩ r q,e,z=>by
  rcases af.mp z with z|z
  ·subst z;exact⟨c1,hz,h,by lia⟩
  ·obtain⟨k,hz,h,b⟩:=r.mem e z;exact⟨k,hz,h,by lia⟩
structure Gd(L:List Ent)(N:List Str)(c:Nat):Prop where
 ho:Ho L N
 nd:(L.map (·.nm)).Nodup
 ct:Cts c L
 tb:∀e∈L,Bt 200 e.th
 l8:L.length<=8
 c40:c<=41
def sM(h:mH L n=Za e):e∈L/\e.nm=n:=by unfold mH at h;have k:=eV h;exact⟨eO h,Zf k⟩
def shr(L:List Ent)(h x:Str):Rat:=match mH L h with
 |some e=>rv (l7 e.held x)
 |none=>0
def Kw(h1:0<=q.1)(h2:0<q.2):0<=rv q:=by unfold rv;rw[eZ h2];exact h1
def NK(h1:0<q.1)(h2:0<q.2):0<rv q:=by
 have:=Kw (bA h1) h2;have z:rv q≠0:=λz=>by
  have k:=CW q;rw[z] at k;have n:0<=rv (-q.1,q.2):=by rw[k];grind
  unfold rv at n;rw[eZ h2] at n;have n:0<=-q.1:=n;lia
 grind
section
variable{L:List Ent}{N:List Str}{c:Nat}
def Gd.hr(g:Gd L N c)(f:mH L h=Za e):∃k hz,HR k e.held hz/\k<=c:=g.ct.mem e (sM f).1
def Gd.ent(g:Gd L N c)(hh:mj L h=true):∃e,mH L h=Za e/\own L h=srt (e.held.map (·.1))/\∀x,shr L h x=rv (l7 e.held x):=by have:=hh;unfold mj at this;obtain⟨e,he⟩:=dw.mp this;exact⟨e,he,by unfold own;rw[he],λx=>by unfold shr;rw[he]⟩
theorem Gd.nn(g:Gd L N c)(h x):0<=shr L h x:=by
 by_cases hh:mj L h=true
 ·obtain⟨e,f,_,s⟩:=g.ent hh;obtain⟨k,hz,R,_⟩:=g.hr f;rw[s];exact Kw (R.fr x).nn (R.fr x).low.1
 ·have:mH L h=none:=by
   unfold mj at hh;cases c:mH L h with
   |none=>rfl
   |some e=>rw[c] at hh;exact absurd rfl hh
  unfold shr;rw[this];exact iw
def Gd.pos(g:Gd L N c)(hx:x∈own L h):0<shr L h x:=by
 by_cases hh:mj L h=true
 ·obtain⟨e,f,o,s⟩:=g.ent hh;obtain⟨k,hz,R,_⟩:=g.hr f;rw[o,(lY _).mem_iff] at hx;rw[s];exact NK ((R.nm x).mp hx) (R.fr x).low.1
 ·rw[C0 (by simpa using hh)] at hx;cases hx
def Gd.zero(g:Gd L N c)(hx:x∉own L h):shr L h x=0:=by
 by_cases hh:mj L h=true
 ·obtain⟨e,f,o,s⟩:=g.ent hh;rw[o,(lY _).mem_iff] at hx;rw[s,vn hx];exact Rat.zero_divInt 1
 ·unfold shr;have:mH L h=none:=by
   unfold mj at hh;cases c:mH L h with
   |none=>rfl
   |some e=>rw[c] at hh;exact absurd rfl hh
  rw[this]
def Gd.ond(g:Gd L N c)(h):(own L h).Nodup:=by
 by_cases hh:mj L h=true
 ·obtain⟨e,f,o,s⟩:=g.ent hh;obtain⟨k,hz,R,_⟩:=g.hr f;rw[o];exact(lY _).nodup_iff.mpr R.n1
 ·rw[C0 (by simpa using hh)];exact .nil
theorem Gd.one(g:Gd L N c)(hh:mj L h=true):mE ((own L h).map (shr L h))=1:=by
 obtain⟨e,f,o,s⟩:=g.ent hh;obtain⟨k,hz,R,_⟩:=g.hr f;have e1:=R.one;unfold Ih at e1;have e2:mE ((hz.map (·.1)).map λn=>rv (l7 hz n))=mE ((hz.map (·.1)).map (shr L h)):=mS λx _=>by rw[s,R.q]
 rw[e2,wo R.n2 (g.ond h) (λx _ z=>g.zero z)] at e1;rw[<-e1];refine mS λx hx=>?_;rw[Zc];refine R.had ?_;rw[<-R.q,<-R.nm];rw[o,(lY _).mem_iff] at hx;exact hx
def NoG(L:List Ent):Prop:=∀G:List Str,G≠[]->(∀h∈G,mj L h=true)->∃h∈G,∃x∈own L h,x∉G
def nth(U:List Str)(i:Nat):Str:=(U[i]?).getD cx
def oh(h:i<U.length):U[i]?=Za (nth U i)/\nth U i∈U:=by have e:U[i]?=Za U[i]:=aw h;unfold nth;rw[e];exact⟨rfl,ce h⟩
def zd(nd:U.Nodup)(hi:i<U.length)(hj:j<U.length)(h:nth U i=nth U j):i=j:=by have e1:=(oh hi).1;have e2:=(oh hj).1;rw[<-h] at e2;exact(List.getElem?_inj hi nd).mp (e1.trans e2.symm)
def mA(L:List Ent)(U:List Str)(i j:Nat):Rat:=(if i=j then 1 else 0)-shr L (nth U j) (nth U i)
def CV(f:Str->Rat):El.sm (λi=>f (nth U i)) U.length=mE (U.map f):=by rw[<-K5];refine El.sm_congr λi hi=>?_;rw[(oh hi).1];rfl
abbrev gl(U:List Str)(G:Nat->Bool):List Str:=((bw U.length).filter G).map (nth U)
theorem Gd.gs(g:Gd L N c)(nd:U.Nodup)(hj:j<U.length)(Gj:G j=true):El.gs U.length G (mA L U) j=1-mE (U.map λx=>if x∈gl U G then shr L (nth U j) x else 0):=by
 unfold El.gs;have mem:∀i,i<U.length->(nth U i∈gl U G↔G i=true):=λi hi=>by
  constructor
  ·intro z;obtain⟨k,hk,e⟩:=ah.mp z;obtain⟨k1,k2⟩:=bu.mp hk;rw[<-zd nd (cF.mp k1) hi e];exact k2
  ·exact λz=>ah.mpr ⟨i,bu.mpr ⟨cF.mpr hi,z⟩,rfl⟩
 have e:El.sm (λi=>if G i=true then mA L U i j else 0) U.length=El.sm (λi=>1*(if i=j then 1 else 0)+(-1)*(if nth U i∈gl U G then shr L (nth U j) (nth U i) else 0)) U.length:=by
  refine El.sm_congr λi hi=>?_;have m:=mem i hi;by_cases q:G i=true
  ·rw[Zc q,Zc (m.mpr q)];unfold mA
   grind
  ·rw[Zd q,Zd (λz=>q (m.mp z)),Zd (λz=>q (by rw[z];exact Gj))]
   grind
 rw[e,El.sm_lin,El.sm_one hj (λk _ hk=>Zd hk),Zc rfl,CV (λx=>if x∈gl U G then shr L (nth U j) x else 0)]
 grind
def Gd.zm(g:Gd L N c)(ng:NoG L)(nd:U.Nodup)(hU:∀x∈U,mj L x=true):El.Zm U.length 0 (mA L U):=by
 have key:∀(G:Nat->Bool)(j:Nat),j<U.length->G j=true->(0<=El.gs U.length G (mA L U) j/\((∃x∈own L (nth U j),x∉gl U G)->0<El.gs U.length G (mA L U) j)):=λG j hj Gj=>by
  rw[g.gs nd hj Gj];generalize gl U G=V;have hh:=hU _ (oh hj).2;have o:=g.one hh;generalize nth U j=h at *;have sw:=wo (g:=λx=>if x∈V then shr L h x else 0) nd (g.ond h) (λx _ z=>by show(if x∈V then shr L h x else 0)=0;rw[g.zero z];split<;>rfl);rw[sw];have le:∀x∈own L h,(if x∈U then(if x∈V then shr L h x else 0) else 0)<=shr L h x:=λx _=>by
   have:=g.nn h x;split
   ·split
    ·exact iw
    ·exact this
   ·exact this
  refine⟨?_,λ⟨x,hx,hV⟩=>?_⟩
  ·have:=yP le;rw[o] at this
   grind
  ·have:=FM le ⟨x,hx,by rw[Zd hV];have:=g.pos hx;split<;>exact this⟩;rw[o] at this
   grind
 refine⟨λi j _ hi _ hj PH=>?_,λG _ j hj Gj=>(key G j hj Gj).1,λG hG hx=>?_⟩
 ·unfold mA;rw[Zd PH];have:=g.nn (nth U j) (nth U i)
  grind
 ·obtain⟨j0,hj0⟩:=hx;have hm:∀x∈gl U G,∃j,j<U.length/\G j=true/\nth U j=x:=λx hx=>by obtain⟨k,hk,e⟩:=ah.mp hx;obtain⟨k1,k2⟩:=bu.mp hk;exact⟨k,cF.mp k1,k2,e⟩
  obtain⟨h,hh,x,hx,hxV⟩:=ng (gl U G) (iN (ah.mpr ⟨j0,bu.mpr ⟨cF.mpr (hG j0 hj0).2,hj0⟩,rfl⟩)) (λh hh=>by obtain⟨j,hj,_,e⟩:=hm h hh;rw[<-e];exact hU _ (oh hj).2)
  obtain⟨j,hj,Gj,e⟩:=hm h hh;exact⟨j,Gj,(key G j hj Gj).2 ⟨x,by rw[e];exact hx,hxV⟩⟩
def OH(hp:p<n):El.dt n (El.upd M p λ_=>0)=0:=by
 have:=El.dt_lin (n:=n) (M:=M) (p:=p) 0 0 (λ_=>0) (λ_=>0) hp;have e:(λ(i:Nat)=>(0:Rat)*(λ_=>0) i+0*(λ_=>0) i)=λ_=>0:=by funext i;grind
 rw[e] at this;rw[this]
 grind
def Gd.uniq(g:Gd L N c)(ng:NoG L){U:List Str}(nd:U.Nodup)(hU:∀x∈U,mj L x=true){v:Str->Rat}(h:∀x∈U,v x=mE (U.map λl=>shr L l x*v l)):∀x∈U,v x=0:=by
 obtain⟨⟨X,C⟩,dp,_⟩:=El.run (g.zm ng nd hU) U.length (ao _);rw[C.dt] at dp;intro x hx;obtain⟨p,hp⟩:=bX.mp hx;have PL:p<U.length:=(aW.mp hp).1;have cr:=El.cramer (M:=mA L U) PL (λl=>v (nth U l)) (λ_=>0) λi hi=>by
  have hxi:=h (nth U i) (oh hi).2;have e:El.sm (λl=>v (nth U l)*mA L U i l) U.length=El.sm (λl=>1*(if l=i then v (nth U l) else 0)+(-1)*(λy=>shr L y (nth U i)*v y) (nth U l)) U.length:=El.sm_congr λl hl=>by
   unfold mA;by_cases q:i=l
   ·subst q;rw[Zc rfl,Zc rfl];grind
   ·rw[Zd q,Zd (λz=>q z.symm)];grind
  rw[e,El.sm_lin,El.sm_one hi (λk _ hk=>Zd hk),Zc rfl,CV (λy=>shr L y (nth U i)*v y),<-hxi]
  grind
 rw[OH PL] at cr;have e:nth U p=x:=by unfold nth;rw[hp];rfl
 have cr:(0:Rat)=v (nth U p)*El.dt U.length (mA L U):=cr;rw[e] at cr;have d0:El.dt U.length (mA L U)≠0:=λz=>by rw[z] at dp;exact absurd dp (by decide)
 grind
end
theorem xA:∀U V:List Str,b5 (U.map d6) (V.map d6)=decide (U=V)
 |[],[]=>by simp[b5]
 |[],y::V=>by simp[b5]
 |x::U,[]=>by simp[b5]
 |x::U,y::V=>by
  rw[al,al];unfold b5 bH;rw[xA U V,bS,cg,decide_eq_true_iff,decide_eq_true_iff];constructor
  ·intro⟨h1,h2⟩;rw[eq_of_beq h1,h2]
  ·intro h;cases h;exact⟨beq_self_eq_true _,rfl⟩
def Nn{U V:List Str}{s:Sto}(hU:∀x∈U,bi x=true)(hV:∀x∈V,bi x=true):fEq (LS U) (LS V) s=.ok (.bl (decide (U=V))) s:=by have e1:PV.data s 12 (LS U)=Za (.list (U.map d6)):=zG s 10 hU;have e2:PV.data s 12 (LS V)=Za (.list (V.map d6)):=zG s 10 hV;show fEqN false _ _ _=_;unfold fEqN;rw[e1,e2];show Out.ok (PV.bl (bH (.list _) (.list _))) s=_;unfold bH;rw[xA]
def KF{U V:List Str}{s:Sto}(hU:∀x∈U,bi x=true)(hV:∀x∈V,bi x=true):fNe (LS U) (LS V) s=.ok (.bl (!decide (U=V))) s:=by have e1:PV.data s 12 (LS U)=Za (.list (U.map d6)):=zG s 10 hU;have e2:PV.data s 12 (LS V)=Za (.list (V.map d6)):=zG s 10 hV;show fEqN true _ _ _=_;unfold fEqN;rw[e1,e2];show Out.ok (PV.bl !(bH (.list _) (.list _))) s=_;unfold bH;rw[xA]
theorem sA{e:XE}{cap:En}{s:Sto}(g:Str->PV):∀(X:List Str),(∀x∈X,e (Za (.str x)::cap) s=.ok (g x) s)->nN m9 e cap (X.map .str) s=.ok (X.map g) s
 |[],_=>rfl
 |x::X,h=>by rw[al,oU];simp only[m9,h x ai,sA g X λy hy=>h y (ae _ hy),al]
def xE{e:XE}{cap:En}{s:Sto}(g:Str->Int)(X:List Str)(h:∀x∈X,e (Za (.str x)::cap) s=.ok (.int (g x)) s):nN m9 e cap (X.map .str) s=.ok ((X.map g).map .int) s:=(sA (λx=>.int (g x)) X h).trans (by rw[aH];rfl)
structure WG(L:List Ent)(G0 G:List Str):Prop where
 sl:G.Sublist G0
 cl:∀h∈G,∀x∈own L h,x∈G
 mx:∀V:List Str,(∀h∈V,h∈G0)->(∀h∈V,∀x∈own L h,x∈V)->∀h∈V,h∈G
def inG_iff:inG L G h=true↔∀x∈own L h,x∈G:=by unfold inG;rw[dg];exact⟨λz x hx=>Zf (z x hx),λz x hx=>Zg (z x hx)⟩
def GN(h:mL c b n Z s=.rt v s'):tN c b Z s=.rt v s':=(xg h (by intro z;cases z)).trans rfl
section
variable{T:Sto}{nb:Nat}{pp N:List Str}{L:List Ent}{c:Nat}
def wwalk(a:Adr)(H:Ho L N)(hb:T.get nb=Za (.book pp L)):∀(k:Nat)(G:List Str)(u2:Option PV),G.length<=k->k<=100->(∀h∈G,mj L h=true)->∃G',mL (xTr (xC (.bl true))) (mI a) (k+1) [Za (.ref nb),Za (LS G),u2] T=.rt (LS G') T/\WG L G G':=by
 intro k;induction k with
 |zero =>
  intro G u2 hk _ hG;have:G=[]:=cB.mp (by omega);subst this;refine⟨[],rfl,⟨jN _,(λ_ z=>nomatch z),λV hV _ h hh=>hV h hh⟩⟩
 |succ k ih =>
  intro G u2 hk hk1 hG;have so:∀x∈G,bi x=true:=λx hx=>EG (H.sm x (H.hn x (hG x hx)));have c1:=sC (s:=T) (cap:=[Za (.ref nb),Za (LS G)]) (c:=xTr (xCall 3 (oz a) (xCons (xVar 1) (xCons (xVar 0) (xCons (xVar 2) xNil))))) (e:=xVar 0) (λq=>match q with|.str x=>inG L G x|_=>false) (λq=>q) (G.map .str) (λq hq=>by obtain⟨x,hx,rfl⟩:=ah.mp hq;exact oa (l9 (lL (lK rfl) (lL (lK rfl) (lL (lK rfl) rfl))) rfl (L4 a H hb (hG x hx)))) (λq hq _=>lK rfl)
  have e1:(((G.map PV.str).filter λq=>match q with|.str x=>inG L G x|_=>false).map λq=>q)=(G.filter (inG L G)).map PV.str:=by rw[List.map_id',fU];rfl
  rw[e1] at c1;have hl:(G.map PV.str).length<=100000:=by rw[ac];omega
  have bd:∀o:SO,xSeq (xIf (xTr (x2 (xVar 2) (xVar 1) fEq)) (xRet (xVar 1)) xEnd) (xSet 1 (xVar 2)) [Za (.ref nb),Za (LS G),Za (LS (G.filter (inG L G)))] T=o->mI a [Za (.ref nb),Za (LS G),u2] T=o:=λo ho=>by unfold mI;exact lV (me (pL (l:=G.map .str) (s1:=T) (nz (lK rfl)) hl c1)) ho
  have eq:=Nn (s:=T) (U:=G.filter (inG L G)) (V:=G) (λx hx=>so x (bu.mp hx).1) so;by_cases z:G.filter (inG L G)=G
  ·rw[Zg z] at eq;refine⟨G,?_,⟨jN _,λh hh=>?_,λV hV _ h hh=>hV h hh⟩⟩
   ·unfold mL;show(match mI a [Za (.ref nb),Za (LS G),u2] T with
     |.nx ρ' s'=>mL (xTr (xC (.bl true))) (mI a) (k+1) ρ' s'
     |.ct ρ' s'=>mL (xTr (xC (.bl true))) (mI a) (k+1) ρ' s'
     |.bk ρ' s'=>.nx ρ' s'
     |o=>o)=_
    rw[bd (.rt (LS G) T) (Aq ((tS (s1:=T) (oa ((mq (lK rfl) (lK rfl)).trans eq))).trans (nO (lK rfl))))]
   ·rw[<-z] at hh;exact inG_iff.mp (bu.mp hh).2
  ·rw[Zh z] at eq;have lt:(G.filter (inG L G)).length<G.length:=by
    have:=fI (inG L G) G;by_cases q:(G.filter (inG L G)).length=G.length
    ·exact absurd (List.Sublist.eq_of_length lg q) z
    ·omega
   obtain⟨G',e,W⟩:=ih (G.filter (inG L G)) (Za (LS (G.filter (inG L G)))) (by omega) (by omega) (λh hh=>hG h (bu.mp hh).1);refine⟨G',?_,⟨W.sl.trans lg,W.cl,λV hV cV h hh=>W.mx V (λy hy=>bu.mpr ⟨hV y hy,inG_iff.mpr λx hx=>hV x (cV y hy x hx)⟩) cV h hh⟩⟩;rw[mL];show(match mI a [Za (.ref nb),Za (LS G),u2] T with
    |.nx ρ' s'=>mL (xTr (xC (.bl true))) (mI a) (k+1) ρ' s'
    |.ct ρ' s'=>mL (xTr (xC (.bl true))) (mI a) (k+1) ρ' s'
    |.bk ρ' s'=>.nx ρ' s'
    |o=>o)=_
   rw[bd (.nx [Za (.ref nb),Za (LS (G.filter (inG L G))),Za (LS (G.filter (inG L G)))] T) (lV ((qK (s1:=T) (oa ((mq (lK rfl) (lK rfl)).trans eq))).trans rfl) (me (lK rfl)))];exact e
abbrev hsL(L:List Ent):List Str:=srt (L.map (·.nm))
def hsL_mem{L}:h∈hsL L↔mj L h=true:=by rw[(lY _).mem_iff,n9]
def qj{L}:(hsL L).length=L.length:=by rw[(lY _).length_eq,ac]
def wl(a)(H:Ho L N)(hl:L.length<=64)(hb:T.get nb=Za (.book pp L)):∃G,nv a [.ref nb] T=.ok (LS G) T/\WG L (hsL L) G:=by obtain⟨G,e,W⟩:=wwalk a H hb (hsL L).length (hsL L) Zb (ao _) (by rw[qj];omega) (λh hh=>hsL_mem.mp hh);refine⟨G,mK ?_,W⟩;unfold vo;refine lV (me (v:=LS (hsL L)) (s':=T) ((qt (vs:=[]) (s2:=T) (lK rfl) hb rfl rfl).trans ?_)) (GN e);unfold nG m7;simp only[hb]
def WG.noG{L}(W:WG L (hsL L) []):NoG L:=by
 intro G hG hh;refine b8 λz=>?_;cases G with
 |nil=>exact hG rfl
 |cons g G =>
  have:=W.mx (g::G) (λh Rj=>hsL_mem.mpr (hh h Rj)) (λh h1 x hx=>b8 λq=>z ⟨h,h1,x,hx,q⟩) g ai;cases this
def WG.nil{L}(W:WG L (hsL L) G)(ng:NoG L):G=[]:=by refine b8 λz=>?_;obtain⟨h,h1,x,h2,h3⟩:=ng G z λh hh=>hsL_mem.mp (W.sl.subset hh);exact h3 (W.cl h h1 x h2)
def LN(a:Adr)(H:Ho L N)(hl:L.length<=64)(ng:NoG L)(hb:T.get nb=Za (.book pp L)):nW a [.ref nb] T=.ok .non T:=by obtain⟨G,e,W⟩:=wl a H hl hb;have:=W.nil ng;subst this;refine Aa (Z:=[Za (.ref nb),Za (LS [])]) ?_;unfold pC;refine lV (me (l9 (lL (lK rfl) rfl) rfl e)) ((qK (s1:=T) (oa ((mq (lK rfl) (vi rfl)).trans ?_))).trans rfl);exact KF (U:=[]) (V:=[]) (λ_ z=>nomatch z) (λ_ z=>nomatch z)
end
def nmD(ns:List Str)(g:Str->PV):List (Key×PV):=ns.map λn=>(aj n,g n)
def F4(h:x∈ns):oZ (nmD ns g) (aj x)=Za (g x):=by
 unfold oZ nmD;induction ns with
 |nil=>cases h
 |cons n ns ih =>
  rw[al,bF];by_cases e:n=x
  ·subst e;rw[show decide ((aj n:Key)=aj n)=true from Zg rfl];rfl
  ·rw[show decide ((aj n:Key)=aj x)=false from Zh λz=>e (cM z)];exact ih ((af.mp h).resolve_left λz=>e z.symm)
def Oi(h:x∉ns):oZ (nmD ns g) (aj x)=none:=by refine Bg λz=>h ?_;obtain⟨kv,hk,e⟩:=ah.mp z;obtain⟨n,hn,rfl⟩:=ah.mp hk;exact cM e▸hn
theorem BF:∀(ns:List Str)(Po:List (Key×PV)),ns.Nodup->(∀n∈ns,(aj n:Key)∉Po.map (·.1))->AZ Po (ns.map λn=>.tup [.str n,g n])=Za (Po++nmD ns g)
 |[],Po,_,_=>by simp[AZ,nmD]
 |n::ns,Po,nd,h=>by
  obtain⟨n1,n2⟩:=aI.mp nd;have e:xN Po (aj n) (g n)=Po++[(aj n,g n)]:=by unfold xN;rw[Zd];intro z;obtain⟨kv,h1,h2⟩:=cL.mp z;exact h n ai (ah.mpr ⟨kv,h1,Zf h2⟩)
  have ih:=BF (g:=g) ns (Po++[(aj n,g n)]) n2 λm hm z=>by
   rw[au,aJ] at z;rcases z with z|z
   ·exact h m (ae _ hm) z
   ·have:(aj m:Key)=aj n:=by simpa using z
    exact n1 (cM this▸hm)
  show AZ (xN Po (aj n) (g n)) (ns.map λn=>.tup [.str n,g n])=_;rw[e,ih,List.append_assoc];rfl
def FD(nd:ns.Nodup):AX [.lst (ns.map λn=>.tup [.str n,g n])] s=.ok (.dct (nmD ns g)) s:=by have:=BF (g:=g) ns [] nd (λ_ _ z=>nomatch z);simp only[AX,lsOf,this,g5]
def Ib(h:x∈ns):fIx (.dct (nmD ns g)) (.str x) s=.ok (g x) s:=by simp[fIx,lsOf,dcOf,kyOf,F4 h]
def pcn(l:Hl):Nat:=((srt (l.map (·.1))).map λn=>(l7 l n).2.toNat).foldl fR 1
def pc(l:Hl)(x:Str):Int:=(l7 l x).1*((pcn l:Int)/(l7 l x).2)
theorem Ee{D:Nat}:∀(bs:List Nat)(p:Nat),0<p->p∣D->(∀b∈bs,0<b/\b∣D)->0<bs.foldl fR p/\p∣bs.foldl fR p/\bs.foldl fR p∣D/\∀b∈bs,b∣bs.foldl fR p
 |[],p,h0,hd,_=>⟨h0,Nat.dvd_refl _,hd,λ_ z=>nomatch z⟩
 |b::bs,p,h0,hd,hb=>by
  obtain⟨b0,bd⟩:=hb b ai;obtain⟨a1,a2,a3,a4⟩:=Ee bs (fR p b) (Nat.lcm_pos h0 b0) (Nat.lcm_dvd hd bd) λx hx=>hb x (ae _ hx);refine⟨a1,Nat.dvd_trans (Nat.dvd_lcm_left p b) a2,a3,λx hx=>?_⟩;rcases af.mp hx with e|hx
  ·subst e;exact Nat.dvd_trans (Nat.dvd_lcm_right p x) a2
  ·exact a4 x hx
def Ji(p b:Nat):(p:Int)*((b:Int)/((aF (p:Int) (b:Int):Nat):Int))=(fR p b:Nat):=by rw[show aF (p:Int) (b:Int)=Nat.gcd p b from rfl,<-Int.natCast_ediv,<-Int.natCast_mul];unfold fR;rw[Nat.mul_div_assoc _ (Nat.gcd_dvd_right p b)]
section
variable{k:Nat}{l hz:Hl}
def HR.den(R:HR k l hz):∃D:Nat,0<D/\Bt (97*k+1) (D:Int)/\∀x,(l7 l x).2.toNat∣D:=by
 obtain⟨D,U,d0,db,on⟩:=R.dv;refine⟨D.toNat,by lia,by rw[eT (by lia)];exact db,λx=>?_⟩;have h:=(on x).dvd;rw[<-R.q] at h;have b0:=(R.fr x).low.1;have:(((l7 l x).2.toNat:Nat):Int)∣(D.toNat:Int):=by rw[eT (by lia),eT (by lia)];exact h
 exact ft.mp this
def HR.pieces(R:HR k l hz):0<pcn l/\Bt (97*k+1) (pcn l:Int)/\∀x,(l7 l x).2∣(pcn l:Int):=by
 obtain⟨D,d0,db,dv⟩:=R.den;obtain⟨a1,a2,a3,a4⟩:=Ee (D:=D) ((srt (l.map (·.1))).map λn=>(l7 l n).2.toNat) 1 (by decide) (Nat.one_dvd _) λb hb=>by obtain⟨n,hn,rfl⟩:=ah.mp hb;exact⟨by have:=(R.fr n).low.1;lia,dv n⟩
 refine⟨a1,db.dvd (by lia) (ft.mpr a3),λx=>?_⟩;by_cases hx:x∈l.map (·.1)
 ·have:=a4 (l7 l x).2.toNat (ah.mpr ⟨x,(lY _).mem_iff.mpr hx,rfl⟩);have:=ft.mpr this;rw[eT (bA (R.fr x).low.1)] at this;exact this
 ·rw[vn hx];exact Int.one_dvd _
def HR.pc_val(R:HR k l hz)(x):((pc l x:Int):Rat)=(pcn l:Int)*rv (l7 l x):=by
 obtain⟨a1,a2,a3⟩:=R.pieces;obtain⟨m,hm⟩:=a3 x;have b0:=(R.fr x).low.1;unfold pc rv;rw[hm,cP _ (by lia),Rat.divInt_eq_div,cU,cU];have:(((l7 l x).2:Int):Rat)≠0:=λz=>by have:=ke.mp z;lia
 grind
def OS(a)(s)(R:HR k l hz)(hk:k<=41)(hl:l.length<64):Ie a [qf l] s=.ok (.dct (nmD (srt (l.map (·.1))) λx=>.int (pc l x))) s:=by
 obtain⟨D,d0,db,dv⟩:=R.den;have sh:∀x,Bt 9000 (l7 l x).2/\0<(l7 l x).2/\Bt 9000 (l7 l x).1:=λx=>⟨(R.fr x).bb.mono (by lia),(R.fr x).low.1,(R.fr x).top.mono (by lia)⟩;have bD:∀p:Nat,0<p->p∣D->Bt 9000 (p:Int):=λp h0 hp=>(db.dvd (by lia) (ft.mpr hp)).mono (by lia);have lp:∀(ns:List Str)(p:Nat)(u2 u3:Option PV),0<p->p∣D->∃v2 v3,nJ (mQ (yTup 2 (yCons (yName 2) (yCons (yName 3) yNil))) (wZ a)) (ns.map λn=>qJ (mC l n)) [Za (qf l),Za (.int (p:Nat)),u2,u3] s=.nx [Za (qf l),Za (.int (((ns.map λn=>(l7 l n).2.toNat).foldl fR p:Nat):Int)),v2,v3] s:=by
  intro ns;induction ns with
  |nil=>exact λp u2 u3 _ _=>⟨u2,u3,rfl⟩
  |cons n ns ih =>
   intro p u2 u3 p0 pd;obtain⟨s1,s2,s3⟩:=sh n;have eb:((l7 l n).2.toNat:Int)=(l7 l n).2:=eT (by lia);have ld:=Nat.lcm_dvd pd (dv n);have l0:0<fR p (l7 l n).2.toNat:=Nat.lcm_pos p0 (by lia);obtain⟨v2,v3,e⟩:=ih (fR p (l7 l n).2.toNat) (Za (.str n)) (Za (frP (l7 l n))) l0 ld;refine⟨v2,v3,?_⟩;rw[al,al,List.foldl_cons];unfold nJ;have gp:0<aF (p:Int) (l7 l n).2:=bG _ (by lia);have gb:Bt 9000 ((aF (p:Int) (l7 l n).2:Nat):Int):=s1.dvd (by lia) (cm ..);have bd:mQ (yTup 2 (yCons (yName 2) (yCons (yName 3) yNil))) (wZ a) (qJ (mC l n)) [Za (qf l),Za (.int (p:Nat)),u2,u3] s=.nx [Za (qf l),Za (.int ((fR p (l7 l n).2.toNat:Nat):Int)),Za (.str n),Za (frP (l7 l n))] s:=by rw[HC];show wZ a [Za (qf l),Za (.int (p:Nat)),Za (.str n),Za (frP (l7 l n))] s=_;unfold wZ;have st:=Ji p (l7 l n).2.toNat;rw[eb] at st;rw[<-st];refine me (rF (lK rfl) (AN ((mq (lK rfl) rfl).trans ix1) (l9 (lL (lK rfl) (lL ((mq (lK rfl) rfl).trans ix1) rfl)) rfl (show mW a [.int (p:Nat),.int (l7 l n).2] s=.ok (.int ((aF (p:Int) (l7 l n).2:Nat):Int)) s from Zc s2)) ⟨by lia,gb⟩) (rV (bD p p0 pd) s1.div))
   rw[bd];exact e
 obtain⟨v2,v3,e⟩:=lp (srt (l.map (·.1))) 1 Zb Zb (by decide) (Nat.one_dvd _);obtain⟨a1,a2,a3⟩:=R.pieces;refine mK ?_;unfold Ni;refine lV (me (v:=.int 1) (s':=s) rfl) ?_;refine lV (qG (nz (lK rfl)) e) ?_;have c:=uA (s:=s) (cap:=[Za (.int (pcn l:Nat))]) (e:=xTup (xCons (xVar 0) (xCons (x2 (x2 (xVar 1) (xC (.int 0)) fIx) (x2 (xVar 2) (x2 (xVar 1) (xC (.int 1)) fIx) fDiv) fMul) xNil))) l (λn=>.tup [.str n,.int (pc l n)]) (srt (l.map (·.1))) λn _=>by obtain⟨s1,s2,s3⟩:=sh n;rw[show(mC l n).2=l7 l n from rfl];exact tO (lL (lK rfl) (lL (rF ((mq (lK rfl) rfl).trans ix0) (AN (lK rfl) ((mq (lK rfl) rfl).trans ix1) ⟨s2,s1⟩) (rV s3 (a2.mono (by lia)).div)) rfl))
 refine nO ((vK (lL (v:=.lst ((srt (l.map (·.1))).map λn=>.tup [.str n,.int (pc l n)])) (s1:=s) ?_ rfl)).trans (FD ((lY _).nodup_iff.mpr R.n1)));unfold oV;rw[nz (l:=(srt (l.map (·.1))).map λn=>qJ (mC l n)) (s1:=s) (lK rfl)];show(if((srt (l.map (·.1))).map λn=>qJ (mC l n)).length<=100000 then _ else _)=_;rw[Zc (by rw[ac,(lY _).length_eq,ac];lia)];show(mP m9 _ [Za (.int (pcn l:Nat))] _ s).bind _=_;rw[c];rfl
end
structure Gr(T T':Sto):Prop where
 nx:T.nx<=T'.nx
 fr:∀k,k<T.nx->T'.get k=T.get k
def Gr.refl(T):Gr T T:=⟨ao _,λ_ _=>rfl⟩
theorem Gr.trans(h:Gr A B)(k:Gr B C):Gr A C:=⟨aE h.nx k.nx,λj hj=>(k.fr j (ay hj h.nx)).trans (h.fr j hj)⟩
theorem Gr.add(T)(c):Gr T (T.add c):=⟨fS _,λk hk=>by rw[mG,Zd (by lia)]⟩
theorem BL(f):∀(l:List PV),(∀q∈l,∀s,Gr T s->∃s',e (Za q::cap) s=.ok (f q) s'/\Gr T s')->∀s,Gr T s->∃s',nN m9 e cap l s=.ok (l.map f) s'/\Gr T s'
 |[],_,s,g=>⟨s,rfl,g⟩
 |q::l,h,s,g=>by obtain⟨s1,e1,g1⟩:=h q ai s g;obtain⟨s2,e2,g2⟩:=BL f l (λq hq=>h q (ae _ hq)) s1 g1;refine⟨s2,?_,g2⟩;rw[oU];simp only[m9,e1,e2,al]
def pl(L:List Ent)(h:Str):Hl:=match mH L h with
 |some e=>e.held
 |none=>[]
def cv(L:List Ent)(h:Str):PV:=.dct (nmD (own L h) λx=>.int (pc (pl L h) x))
def av(L:List Ent):PV:=.dct (nmD (hsL L) (cv L))
theorem se(f:α->Int):∀l:List α,(((l.map f).sum:Int):Rat)=mE (l.map λx=>((f x:Int):Rat))
 |[]=>rfl
 |x::l=>by rw[al,iJ,hJ,se f l];rfl
def Ke(hx:bi x=true)(hy:bi y=true):fEq (.str x) (.str y) s=.ok (.bl (decide (x=y))) s:=by
 have e:∀x,bi x=true->PV.data s 12 (.str x)=Za (.str x):=λx h=>by unfold PV.data;rw[Zc h]
 show fEqN false _ _ _=_;unfold fEqN;rw[e x hx,e y hy];show Out.ok (PV.bl (bH (.str x) (.str y))) s=_;unfold bH
 congr 2
def Go(h1:f Z s=.ok (.dct l) s)(h2:g Z s=.ok (.str w) s)(h3:h Z s=.ok z s):xGet f g h Z s=.ok ((oZ l (aj w)).getD z) s:=by unfold xGet;rw[h1];simp only[Out.bind,dcOf];rw[h2];simp only[h3,kyOf]
section
variable{T:Sto}{nb:Nat}{pp N:List Str}{L:List Ent}{c:Nat}
theorem Gd.held(g:Gd L N c)(hh:mj L h=true):∃e k hz,mH L h=Za e/\pl L h=e.held/\own L h=srt ((pl L h).map (·.1))/\HR k (My.pl L h) hz/\k<=c/\(∀x,shr L h x=rv (l7 (My.pl L h) x))/\e∈L/\e.nm=h:=by
 obtain⟨e,f,o,s⟩:=g.ent hh;obtain⟨k,hz,R,kc⟩:=g.hr f;have ep:My.pl L h=e.held:=by unfold My.pl;rw[f]
 exact⟨e,k,hz,f,ep,by rw[ep];exact o,by rw[ep];exact R,kc,λx=>by rw[ep];exact s x,(sM f).1,(sM f).2⟩
def Gd.hnd(g:Gd L N c):(hsL L).Nodup:=(lY _).nodup_iff.mpr g.nd
def Gd.hok(g:Gd L N c)(hh:h∈hsL L):bi h=true:=EG (g.ho.sm h (g.ho.hn h (hsL_mem.mp hh)))
def Km(g:Gd L N c)(h x):(oZ (nmD (own L h) λx=>.int (pc (pl L h) x)) (aj x)).getD (.int 0)=.int (pc (pl L h) x):=by
 by_cases hx:x∈own L h
 ·rw[F4 hx];rfl
 ·rw[Oi hx];show PV.int 0=_;have:x∉(pl L h).map (·.1):=λz=>hx (by
   unfold own;unfold pl at z;cases e:mH L h with
   |none=>rw[e] at z;cases z
   |some e'=>rw[e] at z;exact(lY _).mem_iff.mpr z)
  unfold pc;rw[vn this];show PV.int 0=PV.int (0*_);rw[jb]
def Gd.pc_sum(g:Gd L N c)(hh:mj L h=true):((own L h).map (pc (My.pl L h))).sum=(pcn (My.pl L h):Int):=by
 obtain⟨e,k,hz,f,ep,o,R,kc,sv,_⟩:=g.held hh;refine Rat.intCast_inj.mp ?_;rw[se];have:mE ((own L h).map λx=>((pc (My.pl L h) x:Int):Rat))=mE ((own L h).map λx=>((pcn (My.pl L h):Int):Rat)*shr L h x):=mS λx _=>by rw[R.pc_val,sv]
 rw[this,qS,g.one hh,Rat.mul_one]
def Fi(a)(g:Gd L N c)(hb:T.get nb=Za (.book pp L)):xK a [.ref nb] T=.ok (av L) T:=by
 refine mK ?_;unfold BD;have c1:=sA (s:=T) (cap:=[Za (.ref nb)]) (e:=xTup (xCons (xVar 0) (xCons (xCall 1 (Ie a) (xCons (xBM 2 (nF a) (xVar 1) (xCons (xVar 0) xNil)) xNil)) xNil))) (λh=>.tup [.str h,cv L h]) (hsL L) (λh hh=>by
  have hh:=hsL_mem.mp hh;obtain⟨e,k,hz,f,ep,o,R,kc,sv,_⟩:=g.held hh;have hl:=(g.ho.ow h e f).1;have sh:nF a [.ref nb,.str h] T=.ok (qf (pl L h)) T:=by simp only[nF,m7,hb];rw[Zc (g.ho.sm h (g.ho.hn h hh)).nm,f,ep];exact Zc hl
  have ct:=OS a T R (by have:=g.c40;lia) (by rw[ep];exact hl);rw[<-o] at ct;exact tO (lL (lK rfl) (lL (l9 (lL ((qt (lK rfl) hb (lL (lK rfl) rfl) rfl).trans sh) rfl) rfl ct) rfl)))
 refine nO ((vK (lL (pL (l:=(hsL L).map .str) (s1:=T) (nz ((qt (vs:=[]) (s2:=T) (lK rfl) hb rfl rfl).trans ?_)) (by rw[ac,qj];have:=g.l8;lia) c1) rfl)).trans (FD g.hnd));unfold nG m7;simp only[hb]
def owr(L:List Ent)(h:Str):List Int:=(hsL L).map λo=>(if o=h then(pcn (pl L h):Int) else 0)-pc (pl L o) h
def unr(L:List Ent)(h:Str):List Int:=(hsL L).map λo=>if o=h then 1 else 0
def Hb(a)(g:Gd L N c)(hh:h∈hsL L)(T):Ak a [.str h,LS (hsL L),av L] T=.ok (.ref T.nx) (T.add (.lst ((owr L h).map .int))):=by
 refine mK ?_;unfold Ec;have l8:(hsL L).length<=8:=by rw[qj];exact g.l8
 have c1:=xE (s:=T) (cap:=[Za (.str h),Za (av L)]) (e:=x1 (xGet (x2 (xVar 2) (xVar 0) fIx) (xVar 1) (xC (.int 0))) fNeg) (λo=>-pc (pl L o) h) (hsL L) (λo ho=>by
  have e1:xGet (x2 (xVar 2) (xVar 0) fIx) (xVar 1) (xC (.int 0)) [Za (.str o),Za (.str h),Za (av L)] T=.ok (.int (pc (pl L o) h)) T:=by rw[Go ((mq (lK rfl) (lK rfl)).trans (Ib ho)) (lK rfl) rfl,Km g]
  unfold x1;rw[e1];rfl)
 have cc:yr (xIter (xVar 1)) [0,2] m9 (x1 (xGet (x2 (xVar 2) (xVar 0) fIx) (xVar 1) (xC (.int 0))) fNeg) [Za (.str h),Za (LS (hsL L)),Za (av L),Zb] T=.ok (.ref T.nx) (T.add (.lst (((hsL L).map λo=>-pc (pl L o) h).map PV.int))):=by unfold yr;rw[nz (l:=(hsL L).map .str) (s1:=T) (lK rfl)];show(if((hsL L).map PV.str).length<=100000 then _ else _)=_;rw[Zc (by rw[ac];lia)];show(nN m9 _ [Za (.str h),Za (av L)] _ T).bind _=_;rw[c1];rfl
 refine lV (me cc) ?_;generalize hT:T.add (.lst (((hsL L).map λo=>-pc (pl L o) h).map PV.int))=T1;have g1:T1.get T.nx=Za (.lst (((hsL L).map λo=>-pc (pl L o) h).map PV.int)):=by rw[<-hT,mG,Zc rfl]
 obtain⟨i,hi⟩:∃i,(hsL L).findIdx? (λz=>decide (z=h))=Za i:=by
  cases e:(hsL L).findIdx? (λz=>decide (z=h)) with
  |some i=>exact⟨i,rfl⟩
  |none=>exact absurd (Zg rfl) (by rw[List.findIdx?_eq_none_iff] at e;rw[e h hh];decide)
 obtain⟨il,ie,_⟩:=iU.mp hi;have ie:(hsL L)[i]=h:=Zf ie;have ix:Al (xVar 1) (xCons (xVar 0) xNil) [Za (.str h),Za (LS (hsL L)),Za (av L),Za (.ref T.nx)] T1=.ok (.int (i:Nat)) T1:=by unfold Al;rw[lK (i:=1) (v:=LS (hsL L)) rfl,uR];have ca:xCons (xVar 0) xNil [Za (.str h),Za (LS (hsL L)),Za (av L),Za (.ref T.nx)] T1=.ok [.str h] T1:=lL (lK (i:=0) (v:=.str h) rfl) rfl;simp only[ca,uR,vy,hi];rw[Zc (by lia)]
 have sv:Ew (x2 (xVar 2) (xVar 0) fIx) [Za (.str h),Za (LS (hsL L)),Za (av L),Za (.ref T.nx)] T1=.ok (.int (pcn (pl L h):Nat)) T1:=by
  unfold Ew;have e2:(nmD (own L h) λx=>PV.int (pc (pl L h) x)).map (λkv:Key×PV=>kv.2)=((own L h).map (pc (pl L h))).map PV.int:=by unfold nmD;rw[aH,aH];rfl
  rw[(mq (lK (i:=2) (v:=av L) rfl) (lK (i:=0) (v:=.str h) rfl)).trans (Ib hh),uR];show(match tR ((nmD (own L h) λx=>PV.int (pc (pl L h) x)).map λkv:Key×PV=>kv.2) with
    |some is=>Out.ok (PV.int is.sum) T1
    |none=>.bad)=_
  rw[e2,vG];simp only[g.pc_sum (hsL_mem.mp hh)]
 refine lV (ρ':=[Za (.str h),Za (LS (hsL L)),Za (av L),Za (.ref T.nx)]) (s':=T.add (.lst ((owr L h).map .int))) ?_ (nO (lK rfl));show HS (xVar 3) (Al (xVar 1) (xCons (xVar 0) xNil)) (Ew (x2 (xVar 2) (xVar 0) fIx)) [Za (.str h),Za (LS (hsL L)),Za (av L),Za (.ref T.nx)] T1=_;unfold HS;rw[lK (i:=3) (v:=.ref T.nx) rfl];simp only[Out.so];rw[ix];simp only[Out.so,g1,Int.toNat_natCast];rw[Zc (by lia)];have gi:(((hsL L).map λo=>-pc (pl L o) h).map PV.int)[i]?=Za (.int (-pc (pl L h) h)):=by rw[aC,aC,aw il,ie];rfl
 rw[gi];simp only[sv,g1];rw[Zc (by rw[ac,ac];exact il)];have row:(((hsL L).map λo=>-pc (pl L o) h).map PV.int).set i (.int (-pc (pl L h) h+(pcn (pl L h):Nat)))=(owr L h).map .int:=by
  refine i6 λj=>?_;rw[List.getElem?_set];unfold owr;by_cases q:i=j
  ·subst q;rw[Zc rfl,Zc (by rw[ac,ac];exact il),aC,aC,aw il,ie];show Za (PV.int (-pc (pl L h) h+(pcn (pl L h):Nat)))=Za (PV.int ((if h=h then(pcn (pl L h):Int) else 0)-pc (pl L h) h));rw[Zc rfl]
   congr 2
   lia
  ·rw[Zd q,aC,aC,aC,aC];cases e:(hsL L)[j]? with
   |none=>rfl
   |some o =>
    have:o≠h:=λz=>q ((List.getElem?_inj il g.hnd).mp (by rw[e,z,aw il,ie]));show Za (PV.int (-pc (pl L o) h))=Za (PV.int ((if o=h then(pcn (pl L h):Int) else 0)-pc (pl L o) h));rw[Zd this]
    congr 2
    lia
 rw[row,<-hT,tm]
def JH(a)(g:Gd L N c)(hh:h∈hsL L)(T):re a [.str h,LS (hsL L),av L] T=.ok (LI (owr L h++unr L h)) (T.add (.lst ((owr L h).map .int))):=by
 have l8:(hsL L).length<=8:=by rw[qj];exact g.l8
 refine mK ?_;unfold xT;generalize hT:T.add (.lst ((owr L h).map .int))=T1;have g1:T1.get T.nx=Za (.lst ((owr L h).map .int)):=by rw[<-hT,mG,Zc rfl]
 have ow:=Hb a g hh T;rw[hT] at ow;have c1:=xE (s:=T1) (cap:=[Za (.str h)]) (e:=xIfe (xTr (x2 (xVar 0) (xVar 1) fEq)) (xC (.int 1)) (xC (.int 0))) (λo=>if o=h then 1 else 0) (hsL L) (λo ho=>by
  have e1:xTr (x2 (xVar 0) (xVar 1) fEq) [Za (.str o),Za (.str h)] T1=.ok (decide (o=h)) T1:=oa ((mq (lK rfl) (lK rfl)).trans (Ke (g.hok ho) (g.hok hh)));unfold xIfe;rw[e1];by_cases z:o=h
  ·rw[Zg z];show Out.ok (PV.int 1) T1=Out.ok (PV.int (if o=h then 1 else 0)) T1;rw[Zc z]
  ·rw[Zh z];show Out.ok (PV.int 0) T1=Out.ok (PV.int (if o=h then 1 else 0)) T1;rw[Zd z])
 change nN _ _ _ _ _=.ok ((unr L h).map .int) T1 at c1
 refine nO ((mq (l9 (lL (lK rfl) (lL (lK rfl) (lL (lK rfl) rfl))) rfl ow) (pL (l:=(hsL L).map .str) (s1:=T1) (nz (lK rfl)) (by rw[ac];lia) c1)).trans ?_);have lo:(owr L h).length<=8:=by unfold owr;rw[ac];exact l8
 have lu:(unr L h).length<=8:=by unfold unr;rw[ac];exact l8
 simp only[fAdd,lsOf,g1];rw[Zc (by rw[ac,ac];lia),<-au]
end
end My
namespace El
def Zm.scale(h:Zm n 0 S)(q:Nat->Rat)(hq:∀j,j<n->0<q j)(e:∀i j,i<n->j<n->T i j=q j*S i j):Zm n 0 T:=by
 have gse:∀G j,j<n->gs n G T j=q j*gs n G S j:=λG j hj=>by
  unfold gs;rw[<-sm_mul];refine sm_congr λi hi=>?_;split
  ·exact e i j hi hj
  ·exact(kC _).symm
 refine⟨λi j _ hi _ hj PH=>?_,λG hG j hj Gj=>?_,λG hG hx=>?_⟩
 ·rw[e i j hi hj];have:=h.off i j (a7 _) hi (a7 _) hj PH;have:=bK (a:=q j) (b:=-S i j) (kD (hq j hj)) (by grind)
  grind
 ·rw[gse G j hj];exact bK (kD (hq j hj)) (h.col G hG j hj Gj)
 ·obtain⟨j,Gj,p⟩:=h.grp G hG hx;have hj:=(hG j Gj).2;exact⟨j,Gj,by rw[gse G j hj];exact iu (hq j hj) p⟩
def ab_int(z:Int):ab (z:Rat)=((z.natAbs:Nat):Rat):=by
 unfold ab;split
 ·rename_i h;have:z<0:=fB.mp h;rw[<-Rat.intCast_neg,<-cI]
  congr 1
  lia
 ·rename_i h;have:¬z<0:=λq=>h (fB.mpr q);rw[<-cI]
  congr 1
  lia
end El
namespace My
open PySem L2 Fra
def oS:List Nat->Nat
 |[]=>1
 |x::l=>x*oS l
theorem xq:∀l m:List Nat,oS (l++m)=oS l*oS m
 |[],m=>(Nat.one_mul _).symm
 |x::l,m=>by show x*oS (l++m)=x*oS l*oS m;rw[xq l m,jZ]
def ES(h:l.Perm m):oS l=oS m:=by
 induction h with
 |nil=>rfl
 |cons x _ ih=>show x*_=x*_;rw[ih]
 |swap x y l=>show y*(x*oS l)=x*(y*oS l);rw[<-jZ,<-jZ,kJ y]
 |trans _ _ a b=>exact a.trans b
theorem FU(f:Str->Nat):∀k,k<=U.length->El.pr (λi=>((f (nth U i):Nat):Rat)) k=((oS ((U.take k).map f):Nat):Rat)
 |0,_=>rfl
 |k+1,hk=>by show El.pr _ k*_=_;rw[FU f k (by lia),dX,(oh (U:=U) (i:=k) (by lia)).1,au,xq,jo];show _*((f (nth U k):Nat):Rat)=_*(((f (nth U k))*1:Nat):Rat);rw[Nat.mul_one]
theorem Cts.prod:∀{c:Nat}{L:List Ent},Cts c L->oS (L.map λe=>2*pcn e.held)<=2^(97*c+2*L.length)
 |_,_,.nil=>Nat.one_le_two_pow
 |_,_,.cons (c1:=c1) (c2:=c2) (c:=c) (e:=e) (L:=L) ⟨hz,R⟩ r q=>by
  have ih:=r.prod;obtain⟨_,b,_⟩:=R.pieces;have b:pcn e.held<2^(97*c1+1):=b;show 2*pcn e.held*oS (L.map λe=>2*pcn e.held)<=_;have h1:2*pcn e.held<=2^(97*c1+2):=by rw[show 97*c1+2=97*c1+1+1 from rfl,gY];lia
  refine aE (Nat.mul_le_mul h1 ih) ?_;rw[<-jk];refine b7 (by decide) ?_;rw[aY];lia
section
variable{T:Sto}{nb:Nat}{pp N:List Str}{L:List Ent}{c:Nat}
abbrev nj(L:List Ent):List (List Int):=(hsL L).map λh=>owr L h++unr L h
def qn(L:List Ent)(j:Nat):Nat:=pcn (pl L (nth (hsL L) j))
def DR(hi:i<(hsL L).length):(nj L)[i]?=Za (owr L (nth (hsL L) i)++unr L (nth (hsL L) i)):=by rw[aC,(oh hi).1];rfl
def FQ(hi:i<(hsL L).length)(hj:j<(hsL L).length):at2 (nj L) i j=(if nth (hsL L) j=nth (hsL L) i then(pcn (pl L (nth (hsL L) i)):Int) else 0)-pc (pl L (nth (hsL L) j)) (nth (hsL L) i):=by
 refine qQ (DR hi) ?_;have hl:(owr L (nth (hsL L) i)).length=(hsL L).length:=by unfold owr;rw[ac]
 rw[dq (by lia)];unfold owr;rw[aC,(oh hj).1];rfl
def FR(hi:i<(hsL L).length)(hj:j<(hsL L).length):at2 (nj L) i ((hsL L).length+j)=if nth (hsL L) j=nth (hsL L) i then 1 else 0:=by
 refine qQ (DR hi) ?_;have hl:(owr L (nth (hsL L) i)).length=(hsL L).length:=by unfold owr;rw[ac]
 rw[cG (by lia),hl,kq];unfold unr;rw[aC,(oh hj).1];rfl
def IC(hj:2*(hsL L).length<=j):at2 (nj L) i j=0:=by
 unfold at2;rw[aC];cases e:(hsL L)[i]? with
 |none=>rfl
 |some h =>
  show((owr L h++unr L h)[j]?).getD 0=0;rw[cJ]
  ·rfl
  ·rw[aD];unfold owr unr;rw[ac,ac];lia
def Gd.mul(g:Gd L N c)(hi:i<(hsL L).length)(hj:j<(hsL L).length):((at2 (nj L) i j:Int):Rat)=(qn L j:Rat)*mA L (hsL L) i j:=by
 rw[FQ hi hj];obtain⟨e,k,hz,f,ep,o,R,kc,sv,_⟩:=g.held (hsL_mem.mp (oh hj).2);have pv:=R.pc_val (nth (hsL L) i);rw[<-sv] at pv;unfold mA qn;rw[g9,pv,cI];by_cases q:i=j
 ·subst q;rw[Zc rfl,Zc rfl,cI]
  grind
 ·rw[Zd q,Zd λz=>q (zd g.hnd hj hi z).symm];show((0:Int):Rat)-_=_;have:((0:Int):Rat)=0:=rfl
  grind
def Gd.qpos(g:Gd L N c)(hj:j<(hsL L).length):1<=qn L j:=by obtain⟨e,k,hz,f,ep,o,R,kc,sv,_⟩:=g.held (hsL_mem.mp (oh hj).2);exact R.pieces.1
def Gd.zmr(g:Gd L N c)(ng:NoG L):El.Zm (hsL L).length 0 λi j=>((at2 (nj L) i j:Int):Rat) :=
 (g.zm ng g.hnd λx hx=>hsL_mem.mp hx).scale (λj=>(qn L j:Rat)) (λj hj=>by
  have:=g.qpos hj;have h:((0:Nat):Rat)<((qn L j:Nat):Rat):=by rw[<-cI,<-cI];exact fB.mpr (by lia)
  exact h) λi j hi hj=>g.mul hi hj
def bC(L:List Ent)(j:Nat):Nat:=if j<(hsL L).length then 2*qn L j else 1
def Gd.sub1(g:Gd L N c)(hh:mj L h=true):mE ((hsL L).map (shr L h))<=1:=by
 rw[wo g.hnd (g.ond h) (λx _ z=>g.zero z),<-g.one hh];refine yP λx _=>?_;have:=g.nn h x;split
 ·exact iw
 ·exact this
def Gd.col(g:Gd L N c)(j):El.sm (λr=>El.ab ((at2 (nj L) r j:Int):Rat)) (hsL L).length<=(bC L j:Rat):=by
 unfold bC;by_cases hj:j<(hsL L).length
 ·rw[Zc hj];have hh:=hsL_mem.mp (oh hj).2;have q0:(0:Rat)<=(qn L j:Rat):=by have:((0:Nat):Rat)<=(qn L j:Rat):=cH.mpr (a7 _);exact this
  have e:El.sm (λr=>El.ab ((at2 (nj L) r j:Int):Rat)) (hsL L).length<=El.sm (λr=>(qn L j:Rat)*(1*(if r=j then 1 else 0)+1*shr L (nth (hsL L) j) (nth (hsL L) r))) (hsL L).length:=El.sm_mono λr hr=>by
   rw[g.mul hr hj,El.ab_mul];have a1:El.ab (qn L j:Rat)=(qn L j:Rat):=by unfold El.ab;rw[Zd];grind
   rw[a1];refine dL ?_ q0;unfold mA;have:=g.nn (nth (hsL L) j) (nth (hsL L) r);unfold El.ab;split<;>grind
  refine da e ?_;rw[El.sm_mul,El.sm_lin,El.sm_one hj (λk _ hk=>Zd hk),Zc rfl,CV (λx=>shr L (nth (hsL L) j) x)];have s1:=g.sub1 hh;have:(((2*qn L j:Nat):Nat):Rat)=(qn L j:Rat)*2:=by rw[kJ,jo];rfl
  rw[this];refine dL ?_ q0
  grind
 ·rw[Zd hj];show _<=(1:Rat);by_cases h2:j<2*(hsL L).length
  ·obtain⟨k,rfl⟩:∃k,j=(hsL L).length+k:=⟨j-(hsL L).length,by lia⟩;have hk:k<(hsL L).length:=by lia
   have e:El.sm (λr=>El.ab ((at2 (nj L) r ((hsL L).length+k):Int):Rat)) (hsL L).length=El.sm (λr=>if r=k then 1 else 0) (hsL L).length:=El.sm_congr λr hr=>by
    rw[FR hr hk];by_cases q:r=k
    ·subst q;rw[Zc rfl,Zc rfl];rfl
    ·rw[Zd q,Zd λz=>q (zd g.hnd hk hr z).symm];rfl
   rw[e,El.sm_one hk (λk _ hk=>Zd hk),Zc rfl];exact iw
  ·rw[El.sm_zero λr hr=>by rw[IC (by lia)];rfl];decide
def Gd.bC1(g:Gd L N c)(j):1<=bC L j:=by
 unfold bC;split
 ·rename_i h;have:=g.qpos h;lia
 ·exact ao _
def Gd.bCle(g:Gd L N c)(j):bC L j<=2^3980:=by
 unfold bC;split
 ·rename_i h;obtain⟨e,k,hz,f,ep,o,R,kc,sv,_⟩:=g.held (hsL_mem.mp (oh h).2);have b:pcn (pl L (nth (hsL L) j))<2^(97*k+1):=R.pieces.2.1;have c4:=g.c40;have:2^(97*k+1)<=2^3979:=b7 (by decide) (by lia);have e2:2^3980=2^3979*2:=gY ..;unfold qn;rw[e2];generalize 2^3979=m at *;lia
 ·exact Nat.one_le_two_pow
theorem Gd.prod(g:Gd L N c)(ht:t<=(hsL L).length):El.pr (λj=>(bC L j:Rat)) t<=((2^3993:Nat):Rat):=by
 have e0:∀k,k<=(hsL L).length->El.pr (λj=>(bC L j:Rat)) k=((oS (((hsL L).take k).map λh=>2*pcn (pl L h)):Nat):Rat):=λk hk=>by rw[<-FU (U:=hsL L) (λh=>2*pcn (pl L h)) k hk];refine El.pr_congr λj hj=>?_;unfold bC qn;rw[Zc (by lia)]
 have Vz:oS ((hsL L).map λh=>2*pcn (pl L h))<=2^3993:=by
  have p1:oS ((hsL L).map λh=>2*pcn (pl L h))=oS ((L.map (·.nm)).map λh=>2*pcn (pl L h)):=ES ((lY _).map _);have p2:(L.map (·.nm)).map (λh=>2*pcn (pl L h))=L.map λe=>2*pcn e.held:=by
   rw[aH];refine aV λe he=>?_;show 2*pcn (pl L e.nm)=_;obtain⟨A,B,rfl⟩:=lI he;have hn:e.nm∉A.map (·.nm):=λz=>by have:=g.nd;rw[au,al] at this;exact(bJ.mp this).2.2 _ z _ ai rfl
   unfold pl;rw[sL hn]
  rw[p1,p2];refine aE g.ct.prod (b7 (by decide) ?_);have:=g.c40;have:=g.l8;lia
 rw[e0 t ht];refine cH.mpr (aE ?_ Vz);have sp:oS ((hsL L).map λh=>2*pcn (pl L h))=oS (((hsL L).take t).map λh=>2*pcn (pl L h))*oS (((hsL L).drop t).map λh=>2*pcn (pl L h)):=by rw[<-xq,<-au,kM]
 rw[sp];refine Nat.le_mul_of_pos_right _ ?_;have pos:∀l:List Str,(∀h∈l,h∈hsL L)->0<oS (l.map λh=>2*pcn (pl L h)):=λl=>by
  induction l with
  |nil=>exact λ_=>Nat.one_pos
  |cons h l ih =>
   intro hl;obtain⟨e,k,hz,f,ep,o,R,kc,sv,_⟩:=g.held (hsL_mem.mp (hl h ai));have p:=R.pieces.1;have i:=ih λy hy=>hl y (ae _ hy);show 0<2*pcn (pl L h)*oS (l.map λh=>2*pcn (pl L h));exact lf (lf (by decide) p) i
 exact pos _ λh hh=>kS hh
def Lc:(owr L h++unr L h).length=2*(hsL L).length:=by rw[aD];unfold owr unr;rw[ac,ac];lia
def Gd.bm(g:Gd L N c)(ng:NoG L):=Kp (rows:=nj L) (n:=(hsL L).length) (w:=2*(hsL L).length) (by rw[ac]) (λrow hr=>by obtain⟨h,_,rfl⟩:=ah.mp hr;exact Lc) (by lia) (g.zmr ng)
def Gd.big(g:Gd L N c)(ng:NoG L)(ht:t<=(hsL L).length)(hi:i<(hsL L).length)(hj:j<2*(hsL L).length):Bt 7980 (at2 (bmL (nj L) t).2 i j):=by
 obtain⟨h1,h2,h3,h4⟩:=g.bm ng t ht;obtain⟨⟨X,C⟩,dp,_⟩:=El.run (g.zmr ng) t ht;have le:=C.le ht (B:=λj=>(bC L j:Rat)) (λj=>by have:((1:Nat):Rat)<=(bC L j:Rat):=cH.mpr (g.bC1 j);exact this) (λj=>g.col j) hi j
 rw[<-h4 i j hi hj,El.ab_int] at le;have nn:(0:Rat)<=(bC L j:Rat):=by have:((0:Nat):Rat)<=(bC L j:Rat):=cH.mpr (a7 _);exact this
 have p1:=g.prod ht;have p2:(bC L j:Rat)<=((2^3980:Nat):Rat):=cH.mpr (g.bCle j);have p0:(0:Rat)<=((2^3993:Nat):Rat):=by have:((0:Nat):Rat)<=((2^3993:Nat):Rat):=cH.mpr (a7 _);exact this
 have le2:El.pr (λj=>(bC L j:Rat)) t*(bC L j:Rat)<=((2^3993:Nat):Rat)*((2^3980:Nat):Rat):=by have a1:=dL p1 nn;have a2:=dL p2 p0;refine da ?_ a2;rw[Rat.mul_comm,Rat.mul_comm (((2^3993:Nat):Rat))];exact a1
 have Ub:=da le le2;rw[<-jo] at Ub;have Ub:=cH.mp Ub;unfold Bt;refine aX Ub ?_;rw[<-jk];exact lc (by decide) (by decide)
def Gd.rows(g:Gd L N c)(ng:NoG L):∀t,t<=(hsL L).length->Rows (hsL L).length (2*(hsL L).length) (bmL (nj L) t):=by
 intro t ht;obtain⟨h1,h2,h3,h4⟩:=g.bm ng t ht;obtain⟨⟨X,C⟩,dp,_⟩:=El.run (g.zmr ng) t ht;refine⟨h1,h2,λrow hr x hx=>?_,?_,?_⟩
 ·obtain⟨i,hi⟩:=bX.mp hr;obtain⟨j,hj⟩:=bX.mp hx;have il:=(aW.mp hi).1;have jl:=(aW.mp hj).1;rw[h2 row hr] at jl;rw[h1] at il;rw[<-qQ hi hj];exact(g.big ng ht il jl).mono (by decide)
 ·rw[<-h3] at dp;exact fB.mp dp
 ·cases t with
  |zero=>exact bt1 (by decide)
  |succ t=>exact(g.big ng (t:=t) (by lia) (i:=t) (j:=t) (by lia) (by lia)).mono (by decide)
def ixh(L:List Ent)(h:Str):Nat:=(hsL L).idxOf h
def wb(hh:h∈hsL L):ixh L h<(hsL L).length:=List.idxOf_lt_length_iff.mpr hh
def wU(hh:h∈hsL L):nth (hsL L) (ixh L h)=h:=by have e:=(oh (wb hh)).1;rw[aw (wb hh)] at e;exact(aP e).symm.trans (List.getElem_idxOf _)
def zp(g:Gd L N c)(hi:i<(hsL L).length):ixh L (nth (hsL L) i)=i:=zd g.hnd (wb (oh hi).2) hi (wU (oh hi).2)
structure Slv(L:List Ent)(d:Int)(z:Str->Str->Int):Prop where
 d0:0<d
 db:Bt 9000 d
 zb:∀l∈hsL L,∀k∈hsL L,Bt 7980 (z l k)
 eq:∀h∈hsL L,∀k∈hsL L,((pcn (pl L h):Nat):Rat)*((z h k:Int):Rat)=(if h=k then(d:Rat) else 0)+mE ((hsL L).map λl=>((pc (pl L l) h:Int):Rat)*((z l k:Int):Rat))
def Gd.solve(g:Gd L N c)(ng:NoG L)(a):∃d z,Slv L d z/\∀s,wF a [LL (nj L)] s=.ok (.tup [LL ((hsL L).map λl=>(hsL L).map λk=>z l k),.int d]) s:=by
 have R:=g.rows ng;have l8:(hsL L).length<=8:=by rw[qj];exact g.l8
 obtain⟨h1,h2,h3,h4⟩:=g.bm ng (hsL L).length (ao _);obtain⟨⟨X,C⟩,dp,_⟩:=El.run (g.zmr ng) (hsL L).length (ao _);have RN:=R (hsL L).length (ao _);refine⟨(bmL (nj L) (hsL L).length).1,λl k=>at2 (bmL (nj L) (hsL L).length).2 (ixh L l) ((hsL L).length+ixh L k),⟨RN.d.1,RN.d.2,λl hl k hk=>g.big ng (ao _) (wb hl) (by have:=wb hk;lia),λh hh k hk=>?_⟩,λs=>?_⟩
 ·have ih:=wb hh;have ik:=wb hk;have so:=C.so _ ih ((hsL L).length+ixh L k);have up:∀l,l<(hsL L).length->((at2 (bmL (nj L) (hsL L).length).2 l ((hsL L).length+ixh L k):Int):Rat)=(((bmL (nj L) (hsL L).length).1:Int):Rat)*X l ((hsL L).length+ixh L k):=λl hl=>by rw[h4 l _ hl (by lia),C.up l hl,h3]
  generalize (bmL (nj L) (hsL L).length).1=d at *;have rhs:((at2 (nj L) (ixh L h) ((hsL L).length+ixh L k):Int):Rat)=if h=k then 1 else 0:=by
   rw[FR ih ik,wU hh,wU hk];by_cases q:h=k
   ·rw[Zc q,Zc q.symm];rfl
   ·rw[Zd q,Zd λz=>q z.symm];rfl
  rw[rhs] at so;have e1:El.sm (λl=>((at2 (bmL (nj L) (hsL L).length).2 l ((hsL L).length+ixh L k):Int):Rat)*((at2 (nj L) (ixh L h) l:Int):Rat)) (hsL L).length=(d:Rat)*if h=k then 1 else 0:=by
   rw[<-so,<-El.sm_mul];refine El.sm_congr λl hl=>?_;rw[up l hl]
   grind
  have e2:El.sm (λl=>((at2 (bmL (nj L) (hsL L).length).2 l ((hsL L).length+ixh L k):Int):Rat)*((at2 (nj L) (ixh L h) l:Int):Rat)) (hsL L).length=El.sm (λl=>1*(if l=ixh L h then((pcn (pl L h):Nat):Rat)*((at2 (bmL (nj L) (hsL L).length).2 l ((hsL L).length+ixh L k):Int):Rat) else 0)+(-1)*(λy=>((pc (pl L y) h:Int):Rat)*((at2 (bmL (nj L) (hsL L).length).2 (ixh L y) ((hsL L).length+ixh L k):Int):Rat)) (nth (hsL L) l)) (hsL L).length:=El.sm_congr λl hl=>by
   rw[FQ ih hl,wU hh];simp only[zp g hl];by_cases q:l=ixh L h
   ·subst q;rw[Zc rfl,wU hh,Zc rfl,g9,cI]
    grind
   ·rw[Zd q,Zd λz=>q (by rw[<-z,zp g hl])];have:((0-pc (pl L (nth (hsL L) l)) h:Int):Rat)=-((pc (pl L (nth (hsL L) l)) h:Int):Rat):=by rw[<-Rat.intCast_neg];congr 1;lia
    rw[this]
    grind
  rw[e2,El.sm_lin,El.sm_one ih (λk _ hk=>Zd hk),Zc rfl,CV (λy=>((pc (pl L y) h:Int):Rat)*((at2 (bmL (nj L) (hsL L).length).2 (ixh L y) ((hsL L).length+ixh L k):Int):Rat))] at e1;have:(d:Rat)*(if h=k then 1 else 0)=if h=k then(d:Rat) else 0:=by split<;>grind
  rw[this] at e1
  grind
 ·rw[GT a s (n:=(hsL L).length) (w:=2*(hsL L).length) (by lia) (by lia) (by lia) R]
  congr 4
  have row:∀i,i<(hsL L).length->((bmL (nj L) (hsL L).length).2[i]?).map (·.drop (hsL L).length)=Za ((hsL L).map λk=>at2 (bmL (nj L) (hsL L).length).2 i ((hsL L).length+ixh L k)):=λi hi=>by
   have e:(bmL (nj L) (hsL L).length).2[i]?=Za ((bmL (nj L) (hsL L).length).2[i]'(by lia)):=aw (by lia);have rl:=h2 _ (ce (show i<(bmL (nj L) (hsL L).length).2.length by lia));generalize (bmL (nj L) (hsL L).length).2[i]'(by lia)=row at e rl;rw[e];show Za (row.drop (hsL L).length)=_
   congr 1
   refine i6 λj=>?_;rw[List.getElem?_drop,aC];by_cases hj:j<(hsL L).length
   ·rw[(oh hj).1];obtain⟨x,hx⟩:∃x,row[(hsL L).length+j]?=Za x:=⟨_,aw (by lia)⟩;rw[hx];show Za x=Za (at2 _ i ((hsL L).length+ixh L (nth (hsL L) j)));rw[zp g hj,qQ e hx]
   ·rw[cJ (by lia),cJ (by lia)];rfl
  refine i6 λi=>?_;rw[aC,aC];by_cases hi:i<(hsL L).length
  ·rw[row i hi,(oh hi).1];show Za _=Za ((hsL L).map λk=>at2 _ (ixh L (nth (hsL L) i)) _);rw[zp g hi]
  ·rw[cJ (by lia),cJ (by lia)];rfl
end
section
variable{κ:Type}[DecidableEq κ]
def Dy(l)(k k':κ)(p):tK (CD l k p) k'=if k'=k then Za p else tK l k':=by
 have vc:∀(kv:κ×PV)(l:List (κ×PV)),tK (kv::l) k'=if kv.1=k' then Za kv.2 else tK l k':=λkv l=>by
  unfold tK;rw[bF];by_cases e:kv.1=k'
  ·rw[Zg e,Zc e];rfl
  ·rw[Zh e,Zd e]
 unfold CD;by_cases an:(l.any λkv=>decide (kv.1=k))=true
 ·rw[Zc an];induction l with
  |nil=>cases an
  |cons kv l ih =>
   rw[al,vc,vc];by_cases e:kv.1=k
   ·rw[Zc e];by_cases q:k'=k
    ·rw[Zc (show kv.1=k' by rw[e,q]),Zc q]
    ·rw[Zd (show ¬kv.1=k' by rw[e];exact λz=>q z.symm),Zd q,Zd (show ¬kv.1=k' by rw[e];exact λz=>q z.symm)];by_cases SH:(l.any λkv=>decide (kv.1=k))=true
     ·rw[ih SH,Zd q]
     ·have:l.map (λkv=>if kv.1=k then(kv.1,p) else kv)=l:=by
       conv=>rhs;rw[<-ir l]
       refine aV λx hx=>?_;rw[Zd λz=>SH (cL.mpr ⟨x,hx,Zg z⟩)];rfl
      rw[this]
   ·rw[Zd e];have SH:(l.any λkv=>decide (kv.1=k))=true:=by rw[cO,Zh e,jW] at an;exact an
    rw[ih SH];by_cases q:kv.1=k'
    ·rw[Zc q,Zc q,Zd λz=>e (q.trans z)]
    ·rw[Zd q,Zd q]
 ·rw[Zd an];induction l with
  |nil =>
   show tK [(k,p)] k'=_;rw[vc];by_cases q:k'=k
   ·rw[Zc q.symm,Zc q]
   ·rw[Zd λz=>q z.symm,Zd q]
  |cons kv l ih =>
   have e:kv.1≠k:=λz=>an (by rw[cO,Zg z];rfl);have SH:¬(l.any λkv=>decide (kv.1=k))=true:=λz=>an (by rw[cO,z,Bool.or_true]);rw[List.cons_append,vc,vc,ih SH];by_cases q:kv.1=k'
   ·rw[Zc q,Zc q,Zd λz=>e (q.trans z)]
   ·rw[Zd q,Zd q]
def IG(l)(k:κ)(p):(CD l k p).length<=l.length+1:=by
 unfold CD;split
 ·rw[ac];lia
 ·rw[aD];exact ao _
end
theorem Cw(f g:α->PV):∀l:List α,tX (l.map f) (l.map g)=l.map λx=>.tup [f x,g x]
 |[]=>rfl
 |x::l=>by rw[al,al,al];show PV.tup [f x,g x]::tX (l.map f) (l.map g)=_;rw[Cw f g l]
def tp(L:List Ent)(d:Int)(z:Str->Str->Int)(x h:Str):Int:=(if x=h then d else 0)+((hsL L).map λl=>pc (pl L l) x*z l h).sum
abbrev zL(L:List Ent)(z:Str->Str->Int):PV:=LL ((hsL L).map λl=>(hsL L).map λk=>z l k)
section
variable{T:Sto}{nb k j:Nat}{pp N X:List Str}{L:List Ent}{c:Nat}{d:Int}{z:Str->Str->Int}
def wE(L:List Ent)(d:Int)(z:Str->Str->Int)(k nb:Nat)(u5 u6 u7 u8 u9 Pt:Option PV):En:=[Za (.ref k),Za (.ref nb),Za (LS (hsL L)),Za (av L),Za (.tup [zL L z,.int d]),u5,u6,u7,u8,u9,Pt]
def Gd.pcb(g:Gd L N c)(hh:h∈hsL L)(x):Bt 12000 (pc (pl L h) x):=by obtain⟨e,k,hz,f,ep,o,R,kc,sv,_⟩:=g.held (hsL_mem.mp hh);have:=((R.fr x).top).mul ((R.pieces.2.1).div (d:=(l7 (pl L h) x).2));have c4:=g.c40;exact this.mono (by lia)
theorem FK(a)(g:Gd L N c)(S:Slv L d z)(hi:(hsL L)[i]?=Za h)(s):∀(ns:List Str)(t:Int)(u9 Pt:Option PV),(∀l∈ns,l∈hsL L)->∃v9 QN,nJ (mQ (yTup 2 (yCons (yName 9) (yCons (yName 10) yNil))) (oJ a)) (ns.map λl=>.tup [.str l,LI ((hsL L).map λk=>z l k)]) (wE L d z k nb (Za (.int (i:Nat))) (Za (.str h)) (Za (.str x)) (Za (.int t)) u9 Pt) s=.nx (wE L d z k nb (Za (.int (i:Nat))) (Za (.str h)) (Za (.str x)) (Za (.int (t+(ns.map λl=>pc (pl L l) x*z l h).sum))) v9 QN) s
 |[],t,u9,Pt,_=>⟨u9,Pt,by rw[dA,dA,List.sum_nil,Int.add_zero];rfl⟩
 |l::ns,t,u9,Pt,hn=>by
  have hl:=hn l ai;have hh:h∈hsL L:=dy hi;obtain⟨v9,QN,e⟩:=FK a g S (x:=x) hi s ns (t+pc (pl L l) x*z l h) (Za (.str l)) (Za (LI ((hsL L).map λk=>z l k))) λy hy=>hn y (ae _ hy);refine⟨v9,QN,?_⟩;rw[al,al,iJ,<-Int.add_assoc];unfold nJ;have bd:mQ (yTup 2 (yCons (yName 9) (yCons (yName 10) yNil))) (oJ a) (.tup [.str l,LI ((hsL L).map λk=>z l k)]) (wE L d z k nb (Za (.int (i:Nat))) (Za (.str h)) (Za (.str x)) (Za (.int t)) u9 Pt) s=.nx (wE L d z k nb (Za (.int (i:Nat))) (Za (.str h)) (Za (.str x)) (Za (.int (t+pc (pl L l) x*z l h))) (Za (.str l)) (Za (LI ((hsL L).map λk=>z l k)))) s:=by
   show oJ a (wE L d z k nb (Za (.int (i:Nat))) (Za (.str h)) (Za (.str x)) (Za (.int t)) (Za (.str l)) (Za (LI ((hsL L).map λk=>z l k)))) s=_;unfold oJ;have e1:xGet (x2 (xVar 3) (xVar 9) fIx) (xVar 7) (xC (.int 0)) (wE L d z k nb (Za (.int (i:Nat))) (Za (.str h)) (Za (.str x)) (Za (.int t)) (Za (.str l)) (Za (LI ((hsL L).map λk=>z l k)))) s=.ok (.int (pc (pl L l) x)) s:=by rw[Go ((mq (lK rfl) (lK rfl)).trans (Ib hl)) (lK rfl) rfl,Km g]
   have e2:=rF e1 ((mq (lK (i:=10) rfl) (lK (i:=5) rfl)).trans (C7 (t:=s) (l:=(hsL L).map λk=>z l k) (i:=i) (x:=z l h) (by rw[aC,hi];rfl))) (.inl ⟨(g.pcb hl x).mono (by decide),(S.zb l hl h hh).mono (by decide)⟩);unfold MS;show((x2 (xGet (x2 (xVar 3) (xVar 9) fIx) (xVar 7) (xC (.int 0))) (x2 (xVar 10) (xVar 5) fIx) fMul _ s).so _)=_;rw[e2];rfl
  rw[bd];exact e
structure Wob(a:Adr)(T:Sto)(k j:Nat)(L:List Ent)(X:List Str)(d:Int)(z:Str->Str->Int):Prop where
 ob:T.get k=Za (.obj a.HALF [("bottom",.int d),("top_of",.ref j)])
 dc:∃D,T.get j=Za (.dtt D)/\∀x∈X,∀h∈hsL L,tK D [aj x,aj h]=Za (.int (tp L d z x h))
def Dc(h:f Z s=.ok (.ref n) s1)(hg:s1.get n=Za (.obj C fs))(hv:tK fs nm=Za p):Ez C nm f Z s=.ok p s1:=by unfold Ez;rw[h];simp only[Out.bind,hg,if_true,hv]
def Lj(h1:v Z s=.ok q s)(h2:f Z s=.ok (.ref n) s)(h3:fa Z s=.ok vs s)(hg:s.get n=Za (.dtt l))(hk:AU vs=Za ks)(hv:vs.length<=100000)(hl:l.length<100000):HP f fa v Z s=.nx Z (s.set n (.dtt (CD l ks q))):=by unfold HP;rw[h1];simp only[Out.so];rw[h2];simp only[h3,hg,hk];rw[Zc ⟨hv,hl⟩]
def KS(a:Adr)(g:Gd L N c)(S:Slv L d z){h x:Str}{i j:Nat}(hi:(hsL L)[i]?=Za h)(hx:bi x=true){s:Sto}{D:List (List Key×PV)}(ob:s.get k=Za (.obj a.HALF [("bottom",.int d),("top_of",.ref j)]))(hd:s.get j=Za (.dtt D))(hl:D.length<100000)(u7 u8 u9 Pt:Option PV) :
  ∃v8 v9 QN,mQ (yName 7) (nY a) (.str x) (wE L d z k nb (Za (.int (i:Nat))) (Za (.str h)) u7 u8 u9 Pt) s=.nx (wE L d z k nb (Za (.int (i:Nat))) (Za (.str h)) (Za (.str x)) v8 v9 QN) (s.set j (.dtt (CD D [aj x,aj h] (.int (tp L d z x h))))):=by
 have hh:h∈hsL L:=dy hi;obtain⟨v9,QN,e⟩:=FK (k:=k) (nb:=nb) a g S (x:=x) hi s (hsL L) (if x=h then d else 0) u9 Pt λ_ z=>z;refine⟨Za (.int (tp L d z x h)),v9,QN,(o5 (i:=7)).trans ?_⟩;show nY a (wE L d z k nb (Za (.int (i:Nat))) (Za (.str h)) (Za (.str x)) u8 u9 Pt) s=_;unfold nY;refine lV (me (v:=.int (if x=h then d else 0)) (s':=s) ?_) ?_
 ·have e1:xTr (x2 (xVar 7) (xVar 6) fEq) (wE L d z k nb (Za (.int (i:Nat))) (Za (.str h)) (Za (.str x)) u8 u9 Pt) s=.ok (decide (x=h)) s:=oa ((mq (lK rfl) (lK rfl)).trans (Ke hx (g.hok hh)));unfold xIfe;rw[e1,uR];by_cases q:x=h
  ·rw[Zg q,Zc q,Zc rfl];exact Dc (lK rfl) ob rfl
  ·rw[Zh q,Zd q,Zd (by decide)];rfl
 ·refine lV (qG (l:=(hsL L).map λl=>.tup [.str l,LI ((hsL L).map λk=>z l k)]) (s1:=s) ?_ e) ?_
  ·unfold Ev;rw[lL (lK (i:=2) (v:=LS (hsL L)) rfl) (lL ((mq (lK (i:=4) (v:=.tup [zL L z,.int d]) rfl) rfl).trans (show fIx (.tup [zL L z,.int d]) (.int 0) s=.ok (zL L z) s from rfl)) rfl)];show Out.ok (tX ((hsL L).map .str) (((hsL L).map λl=>(hsL L).map λk=>z l k).map LI)) s=_;rw[aH,Cw];rfl
  ·refine(Lj (ks:=[aj x,aj h]) (lK rfl) (Dc (lK rfl) ob rfl) (lL (lK rfl) (lL (lK rfl) rfl)) hd rfl (dW rfl) hl).trans ?_;rfl
theorem FJ(a)(g:Gd L N c)(S:Slv L d z){i j}(hi:(hsL L)[i]?=Za h)(Sy:k≠j):∀(xs:List Str)(s:Sto)(D:List (List Key×PV))(u7 u8 u9 Pt:Option PV),(∀x∈xs,bi x=true)->s.get k=Za (.obj a.HALF [("bottom",.int d),("top_of",.ref j)])->s.get j=Za (.dtt D)->D.length+xs.length<100000 ->
  ∃D' v7 v8 v9 QN,nJ (mQ (yName 7) (nY a)) (xs.map .str) (wE L d z k nb (Za (.int (i:Nat))) (Za (.str h)) u7 u8 u9 Pt) s=.nx (wE L d z k nb (Za (.int (i:Nat))) (Za (.str h)) v7 v8 v9 QN) (s.set j (.dtt D'))/\D'.length<=D.length+xs.length/\(∀x∈xs,tK D' [aj x,aj h]=Za (.int (tp L d z x h)))/\∀x h',tK D [aj x,aj h']=Za (.int (tp L d z x h'))->tK D' [aj x,aj h']=Za (.int (tp L d z x h'))
 |[],s,D,u7,u8,u9,Pt,_,_,hd,_=>⟨D,u7,u8,u9,Pt,by
   rw[zX _ _ _ hd];rfl,ao _,(λ_ z=>nomatch z),λ_ _ h=>h⟩
 |x::xs,s,D,u7,u8,u9,Pt,hx,ob,hd,hl=>by
  rw[aY] at hl;obtain⟨v8,v9,QN,e1⟩:=KS (k:=k) (nb:=nb) a g S hi (hx x ai) ob hd (by lia) u7 u8 u9 Pt;have len:=IG D [aj x,aj h] (.int (tp L d z x h));obtain⟨D',w7,w8,w9,w10,e2,l2,a2,k2⟩:=FJ a g S hi Sy xs (s.set j (.dtt (CD D [aj x,aj h] (.int (tp L d z x h))))) _ (Za (.str x)) v8 v9 QN (λy hy=>hx y (ae _ hy)) (by rw[lU _ _ Sy];exact ob) (ot hd) (by lia);have old:∀y h',tK D [aj y,aj h']=Za (.int (tp L d z y h'))->tK (CD D [aj x,aj h] (.int (tp L d z x h))) [aj y,aj h']=Za (.int (tp L d z y h')):=λy h' hy=>by
   rw[Dy];split
   ·rename_i q;have q1:(aj y:Key)=aj x:=(eB q).1;have q2:(aj h':Key)=aj h:=(eB (eB q).2).1;rw[cM q1,cM q2]
   ·exact hy
  refine⟨D',w7,w8,w9,w10,?_,by rw[aY];lia,λy hy=>?_,λy h' hy=>k2 y h' (old y h' hy)⟩
  ·rw[al];unfold nJ;rw[e1];show nJ (mQ (yName 7) (nY a)) (xs.map .str) _ _=_;rw[e2,rO]
  ·rcases af.mp hy with q|hy
   ·rw[q];exact k2 x h (by rw[Dy,Zc rfl])
   ·exact a2 y hy
def FO(h1:v Z s=.ok p s1)(h2:f Z s1=.ok (.ref n) s1)(hg:s1.get n=Za (.obj C fs))(hl:fs.length<1000):Ex C nm f v Z s=.nx Z (s1.set n (.obj C (AT nm p fs))):=by unfold Ex;rw[h1];simp only[Out.so];rw[h2];simp only[hg];exact Zc ⟨trivial,hl⟩
structure Pp(pp N:List Str):Prop where
 sub:∀x∈pp,x∈N
 le:pp.length<=64
def KR(a)(g:Gd L N c)(ng:NoG L)(P:Pp pp N)(hb:T.get nb=Za (.book pp L))(Qa:nb<T.nx)(hk:T.get k=Za (.obj a.HALF []))(hkT:k<T.nx)(hkb:nb≠k) :
  ∃d z j T',Slv L d z/\p7 a [.ref k,.ref nb] T=.ok .non T'/\Wob a T' k j L (srt pp++hsL L) d z/\T.nx<=T'.nx/\T.nx<=j/\∀i,i<T.nx->i≠k->T'.get i=T.get i:=by
 obtain⟨d,z,S,es⟩:=g.solve ng a;have l8:(hsL L).length<=8:=by rw[qj];exact g.l8
 have hso:nG a [.ref nb] T=.ok (LS (hsL L)) T:=by unfold nG m7;simp only[hb]
 obtain⟨s1,c1,G1⟩:=BL (T:=T) (cap:=[Za (LS (hsL L)),Za (av L)]) (e:=xCall 3 (re a) (xCons (xVar 0) (xCons (xVar 1) (xCons (xVar 2) xNil)))) (λq=>match q with|.str h=>LI (owr L h++unr L h)|q=>q) ((hsL L).map .str) (λq hq s gs=>by obtain⟨h,hh,rfl⟩:=ah.mp hq;exact⟨_,l9 (lL (lK rfl) (lL (lK rfl) (lL (lK rfl) rfl))) rfl (JH a g hh s),gs.trans (Gr.add _ _)⟩) T (Gr.refl T)
 have e1:(((hsL L).map PV.str).map λq=>match q with|.str h=>LI (owr L h++unr L h)|q=>q)=(nj L).map LI:=by rw[aH,aH];rfl
 rw[e1] at c1;have ob1:s1.get k=Za (.obj a.HALF []):=(G1.fr k hkT).trans hk;have n1:=G1.nx;generalize Rt:s1.set k (.obj a.HALF (AT "bottom" (.int d) []))=s2;have Qf:s2.nx=s1.nx:=by rw[<-Rt];rfl
 have ob2:s2.get k=Za (.obj a.HALF [("bottom",.int d)]):=by rw[<-Rt];exact ot ob1
 have fr2:∀i,i<T.nx->i≠k->s2.get i=T.get i:=λi h1 h2=>by rw[<-Rt,lU _ _ h2];exact G1.fr i h1
 generalize hs3:(s2.add (.dtt [])).set k (.obj a.HALF (AT "top_of" (.ref s2.nx) [("bottom",.int d)]))=s3;have gk:(s2.add (.dtt [])).get k=Za (.obj a.HALF [("bottom",.int d)]):=by rw[mG,Zd (by lia)];exact ob2
 have ob3:s3.get k=Za (.obj a.HALF [("bottom",.int d),("top_of",.ref s2.nx)]):=by rw[<-hs3];exact ot gk
 have VD:s3.get s2.nx=Za (.dtt []):=by rw[<-hs3,lU _ _ (by lia),mG,Zc rfl]
 have nx3:s3.nx=s2.nx+1:=by rw[<-hs3];rfl
 have TL:∀i,i<T.nx->i≠k->s3.get i=T.get i:=λi h1 h2=>by rw[<-hs3,lU _ _ h2,mG,Zd (by lia)];exact fr2 i h1 h2
 have Sy:k≠s2.nx:=by lia
 have hX:∀x∈srt pp++hsL L,bi x=true:=λx hx=>by
  rcases aJ.mp hx with hx|hx
  ·exact EG (g.ho.sm x (P.sub x ((lY _).mem_iff.mp hx)))
  ·exact g.hok hx
 have lX:(srt pp++hsL L).length<=72:=by rw[aD,(lY _).length_eq];have:=P.le;lia
 obtain⟨ρ4,s4,lp,D4,u5,u6,u7,u8,u9,Pt,rfl,rfl,l4,v4⟩:=F7 (body:=mQ (yTup 2 (yCons (yName 5) (yCons (yName 6) yNil))) (pS a)) (qY 0 ((hsL L).map .str))
  (λi Z s=>∃D u5 u6 u7 u8 u9 Pt,Z=wE L d z k nb u5 u6 u7 u8 u9 Pt/\s=s3.set s2.nx (.dtt D)/\D.length<=72*i/\∀x∈srt pp++hsL L,∀i',i'<i->∀h,(hsL L)[i']?=Za h->tK D [aj x,aj h]=Za (.int (tp L d z x h)))
  (λi q Z s hq hI=>by
   obtain⟨D,u5,u6,u7,u8,u9,Pt,rfl,rfl,lD,vD⟩:=hI;rw[xD,aC,fF] at hq;obtain⟨h,hi⟩:∃h,(hsL L)[i]?=Za h:=by
    cases e:(hsL L)[i]? with
    |none=>rw[e] at hq;cases hq
    |some h=>exact⟨h,rfl⟩
   rw[hi] at hq;cases hq;have il:i<(hsL L).length:=(aW.mp hi).1;have obk:(s3.set s2.nx (.dtt D)).get k=Za (.obj a.HALF [("bottom",.int d),("top_of",.ref s2.nx)]):=by rw[lU _ _ Sy];exact ob3
   obtain⟨D',v7,v8,v9,QN,e,lD',a1,a2⟩:=FJ (k:=k) (nb:=nb) a g S hi Sy (srt pp++hsL L) (s3.set s2.nx (.dtt D)) D u7 u8 u9 Pt hX obk (ot VD) (by lia);refine⟨_,_,?_,D',Za (.int (i:Nat)),Za (.str h),v7,v8,v9,QN,rfl,rfl,by lia,λx hx i' Sa h' Rj=>?_⟩
   ·show pS a (wE L d z k nb (Za (.int (i:Nat))) (Za (.str h)) u7 u8 u9 Pt) (s3.set s2.nx (.dtt D))=_;unfold pS;rw[rO] at e;have bk:(s3.set s2.nx (.dtt D)).get nb=Za (.book pp L):=by rw[lU _ _ (by lia)];exact(TL nb Qa hkb).trans hb
    refine qG (l:=(srt pp++hsL L).map .str) (s1:=s3.set s2.nx (.dtt D)) (nz ((mq ((qt (vs:=[]) (s2:=s3.set s2.nx (.dtt D)) (lK rfl) bk rfl rfl).trans (show o6 a [.ref nb] (s3.set s2.nx (.dtt D))=.ok (LS (srt pp)) (s3.set s2.nx (.dtt D)) by unfold o6 m7;simp only[bk])) (lK rfl)).trans ?_)) e;simp only[fAdd,lsOf];rw[Zc (by rw[ac,ac,<-aD];lia),<-au]
   ·by_cases q:i'=i
    ·subst q;rw[hi] at Rj;cases Rj;exact a1 x hx
    ·exact a2 x h' (vD x hx i' (by lia) h' Rj)) (Z:=wE L d z k nb Zb Zb Zb Zb Zb Zb) (s:=s3.set s2.nx (.dtt [])) ⟨[],Zb,Zb,Zb,Zb,Zb,Zb,rfl,rfl,a7 _,λ_ _ _ h=>absurd h (by lia)⟩
 rw[zX _ _ _ VD] at lp;refine⟨d,z,s2.nx,s3.set s2.nx (.dtt D4),S,Aa (Z:=wE L d z k nb u5 u6 u7 u8 u9 Pt) ?_,⟨by rw[lU _ _ Sy];exact ob3,D4,ot VD,λx hx h hh=>?_⟩,by show T.nx<=s3.nx;lia,by lia,λi h1 h2=>?_⟩
 ·unfold xW;refine lV (wC (l9 (lL (lK rfl) rfl) rfl (LN a g.ho (by have:=g.l8;lia) ng hb))) ?_;refine lV (me ((qt (vs:=[]) (s2:=T) (lK rfl) hb rfl rfl).trans hso)) ?_;refine lV (me (l9 (lL (lK rfl) rfl) rfl (Fi a g hb))) ?_;refine lV (me (l9 (lL (pL (l:=(hsL L).map .str) (s1:=T) (nz (lK rfl)) (by rw[ac];lia) c1) rfl) rfl (es s1))) ?_;refine lV (s':=s2) ((FO (s1:=s1) (p:=.int d) ((mq (lK (v:=.tup [zL L z,.int d]) rfl) rfl).trans rfl) (lK rfl) ob1 (by decide)).trans (by rw[Rt])) ?_;refine lV (s':=s3) ((FO (s1:=s2.add (.dtt [])) (p:=.ref s2.nx) rfl (lK rfl) gk (Nat.lt_of_sub_eq_succ rfl)).trans (by rw[hs3])) ?_;refine qG (l:=qY 0 ((hsL L).map .str)) (s1:=s3) ?_ lp;unfold wk;rw[lL (lK (i:=2) (v:=LS (hsL L)) rfl) rfl];rfl
 ·obtain⟨i,hi⟩:=bX.mp hh;refine v4 x hx i ?_ h hi;rw[su,ac];exact(aW.mp hi).1
 ·rw[lU _ _ (by lia)];exact TL i h1 h2
def frR(q:Rat):PV:=frP (q.num,(q.den:Int))
def LQ(q:Rat):Low (q.num,(q.den:Int)):=⟨by have:=q.den_pos;show(0:Int)<q.den;lia,by unfold Cop;show Nat.gcd q.num.natAbs q.den=1;exact q.reduced⟩
def Le(hb:0<b):red (t,b)=((ej t b).num,((ej t b).den:Int)):=by
 obtain⟨l,e⟩:=rP (q:=(t,b)) hb;have l0:=l.1;refine zj l (LQ _) ?_;have h:=Rat.num_divInt_den (ej t b);have d0:=(ej t b).den_pos;generalize (ej t b).num=n at *;generalize (ej t b).den=m at *;have h:n*b=t*(m:Int):=(jX (by lia) (by lia)).mp h;have e:(red (t,b)).1*b=t*(red (t,b)).2:=e;generalize red (t,b)=r at *;show r.1*(m:Int)=n*r.2;refine eE (a:=b) (by lia) ?_
 calc r.1*(m:Int)*b=(r.1*b)*m:=by rw[aT,br (m:Int),<-aT]
  _=t*r.2*m:=by rw[e]
  _=(t*m)*r.2:=by rw[aT,br r.2,<-aT]
  _=n*b*r.2:=by rw[h]
  _=n*r.2*b:=by rw[aT,br b,<-aT]
def Hs(a)(s)(hb:0<b)(bb:Bt 9000 b):wG a [.int t,.int b] s=.ok (frR (ej t b)) s:=by refine mK ?_;unfold Ed;have gp:0<aF t b:=bG _ (by lia);have gb:Bt 9000 ((aF t b:Nat):Int):=bb.dvd (by lia) (cm ..);refine lV (me (l9 (lL (lK rfl) (lL (lK rfl) rfl)) rfl (show mW a [.int t,.int b] s=.ok (.int ((aF t b:Nat):Int)) s from Zc hb))) ?_;refine(nO (tO (lL (AN (lK rfl) (lK rfl) ⟨by lia,gb⟩) (lL (AN (lK rfl) (lK rfl) ⟨by lia,gb⟩) rfl)))).trans ?_;unfold frR;rw[<-Le hb];rfl
def pA(L:List Ent)(h:Str):Int:=match mH L h with
 |some e=>e.th
 |none=>0
def thV(L:List Ent):PV:=.dct (nmD (hsL L) λh=>.int (pA L h))
def vg(a)(g:Gd L N c)(hb:T.get nb=Za (.book pp L)):qw a [.ref nb] T=.ok (thV L) T:=by
 refine mK ?_;unfold vU;have c1:=sA (s:=T) (cap:=[Za (.ref nb)]) (e:=xTup (xCons (xVar 0) (xCons (x2 (xBM 2 (Kq a) (xVar 1) (xCons (xVar 0) xNil)) (xC (.int 0)) fIx) xNil))) (λh=>.tup [.str h,.int (pA L h)]) (hsL L) (λh hh=>by
  have hh:=hsL_mem.mp hh;obtain⟨e,f,_⟩:=g.ent hh;have of:Kq a [.ref nb,.str h] T=.ok (.tup [.int e.th,.int e.mr,.int e.ls]) T:=by simp only[Kq,m7,hb];rw[Zc (g.ho.sm h (g.ho.hn h hh)).nm,f]
  have et:pA L h=e.th:=by unfold pA;rw[f]
  show _=Out.ok (PV.tup [PV.str h,PV.int (pA L h)]) T;rw[et];exact tO (lL (lK rfl) (lL ((mq ((qt (lK rfl) hb (lL (lK rfl) rfl) rfl).trans of) rfl).trans rfl) rfl)))
 refine nO ((vK (lL (pL (l:=(hsL L).map .str) (s1:=T) (nz ((qt (vs:=[]) (s2:=T) (lK rfl) hb rfl rfl).trans ?_)) (by rw[ac,qj];have:=g.l8;lia) c1) rfl)).trans (FD g.hnd));unfold nG m7;simp only[hb]
theorem JP{k}:∀(l:List Int),(∀x∈l,Bt k x)->Bt (k+l.length) l.sum
 |[],_=>by
  show(0:Int).natAbs<2^_;exact cX _
 |x::l,h=>by rw[iJ,aY,<-ka];exact((h x ai).mono (by lia)).add (JP l λy hy=>h y (ae _ hy))
def tp_bt(g:Gd L N c)(S:Slv L d z)(x)(hh:h∈hsL L):Bt 19995 (tp L d z x h):=by
 have l8:(hsL L).length<=8:=by rw[qj];exact g.l8
 have h1:=JP (k:=19980) ((hsL L).map λl=>pc (pl L l) x*z l h) λy hy=>by obtain⟨l,hl,rfl⟩:=ah.mp hy;exact(g.pcb hl x).mul (S.zb l hl h hh)
 rw[ac] at h1;unfold tp;refine Bt.mono (k:=19990+1) (Bt.add ?_ (h1.mono (by lia))) (by decide);split
 ·exact S.db.mono (by decide)
 ·show(0:Int).natAbs<2^_;exact cX _
def tpb(L:List Ent)(d:Int)(z:Str->Str->Int)(x:Str):Int:=((hsL L).map λh=>tp L d z x h*pA L h).sum
def Ow(h2:f Z s=.ok (.ref n) s)(h3:fa Z s=.ok vs s)(hg:s.get n=Za (.dtt l))(hk:AU vs=Za ks)(hv:vs.length<=100000)(hq:tK l ks=Za q):KO f fa Z s=.ok q s:=by unfold KO;rw[h2];simp only[Out.bind];rw[h3];simp only[hg,hk];rw[Zc hv,hq]
def Gd.thb(g:Gd L N c)(h):Bt 200 (pA L h):=by
 unfold pA;cases e:mH L h with
 |none=>show(0:Int).natAbs<2^_;exact cX _
 |some e'=>exact g.tb e' (sM e).1
def GP(a)(g:Gd L N c)(S:Slv L d z)(W:Wob a T k j L X d z)(hx:x∈X):pV a [.ref k,.str x,thV L] T=.ok (.int (tpb L d z x)) T:=by
 obtain⟨D,hD,vD⟩:=W.dc;refine mK ?_;unfold vq;have c1:=xE (s:=T) (cap:=[Za (thV L),Za (.ref k),Za (.str x)]) (e:=x2 (KO (Ez a.HALF "top_of" (xVar 2)) (xCons (xVar 3) (xCons (xVar 0) xNil))) (x2 (xVar 1) (xVar 0) fIx) fMul) (λh=>tp L d z x h*pA L h) (hsL L) (λh hh=>by exact rF (Ow (ks:=[aj x,aj h]) (Dc (lK rfl) W.ob rfl) (lL (lK rfl) (lL (lK rfl) rfl)) hD rfl (dW rfl) (vD x hx h hh)) ((mq (lK rfl) (lK rfl)).trans (Ib hh)) (.inl ⟨(tp_bt g S x hh).mono (by decide),(g.thb h).mono (by decide)⟩))
 refine nO ((vK (lL (pL (l:=(hsL L).map .str) (s1:=T) ?_ (by rw[ac,qj];have:=g.l8;lia) c1) rfl)).trans ?_)
 ·unfold xIterD;rw[lK (i:=2) (v:=thV L) rfl];show Out.ok ((nmD (hsL L) λh=>.int (pA L h)).map λkv:Key×PV=>Nf kv.1) T=_;unfold nmD;rw[aH];rfl
 ·simp only[Nk,lsOf,vG];rfl
def oP(X:List Str)(w:Str->Rat):PV:=.lst (X.map λx=>.tup [.str x,frR (w x)])
def wv(L:List Ent)(d:Int)(z:Str->Str->Int)(x:Str):Rat:=ej (tpb L d z x) d
def KC{C:ak}{nm:Str}{n:Nat}{D:XF}{f:XE}{fa:XA}{Z:En}{s s1 s2:Sto}{k:Nat}{fs:List (Str×PV)}{vs:List PV}{o:Out PV}(h1:f Z s=.ok (.ref k) s1)(hg:s1.get k=Za (.obj C fs))(hv:tK fs nm=Zb)(h2:fa Z s1=.ok vs s2)(hn:vs.length+1=n)(h3:D (.ref k::vs) s2=o):xOM C nm n D f fa Z s=o:=by unfold xOM;rw[h1];simp only[Out.bind,hg];rw[Zc ⟨trivial,hv⟩,h2];simp only[hn,if_true];exact h3
def BY(a)(g:Gd L N c)(S:Slv L d z)(W:Wob a T k j L X d z)(hY:∀y∈Y,y∈X)(hl:Y.length<=1000):pW a [.ref k,LS Y,thV L] T=.ok (oP Y (wv L d z)) T:=by
 refine mK ?_;unfold vt;have c1:=sA (s:=T) (cap:=[Za (thV L),Za (.ref k)]) (e:=xTup (xCons (xVar 0) (xCons (xCall 2 (wG a) (xCons (xOM a.HALF "top_by" 3 (pV a) (xVar 2) (xCons (xVar 0) (xCons (xVar 1) xNil))) (xCons (Ez a.HALF "bottom" (xVar 2)) xNil))) xNil))) (λx=>.tup [.str x,frR (wv L d z x)]) Y (λx hx=>by exact tO (lL (lK rfl) (lL (l9 (lL (KC (lK rfl) W.ob rfl (lL (lK rfl) (lL (lK rfl) rfl)) rfl (GP a g S W (hY x hx))) (lL (Dc (lK rfl) W.ob rfl) rfl)) rfl (Hs a T S.d0 S.db)) rfl)))
 exact nO (pL (l:=Y.map .str) (s1:=T) (nz (lK rfl)) (by rw[ac];lia) c1)
def Sol(L:List Ent)(t:Str->Rat)(w:Str->Rat):Prop:=∀x,w x=t x+mE ((hsL L).map λl=>shr L l x*w l)
theorem Sol.uniq(g:Gd L N c)(ng:NoG L)(h:Sol L t w)(h':Sol L t w')(x):w x=w' x:=by
 have hs:∀l∈hsL L,w l-w' l=0:=g.uniq ng g.hnd (λx hx=>hsL_mem.mp hx) (v:=λx=>w x-w' x) λy _=>by
  have e:mE ((hsL L).map λl=>shr L l y*(w l-w' l))=mE ((hsL L).map λl=>shr L l y*w l+(-1)*(shr L l y*w' l)):=mS λl _=>by grind
  rw[e,uE,qS];have a1:=h y;have a2:=h' y
  grind
 have e:mE ((hsL L).map λl=>shr L l x*w l)=mE ((hsL L).map λl=>shr L l x*w' l):=mS λl hl=>by have:=hs l hl;grind
 rw[h x,h' x,e]
def Slv.tp_house(g:Gd L N c)(S:Slv L d z){h k}(hh:h∈hsL L)(hk:k∈hsL L):((tp L d z h k:Int):Rat)=((pcn (pl L h):Nat):Rat)*((z h k:Int):Rat):=by
 rw[S.eq h hh k hk];unfold tp;rw[hJ,se]
 congr 1
 ·split<;>rfl
 ·exact mS λl _=>cU ..
def Slv.tp_eq(g:Gd L N c)(S:Slv L d z)(x){k}(hk:k∈hsL L):((tp L d z x k:Int):Rat)=(if x=k then(d:Rat) else 0)+mE ((hsL L).map λl=>shr L l x*((tp L d z l k:Int):Rat)):=by
 have e:mE ((hsL L).map λl=>shr L l x*((tp L d z l k:Int):Rat))=mE ((hsL L).map λl=>((pc (pl L l) x*z l k:Int):Rat)):=mS λl hl=>by
  obtain⟨e,m,hz,f,ep,o,R,kc,sv,_⟩:=g.held (hsL_mem.mp hl);rw[S.tp_house g hl hk,cU,R.pc_val,sv,cI]
  grind
 rw[e];unfold tp;rw[hJ,se]
 congr 1
 split<;>rfl
def KY(hh:h∉hsL L):pA L h=0:=by
 unfold pA;cases e:mH L h with
 |none=>rfl
 |some e'=>exact absurd (hsL_mem.mpr (by unfold mj;rw[e];rfl)) hh
def Slv.sol(g:Gd L N c)(S:Slv L d z):Sol L (λx=>((pA L x:Int):Rat)) (wv L d z):=by
 intro x;have d0:((d:Int):Rat)≠0:=λq=>by have:=ke.mp q;have:=S.d0;lia
 have wd:∀y,wv L d z y*(d:Rat)=mE ((hsL L).map λh=>((tp L d z y h:Int):Rat)*((pA L h:Int):Rat)):=λy=>by
  unfold wv tpb;rw[Rat.divInt_eq_div,se];have:mE ((hsL L).map λh=>((tp L d z y h*pA L h:Int):Rat))=mE ((hsL L).map λh=>((tp L d z y h:Int):Rat)*((pA L h:Int):Rat)):=mS λh _=>cU ..;rw[this]
  grind
 have e1:mE ((hsL L).map λh=>((tp L d z x h:Int):Rat)*((pA L h:Int):Rat))=mE ((hsL L).map λh=>(if x=h then(d:Rat)*((pA L h:Int):Rat) else 0)+mE ((hsL L).map λl=>shr L l x*(((tp L d z l h:Int):Rat)*((pA L h:Int):Rat)))):=mS λh hh=>by
  rw[S.tp_eq g x hh];have:mE ((hsL L).map λl=>shr L l x*(((tp L d z l h:Int):Rat)*((pA L h:Int):Rat)))=mE ((hsL L).map λl=>((pA L h:Int):Rat)*(shr L l x*((tp L d z l h:Int):Rat))):=mS λl _=>by grind
  rw[this,qS];split<;>grind
 have e2:mE ((hsL L).map λh=>if x=h then(d:Rat)*((pA L h:Int):Rat) else 0)=(d:Rat)*((pA L x:Int):Rat):=by
  by_cases hx:x∈hsL L
  ·rw[wo (g:=λh=>if x=h then(d:Rat)*((pA L h:Int):Rat) else 0) g.hnd (W:=[x]) (by simp) (λy _ hy=>Zd λz=>hy (by rw[z];simp))];show(if x∈hsL L then(if x=x then(d:Rat)*((pA L x:Int):Rat) else 0) else 0)+0=_;rw[Zc hx,Zc rfl,fC]
  ·rw[Bj λy hy=>Zd λq:x=y=>hx (by rw[q];exact hy),KY hx];show(0:Rat)=(d:Rat)*0;rw[kC]
 have e3:mE ((hsL L).map λh=>mE ((hsL L).map λl=>shr L l x*(((tp L d z l h:Int):Rat)*((pA L h:Int):Rat))))=(d:Rat)*mE ((hsL L).map λl=>shr L l x*wv L d z l):=by
  rw[Bk,<-qS];refine mS λl _=>?_;rw[qS,<-wd l]
  grind
 have e4:=wd x;rw[e1,uE,e2,e3] at e4;show wv L d z x=((pA L x:Int):Rat)+_
 grind
def Nd{C:ak}{n:Nat}{D:XF}{fa:XA}{Z:En}{s s1 s2:Sto}{vs:List PV}(h1:fa Z s=.ok vs s1)(hn:vs.length+1=n)(h2:D (.ref s1.nx::vs) (s1.add (.obj C []))=.ok .non s2):xMk C n D fa Z s=.ok (.ref s1.nx) s2:=by unfold xMk;rw[h1];simp only[Out.bind,hn,if_true,h2]
def F5(a)(g:Gd L N c)(ng:NoG L)(P:Pp pp N)(hb:T.get nb=Za (.book pp L))(Qa:nb<T.nx):∃d z j T',Slv L d z/\p7 a [.ref T.nx,.ref nb] (T.add (.obj a.HALF []))=.ok .non T'/\Wob a T' T.nx j L (srt pp++hsL L) d z/\Gr T T':=by
 have hb1:(T.add (.obj a.HALF [])).get nb=Za (.book pp L):=by rw[mG,Zd (by lia)];exact hb
 obtain⟨d,z,j,T',S,e,W,n1,n2,fr⟩:=KR (k:=T.nx) a g ng P hb1 (cj Qa) (by rw[mG,Zc rfl]) (cC _) (by lia);have n1:T.nx+1<=T'.nx:=n1;refine⟨d,z,j,T',S,e,W,by lia,λi hi=>?_⟩;rw[fr i (cj hi) (by lia),mG,Zd (by lia)]
def xh(a:Adr)(g:Gd L N c)(ng:NoG L)(P:Pp pp N)(hb:T.get nb=Za (.book pp L))(Qa:nb<T.nx):∃w T',qU a [.ref nb] T=.ok (oP (hsL L) w) T'/\Sol L (λx=>((pA L x:Int):Rat)) w/\Gr T T':=by obtain⟨d,z,j,T',S,e,W,G⟩:=F5 a g ng P hb Qa;have Sg:T'.get nb=Za (.book pp L):=(G.fr nb Qa).trans hb;refine⟨wv L d z,T',mK ?_,S.sol g,G⟩;unfold Ea;refine nO (KC (Nd (lL (lK rfl) rfl) rfl e) W.ob rfl (lL ((qt (vs:=[]) (s2:=T') (lK rfl) Sg rfl rfl).trans (show nG a [.ref nb] T'=.ok (LS (hsL L)) T' by unfold nG m7;simp only[Sg])) (lL (l9 (lL (lK rfl) rfl) rfl (vg a g Sg)) rfl)) rfl (BY a g S W (λy hy=>aA _ hy) (by rw[qj];have:=g.l8;lia)))
def z8(a:Adr)(g:Gd L N c)(ng:NoG L)(P:Pp pp N)(hb:T.get nb=Za (.book pp L))(Qa:nb<T.nx):∃w T',tM a [.ref nb] T=.ok (oP (srt pp) w) T'/\Sol L (λx=>((pA L x:Int):Rat)) w/\Gr T T':=by obtain⟨d,z,j,T',S,e,W,G⟩:=F5 a g ng P hb Qa;have Sg:T'.get nb=Za (.book pp L):=(G.fr nb Qa).trans hb;refine⟨wv L d z,T',mK ?_,S.sol g,G⟩;unfold Gp;refine nO (KC (Nd (lL (lK rfl) rfl) rfl e) W.ob rfl (lL ((qt (vs:=[]) (s2:=T') (lK rfl) Sg rfl rfl).trans (show o6 a [.ref nb] T'=.ok (LS (srt pp)) T' by unfold o6 m7;simp only[Sg])) (lL (l9 (lL (lK rfl) rfl) rfl (vg a g Sg)) rfl)) rfl (BY a g S W (λy hy=>aO _ hy) (by rw[(lY _).length_eq];have:=P.le;lia)))
end
structure KeepS(g:Ent->Ent):Prop where
 nm:∀e,(g e).nm=e.nm
 hl:∀e,(g e).held=e.held
section
variable{T:Sto}{nb:Nat}{pp N:List Str}{L:List Ent}{c:Nat}{g:Ent->Ent}{h:Str}
end
def HZ(h1:f Z s=.ok false s1)(h2:g Z s1=.ok b s2):xOr f g Z s=.ok b s2:=by unfold xOr;rw[h1];exact h2
def N1(h1:f Z s=.ok true s1):xOr f g Z s=.ok true s1:=by unfold xOr;rw[h1];rfl
def ML(h1:f Z s=.ok true s1)(h2:g Z s1=.ok b s2):xAnd f g Z s=.ok b s2:=by unfold xAnd;rw[h1];exact h2
def OY(h1:f Z s=.ok false s1):xAnd f g Z s=.ok false s1:=by unfold xAnd;rw[h1];rfl
def J2(h:f Z s=.ok b s1):xNot f Z s=.ok (!b) s1:=by unfold xNot;rw[h];rfl
def GK(h1:f Z s=.ok (.bl true) s1)(h2:g Z s1=o):xAndV f g Z s=o:=by unfold xAndV;rw[h1];exact h2
def asg3(h:f Z s=.ok (.tup [u,v,w]) s'):xAsg f (yTup 3 (yCons (yName i) (yCons (yName j) (yCons (yName k) yNil)))) Z s=.nx (((Z.set i (Za u)).set j (Za v)).set k (Za w)) s':=by unfold xAsg;rw[h];rfl
def dtR(q:Rat):jI:=.tuple [.int q.num,.int (q.den:Int)]
def Ad(h:bi x=true):PV.data s (k+3) (.tup [.str x,frR q])=Za (.tuple [.str x,dtR q]):=by
 have e1:PV.data s (k+2) (.str x)=Za (.str x):=by unfold PV.data;rw[Zc h]
 have e2:PV.data s (k+2) (frR q)=Za (dtR q):=rfl;unfold PV.data;simp[vR,e1,e2]
theorem BH{s:Sto}{k:Nat}{w:Str->Rat}:∀{X:List Str},(∀x∈X,bi x=true)->vR (PV.data s (k+3)) (X.map λx=>.tup [.str x,frR (w x)])=Za (X.map λx=>.tuple [.str x,dtR (w x)])
 |[],_=>rfl
 |x::X,h=>by rw[al];unfold vR;rw[Ad (h x ai),BH λy hy=>h y (ae _ hy)];rfl
def Ma(x):bH (.str x) (.str x)=true:=by unfold bH;exact beq_self_eq_true x
def Mb(q):bH (dtR q) (dtR q)=true:=by unfold dtR;simp[bH,b5]
def Kd(x)(q):bH (.tuple [.str x,dtR q]) (.tuple [.str x,dtR q])=true:=by rw[bH,b5,b5,b5,Ma,Mb];rfl
theorem xX{α:Type}{f:α->jI}(h:∀x,bH (f x) (f x)=true):∀l:List α,b5 (l.map f) (l.map f)=true
 |[]=>by simp[b5]
 |x::l=>by rw[al,b5,h,xX h l];rfl
def yO(h:∀x∈X,w x=w' x):oP X w=oP X w':=by unfold oP;rw[aV λx hx=>by rw[h x hx]]
def Gq{s:Sto}{X:List Str}{w:Str->Rat}(h:∀x∈X,bi x=true):fEq (oP X w) (oP X w) s=.ok (.bl true) s:=by
 have e:PV.data s 12 (oP X w)=Za (.list (X.map λx=>.tuple [.str x,dtR (w x)])):=by unfold oP PV.data;rw[BH (k:=8) h];rfl
 show fEqN false _ _ _=_;unfold fEqN;rw[e];show Out.ok (PV.bl (bH (.list _) (.list _))) s=_;rw[bH,xX λx=>Kd x (w x)]
def Oj(h:bi x=true):∃b,fNe (.tup [.str x,frR p]) (.tup [.str x,frR q]) s=.ok (.bl b) s/\(p=q->b=false):=by
 refine⟨!bH (.tuple [.str x,dtR p]) (.tuple [.str x,dtR q]),?_,λe=>?_⟩
 ·show fEqN true _ _ _=_;unfold fEqN;rw[Ad (k:=9) h,Ad (k:=9) h];rfl
 ·rw[e,Kd];rfl
def D2{s:Sto}{v:PV}{x:Str}{S:List Str}(hd:dcOf s v=Zb)(ht:∀l,v≠.tup l)(hl:lsOf s v=Za (S.map .str)):wc (.str x) v s=.ok (.bl (!decide (x∈S))) s:=by
 show qp true _ _ _=_;unfold qp;rw[hd];cases v with
 |tup l=>exact absurd rfl (ht l)
 |_=>simp[toV,hl,vx,Eu,By]
def Ge(a:Adr){T:Sto}{X S:List Str}{w w':Str->Rat}{v:PV}(hX:∀x∈X,bi x=true)(hd:dcOf T v=Zb)(ht:∀l,v≠.tup l)(hl:lsOf T v=Za (S.map .str))(h:∀x∈X,x∉S->w x=w' x):nS a [oP X w,oP X w',v] T=.ok (.bl true) T:=by
 have lp:∀(Y:List Str)(u3 u4:Option PV),(∀x∈Y,x∈X)->∃v3 v4,nJ (mQ (yTup 2 (yCons (yName 3) (yCons (yName 4) yNil))) (oI a)) (Y.map λx=>.tup [.tup [.str x,frR (w x)],.tup [.str x,frR (w' x)]]) [Za (oP X w),Za (oP X w'),Za v,u3,u4] T=.nx [Za (oP X w),Za (oP X w'),Za v,v3,v4] T:=by
  intro Y;induction Y with
  |nil=>exact λu3 u4 _=>⟨u3,u4,rfl⟩
  |cons x Y ih =>
   intro u3 u4 hY;obtain⟨v3,v4,e⟩:=ih (Za (.tup [.str x,frR (w x)])) (Za (.tup [.str x,frR (w' x)])) λy hy=>hY y (ae _ hy);refine⟨v3,v4,?_⟩;rw[al];unfold nJ;have bd:mQ (yTup 2 (yCons (yName 3) (yCons (yName 4) yNil))) (oI a) (.tup [.tup [.str x,frR (w x)],.tup [.str x,frR (w' x)]]) [Za (oP X w),Za (oP X w'),Za v,u3,u4] T=.nx [Za (oP X w),Za (oP X w'),Za v,Za (.tup [.str x,frR (w x)]),Za (.tup [.str x,frR (w' x)])] T:=by
    show oI a [Za (oP X w),Za (oP X w'),Za v,Za (.tup [.str x,frR (w x)]),Za (.tup [.str x,frR (w' x)])] T=_;unfold oI;have hx:=hY x ai;obtain⟨b,e1,e2⟩:=Oj (s:=T) (p:=w x) (q:=w' x) (hX x hx);refine(qK (s1:=T) ?_).trans rfl;cases b with
    |false=>exact OY (oa ((mq (lK rfl) (lK rfl)).trans e1))
    |true =>
     have hS:x∈S:=b8 λz=>by have:=e2 (h x hx z);cases this
     refine ML (oa ((mq (lK rfl) (lK rfl)).trans e1)) (oa ((mq ((mq (lK rfl) rfl).trans (show fIx (.tup [.str x,frR (w x)]) (.int 0) T=.ok (.str x) T from rfl)) (lK rfl)).trans ((D2 hd ht hl).trans ?_)));rw[Zg hS];rfl
   rw[bd];exact e
 obtain⟨v3,v4,e⟩:=lp X Zb Zb λ_ z=>z;refine mK ?_;unfold xV;refine lV (qG (l:=X.map λx=>.tup [.tup [.str x,frR (w x)],.tup [.str x,frR (w' x)]]) (s1:=T) ?_ e) ?_
 ·unfold Ev;rw[lL (lK (i:=0) (v:=oP X w) rfl) (lL (lK (i:=1) (v:=oP X w') rfl) rfl)];show Out.ok (tX (X.map λx=>.tup [.str x,frR (w x)]) (X.map λx=>.tup [.str x,frR (w' x)])) T=_;rw[Cw]
 ·have ln:∀(i:Nat)(w:Str->Rat),xB (xCons (xVar i) xNil) fLen [Za (oP X w),Za (oP X w),Za v,v3,v4] T=xB (xCons (xVar i) xNil) fLen [Za (oP X w),Za (oP X w),Za v,v3,v4] T:=λ_ _=>rfl;refine nO ((mq (v:=.int (X.length:Nat)) (w:=.int (X.length:Nat)) ((vK (lL (lK rfl) rfl)).trans (by unfold oP;rw[zk,ac])) ((vK (lL (lK rfl) rfl)).trans (by unfold oP;rw[zk,ac]))).trans ?_);show fEqN false _ _ _=_;unfold fEqN;rw[oB];show Out.ok (PV.bl (bH (.int _) (.int _))) T=_;rw[qL,beq_self_eq_true]
structure Ls(T:Sto)(p nb:Nat)(pp:List Str)(L:List Ent)(Zj:List (Nat×Cell)):Prop where
 pu:IsPurse T p
 bk:T.get nb=Za (.book pp L)
 ne:p≠nb
 lp:p<T.nx
 lb:nb<T.nx
 zz:∀z∈Zj,T.get z.1=Za z.2/\z.1≠p/\z.1≠nb/\z.1<T.nx
section
variable{T T':Sto}{p nb:Nat}{pp:List Str}{L L':List Ent}{Zj:List (Nat×Cell)}
def Ls.gr(h:Ls T p nb pp L Zj)(g:Gr T T'):Ls T' p nb pp L Zj :=
 ⟨let⟨x,y,e⟩:=h.pu;⟨x,y,(g.fr p h.lp).trans e⟩,(g.fr nb h.lb).trans h.bk,h.ne,ay h.lp g.nx,ay h.lb g.nx,λz hz=>let⟨a,b,c,d⟩:=h.zz z hz;⟨(g.fr _ d).trans a,b,c,ay d g.nx⟩⟩
theorem Ls.pst(h:Ls T p nb pp L Zj)(x y):Ls (T.set p (.lst [.int x,.int y])) p nb pp L Zj :=
 ⟨h.pu.pst x y,(lU _ _ (bW h.ne)).trans h.bk,h.ne,h.lp,h.lb,λz hz=>let⟨a,b,c,d⟩:=h.zz z hz;⟨(lU _ _ b).trans a,b,c,d⟩⟩
theorem Ls.book(h:Ls T p nb pp L Zj)(L'):Ls (T.set nb (.book pp L')) p nb pp L' Zj :=
 ⟨let⟨x,y,e⟩:=h.pu;⟨x,y,(lU _ _ h.ne).trans e⟩,ot h.bk,h.ne,h.lp,h.lb,λz hz=>let⟨a,b,c,d⟩:=h.zz z hz;⟨(lU _ _ c).trans a,b,c,d⟩⟩
end
section
variable{s t:Sto}{p nb nd:Nat}{N:List Str}{c:Nat}{pp:List Str}{L:List Ent}{M:List Md}
def Prs.at_(P:Prs N c L M)(h:n∈L.map (·.nm)):∃e m k,mH L n=Za e/\m∈M/\oZ (M.map mdP) (aj n)=Za (.lst [.ref m.cell,.tup [.int m.th,.int m.mr,.int m.ls]])/\MRel N k e m:=by obtain⟨A,e,B,A',m,B',k1,k2,k3,e1,e2,e3,e4,e5,e6,e7,_⟩:=P.cut (P.names▸h);subst e3;refine⟨e,m,k2,?_,by rw[e2];simp,by rw[e2];exact Fw e4,e6⟩;rw[e1,<-e6.nm];exact sL (by rw[e5.names,e6.nm];exact e4)
def Bst.ho(B:Bst s t p nb nd N c pp L M)(WN:Wds N)(hn:∀n∈L.map (·.nm),n∈N)(hl:N.length<64):Ho L N:=by refine⟨λn e fe=>?_,WN.sm,hl,λn h=>hn n ((n9 _ _).mp h)⟩;have hn:n∈L.map (·.nm):=(n9 _ _).mp (by unfold mj;rw[fe];rfl);obtain⟨e',m,k,f,hm,_,R⟩:=B.w.pr.at_ hn;rw[fe] at f;cases f;have:e.held.length=m.hl.length:=R.hm.len.symm;have l2:=C6 R.hm.nd R.ow;rw[ac] at l2;exact⟨by lia,λx hx=>R.ow x ((R.hm.mem x).mpr hx)⟩
def Bst.gd(B:Bst s t p nb nd (pp++hs) c pp L M)(WN:Wds (pp++hs))(hL:L.map (·.nm)=hs)(hp:pp.length<=6)(hh:hs.length<=8)(hc:c<=40):Gd L (pp++hs) c/\Pp pp (pp++hs):=by
 have Nl:(pp++hs).length<64:=by rw[aD];lia
 refine⟨⟨B.ho WN (λn hn=>aA _ (hL▸hn)) Nl,by rw[hL];exact(bJ.mp WN.nd).2.1,B.w.pr.cts,λe he=>(B.w.pr.tb e he).mono (by decide),?_,by lia⟩,λx hx=>aO _ hx,by lia⟩;have:=congrArg b6 hL;rw[ac] at this;lia
end
def MX{p q:Int×Int}(hp:0<p.2)(hq:0<q.2):rv p<=rv q↔p.1*q.2<=q.1*p.2:=by
 have e:rv q-rv p=ej (q.1*p.2+(-p.1)*q.2) (q.2*p.2):=by
  have:rv q-rv p=rv q+rv (-p.1,p.2):=by rw[CW];grind
  rw[this];unfold rv;exact kO _ _ (by lia) (by lia)
 have k:=eZ (a:=q.1*p.2+(-p.1)*q.2) (bx hq hp);rw[<-e,gD] at k;constructor
 ·intro h;have:=k.mp (by grind);lia
 ·intro h;have:=k.mpr (by lia)
  grind
section
variable{T:Sto}{p nb nd k:Nat}{pp N:List Str}{L:List Ent}{c:Nat}{l hz:Hl}{h o1 o2:Str}{q:Int×Int}
def K3(R:HR k l hz)(hq:ShOk q)(nt:¬mR l o1 q)(x:Str):rv (l7 (sold l o1 o2 q) x)=rv (l7 l x)+(if x=o2 then rv q else 0)-(if x=o1 then rv q else 0):=by
 have g0:=(R.fr o1).low.1;have q0:=hq.low.1;generalize hr:nL (l7 l o1) (-q.1,q.2)=r;have rr:rv r=rv (l7 l o1)-rv q:=by rw[<-hr,CY (q:=(-q.1,q.2)) g0 q0,CW];grind
 have r0:0<r.2:=by rw[<-hr];exact(rP (q:=((l7 l o1).1*q.2+-q.1*(l7 l o1).2,(l7 l o1).2*q.2)) (bx g0 q0)).1.1
 generalize Q9:(if r=(0,1) then na l o1 else nK l o1 r)=l1;have g1:∀y,l7 l1 y=if y=o1 then r else l7 l y:=λy=>by
  rw[<-Q9];split
  ·rename_i z;rw[o4,z]
  ·rw[mU]
 have es:sold l o1 o2 q=nK l1 o2 (nL (l7 l1 o2) q):=by unfold sold;simp only[hr,Q9]
 have b1:0<(l7 l1 o2).2:=by rw[g1];split;exact r0;exact(R.fr o2).low.1
 have v1:∀y,rv (l7 l1 y)=rv (l7 l y)-(if y=o1 then rv q else 0):=λy=>by
  rw[g1];by_cases z:y=o1
  ·rw[Zc z,Zc z,rr,z]
  ·rw[Zd z,Zd z];grind
 rw[es,mU];by_cases z:x=o2
 ·rw[Zc z,Zc z,CY b1 q0,v1,z];grind
 ·rw[Zd z,Zd z,v1];grind
def mX(L:List Ent)(h o1 o2:Str)(q:Int×Int):List Ent:=vA L h λx=>{ x with held:=sold x.held o1 o2 q }
def yY:(mX L h o1 o2 q).map (·.nm)=L.map (·.nm):=by unfold mX vA;rw[aH];refine aV λx _=>?_;show(if x.nm=h then { x with held:=sold x.held o1 o2 q } else x).nm=x.nm;split<;>rfl
def uX(n:Str):mH (mX L h o1 o2 q) n=(mH L n).map λe=>if e.nm=h then { e with held:=sold e.held o1 o2 q } else e:=by
 unfold mH mX vA;rw[fw];have e:((λe:Ent=>decide (e.nm=n))∘λx:Ent=>if x.nm=h then { x with held:=sold x.held o1 o2 q } else x)=λe:Ent=>decide (e.nm=n):=by
  funext x
  show decide ((if x.nm=h then { x with held:=sold x.held o1 o2 q } else x).nm=n)=_;split<;>rfl
 rw[e]
def wq:hsL (mX L h o1 o2 q)=hsL L:=by unfold hsL;rw[yY]
def pF(n:Str):mj (mX L h o1 o2 q) n=mj L n:=by unfold mj;rw[uX,ci]
def Cz(n:Str):pA (mX L h o1 o2 q) n=pA L n:=by
 unfold pA;rw[uX];cases mH L n with
 |none=>rfl
 |some e =>
  show(if e.nm=h then { e with held:=sold e.held o1 o2 q } else e).th=e.th;split<;>rfl
def La(hn:h∉L.map (·.nm)):mX L h o1 o2 q=L:=by
 unfold mX vA
 conv=>rhs;rw[<-ir L]
 refine aV λx hx=>?_;rw[Zd λz=>hn (ah.mpr ⟨x,hx,z⟩)];rfl
theorem Cts.sale(hq:ShOk q)(so:Sm o2):∀{c:Nat}{L:List Ent},Cts c L->(L.map (·.nm)).Nodup->(∀e∈L,e.nm=h->¬mR e.held o1 q)->Cts (c+1) (mX L h o1 o2 q)
 |_,_,.nil,_,_=>.nil
 |_,_,.cons (c1:=c1) (c2:=c2) (e:=e) (L:=L) ⟨hz,R⟩ r k,nd,nt=>by
  obtain⟨n1,n2⟩:=aI.mp (show(e.nm::L.map (·.nm)).Nodup from nd);show Cts _ ((if e.nm=h then { e with held:=sold e.held o1 o2 q } else e)::mX L h o1 o2 q);by_cases z:e.nm=h
  ·rw[Zc z,La (by rw[<-z];exact n1)];exact .cons (c1:=c1+1) ⟨_,R.sale hq so (nt e ai z)⟩ r (by lia)
  ·rw[Zd z];exact .cons ⟨hz,R⟩ (r.sale hq so n2 λe he=>nt e (ae _ he)) (by lia)
def uG(g:Gd L N c)(hq:ShOk q)(hh:mj L h=true)(nt:∀e,mH L h=Za e->¬mR e.held o1 q)(n x:Str):shr (mX L h o1 o2 q) n x=shr L n x+if n=h then(if x=o2 then rv q else 0)-(if x=o1 then rv q else 0) else 0:=by
 unfold shr;rw[uX];cases f:mH L n with
 |none =>
  rw[Zd]
  ·exact(fC 0).symm
  ·intro z;rw[z] at f;unfold mj at hh;rw[f] at hh;cases hh
 |some e =>
  have en:=(sM f).2;obtain⟨k,hz,R,_⟩:=g.hr f;show rv (l7 (if e.nm=h then { e with held:=sold e.held o1 o2 q } else e).held x)=rv (l7 e.held x)+_;by_cases z:n=h
  ·rw[Zc (en.trans z),Zc z];show rv (l7 (sold e.held o1 o2 q) x)=_;rw[K3 R hq (nt e (z▸f))]
   grind
  ·rw[Zd (λy=>z (en.symm.trans y)),Zd z]
   grind
theorem Gd.sale(g:Gd L N c)(hc:c<=40)(hq:ShOk q)(Rh:o1∈N)(Q2:o2∈N)(nt:∀e,mH L h=Za e->¬mR e.held o1 q):Gd (mX L h o1 o2 q) N (c+1):=by
 have nt':∀e∈L,e.nm=h->¬mR e.held o1 q:=λe he z=>by obtain⟨A,B,rfl⟩:=lI he;have nd:=g.nd;rw[au,al] at nd;refine nt e ?_;rw[<-z];exact sL λy=>(bJ.mp nd).2.2 _ y _ ai rfl
 have ct:=g.ct.sale (h:=h) (o2:=o2) hq (g.ho.sm o2 Q2) g.nd nt';refine⟨⟨λn e f=>?_,g.ho.sm,g.ho.le,λn hn=>g.ho.hn n ((pF n)▸hn)⟩,by rw[yY];exact g.nd,ct,λe he=>?_,by unfold mX vA;rw[ac];exact g.l8,by lia⟩
 ·obtain⟨k,hz,R,kc⟩:=ct.mem e (sM f).1;refine⟨aX R.l1 (by lia),λx hx=>?_⟩;rw[uX] at f;cases f':mH L n with
  |none=>rw[f'] at f;cases f
  |some e' =>
   rw[f'] at f;have f:(if e'.nm=h then { e' with held:=sold e'.held o1 o2 q } else e')=e:=aP f;have old:=(g.ho.ow n e' f').2;by_cases z:e'.nm=h
   ·rw[Zc z] at f;rw[<-f] at hx;have hx:x∈(sold e'.held o1 o2 q).map (·.1):=hx;unfold sold at hx;simp only at hx;rw[rW] at hx;rcases hx with hx|hx
    ·rw[hx];exact Q2
    ·split at hx
     ·exact old x (mem_drop.mp hx).2
     ·rw[rW] at hx;rcases hx with hx|hx
      ·rw[hx];exact Rh
      ·exact old x hx
   ·rw[Zd z] at f;rw[<-f] at hx;exact old x hx
 ·unfold mX vA at he;obtain⟨x,hx,rfl⟩:=ah.mp he;split
  ·exact g.tb x hx
  ·exact g.tb x hx
def FP(a:Adr)(g:Gd L N c)(hc:c<=40)(hb:T.get nb=Za (.book pp L))(hh:mj L h=true)(hq:ShOk q)(Rh:o1∈N)(Q2:o2∈N)(i1:(oF pp o1||mj L o1)=true)(i2:(oF pp o2||mj L o2)=true)(nt:∀e,mH L h=Za e->¬mR e.held o1 q):rM a [.ref nb,.str h,.str o1,.str o2,frP q] T=.ok .non (T.set nb (.book pp (mX L h o1 o2 q))):=by
 have hS:SaleE L h o1 o2 q:=⟨g.nd,⟨(g.ho.sm h (g.ho.hn h hh)).nm,(g.ho.sm o1 Rh).nm,(g.ho.sm o2 Q2).nm⟩,hq.sz,λe he=>by obtain⟨k,hz,R,kc⟩:=g.hr he;exact R.saleOk (by lia) hq⟩
 obtain⟨e,f,_⟩:=g.ent hh;have n1:=nt e f;obtain⟨x,y⟩:=q;simp only[rM,m7,hb,frP];rw[Zc hS,f];show(if(oF pp o1||mj L o1)=false then _ else _)=_;rw[Zd (by rw[i1];decide),Zd (by rw[i2];decide),Zd n1];rfl
def zc(g:Gd L N c){n x:Str}:x∈own L n↔0<shr L n x:=⟨g.pos,λz=>b8 λy=>by rw[g.zero y] at z;exact absurd z (by decide)⟩
def IA(g:Gd L N c)(g':Gd (mX L h o1 o2 q) N (c+1))(ng:NoG L)(hq:ShOk q)(hh:mj L h=true)(nt:∀e,mH L h=Za e->¬mR e.held o1 q){G:List Str}(hG:G≠[])(W:WG (mX L h o1 o2 q) (hsL (mX L h o1 o2 q)) G):h∈G:=by
 refine b8 λhn=>?_;obtain⟨y,hy,x,hx,q⟩:=ng G hG λy hy=>by rw[<-pF (h:=h) (o1:=o1) (o2:=o2) (q:=q)];exact hsL_mem.mp (W.sl.subset hy)
 refine q (W.cl y hy x ?_);rw[zc g',uG g hq hh nt,Zd (λz:y=h=>hn (by rw[<-z];exact hy)),fC];exact(zc g).mp hx
def DM{t w w':Str->Rat}{S:List Str}(g:Gd L N c)(g':Gd (mX L h o1 o2 q) N (c+1))(ng:NoG L)(hq:ShOk q)(hh:mj L h=true)(nt:∀e,mH L h=Za e->¬mR e.held o1 q)(s:Sol L t w)(s':Sol (mX L h o1 o2 q) t w')(m1:o1∈S)(m2:o2∈S)(cl:∀l∈S,(∀x∈own L l,x∈S)\/∀x∈own (mX L h o1 o2 q) l,x∈S):∀x,x∉S->w x=w' x:=by
 have same:∀x,x∉S->∀l,shr (mX L h o1 o2 q) l x=shr L l x:=λx hx l=>by rw[uG g hq hh nt,Zd (show ¬x=o2 from λz=>hx (z▸m2)),Zd (show ¬x=o1 from λz=>hx (z▸m1))];split<;>grind
 have zer:∀x,x∉S->∀l∈S,shr L l x=0:=λx hx l hl=>by
  rcases cl l hl with k|k
  ·exact g.zero λz=>hx (k x z)
  ·rw[<-same x hx];exact g'.zero λz=>hx (k x z)
 have key:∀x,x∉S->∀v:Str->Rat,mE ((hsL L).map λl=>shr L l x*v l)=mE (((hsL L).filter λl=>decide (l∉S)).map λl=>shr L l x*v l):=λx hx v=>by refine(qV λl _ hl=>?_).symm;have hl:l∈S:=b8 λz=>of_decide_eq_false hl z;rw[zer x hx l hl,Rat.zero_mul]
 have at_:∀x,x∉S->w' x=t x+mE (((hsL L).filter λl=>decide (l∉S)).map λl=>shr L l x*w' l):=λx hx=>by have a2:=s' x;rw[wq] at a2;simp only[same x hx] at a2;rw[key x hx w'] at a2;exact a2
 have at0:∀x,x∉S->w x=t x+mE (((hsL L).filter λl=>decide (l∉S)).map λl=>shr L l x*w l):=λx hx=>by have a2:=s x;rw[key x hx w] at a2;exact a2
 have zero:=g.uniq ng (U:=(hsL L).filter λl=>decide (l∉S)) (g.hnd.filter _) (λx hx=>hsL_mem.mp (bu.mp hx).1) (v:=λx=>w x-w' x) λx hx=>by
  have xS:=Zf (bu.mp hx).2;have e:mE (((hsL L).filter λl=>decide (l∉S)).map λl=>shr L l x*(w l-w' l))=mE (((hsL L).filter λl=>decide (l∉S)).map λl=>shr L l x*w l+(-1)*(shr L l x*w' l)):=mS λl _=>by grind
  rw[e,uE,qS];have a1:=at0 x xS;have a2:=at_ x xS
  grind
 intro x hx;rw[at0 x hx,at_ x hx]
 congr 1
 refine mS λl hl=>?_;have:w l-w' l=0:=zero l hl
 grind
def GI(g:Gd L N c)(g':Gd (mX L h o1 o2 q) N (c+1))(hq:ShOk q)(hh:mj L h=true)(nt:∀e,mH L h=Za e->¬mR e.held o1 q):∀e,mH (mX L h o1 o2 q) h=Za e->¬mR e.held o2 q:=λe f z=>by
 obtain⟨e0,f0,_,s0⟩:=g.ent hh;obtain⟨k,hz,R,_⟩:=g'.hr f;obtain⟨k0,hz0,R0,_⟩:=g.hr f0;have n0:=nt e0 f0;have q0:0<q.1:=by by_cases z:0<q.1;exact z;exact absurd (.inl z) n0
 have le0:rv q<=rv (l7 e0.held o1):=(MX hq.low.1 (R0.fr o1).low.1).mpr (by
  by_cases z:q.1*(l7 e0.held o1).2>(l7 e0.held o1).1*q.2
  ·exact absurd (.inr z) n0
  ·lia)
 have v:=uG g hq hh nt h o2 (o2:=o2);have v1:shr (mX L h o1 o2 q) h o2=rv (l7 e.held o2):=by unfold shr;rw[f]
 rw[v1,Zc rfl,Zc rfl,s0] at v;have p2:=Kw (R0.fr o2).nn (R0.fr o2).low.1;have le:rv q<=rv (l7 e.held o2):=by
  rw[v];by_cases y:o2=o1
  ·rw[Zc y,y];grind
  ·rw[Zd y];grind
 rcases z with z|z
 ·exact z q0
 ·have:=(MX hq.low.1 (R.fr o2).low.1).mp le;lia
def JG(g:Gd L N c)(g':Gd (mX L h o1 o2 q) N (c+1))(hq:ShOk q)(hh:mj L h=true)(nt:∀e,mH L h=Za e->¬mR e.held o1 q)(n x:Str):shr (mX (mX L h o1 o2 q) h o2 o1 q) n x=shr L n x:=by rw[uG g' hq (by rw[pF];exact hh) (GI g g' hq hh nt),uG g hq hh nt];split<;>grind
def NoG.same{L':List Ent}{c':Nat}(g:Gd L N c)(g':Gd L' N c')(hs:∀n,mj L' n=mj L n)(e:∀n x,shr L' n x=shr L n x)(ng:NoG L):NoG L':=λG hG hh=>by obtain⟨y,hy,x,hx,q⟩:=ng G hG λy hy=>(hs y)▸hh y hy;exact⟨y,hy,x,by rw[zc g',e];exact(zc g).mp hx,q⟩
def Sol.same{L':List Ent}{t w:Str->Rat}(hs:hsL L'=hsL L)(e:∀n x,shr L' n x=shr L n x)(s:Sol L' t w):Sol L t w:=λx=>by have:=s x;rw[hs] at this;simp only[e] at this;exact this
end
section
variable{T:Sto}{p nb nd:Nat}{pp N:List Str}{L:List Ent}{c:Nat}{Zj:List (Nat×Cell)}{M:List Md}
def OC(T)(F)(cl):Gr T ((rst T F []).add cl)/\((rst T F []).add cl).get (T.nx+2)=Za cl/\((rst T F []).add cl).nx=T.nx+3:=by
 have n2:(rst T F []).nx=T.nx+2:=rfl;refine⟨⟨Nat.le_add_right _ 3,λk hk=>?_⟩,?_,rfl⟩
 ·rw[mG,n2,Zd (show T.nx+2≠k by lia),Ft _ _ _ hk]
 ·rw[mG,n2,Zc rfl]
def CL(a:Adr)(h:Ls T p nb pp L Zj){ws:List Str}(h0:0<ws.length)(hl:ws.length<1000){i:Nat}{Z:En}(r1:Z[1]?=Za (Za (.ref p))){f:XE}(hf:f Z T=.ok (LS ws) T){g:XE}(hg:g Z T=.ok (.int (ws.length:Nat)) T) :
  ∃w x y,w∈ws/\x2 f (xCall 2 (lZ a) (xCons (xVar 1) (xCons g xNil))) fIx Z T=.ok (.str w) (T.set p (.lst [.int x,.int y])):=by
 obtain⟨r,x,y,q0,q1,e⟩:=rY a T p (ws.length:Nat) h.pu (by lia) (oR (by lia) (by lia));obtain⟨w,hw,QQ⟩:=Er (ws:=ws) (r:=r) q0 q1;exact⟨w,x,y,hw,(mq hf (l9 (lL (lK r1) (lL hg rfl)) rfl e)).trans (yw QQ)⟩
def J6{i:Nat}{Z:En}{s:Sto}{ws:List Str}(r:Z[i]?=Za (Za (LS ws))):xB (xCons (xVar i) xNil) fLen Z s=.ok (.int (ws.length:Nat)) s:=(vK (lL (lK r) rfl)).trans (by rw[zk,ac])
def Prs.has(P:Prs N c L M)(n:Str):(oZ (M.map mdP) (aj n)).isSome=mj L n:=by
 by_cases h:n∈L.map (·.nm)
 ·obtain⟨e,m,k,f,hm,v,R⟩:=P.at_ h;rw[v,(n9 _ _).mpr h];rfl
 ·rw[dZ.mpr λz=>h ((n9 _ _).mp z),dZ];intro z;unfold oZ at z;rw[ci,gB] at z;obtain⟨kv,h1,h2⟩:=z;obtain⟨m,hm,rfl⟩:=ah.mp h1;have:(aj m.nm:Key)=aj n:=Zf h2;exact h (P.names▸cM this▸ah.mpr ⟨m,hm,rfl⟩)
theorem vC(a:Adr)(H:Ho L N)(hi:∀n,(oZ (M.map mdP) (aj n)).isSome=mj L n)(u2:PV):∀(R S:List Str)(T:Sto)(u4:Option PV),T.get nb=Za (.book pp L)->nb<T.nx->T.get nd=Za (.dct (M.map mdP))->nd<T.nx->S.length+64*R.length<=1000->(∀l∈S,l∈R\/∀x∈own L l,x∈S) ->
  ∃S' T' v4,nJ (mQ (yName 4) (mJ a)) (R.map .str) [Za (.ref nb),Za (.ref nd),Za u2,Za (LS S),u4] T=.nx [Za (.ref nb),Za (.ref nd),Za u2,Za (LS S'),v4] T'/\Gr T T'/\(∀x∈S,x∈S')/\(∀l∈S',∀x∈own L l,x∈S')/\S'.length<=S.length+64*R.length
 |[],S,T,u4,_,_,_,_,_,cl=>⟨S,T,u4,rfl,Gr.refl T,λ_ z=>z,λl hl=>(cl l hl).elim (λz=>nomatch z) id,by simp⟩
 |h::R,S,T,u4,hb,Qa,hd,hnd,hl,cl=>by
  rw[aY] at hl;have e0:xTr (x2 (xVar 4) (xVar 1) fIn) [Za (.ref nb),Za (.ref nd),Za u2,Za (LS S),Za (.str h)] T=.ok (mj L h) T:=by
   refine oa ((mq (lK rfl) (lK rfl)).trans ?_);show qp false _ _ _=_;unfold qp;have:dcOf T (.ref nd)=Za (M.map mdP):=by simp only[dcOf,hd]
   rw[this];show Out.ok (PV.bl (Eu false (oZ (M.map mdP) (aj h)).isSome)) T=_;rw[hi];cases mj L h<;>rfl
  cases hh:mj L h with
  |false =>
   rw[hh] at e0;obtain⟨S',T',v4,e,g,a1,a2,a3⟩:=vC a H hi u2 R S T (Za (.str h)) hb Qa hd hnd (by lia) λl hl=>by
    rcases cl l hl with k|k
    ·rcases af.mp k with k|k
     ·right;rw[k,C0 hh];exact λ_ z=>nomatch z
     ·exact .inl k
    ·exact .inr k
   refine⟨S',T',v4,?_,g,a1,a2,by rw[aY];lia⟩;rw[al];unfold nJ;have bd:mQ (yName 4) (mJ a) (.str h) [Za (.ref nb),Za (.ref nd),Za u2,Za (LS S),u4] T=.nx [Za (.ref nb),Za (.ref nd),Za u2,Za (LS S),Za (.str h)] T:=(o5 (i:=4)).trans (by show mJ a [Za (.ref nb),Za (.ref nd),Za u2,Za (LS S),Za (.str h)] T=_;unfold mJ;exact(qK e0).trans rfl)
   rw[bd];exact e
  |true =>
   rw[hh] at e0;obtain⟨F,e1,RF,fN⟩:=EQ a H hb Qa hh;obtain⟨G2,q2,n2⟩:=OC T F (.lst ((srt F).map .str));generalize (rst T F []).add (.lst ((srt F).map .str))=T2 at *;have lF:(srt F).length<=64:=by rw[(lY _).length_eq];exact dN (aX (C6 RF.nd fN) H.le)
   have mF:∀x,x∈srt F↔x∈F:=λx=>(lY _).mem_iff;obtain⟨S',T',v4,e,g,a1,a2,a3⟩:=vC a H hi u2 R (S++srt F) T2 (Za (.str h)) ((G2.fr nb Qa).trans hb) (ay Qa G2.nx) ((G2.fr nd hnd).trans hd) (ay hnd G2.nx) (by rw[aD];lia) λl hl=>by
    rcases aJ.mp hl with hl|hl
    ·rcases cl l hl with k|k
     ·rcases af.mp k with k|k
      ·right;rw[k];exact λx hx=>aA _ ((mF x).mpr (RF.cl.1 x hx))
      ·exact .inl k
     ·exact .inr λx hx=>aO _ (k x hx)
    ·exact .inr λx hx=>aA _ ((mF x).mpr (RF.cl.2 l ((mF l).mp hl) x hx))
   refine⟨S',T',v4,?_,G2.trans g,λx hx=>a1 x (aO _ hx),a2,by rw[aD] at a3;rw[aY];lia⟩;rw[al];unfold nJ;have bd:mQ (yName 4) (mJ a) (.str h) [Za (.ref nb),Za (.ref nd),Za u2,Za (LS S),u4] T=.nx [Za (.ref nb),Za (.ref nd),Za u2,Za (LS (S++srt F)),Za (.str h)] T2:=(o5 (i:=4)).trans (by show mJ a [Za (.ref nb),Za (.ref nd),Za u2,Za (LS S),Za (.str h)] T=_;unfold mJ;refine(tS e0).trans (me (v:=LS (S++srt F)) ((mq (lK rfl) (l9 (lL (lK rfl) (lL (lK rfl) rfl)) rfl e1)).trans ?_));simp only[fAdd,lsOf,q2];rw[Zc (by rw[ac,ac];lia),<-au])
   rw[bd];exact e
def xM(a:Adr)(h:Ls T p nb pp L Zj)(hm:(nd,.dct (M.map mdP))∈Zj)(H:Ho L N)(hi:∀n,(oZ (M.map mdP) (aj n)).isSome=mj L n)(o1 o2:Str) :
  ∃S T',nT a [.ref nb,.ref nd,LS [o1,o2]] T=.ok (LS S) T'/\Gr T T'/\o1∈S/\o2∈S/\(∀l∈S,∀x∈own L l,x∈S)/\S.length<=200:=by
 obtain⟨g,_,_,ln⟩:=h.zz _ hm;obtain⟨S',T',v4,e,G,a1,a2,a3⟩:=vC a H hi (LS [o1,o2]) [o1,o2] [o1,o2] T Zb h.bk h.lb g ln (dW rfl) λl hl=>.inl hl;refine⟨S',T',mK ?_,G,a1 o1 (by simp),a1 o2 (by simp),a2,aE a3 (by simp)⟩;unfold tE;refine lV (me (v:=LS [o1,o2]) (s':=T) ((vK (lL (lK rfl) rfl)).trans rfl)) ?_;exact lV (qG (l:=[o1,o2].map .str) (s1:=T) (nz (lK rfl)) e) (nO (lK rfl))
def Prs.atk(P:Prs N c L M){n:Str}(h:n∈L.map (·.nm)):∃e m k,mH L n=Za e/\m∈M/\oZ (M.map mdP) (aj n)=Za (.lst [.ref m.cell,.tup [.int m.th,.int m.mr,.int m.ls]])/\MRel N k e m/\k<=c:=by obtain⟨A,e,B,A',m,B',k1,k2,k3,e1,e2,e3,e4,e5,e6,e7,e8⟩:=P.cut (P.names▸h);subst e3;refine⟨e,m,k2,?_,by rw[e2];simp,by rw[e2];exact Fw e4,e6,by lia⟩;rw[e1,<-e6.nm];exact sL (by rw[e5.names,e6.nm];exact e4)
end
def kE(u0:PV)(p nb nd:Nat)(P:List Str)(r:En):En:=Za u0::Za (.ref p)::Za (.ref nb)::Za (LS P)::Za (.ref nd)::r
abbrev n10:En:=[Zb,Zb,Zb,Zb,Zb,Zb,Zb,Zb,Zb,Zb]
abbrev kF(u0:PV)(nb nd:Nat)(pp:List Str)(h:Str)(m:Md)(o1:Str)(M:List Md)(o2:Str)(r:En):En:=kE u0 0 nb nd (srt pp) (Za (.str h)::Za (LS (srt (m.hl.map (·.1))))::Za (.str o1)::Za (LS (srt pp++srt (M.map (·.nm))))::Za (.str o2)::r)
def Oq(a)(l)(hl:l.length<=63)(hw:Att.WtOk l):∃s',Bb a [.seq (l.map .int)] ⟨0,[]⟩=.ok (.bl true) s':=by
 obtain⟨x0,y0,e0⟩:=IH a ⟨0,[]⟩ l hl hw;have hPu:IsPurse ((⟨0,[]⟩:Sto).add (.lst [.int x0,.int y0])) 0:=⟨x0,y0,rfl⟩;have nx1:((⟨0,[]⟩:Sto).add (.lst [.int x0,.int y0])).nx=1:=rfl;generalize (⟨0,[]⟩:Sto).add (.lst [.int x0,.int y0])=s1 at *;obtain⟨t,nb,nd,pp,hs,c,L,M,e1,B,hL,WN,p1,p3,h6,c28⟩:=JE a s1 0 (by lia) hPu 6 (by decide);obtain⟨G,PP⟩:=B.gd WN hL (by lia) (by lia) (by lia);have lt:=B.w.lt;have ml:M.length=L.length:=by have:=congrArg b6 B.w.pr.names;simpa using this.symm
 have l8:=G.l8;have hi:=B.w.pr.has;generalize hu0:(PV.seq (l.map .int))=u0 at *;generalize hZ:((nd,Cell.dct (M.map mdP))::M.map λm=>(m.cell,Cell.dct (hP m.hl)))=Zj;have mZ:(nd,Cell.dct (M.map mdP))∈Zj:=by rw[<-hZ];exact ai
 have W0:Ls (t.add (.dct [])) 0 nb pp L Zj :=
  Ls.gr (T:=t) ⟨B.w.pu,B.w.bk,B.w.i1,lt.1,lt.2.1,λz hz=>by
   rw[<-hZ] at hz;rcases af.mp hz with q|q
   ·rw[q];exact⟨B.w.md,bW B.w.i2,bW B.w.i3,lt.2.2.1⟩
   ·obtain⟨m,hm,rfl⟩:=ah.mp q;exact⟨B.w.sh m hm,(B.w.i4 m hm).1,(B.w.i4 m hm).2.1,lt.2.2.2 m hm⟩⟩ (Gr.add _ _)
 have eD:x2 (xVar 4) xNewD AW (kE u0 0 nb nd (srt pp) n10) t=.ok (.bl (M.map mdP).isEmpty) (t.add (.dct [])):=by
  refine(mq (lK rfl) (show xNewD _ t=.ok (.ref t.nx) (t.add (.dct [])) from rfl)).trans ?_;have g1:(t.add (.dct [])).get nd=Za (.dct (M.map mdP)):=(W0.zz _ mZ).1;have g2:(t.add (.dct [])).get t.nx=Za (.dct []):=by rw[mG,Zc rfl]
  unfold AW;simp only[dcOf,g1,g2]
 have head:∀(o:SO)(g:XS),g (kE u0 0 nb nd (srt pp) n10) t=o->xSeq (xSet 1 (xCall 1 (oA a) (xCons (xVar 0) xNil))) (xSeq (xAsg (xCall 2 (qy a) (xCons (xVar 1) (xCons (xC (.int 6)) xNil))) (yTup 3 (yCons (yName 2) (yCons (yName 3) (yCons (yName 4) yNil))))) g) [Za u0,Zb,Zb,Zb,Zb,Zb,Zb,Zb,Zb,Zb,Zb,Zb,Zb,Zb,Zb] ⟨0,[]⟩=o:=λo g h =>
  lV (me (l9 (lL (lK rfl) rfl) rfl e0)) (lV (asg3 (l9 (lL (lK rfl) (lL rfl rfl)) rfl e1)) h)
 have PK:∀(s':Sto)(v:PV),Da a [Za u0,Zb,Zb,Zb,Zb,Zb,Zb,Zb,Zb,Zb,Zb,Zb,Zb,Zb,Zb] ⟨0,[]⟩=.rt v s'->Bb a [u0] ⟨0,[]⟩=.ok v s':=λs' v h=>mK h;by_cases hM:M=[]
 ·refine⟨t.add (.dct []),PK _ _ ?_⟩;unfold Da;exact head _ _ (Aq ((tS (s1:=t.add (.dct [])) (N1 (oa (eD.trans (by rw[hM];rfl))))).trans rfl))
 have VC:x2 (xVar 4) xNewD AW (kE u0 0 nb nd (srt pp) n10) t=.ok (.bl false) (t.add (.dct [])):=eD.trans (by
  cases M with
  |nil=>exact absurd rfl hM
  |cons m M=>rfl)
 obtain⟨Gw,eG,WGw⟩:=wl a G.ho (by lia) W0.bk;have sG:∀x∈Gw,bi x=true:=λx hx=>G.hok (WGw.sl.subset hx);have eW:xTr (x2 (xCall 1 (nv a) (xCons (xVar 2) xNil)) (xLst xNil) fNe) (kE u0 0 nb nd (srt pp) n10) (t.add (.dct []))=.ok (!decide (Gw=[])) (t.add (.dct [])):=oa ((mq (l9 (lL (lK rfl) rfl) rfl eG) (vi rfl)).trans (KF (V:=[]) sG λ_ z=>nomatch z));by_cases hG:Gw=[]
 case neg =>
  refine⟨t.add (.dct []),PK _ _ ?_⟩;unfold Da;exact head _ _ (Aq ((tS (s1:=t.add (.dct [])) (HZ (oa VC) (eW.trans (by rw[Zh hG];rfl)))).trans rfl))
 subst hG;have ng:=WGw.noG;generalize t.add (.dct [])=t0 at *;have eS:∀{T:Sto}{r:En},Ls T 0 nb pp L Zj->xB (xCons (xVar 4) xNil) mv (kE u0 0 nb nd (srt pp) r) T=.ok (LS (srt (M.map (·.nm)))) T:=λW=>(vK (lL (lK rfl) rfl)).trans (tj (W.zz _ mZ).1 (F9 M) (by rw[ac];lia));obtain⟨h,xa,ya,hh,e2⟩:=CL a W0 (ws:=srt (M.map (·.nm))) (by rw[(lY _).length_eq,ac];exact fY.mpr hM) (by rw[(lY _).length_eq,ac];lia) (i:=0) (Z:=kE u0 0 nb nd (srt pp) n10) rfl (eS W0) (g:=xB (xCons (xVar 4) xNil) fLen) ((vK (lL (lK rfl) rfl)).trans (by have g:t0.get nd=Za (.dct (M.map mdP)):=(W0.zz _ mZ).1;rw[(lY _).length_eq,ac];simp[fLen,lsOf,dcOf,g]))
 have hh:=(lY _).mem_iff.mp hh;have W1:=W0.pst xa ya;generalize t0.set 0 (.lst [.int xa,.int ya])=t1 at *;have Rj:h∈L.map (·.nm):=B.w.pr.names▸hh;have Sb:mj L h=true:=(n9 _ _).mpr Rj;obtain⟨e,m,k,fe,hm,hv,R,kc⟩:=B.w.pr.atk Rj;obtain⟨hz,VL⟩:=R.hm.r;have cZ:(m.cell,Cell.dct (hP m.hl))∈Zj:=by rw[<-hZ];exact ae _ (ah.mpr ⟨m,hm,rfl⟩)
 have eC:∀{T:Sto}{r:En},Ls T 0 nb pp L Zj->x2 (x2 (xVar 4) (xVar 5) fIx) (xC (.int 0)) fIx (kE u0 0 nb nd (srt pp) (Za (.str h)::r)) T=.ok (.ref m.cell) T:=λW=>(mq ((mq (lK rfl) (lK rfl)).trans (C8 (W.zz _ mZ).1 hv)) rfl).trans rfl;have Pi:m.hl.length<=45:=by rw[R.hm.len];exact aE VL.l1 (by lia)
 have PH:m.hl.map (·.1)≠[]:=by obtain⟨n,hn⟩:=VL.ex;exact iN ((R.hm.mem n).mpr ((VL.nm n).mpr hn))
 have e3:xB (xCons (x2 (x2 (xVar 4) (xVar 5) fIx) (xC (.int 0)) fIx) xNil) mv (kE u0 0 nb nd (srt pp) [Za (.str h),Zb,Zb,Zb,Zb,Zb,Zb,Zb,Zb,Zb]) t1=.ok (LS (srt (m.hl.map (·.1)))) t1:=(vK (lL (eC W1) rfl)).trans (tj (W1.zz _ cZ).1 (Ga m.hl) (by rw[ac];lia));obtain⟨o1,xb,yb,ho,e4⟩:=CL a W1 (ws:=srt (m.hl.map (·.1))) (Fo PH) (by rw[(lY _).length_eq,ac];lia) (i:=0) (Z:=kE u0 0 nb nd (srt pp) [Za (.str h),Za (LS (srt (m.hl.map (·.1)))),Zb,Zb,Zb,Zb,Zb,Zb,Zb,Zb]) (f:=xVar 6) (g:=xB (xCons (xVar 6) xNil) fLen) rfl (lK rfl) (J6 rfl);have ho:=(lY _).mem_iff.mp ho;have W2:=W1.pst xb yb;generalize t1.set 0 (.lst [.int xb,.int yb])=t2 at *;have e5:x2 (xVar 3) (xB (xCons (xVar 4) xNil) mv) fAdd (kE u0 0 nb nd (srt pp) [Za (.str h),Za (LS (srt (m.hl.map (·.1)))),Za (.str o1),Zb,Zb,Zb,Zb,Zb,Zb,Zb]) t2=.ok (LS (srt pp++srt (M.map (·.nm)))) t2:=by refine(mq (lK rfl) (eS W2)).trans ?_;simp only[fAdd,lsOf];rw[Zc (by rw[ac,ac,(lY _).length_eq,(lY _).length_eq,ac];lia),<-au]
 obtain⟨o2,xc,yc,Q5,e6⟩:=CL a W2 (ws:=srt pp++srt (M.map (·.nm))) (by rw[aD,(lY _).length_eq];lia) (by rw[aD,(lY _).length_eq,(lY _).length_eq,ac];lia) (i:=0) (Z:=kE u0 0 nb nd (srt pp) [Za (.str h),Za (LS (srt (m.hl.map (·.1)))),Za (.str o1),Za (LS (srt pp++srt (M.map (·.nm)))),Zb,Zb,Zb,Zb,Zb,Zb]) (f:=xVar 8) (g:=xB (xCons (xVar 8) xNil) fLen) rfl (lK rfl) (J6 rfl);have W3:=W2.pst xc yc;generalize t2.set 0 (.lst [.int xc,.int yc])=t3 at *;have Rh:o1∈pp++hs:=R.ow o1 ho;have Q2:o2∈pp++hs:=by
  rcases aJ.mp Q5 with z|z
  ·exact aO _ ((lY _).mem_iff.mp z)
  ·exact aA _ (hL▸B.w.pr.names▸(lY _).mem_iff.mp z)
 have Uc:∀n∈pp++hs,(oF pp n||mj L n)=true:=λn hn=>by rw[du,wy,n9,hL];exact aJ.mp hn
 have F1:=R.hm.fr o1;have p0:=R.hm.pos ho;obtain⟨q',xd,yd,P9,e7⟩:=F3 a t3 0 W3.pu (l7 m.hl o1) F1.low p0 (F1.bb.mono (by lia));have W4:=W3.pst xd yd;generalize t3.set 0 (.lst [.int xd,.int yd])=t4 at *;have eH:∀{T:Sto}{r:En}{u6:Option PV},Ls T 0 nb pp L Zj->x2 (x2 (x2 (xVar 4) (xVar 5) fIx) (xC (.int 0)) fIx) (xVar 7) fIx (kE u0 0 nb nd (srt pp) (Za (.str h)::u6::Za (.str o1)::r)) T=.ok (frP (l7 m.hl o1)) T:=λW=>(mq (eC W) (lK rfl)).trans (C8 (W.zz _ cZ).1 (C9 m.hl o1 ho));have pw:∀(Z:En)(s:Sto),x2 (xC (.int 10)) (xC (.int 29)) fPow Z s=.ok (.int (10^29)) s:=λZ s=>by simp[x2,xC,fPow,Out.bind]
 have cond:∀(q:Int×Int)(Z:En),Z[10]?=Za (Za (frP q))->xTr (x2 (x2 (xVar 10) (xC (.int 1)) fIx) (x2 (xC (.int 10)) (xC (.int 29)) fPow) fGe) Z t4=.ok (decide ((10:Int)^29<=q.2)) t4:=λq Z h=>oa ((mq ((mq (lK h) rfl).trans ix1) (pw _ _)).trans rfl);obtain⟨q,hq,e8⟩:∃q,PartOf (l7 m.hl o1) q/\xIf (xTr (x2 (x2 (xVar 10) (xC (.int 1)) fIx) (x2 (xC (.int 10)) (xC (.int 29)) fPow) fGe)) (xSet 10 (x2 (x2 (x2 (xVar 4) (xVar 5) fIx) (xC (.int 0)) fIx) (xVar 7) fIx)) xEnd (kF u0 nb nd pp h m o1 M o2 [Za (frP q'),Zb,Zb,Zb,Zb]) t4=.nx (kF u0 nb nd pp h m o1 M o2 [Za (frP q),Zb,Zb,Zb,Zb]) t4:=by
  by_cases z:(10:Int)^29<=q'.2
  ·exact⟨l7 m.hl o1,⟨F1.low,p0,li _⟩,(tS (s1:=t4) ((cond q' _ rfl).trans (by rw[Zg z]))).trans (me (eH W4))⟩
  ·exact⟨q',P9,(qK (s1:=t4) ((cond q' _ rfl).trans (by rw[Zh z]))).trans rfl⟩
 by_cases hb:(10:Int)^29<=q.2
 ·refine⟨t4,PK _ _ ?_⟩;unfold Da;refine head _ _ ?_;refine lV ((qK (s1:=t0) (HZ (oa VC) (eW.trans (by rfl)))).trans rfl) ?_;refine lV (me e2) (lV (me e3) (lV (me e4) (lV (me e5) (lV (me e6) ?_))));refine lV (me (l9 (lL (lK rfl) (lL (eH W3) rfl)) rfl e7)) (lV e8 ?_);exact Aq ((tS (s1:=t4) ((cond q _ rfl).trans (by rw[Zg hb]))).trans rfl)
 have P4:ShOk q:=FZ (by lia) F1 hq (by lia);have nt:∀e',mH L h=Za e'->¬mR e'.held o1 q:=λe' f' z=>by
  rw[fe] at f';cases f';unfold mR at z;rw[<-R.hm.q] at z;rcases z with z|z
  ·exact z hq.pos
  ·have:=hq.le;lia
 obtain⟨w,t5,e9,sw,G5⟩:=xh a G ng PP W4.bk W4.lb;have W5:=W4.gr G5;obtain⟨w2,t6,e10,sw2,G6⟩:=z8 a G ng PP W5.bk W5.lb;have W6:=W5.gr G6;obtain⟨S,t7,e11,G7,s1',s2',cS,lS⟩:=xM a W6 mZ G.ho hi o1 o2;have W7:=W6.gr G7;have e12:=FP a G (by lia) W7.bk Sb P4 Rh Q2 (Uc o1 Rh) (Uc o2 Q2) nt;have GS:=G.sale (h:=h) (by lia) P4 Rh Q2 nt;have W8:=W7.book (mX L h o1 o2 q);generalize t7.set nb (.book pp (mX L h o1 o2 q))=t8 at *;obtain⟨Gb,e13,WB⟩:=wl a GS.ho (by have:=GS.l8;lia) W8.bk;have sB:∀x∈Gb,bi x=true:=λx hx=>GS.hok (WB.sl.subset hx);have okX:∀x∈hsL L,bi x=true:=λx hx=>G.hok hx;have okP:∀x∈srt pp,bi x=true:=λx hx=>EG (G.ho.sm x (PP.sub x ((lY _).mem_iff.mp hx)));have mid:∃v13 t9,xIf (xTr (x2 (xVar 14) (xLst xNil) fNe)) (xIf (xTr (x2 (xVar 5) (xVar 14) wc)) (xRet (xC (.bl false))) xEnd) (xSeq (xSet 13 (x2 (xVar 13) (xCall 3 (nT a) (xCons (xVar 2) (xCons (xVar 4) (xCons (xLst (xCons (xVar 7) (xCons (xVar 9) xNil))) xNil)))) fAdd)) (xIf (xOr (xNot (xTr (xCall 3 (nS a) (xCons (xVar 11) (xCons (xCall 1 (qU a) (xCons (xVar 2) xNil)) (xCons (xVar 13) xNil)))))) (xNot (xTr (xCall 3 (nS a) (xCons (xVar 12) (xCons (xCall 1 (tM a) (xCons (xVar 2) xNil)) (xCons (xVar 13) xNil))))))) (xRet (xC (.bl false))) xEnd)) (kF u0 nb nd pp h m o1 M o2 [Za (frP q),Za (oP (hsL L) w),Za (oP (srt pp) w2),Za (LS S),Za (LS Gb)]) t8=.nx (kF u0 nb nd pp h m o1 M o2 [Za (frP q),Za (oP (hsL L) w),Za (oP (srt pp) w2),v13,Za (LS Gb)]) t9/\Ls t9 0 nb pp (mX L h o1 o2 q) Zj:=by
  have c0:=KF (s:=t8) (U:=Gb) (V:=[]) sB (λ_ z=>nomatch z);by_cases hg:Gb=[]
  case neg =>
   refine⟨Za (LS S),t8,(tS (s1:=t8) (oa ((mq (lK rfl) (vi rfl)).trans (c0.trans (by rw[Zh hg];rfl))))).trans ((qK (s1:=t8) (oa ((mq (lK rfl) (lK rfl)).trans ((D2 (v:=LS Gb) rfl (by intro _ z;cases z) rfl).trans ?_)))).trans rfl),W8⟩;rw[Zg (IA G GS ng P4 Sb nt hg WB)];rfl
  subst hg;have ngS:=WB.noG;obtain⟨S2,t9,f1,H1,m1,m2,cS2,lS2⟩:=xM a W8 mZ GS.ho (λn=>by rw[pF];exact hi n) o1 o2;have W9:=W8.gr H1;obtain⟨w',TX,f2,sw',H2⟩:=xh a GS ngS PP W9.bk W9.lb;have RL:=W9.gr H2;obtain⟨w2',SN,f3,SQ,H3⟩:=z8 a GS ngS PP RL.bk RL.lb;have Us:=RL.gr H3;simp only[Cz] at sw' SQ;rw[wq] at f2;have cl:∀l∈S++S2,(∀x∈own L l,x∈S++S2)\/∀x∈own (mX L h o1 o2 q) l,x∈S++S2:=λl hl=>by
   rcases aJ.mp hl with z|z
   ·exact .inl λx hx=>aO _ (cS l z x hx)
   ·exact .inr λx hx=>aA _ (cS2 l z x hx)
  have k1:=Ge a (T:=TX) (X:=hsL L) (S:=S++S2) (w:=w) (w':=w') (v:=LS (S++S2)) okX rfl (by intro _ z;cases z) rfl λx _ hx=>DM G GS ng P4 Sb nt sw sw' (aO _ s1') (aO _ s2') cl x hx;have k2:=Ge a (T:=SN) (X:=srt pp) (S:=S++S2) (w:=w2) (w':=w2') (v:=LS (S++S2)) okP rfl (by intro _ z;cases z) rfl λx _ hx=>DM G GS ng P4 Sb nt sw2 SQ (aO _ s1') (aO _ s2') cl x hx;refine⟨Za (LS (S++S2)),SN,(qK (s1:=t8) (oa ((mq (lK rfl) (vi rfl)).trans c0))).trans ?_,Us⟩;refine lV (me (v:=LS (S++S2)) (s':=t9) ((mq (lK rfl) (l9 (lL (lK rfl) (lL (lK rfl) (lL (vi (lL (lK rfl) (lL (lK rfl) rfl))) rfl))) rfl f1)).trans ?_)) ?_
  ·simp only[fAdd,lsOf];rw[Zc (by rw[ac,ac];lia),<-au]
  show xIf _ _ _ (kF u0 nb nd pp h m o1 M o2 [Za (frP q),Za (oP (hsL L) w),Za (oP (srt pp) w2),Za (LS (S++S2)),Za (LS [])]) t9=_;have d2:xTr (xCall 3 (nS a) (xCons (xVar 11) (xCons (xCall 1 (qU a) (xCons (xVar 2) xNil)) (xCons (xVar 13) xNil)))) (kF u0 nb nd pp h m o1 M o2 [Za (frP q),Za (oP (hsL L) w),Za (oP (srt pp) w2),Za (LS (S++S2)),Za (LS [])]) t9=.ok true TX:=oa (l9 (lL (lK rfl) (lL (l9 (lL (lK rfl) rfl) rfl f2) (lL (lK rfl) rfl))) rfl k1);have d3:xTr (xCall 3 (nS a) (xCons (xVar 12) (xCons (xCall 1 (tM a) (xCons (xVar 2) xNil)) (xCons (xVar 13) xNil)))) (kF u0 nb nd pp h m o1 M o2 [Za (frP q),Za (oP (hsL L) w),Za (oP (srt pp) w2),Za (LS (S++S2)),Za (LS [])]) TX=.ok true SN:=oa (l9 (lL (lK rfl) (lL (l9 (lL (lK rfl) rfl) rfl f3) (lL (lK rfl) rfl))) rfl k2);exact(qK (s1:=SN) (HZ (J2 d2) (J2 d3))).trans rfl
 obtain⟨v13,t9,e14,W9⟩:=mid;have hhS:mj (mX L h o1 o2 q) h=true:=by rw[pF];exact Sb
 have ntB:=GI G GS P4 Sb nt;have e15:=FP a GS (by lia) W9.bk hhS P4 Q2 Rh (by rw[pF];exact Uc o2 Q2) (by rw[pF];exact Uc o1 Rh) ntB;have GB:=GS.sale (h:=h) (by lia) P4 Q2 Rh ntB;have sB:=JG G GS P4 Sb nt;have UP:=NoG.same G GB (λn=>by rw[pF,pF]) sB ng;have RL:=W9.book (mX (mX L h o1 o2 q) h o2 o1 q);have hsB:hsL (mX (mX L h o1 o2 q) h o2 o1 q)=hsL L:=by rw[wq,wq]
 have thB:∀x,pA (mX (mX L h o1 o2 q) h o2 o1 q) x=pA L x:=λx=>by rw[Cz,Cz]
 generalize mX (mX L h o1 o2 q) h o2 o1 q=LB at *;generalize t9.set nb (.book pp LB)=TX at *;obtain⟨Gc,e16,WC⟩:=wl a GB.ho (by have:=GB.l8;lia) RL.bk;have:=WC.nil UP;subst this;obtain⟨w3,SN,e17,sw3,G11⟩:=xh a GB UP PP RL.bk RL.lb;have Us:=RL.gr G11;obtain⟨w4,t12,e18,sw4,G12⟩:=z8 a GB UP PP Us.bk Us.lb;rw[hsB] at e17;have same:∀w w',Sol L (λx=>((pA L x:Int):Rat)) w->Sol LB (λx=>((pA LB x:Int):Rat)) w'->∀x,w' x=w x:=λw w' s s' x=>by simp only[thB] at s';exact Sol.uniq G ng (Sol.same hsB sB s') s x
 refine⟨t12,PK _ _ ?_⟩;unfold Da;refine head _ _ ?_;refine lV ((qK (s1:=t0) (HZ (oa VC) (eW.trans (by rfl)))).trans rfl) ?_;refine lV (me e2) (lV (me e3) (lV (me e4) (lV (me e5) (lV (me e6) ?_))));refine lV (me (l9 (lL (lK rfl) (lL (eH W3) rfl)) rfl e7)) (lV e8 ?_);refine lV ((qK (s1:=t4) ((cond q _ rfl).trans (by rw[Zh hb]))).trans rfl) ?_;refine lV (me (l9 (lL (lK rfl) rfl) rfl e9)) ?_;refine lV (me (l9 (lL (lK rfl) rfl) rfl e10)) ?_;refine lV (me (l9 (lL (lK rfl) (lL (lK rfl) (lL (vi (lL (lK rfl) (lL (lK rfl) rfl))) rfl))) rfl e11)) ?_;refine lV (wC ((qt (lK rfl) W7.bk (lL (lK rfl) (lL (lK rfl) (lL (lK rfl) (lL (lK rfl) rfl)))) rfl).trans e12)) ?_;refine lV (me (l9 (lL (lK rfl) rfl) rfl e13)) ?_;refine lV e14 ?_;refine lV (wC ((qt (lK rfl) W9.bk (lL (lK rfl) (lL (lK rfl) (lL (lK rfl) (lL (lK rfl) rfl)))) rfl).trans e15)) ?_;refine nO (GK ((mq (l9 (lL (lK rfl) rfl) rfl e16) (vi rfl)).trans (Nn (U:=[]) (V:=[]) (λ_ z=>nomatch z) (λ_ z=>nomatch z))) (GK ((mq (l9 (lL (lK rfl) rfl) rfl e17) (lK rfl)).trans (by rw[yO λx _=>same w w3 sw sw3 x];exact Gq okX)) ((mq (l9 (lL (lK rfl) rfl) rfl e18) (lK rfl)).trans (by rw[yO λx _=>same w2 w4 sw2 sw4 x];exact Gq okP))))
def LV{K}{a}{H}{c}{ns}{Q}{E}(hl:ns.length<=63)(hw:Att.WtOk ns)(ht:bO K bc "rules"=Za Zb)(hO:MQ H)(hS:SqL K H c (ns.map V.int))(k:∀v H',v=.bl true->Q v H'):spD K a.Book 1 (Bb a) [.ref c] H Q E:=by
 obtain⟨s',e⟩:=Oq a ns hl hw;have S0:SR K a.Book H ⟨λ_=>c,λ_=>[],[]⟩ ⟨0,[]⟩:=by refine⟨iq,(by intro n hn;cases hn),(by intro q hq;cases hq),(by intro n hn;cases hn),(by intro n hn;cases hn),(by intro z hz;cases hz),λP q t=>?_⟩;obtain⟨x,hx,c',h1,h2⟩:=t;simp only[Et,ap] at hx;subst hx;unfold PySem.W.tabIn at h1;rw[ht] at h1;cases h1
 have R0:∀(l:List Int),Reps K H ⟨λ_=>c,λ_=>[],[]⟩ ⟨0,[]⟩ (l.map V.int) (l.map PV.int):=λl=>by
  induction l with
  |nil=>exact .nil
  |cons x r ih=>exact .cons .int ih
 have pu:Pur (⟨λ_=>c,λ_=>[],[]⟩:Mp) ⟨0,[]⟩ c:=⟨(by intro z;cases z),by intro n hn;cases hn⟩;have hr:Rep K H ⟨λ_=>c,λ_=>[],[]⟩ ⟨0,[]⟩ (.ref c) (.seq (ns.map .int)):=by
  refine .seq ?_ (R0 ns);rcases hS with(h|h)|h
  ·rcases hO c with z|⟨o,xs,z⟩
   ·rw[z] at h;cases h
   ·rw[z] at h;cases h
  ·exact .inl ⟨h,pu⟩
  ·exact .inr h
 refine⟨rfl,[.seq (ns.map .int)],⟨0,[]⟩,_,.cons hr .nil,S0,?_⟩;rw[e];intro u H' m' _ _ r;cases r;exact k _ _ rfl
open PyProof.Rows
structure Gw(K:aa)(C:ak):Prop where
 n:bO K bc "Ways"=Za (Za (.ref C))
 p:ee K C cx=true
 h:fb K C=true
 o:gh K C=true
 s:aU K (.ref C) "__setattr__"=Za (Za (.builtin "object.__setattr__"))
 m:fK K C=true
 k:cD K (.ref C)=true
 a:aU K (.ref C) "bottom"=Za Zb
 b:aU K (.ref C) "top_of"=Za Zb
def all_mk{l:gC}{w}{K}{h}{mg}{fa}(X:K.In h)(G:h.Ns bc mg)(hfa:mg "law"=Za (.ref fa)){QM BK WY}(x0z:Gx K "OwnError")(x1z:Gx K "NoName")(x2z:Gx K "Twice")(x3z:Gx K "TooMany")(x4z:Gx K "NoHolder")(x5z:Gx K "NoHouse")(x6z:Gx K "NoLoss")(x7z:Gx K "NoShare")(Rp:bO K bc "Whole"=Za (Za (.ref QM)))(cb:Gb K BK)(cw:Gw K WY)(c0z:Gt K "ZERO" 0 1)(c1z:Gt K "ONE" 1 1)(u0z:Gi K "LONGEST_NAME" 8)(u1z:Gi K "MOST_PERSONS" 6)(u2z:Gi K "MOST_HOUSES" 8)(z0z:Gz K "len")(z1z:Gz K "range")(z2z:Gz K "all")(z3z:Gz K "int")(z4z:Gz K "abs")(z5z:Gz K "sorted")(z6z:Gz K "tuple")(z7z:Gz K "list")(z8z:Gz K "str")(z9z:Gz K "bool")(Ux:Gz K "isinstance")(Uw:Gz K "ValueError")(Uv:Gz K "any")(Uu:Gz K "set")(Ut:Gz K "max")(RP:Gz K "dict")(RO:Gz K "enumerate")(SI:Gz K "sum")(RM:Gz K "zip")(j0:Gf K "is_name" uU)(j1:Gf K "need_loss" ud)(j2:Gf K "common_divisor" pI)(j3:Gf K "plus" Fq)(j4:Gf K "minus" CC)(j5:Gf K "is_above" vB)(j6:Gm K BK "__init__" "Book.__init__" uq)(j7:Gm K BK "is_house" "Book.is_house" qd)(j8:Gm K BK "is_holder" "Book.is_holder" pJ)(j9:Gm K BK "need_house" "Book.need_house" o7)(j10:Gm K BK "need_holder" "Book.need_holder" oM)(j11:Gm K BK "need_new_name" "Book.need_new_name" og)(j12:Gm K BK "person" "Book.person" rB)(j13:Gm K BK "house" "Book.house" sT)(j14:Gm K BK "sale" "Book.sale" um)(j15:Gm K BK "persons" "Book.persons" qB)(j16:Gm K BK "houses" "Book.houses" rC)(j17:Gm K BK "of" "Book.of" xp)(j18:Gm K BK "shares" "Book.shares" pP)(j19:Gf K "_law_mixed" sR)(j20:Gf K "_law_purse" sP)(j21:Gf K "_law_draw" uk)(j22:Gf K "_law_divisor" qA)(j23:Gf K "_law_made" uh)(j24:Gf K "_law_names" sQ)(j25:Gf K "_law_number" rm)(j26:Gf K "_law_part" ug)(j27:Gf K "_law_sold" uf)(j28:Gf K "_law_built" sS)(j29:Gf K "lowest" z5)(j30:Gf K "cleared" xm)(j31:Gf K "solved" zZ)(j32:Gf K "is_held_within" pH)(j33:Gf K "whole_group" rj)(j34:Gf K "need_no_whole_group" nU)(j35:Gf K "cut" Kv)(j36:Gf K "all_cut" xn)(j37:Gf K "owning" z3)(j38:Gf K "agreement" ue)(j39:Gm K WY "__init__" "Ways.__init__" ul)(j40:Gm K WY "top_by" "Ways.top_by" rn)(j41:Gm K WY "all_by" "Ways.all_by" rA)(j42:Gf K "own_things" sO)(j43:Gf K "worths" zY)(j44:Gf K "parts" CA)(j45:Gf K "reached" xl)(j46:Gf K "_law_kept" uj)(j47:Gf K "_law_reaching" p8)(j48:Gf K "law" Ku)(zr:Gz K "rules")
  :∃(a:Adr)(fd:cq),bO K bc "rules"=Za Zb/\(∀(s:ax)(v:ag),jz s fd ⟨[v],[]⟩ [("_law_script",v)])/\∀base:bv,K.In base->base.Ns bc mg->FnOk l.prog w K mg base (CXo l.prog w) 10 fa fd ["_law_script"] (spD K a.Book 1 (Bb a)):=by
 have g:=λ{x v}=>@jv _ _ _ x v X G;obtain⟨QC,n0,e0⟩:=x0z;obtain⟨Rf,n1,e1⟩:=x1z;obtain⟨RB,n2,e2⟩:=x2z;obtain⟨QR,n3,e3⟩:=x3z;obtain⟨QD,n4,e4⟩:=x4z;obtain⟨QT,n5,e5⟩:=x5z;obtain⟨Rg,n6,e6⟩:=x6z;obtain⟨QS,n7,e7⟩:=x7z;obtain⟨o0,_,_,_,_,_,p0,l0⟩:=c0z;obtain⟨o1,_,_,_,_,_,p1,l1⟩:=c1z;obtain⟨t0,y0⟩:=u0z;obtain⟨t1,y1⟩:=u1z;obtain⟨t2,y2⟩:=u2z;obtain⟨f,fd,n,U⟩:=j48;cases hfa.symm.trans (g n);let a:Adr:=⟨QC,Rf,RB,QR,QD,QT,Rg,QS,BK,QM,BK,o0,o1,WY,t0,t1,t2,λ_ _=>false⟩;have T:Txt K mg a:=⟨z0z.at_ X G,z1z.at_ X G,z2z.at_ X G,z3z.at_ X G,z4z.at_ X G,z5z.at_ X G,z6z.at_ X G,z7z.at_ X G,z8z.at_ X G,z9z.at_ X G,Ux.at_ X G,Uw.at_ X G,Uv.at_ X G,Uu.at_ X G,Ut.at_ X G,g n0,g n1,g n2,g n3,g n4,g n5,g n6,g n7,g Rp,e0,e1,e2,e3,e4,e5,e6,e7,g y0,g y1,g y2,g p0,g p1,
  ⟨_,_,_,l0,rfl,rfl,(show 2<=aK by decide),.cons ⟨_,rfl⟩ (.cons ⟨_,rfl⟩ .nil)⟩,⟨_,_,_,l1,rfl,rfl,(show 2<=aK by decide),.cons ⟨_,rfl⟩ (.cons ⟨_,rfl⟩ .nil)⟩,⟨cb.p,cb.h,cb.o,cb.s⟩,cb.a,cb.b,cb.c,cb.d,cb.e⟩
 refine⟨a,fd,zr.z,λs v=>?_,λbase _ _=>?_⟩
 ·obtain⟨_,_,_,_,_,_,_,_,_,rfl,_,_⟩:=U.ex;exact .of_eq rfl
 have Y:Yz K mg a:=⟨T,_,X,G⟩;have WW:Wy K mg a:=⟨⟨cw.p,cw.h,cw.o,cw.s⟩,cw.a,cw.b,g cw.n,cw.m,cw.k⟩;have N:=λ{x st k ps sp}=>@Gf.fn l.prog w K mg base _ x st ps sp k X G;have M:=λ{x q st k ps sp}=>@Gm.mt l.prog w K mg base x q st BK ps sp k T.cl;have r0:=N j0 λU=>EY U T  ;have r1:=N j1 λU=>Ch U T  ;have r2:=N j2 λU=>Oc U T  ;have d2:=Fn.imp r2 (K1 (K:=K) (a:=a));have r3:=N j3 λU=>LH U T  r2;have r4:=N j4 λU=>IU U T  r3;have r5:=N j5 λU=>IW U T  ;have k0:=j6.bk (P:=l.prog) (w:=w) (base:=base) X G cb λU=>LJ U T;have r7:=M j7 λU=>Dp U T  ;have d7:=Mt.imp r7 (BZ (a:=a));have r8:=M j8 λU=>Ci U T  r7;have r9:=M j9 λU=>AD U T  r7;have d9:=Mt.imp r9 (yA (a:=a));have RU:=M j10 λU=>yI U T  r8;have SV:=M j11 λU=>Do U T  r0 r8;have Ss:=M j12 λU=>Hh U T  SV;have d12:=Mt.imp Ss (EE (a:=a));have TZ:=M j13 λU=>IV U T  SV RU r1;have d13:=Mt.imp TZ (GR (a:=a));have r14:=M j14 λU=>LG U T  r9 RU r5 r4 r3;have d14:=Mt.imp r14 (Ir (a:=a));have r15:=M j15 λU=>EX U T  ;have d15:=Mt.imp r15 (Dk (a:=a));have r16:=M j16 λU=>Hk U T  ;have TQ:=Mt.imp r16 (EF (a:=a));have r17:=M j17 λU=>ok_of U T  r9;have d17:=Mt.imp r17 (NF (a:=a));have r18:=M j18 λU=>Hg U T  r9;have VG:=Mt.imp r18 (ED (a:=a));have d19:sY l.prog w K mg base a:=AG Y j19  ;have d20:sW l.prog w K mg base a:=AE Y j20  d19;have SG:nR l.prog w K mg base a:=Cp Y j21  ;have d22:qE l.prog w K mg base a:=yi Y j22  ;have d23:rb l.prog w K mg base a:=Cn Y j23  d22;have d24:sX l.prog w K mg base a:=AF Y j24 (RO.at_ X G) SG;have d25:rJ l.prog w K mg base a:=yJ Y j25  SG;have d26:ra l.prog w K mg base a:=Cm Y j26  SG d23;have d27:uC l.prog w K mg base a:=Ck Y j27  d26 d14 d23 SG;have d28:sZ l.prog w K mg base a:=AH Y j28  SG d24 k0 d12 d13 d25 d27;have d29:Aj l.prog w K mg base a:=Hj Y j29  d2;have d30:xH l.prog w K mg base a:=EZ Y j30 (RM.at_ X G) ;have d31:Ah l.prog w K mg base a:=Hf Y j31 (RO.at_ X G) d30;have d32:pM l.prog w K mg base a:=vN Y j32  VG;have d33:pT l.prog w K mg base a:=yH Y j33  TQ d32;have d34:nV l.prog w K mg base a:=si Y j34  d33;have d35:KN l.prog w K mg base a:=Od Y j35 (RP.at_ X G) d2;have d36:xI l.prog w K mg base a:=E1 Y j36 (RP.at_ X G) d35 TQ VG;have d37:Ai l.prog w K mg base a:=Hi Y j37 (SI.at_ X G) ;have d38:uB l.prog w K mg base a:=Cj Y j38  d37;have d39:rc l.prog w K mg base a:=Cq Y WW j39 (RO.at_ X G) (RM.at_ X G) d34 TQ d36 d31 d38 d15;have d40:rK l.prog w K mg base a:=yK Y WW j40 (SI.at_ X G) ;have d41:pU l.prog w K mg base a:=yL Y WW j41  d29 d40;have d42:qu l.prog w K mg base a:=AC Y j42 (RP.at_ X G) TQ d17;have d43:Ag l.prog w K mg base a:=He Y j43  d41 TQ d42 d39;have d44:CU l.prog w K mg base a:=IT Y j44  d41 d15 d42 d39;have d45:xG l.prog w K mg base a:=EW Y j45  d9 VG d7;have d46:uD l.prog w K mg base a:=Co Y j46 (RM.at_ X G) ;have d47:qe l.prog w K mg base a:=wT Y j47  d45;exact Ob T U  d20 d28 d26 d43 d44 d47 d14 d33 SG d46
def JQ(K:aa):Sp:=λvs H Q E=>∃(c:ak)(ns:List Int),vs=[.ref c]/\ns.length<=63/\Att.WtOk ns/\MQ H/\SqL K H c (ns.map V.int)/\(∀v H',v=.bl true->Q v H')
def OE{K}{a}(ht:bO K bc "rules"=Za Zb)(vs)(H)(Q)(E)(h:JQ K vs H Q E):spD K a.Book 1 (Bb a) vs H Q E:=by obtain⟨c,ns,rfl,hl,hw,hO,hS,k⟩:=h;exact LV hl hw ht hO hS k
def walk{l:gC}{q}{Qj}{XP}{YP}{d:DefRec}{K:Params->aa}(hn:l.most=Za 63)(Tx:d.params.defaults=[])(hY:∀(w:bh)(h:bv),YP w h->(K w.params).In h)(F:∀(w:bh)(mg:Str->Option ag)(fa:ak)(h:bv),(K w.params).In h->h.Ns bc mg->mg d.name=Za (.ref fa) ->
   ∃(a:Adr)(fd:cq),bO (K w.params) bc "rules"=Za Zb/\(∀(s:ax)(u:ag),jz s fd ⟨[u],[]⟩ [("_law_script",u)])/\∀base:bv,(K w.params).In base->base.Ns bc mg->FnOk l.prog w (K w.params) mg base (CXo l.prog w) 10 fa fd ["_law_script"] (spD (K w.params) a.Book 1 (Bb a))) :
  kZ q Qj XP YP l.row.toRowW d [] (λf vs=>kW f vs) :=
 L2.walk_ofW (n:=63) (k:=10) (x:="_law_script") (CX:=λw=>CXo l.prog w) (sp:=λw=>JQ (K w.params)) hn (by decide) Tx ⟨rfl,by decide,by decide⟩ hY
  (λw mg fa h X G hm=>let⟨a,fd,h0,h1,h2⟩:=F w mg fa h X G hm;⟨fd,h1,λbase b1 b2=>(h2 base b1 b2).imp (OE h0)⟩)
  (λ_ _ c ns hl hw hO hS=>⟨c,ns,rfl,hl,hw,hO,hS,λ_ _ e=>e⟩) λ_ _ _ _ _ z=>by
  obtain⟨_,_,_,_,_,_,_,_,_,_,_,_,_,z⟩:=z;exact z
end My
namespace PySem.W.Fast
noncomputable def q0:Unit:=Classical.choice ⟨()⟩
def tw7666851059013809716:=q0
def tw1110345036532486352:=q0
def tw6350417873040694543:=q0
def tw7905658789846850735:=q0
def tw17829001976396156866:=q0
def tw349066694217456821:=q0
def tw14290034731626536860:=q0
def tw12814751003076725416:=q0
def tw14080217750928819243:=q0
def tw17199399961767975743:=q0
def tw6228020862713903044:=q0
def tw16107768912984917301:=q0
def tw14446748926480089976:=q0
def tw8747925157786408809:=q0
def tw18305619386468688997:=q0
def tw18380007831237176708:=q0
def tw9816164275155562562:=q0
def tw14746185002005955191:=q0
def tw17500088159315244278:=q0
def tw9111844435446538418:=q0
def tw8604056239939073837:=q0
def tw14032779092417583270:=q0
def tw15753996917287495487:=q0
def tw16822860310358513812:=q0
def tw12350150003339149236:=q0
def tw15737187285115551216:=q0
def tw1540798805156652175:=q0
def tw12203050062148690214:=q0
def tw4963236504220735235:=q0
def tw103154247145499747:=q0
def tw14131173770458972525:=q0
def tw12212230608785255332:=q0
def tw5035024268582524903:=q0
def tw13321707607373855764:=q0
def tw18427508703010669700:=q0
def tw212995263811275293:=q0
def tw3274338598391348723:=q0
def tw12865615503234020647:=q0
def tw13331351757663384711:=q0
def tw7043447985681504108:=q0
def tw7414591969112467186:=q0
def tw1791480035992807943:=q0
def tw9249497591842634498:=q0
def tw14369442248277186223:=q0
def tw14930526216527236549:=q0
def tw15664173804916080478:=q0
def tw15216394665892374596:=q0
def tw11769555677037715950:=q0
def tw4458342820216172757:=q0
def tw11290129913960455230:=q0
def tw9384921487000514569:=q0
def tw8598206823899068345:=q0
def tw929719522488259077:=q0
def tw14728396024872064386:=q0
def tw1637726019781601363:=q0
def tw10440027320463873848:=q0
def tw13160075262447298958:=q0
def tw2944668522575595650:=q0
def tw7175632070237802513:=q0
def tw3399760684765548952:=q0
def tw8696454024346735309:=q0
def tw5080442497249432600:=q0
def tw2518421832941151402:=q0
def tw9258899353939901554:=q0
def tw7351529928722572420:=q0
def tw9274525011432969881:=q0
def tw5118837149489691843:=q0
def tw13611518214841479399:=q0
def tw3109872785750362093:=q0
def tw1563720705727607613:=q0
def tw10803664293014382529:=q0
def tw3294704884850461695:=q0
def tw17952553245329352609:=q0
def tw10674745816738417064:=q0
def tw16274991076889301260:=q0
def tw7161551541678730760:=q0
def tw17677816068638036788:=q0
def tw1238026047144646101:=q0
def tw4424674166092377221:=q0
def tw4518811401316767417:=q0
def tw133349619102884543:=q0
def tw10632409590904915858:=q0
def tw5416296312895962811:=q0
def tw3869974246506302983:=q0
def tw17193918104704823966:=q0
def tw14611605617633196490:=q0
def tw14084036642144067941:=q0
def tw277706067721359620:=q0
def tw14721469070382399346:=q0
def tw5078507879633119159:=q0
def tw15747849369319585893:=q0
def tw6312564886561917718:=q0
def tw9642486834257359878:=q0
def tw2289421058898327578:=q0
def tw2391729013445629283:=q0
def tw9889790857533645480:=q0
def tw16263122673964904068:=q0
def tw13550927622639722576:=q0
def tw12454959288521280155:=q0
def tw16804310731489519174:=q0
def tw2909553108154419839:=q0
def tw8376024170390689836:=q0
def tw7312661627008644114:=q0
def tw15967876149040122753:=q0
def tw17893142631902839380:=q0
def tw10917624828470534048:=q0
def tw5183457145172555732:=q0
def tw11088191813405447569:=q0
def tw3733255218737198618:=q0
def tw1387649955130226562:=q0
def tw12701881267931812004:=q0
def tw16282777743736965159:=q0
def tw8435524410317144010:=q0
def tw1701834717771938556:=q0
def tw15452866177814228542:=q0
def tw13769490796354129908:=q0
def tw13589149028633146088:=q0
def tw17650801042197471189:=q0
def tw12250005078573345979:=q0
def tw1462519345348751600:=q0
def tw10484776940439203719:=q0
def tw4752729753732498991:=q0
def tw6020559781132018093:=q0
def tw13112317395448600429:=q0
def tw16079473121823793910:=q0
def tw1167949946052707228:=q0
def tw13870681877390302798:=q0
def tw11599721728244497046:=q0
def tw1428992665957258840:=q0
def tw2492823987099190812:=q0
def tw3892203174731173652:=q0
def tw17220551627668858151:=q0
def tw6357756478738553401:=q0
def tw13671376068802348722:=q0
def tw5755950839504822647:=q0
def tw17469864128538906927:=q0
end PySem.W.Fast
open PySem.W
set_option maxRecDepth 100000 in
set_option maxHeartbeats 0 in
theorem PySem.Challenge.cw_wholeowners_k63_whole_what_a_sale_change_holds : PySem.Challenge.rw_wholeowners_k63_whole_what_a_sale_change.Holds := by
 w_on;o_law;k_head;(case hw=>w_witness2)
 k_fill
 refine My.walk (l:=PySem.Challenge.rw_wholeowners_k63_whole_what_a_sale_change) rfl rfl (λw h Y=>PySem.W.kIn_of Y) ?F
 case F =>
  intro w mg fa h KX G Tl;apply My.all_mk KX G Tl
  all_goals first
   |(apply L2.gf<;>k_is)
   |(apply L2.gm<;>k_is)
   |(apply L2.gx;(focus k_is);(focus k_exc);all_goals k_is)
   |(apply L2.gt<;>k_is)
   |(apply L2.gi;k_is)
   |(apply L2.Gz.mk;k_is)
   |(apply L2.Gb.mk<;>k_is)
   |(apply My.Gw.mk<;>k_is)
   |k_is

