import PyProof.Rows.All
import Wide.All
import OpenK.AllK
import Wide.FinOn
import Lean
import PyProof.EqAt
import PyProof.EqKinds
import PyProof.TupleCall
import KE.KLam
import KE.KNest
import KE.KNestM
import PySem.Challenge.RW_wholeowners_k72_read
open PySem.W renaming Frag->aa,findIn->bc,kia_one->bR,nsIn->bU,fnOf->b5,keepIn->cz,emptyDict->cA,instObj->cV,mroIn->dz,plainGet->e9,codeIn->fP,specialIn->fY,hasDictIn->fZ,OpenLaw->gj,isFn->gk,hideAll->gr,lookIn->gI,plainGet_of->gN,callWith_K0->gP,callWith_K->hV,plainOver->ik,methodObj->il,looks_findIn->io,kitx_list->ip,takesIn->iP,takerIn->iQ,makesIn->iR,kitOne->i5,Looks->i9,mg_of->jk,excIn->jl,cellsFrom_some->jD,methodCall_KW->jJ,looks_mroIn->jS,hideAll_get->jV,of_hideAll->kn,kitx_tuple->ko,kitx_dict->kE,handedIn->kI,WalkO->kJ
open PySem.Str renaming ofString->ac,join->b8,empty->cS
open List renaming getElem?_cons_zero->ae,length_map->af,mem_cons_self->ag,mem_cons_of_mem->ah,getElem?_cons_succ->ai,mem_cons->aj,mem_map->ak,map_cons->ap,length_cons->aq,mem_singleton->au,map_append->ay,nodup_cons->az,mem_append_right->aB,length_nil->aD,length_append->aE,map_map->aF,mem_append->aJ,append_assoc->aO,map_congr_left->aR,replicate->aT,size_toArray->aV,nodup_append->aW,getElem?_eq_some_iff->aY,mem_append_left->a7,not_mem_nil->bg,getElem?_eq_getElem->br,getElem?_map->bu,map_nil->bv,find?_cons->bw,eq_nil_of_length_eq_zero->bF,nil_append->bI,append_nil->bJ,lookup_cons->bO,mem_of_getElem?->bW,length->b6,length_take->ce,cons_append->cg,flatten_cons->cn,mem_filter->cv,find?_eq_none->cx,all_eq_true->cy,take_add_one->cI,replicate_succ->cN,drop_eq_nil_of_le->cO,lookup->cQ,getElem_mem->cR,pairwise_cons->cT,mem_of_find?_eq_some->cW,find?_some->dC,length_replicate->dF,take_sublist->dI,perm_ext_iff_of_nodup->dN,getElem?_append_right->dO,take_length->dU,filter_cons->dW,any_eq_true->dX,drop_eq_getElem_cons->d6,filterMap_cons->d9,filter_map->eA,take_of_length_le->eW,find?_map->eX,find?_isSome->eY,length_filter_le->fA,cons_lt_cons_iff->fB,length_drop->fC,map_take->fI,any_cons->fJ,getElem?_set_ne->fL,getElem?_append_left->gc,find?_append->gg,getElem?_replicate->gu,range->gA,any_map->gC,length_singleton->gK,nodup_nil->gW,mem_of_mem_take->gX,map_id->gY,getElem?_of_mem->gZ,flatten_append->ij,all_cons->iy,set_cons_zero->iB,mem_filterMap->iC,getElem?_set->iM,map_fst_zip->iY,flatten_nil->iZ,of_mem_zip->jc,length_set->jd,mem_range->jB,sum_cons->jQ,getElem?_set_self->ka,all_map->kc,getElem?_eq_none->kC,drop_eq_nil_iff->kF,length_pos_iff->kO,getElem?_range->kP,set_cons_succ->kZ,foldl->k6
open PySem renaming Addr->al,Value->am,wpAny_bind->av,Shared->aw,sizeLine->aH,Program->aI,starEach->aK,wpAny_pure->aS,World->aX,wpAny->aZ,mainGlobals->bi,Expr->bj,Heap->bA,wpAny_mono->bK,Stmt->bL,bootBuiltins->bP,FuncData->bQ,compareOp->b9,backTo->cj,Around->cq,foldedSetIterable->cr,keywordEach->cE,assignEach->cF,behindInMarks->cH,mem_of_lookup->db,wpAny_truthy_bool->dg,lookup_relabel_local->di,binaryOp->dk,Scope->dq,attributeBase->du,wpAny_Call_Name_kw->dG,wpAny_passesOwn->dL,backToKw->dM,wpAny_newObj_type->dR,Keyword->dS,sysModules->ee,wpAny_holding->eS,NameKind->eU,wpAny_execs_nil->eV,tupleKind_room_in1->eZ,wpAny_getItem_str_slice->ft,cLine->fE,swapsWith->fO,Paired->fQ,codeAny->fT,sliceBounds->fU,bindArgs->fV,Spec->fW,getMethod->gh,standAt->gy,wpAny_standAt->gE,wpAny_comprehension_free->gF,swapsWithSole->gG,swappedStores->gH,reprText->gM,typeIs_str->g6,codeAny_mono->hJ,call_meets->hU,post_val_or_str->ie,letOwnedTupleGo->ig,strIterType->iD,PyData->iE,valueAt->iI,tupleKind->iJ,getItem->iK,wpAny_execs_cons->iO,builtinsNs->i4,wpAny_pyIter_list->jg,intText?->jh,callerA->ji,callWith->jj,BindsTo->js,IsPart->jE,Arguments->jH,sizeLine_eq->jI,Within->jR,notedBy->jU,sliceRange_one->kg,evalEach->kh,bindName->kj,atKey->km,Result->ku,GenState->ky,call->kG,assignInOrder->kH,bindL->kT,bindC->kU,Builtin->kW
open And renaming intro->ao
open Sum renaming inr->ar,inl->iN
open Nat renaming le_refl->ax,lt_of_lt_of_le->aA,le_trans->aC,lt_of_le_of_lt->aM,ne_of_lt->a6,zero_le->ba,pow_le_pow_right->bD,le_of_ble_eq_true->b7,toDigits_of_lt_base->cK,toDigits->cP,lt_succ_self->dw,lt_irrefl->dE,le_of_not_lt->dZ,mul_le_mul_left->eg,two_pow_pos->eG,pow_succ->fg,lt_trans->fj,le_of_lt->fk,toDigits_append_toDigits->fS,zero_add->fX,eq_of_mul_eq_mul_left->ge,le_succ->hZ,lt_succ_of_lt->iT,le_of_eq->iU,le_antisymm->jt,div_add_mod->ju,mul_succ->kB,pow_one->kL,pow_lt_pow_right->kM,log2_lt->kN,add_le_add_left->kY
open PySem.Heap renaming get?_push_of_some->aG,lt_size->aP,get?_push_size->bC,SameBut->iL,get?_update_other->jX,FlyingW->jY
open Int renaming gcd->aL,mul_assoc->aN,mul_le_mul_of_nonneg_right->aQ,mul_comm->bh,le_of_lt->bB,mul_pos->bE,gcd_pos_of_ne_zero_right->bZ,le_of_mul_le_mul_right->cD,gcd_dvd_right->cL,emod_lt_of_pos->cU,natCast_mul->cX,emod_nonneg->dD,eq_of_mul_eq_mul_right->dQ,le_trans->d8,mul_ediv_cancel_left->eE,mul_right_comm->eJ,mul_nonpos_of_nonpos_of_nonneg->eK,mul_nonpos_of_nonneg_of_nonpos->eL,mul_left_comm->fm,natAbs_dvd_natAbs->fD,gcd_dvd_left->fK,mul_nonneg->f9,natAbs_neg->ia,natAbs_mul->ib,natCast_nonneg->iH,ofNat_le->iV,gcd_mul_left->i8,neg_mul->je,negSucc->jf,ediv_eq_of_eq_mul_right->jC,pos_of_mul_pos_left->ke,gcd_natCast_natCast->kf,zero_mul->kD,mul_one->kQ,le_refl->kR
open Option.some renaming inj->aU
open Bool renaming false_ne_true->a8,and_eq_true->bG,eq_iff_iff->bM,or_eq_true->bT,false_eq_true->bX,false_and->cB,eq_false_iff->cC,not_eq_false->cY,true_and->da,true_eq_false->f7
open PySem.PyData renaming strOk->a9,eqv->bV,canLay0->de,canLayAll0->eO,depth->iA
open PySem.Value renaming ref->bz,str->gn,int->gT,none->jm,bool->jn,float->kq
open False renaming elim->bH
open PySem.NameKind renaming free->bN,cell->gS
open Array renaming length_toList->bS,append_assoc->iz,all_toList->iW
open Option renaming isSome_iff_exists->bY,isSome_map->ck,map_eq_some_iff->cM,isSome_eq_false_iff->dJ,isNone_iff_eq_none->dP,map_eq_none_iff->gs,map_map->jb,getD_none->kX
open PySem.Txt renaming join->cG,split->eM,startswith->fc,slice->ii
open True renaming intro->cJ
open Classical renaming propDecidable->cZ
open PyProof.Rows renaming slot_tuple_getitem->dy,envOfC->eI,int_text_free'->fu,AllBare->gz,signs_ofString->iu,callWith_type1->iw,subscriptTail->iX,assignInOrder_cons->i7
open PySem.Builtin.Slice renaming slicePlaces->dA,sliceAdjust->fH,sliceApplied->ir
open PySem.Builtin.Tuple renaming tupleExact->dH
open ForInStep renaming yield->dY
open PySem.Calls renaming spliced_cons->ei,evalArgs_plain->fG,spliced_nil->gb,callWith_builtin->gw,Constant_str->iq,Name_function_global->jq
open Or renaming inl->eR,inr->gJ
open PySem.Builtin.Str renaming strSliceIndices->fw
open PySem.Spec renaming ltCps->fF
open Ne renaming symm->fM
open PySem.Builtin.List renaming listTooLong->fN
open PySem.F renaming excBase_ValueError->fR,slot_str_split->gd,plainAttrs_str->gp,slot_dict_get->gv,args_str_split_2->iS,entry_str_split->i6,slot_dict_getitem->ja,args_tuple_add_2->jp,plainAttrs_dict->jw,entry_tuple_add->jx,args_dict_get_3->jy,slot_tuple_add->jF,entry_dict_get->jG,slot_dict_pop->jN,slot_list_append->kA
open List.Perm renaming append->f8
open Sum.inr renaming inj->gD
open List.cons renaming inj->gL
open PySem.W.KIN renaming signs_num->gQ
open PySem.Expr renaming Subscript->gU
open PySem.PassesOwn renaming never->iF
open PySem.Obj renaming mapSeq->iG
open PySem.SeqAt renaming eqv_refl->jo,EqAt->kK
open PySem.Paired renaming length->jv,snoc->jW
open PySem.Builtin.Int renaming intBits->jz
open Nat.succ renaming inj->jA
open PySem.StrLaws renaming glued_eq_join->jK,join_split->kr
open PySem.SeqAt.EqAt renaming str_int->jL,int_str->jM
open PySem.Around renaming under->jO
open PyProof.Rows.IsTup renaming new->jP
open PySem.W.Looks renaming ld->jT
open PySem.Code renaming isFrame->jZ
noncomputable section
set_option Elab.async false
set_option linter.all false
set_option autoImplicit true
set_option maxRecDepth 100000
namespace L2
open PySem PySem.Spec PyProof.Rows
abbrev Key:=Sum Int Str
def AX:Key->am->Bool
 |.inl k,v=>Value.isInt k v
 |.inr x,v=>Value.isStrOf x v
def keyH(w:aX):Key->Int
 |.inl k=>hashInt k
 |.inr x=>hashStr w x
def mz:∀{k:Key}{v:am},AX k v=true->(∃i t,k=iN i/\v=gT i t)\/(∃x t,k=ar x/\v=gn x t)
 |.inl i,v,h=>by
  obtain⟨t,e⟩:=Value.isInt_shape (k:=i) (v:=v) h;exact .inl ⟨i,t,rfl,e⟩
 |.inr x,v,h=>by obtain⟨t,e⟩:=Value.isStrOf_shape (x:=x) (v:=v) h;exact .inr ⟨x,t,rfl,e⟩
def Ho(i:Int)(t:Tok):AX (.inl i) (.int i t)=true:=by simp[AX,Value.isInt]
def Hn(x:Str)(t:Tok):AX (.inr x) (.str x t)=true:=by simp[AX,Value.isStrOf]
def NG(a b:Int):decide ((iN a:Key)=iN b)=(a==b):=by
 by_cases e:a=b
 ·subst e;simp
 ·have h:¬(iN a:Key)=iN b:=fun q=>e (Sum.inl.inj q);rw[decide_eq_false h];exact(beq_eq_false_iff_ne.mpr e).symm
def yC(a b:Str):decide ((ar a:Key)=ar b)=decide (a=b):=by
 by_cases e:a=b
 ·subst e;simp
 ·have h:¬(ar a:Key)=ar b:=fun q=>e (gD q);rw[decide_eq_false h,decide_eq_false e]
def NF(a:Int)(b:Str):decide ((iN a:Key)=ar b)=false:=decide_eq_false (fun q=>nomatch q)
def NE(a:Str)(b:Int):decide ((ar a:Key)=iN b)=false:=decide_eq_false (fun q=>nomatch q)
noncomputable def mH(prog:aI)(w:aX):PySem.KeyKind prog w Key where
 is:=AX
 hash:=keyH w
 inj:=fun v a b ha hb=>by
  rcases mz ha with⟨i,t,rfl,rfl⟩|⟨x,t,rfl,rfl⟩
  ·rcases mz hb with⟨j,u,rfl,e⟩|⟨y,u,rfl,e⟩
   ·injection e with e1 _;rw[e1]
   ·exact nomatch e
  ·rcases mz hb with⟨j,u,rfl,e⟩|⟨y,u,rfl,e⟩
   ·exact nomatch e
   ·injection e with e1 _;rw[e1]
 byValue:=fun k v h=>by rcases mz h with⟨i,t,rfl,rfl⟩|⟨x,t,rfl,rfl⟩<;>rfl
 pyHash:=fun hv h=>by
  rcases mz hv with⟨i,t,rfl,rfl⟩|⟨x,t,rfl,rfl⟩
  ·exact wpAny_pyHash_int h
  ·exact wpAny_pyHash_str h
 eqBool:=fun hu hv h=>by
  rcases mz hu with⟨i,t,rfl,rfl⟩|⟨x,t,rfl,rfl⟩
  ·rcases mz hv with⟨j,u,rfl,rfl⟩|⟨y,u,rfl,rfl⟩
   ·rw[NG] at h;exact wpAny_eqBool_int h
   ·rw[NF] at h;exact jM i t y u _ _ _ _ h
  ·rcases mz hv with⟨j,u,rfl,rfl⟩|⟨y,u,rfl,rfl⟩
   ·rw[NE] at h;exact jL x t j u _ _ _ _ h
   ·rw[yC] at h;exact wpAny_eqBool_str h
 «strs»:=fun k x t v h=>by
  rcases mz h with⟨i,u,rfl,e⟩|⟨y,u,rfl,e⟩
  ·exact nomatch e
  ·injection e with e1 _
   subst e1;cases v<;>rfl
def Dt(prog:aI)(w:aX)(i:Int)(t:Tok):(mH prog w).is (.inl i) (.int i t)=true:=Ho i t
def Ds(prog:aI)(w:aX)(x:Str)(t:Tok):(mH prog w).is (.inr x) (.str x t)=true:=Hn x t
inductive V where
 |non|bl (b:Bool)|int (i:Int)|str (x:Str)|byt (b:Array UInt8)|flt (b:UInt64)|ref (a:al)|ty (n:String)
 deriving DecidableEq
noncomputable def RelV:V->am->Prop
 |.non,u=>u=jm
 |.bl b,u=>u=jn b
 |.int i,u=>∃t,u=gT i t
 |.str x,u=>∃t,u=gn x t
 |.byt b,u=>∃t,u=Value.bytes b t
 |.flt b,u=>∃t,u=kq b t
 |.ref a,u=>u=bz a
 |.ty n,u=>u=Value.type n
abbrev Vals:List V->List am->Prop:=fQ RelV
theorem Vals.length(r:Vals xs us):xs.length=us.length:=jv r
theorem Vals.get:∀{xs:List V}{us:List am}{i:Nat}{x:V},Vals xs us->xs[i]?=some x->∃u,us[i]?=some u/\RelV x u
 |_,_,_,_,.nil,e=>by simp at e
 |_,_,0,_,.cons r _,e=>by simp at e;subst e;exact⟨_,rfl,r⟩
 |_,_,i+1,x,.cons _ t,e=>by obtain⟨u,h1,h2⟩:=Vals.get (i:=i) (x:=x) t (by simpa using e);exact⟨u,by simpa using h1,h2⟩
theorem Vals.set(r:RelV x u):∀{xs:List V}{us:List am}(i:Nat),Vals xs us->Vals (xs.set i x) (us.set i u)
 |_,_,_,.nil=>.nil
 |_,_,0,.cons _ t=>.cons r t
 |_,_,i+1,.cons q t=>.cons q (Vals.set r i t)
theorem Vals.append:∀{xs ys:List V}{us ws:List am},Vals xs us->Vals ys ws->Vals (xs++ys) (us++ws)
 |_,_,_,_,.nil,s=>s
 |_,_,_,_,.cons r t,s=>.cons r (Vals.append t s)
theorem Vals.take:∀{xs:List V}{us:List am}(n:Nat),Vals xs us->Vals (xs.take n) (us.take n)
 |_,_,0,_=>.nil
 |_,_,_+1,.nil=>.nil
 |_,_,n+1,.cons r t=>.cons r (Vals.take n t)
theorem Vals.drop:∀{xs:List V}{us:List am}(n:Nat),Vals xs us->Vals (xs.drop n) (us.drop n)
 |_,_,0,r=>r
 |_,_,_+1,.nil=>.nil
 |_,_,n+1,.cons _ t=>Vals.drop n t
def RelO:Option V->Option am->Prop
 |some v,some u=>RelV v u
 |none,none=>True
 |_,_=>False
def KV{κ:Type}:List (κ×V)->List (κ×am)->Prop:=fQ fun(p:κ×V)(q:κ×am)=>p.1=q.1/\RelV p.2 q.2
def kV:Key->V
 |.inl i=>.int i
 |.inr x=>.str x
inductive HO where
 /-- a list -/
 |lst (xs:List V)
 /-- a tuple (never changes) -/
 |tup (xs:List V)
 /-- a dict whose keys are ints and texts;one whose keys are tuples of ints and texts (the empty one is both) -/
 |dK (kvs:List (Key×V))|dT (kvs:List (List Key×V))
 /-- a set of ints: its members,its size -/
 |set (S:Int->Bool) (n:Nat)
 /-- an instance of the class at C,its dict at dx,its attributes -/
 |ins (C dx:al) (fs:List (Str×V))
 /-- the dict of the instance at x -/
 |own (x:al)
 /-- the dict of an exception -/
 |xd (fs:List (Str×V))
 /-- a bound method,f of x -/
 |met (f x:al)
 /-- a range object lo,lo+1,.. below hi -/
 |rng (lo hi:Int)
 /-- a thing that is known to the object (the script;a dict while a loop walks it): read,never written while it is so -/
 |frz (o:Obj) (u:HO)
 /-- a code object's table -/
 |tbl (ps:Array am)
 /-- any other thing,by what is true of its one object (a def of one's own: SetO a S n:=HO.ext fun h=>..) -/
 |ext (φ:bA->Prop)
abbrev Hp:=al->Option HO
def upd(H:Hp)(a:al)(o:HO):Hp:=fun b=>if b=a then some o else H b
def lr:upd H a o a=some o:=by unfold upd;rw[if_pos rfl]
def lg(h:b≠a):upd H a o b=H b:=by unfold upd;rw[if_neg h]
def FT:upd (upd H a o) a u=upd H a u:=by
 funext b;unfold upd;split<;>rfl
def C8{H:Hp}{a b:al}{o u:HO}(h:H a=some o)(h':H b=some u)(d:o≠u):a≠b:=by intro e;subst e;rw[h] at h';exact d (aU h')
def lI{H:Hp}{a b:al}{o:HO}(h:H a=some o)(h':H b=none):a≠b:=by intro e;subst e;rw[h] at h';cases h'
section
variable(P:aI)(w:aX)
noncomputable def ObjOk(H:Hp)(h:bA)(a:al):HO->Prop
 |.lst xs=>xs.length<=aH/\∃(its:List am)(n:Nat),Vals xs its/\h.get? a=some { cls:=.type "list",data:=.seq its.toArray n }
 |.tup xs=>xs.length<=aH/\∃its:List am,Vals xs its/\IsTup h a its.toArray
 |.dK kvs=>kvs.length<=aH/\(a==ee)=false/\∃vs,KV kvs vs/\h.DictOf (mH P w) a vs
 |.dT kvs=>kvs.length<=aH/\(a==ee)=false/\∃xs:List (List Key×al×am),
   fQ (fun(p:List Key×V)(q:List Key×al×am)=>p.1=q.1/\H q.2.1=some (.tup (p.1.map kV))/\RelV p.2 q.2.2) kvs xs /\
   ∃o es ep,h.get? a=some o/\o.ExactDict/\o.data=.dict es ep/\es.toList=xs.map (entryOfKey (iJ (mH P w)))/\(xs.map (·.1)).Nodup
 |.set S n=>h.SetOf (intKind P w) a S n
 |.ins C dx fs=>H dx=some (.own a)/\fs.length<=1000/\dx≠a/\h.get? a=some (cV C dx) /\
   ∃mA,h.Ns1 dx mA/\(∀f,RelO (fs.lookup f) (mA f))/\jR mA (fs.map (·.1))
 |.own _=>∃o,h.get? a=some o
 |.xd fs=>∃mA,h.Ns1 a mA/\∀f,RelO (fs.lookup f) (mA f)
 |.rng lo hi=>∃t u v,h.get? a=some { cls:=.type "range",data:=.fields #[.int lo t,.int hi u,.int 1 v] }
 |.frz o u=>h.get? a=some o/\ObjOk H h a u
 |.tbl ps=>h.get? a=some { cls:=.none,data:=.fields ps }
 |.met f x=>h.get? a=some (il (.ref f) (.ref x))
 |.ext φ=>φ h/\(∃o,h.get? a=some o)/\∀h1 h2:bA,φ h1->(∀o,h1.get? a=some o->h2.get? a=some o)->φ h2
def HOk(H:Hp)(h:bA):Prop:=∀a o,H a=some o->ObjOk P w H h a o
end
section
variable{P:aI}{w:aX}{H H':Hp}{h h':bA}{a:al}{o:HO}
theorem ObjOk.lt(x:ObjOk P w H h a o):a<h.objs.size:=by
 cases o with
 |lst xs=>obtain⟨_,_,_,_,e⟩:=x;exact aP e
 |tup xs=>obtain⟨_,_,_,p⟩:=x;exact p.lt
 |dK kvs=>obtain⟨_,_,_,_,o,_,_,e,_⟩:=x;exact aP e
 |dT kvs=>obtain⟨_,_,_,_,o,_,_,e,_⟩:=x;exact aP e
 |set S n=>obtain⟨o,_,_,_,e,_⟩:=x;exact aP e
 |ins C dx fs=>obtain⟨_,_,_,e,_⟩:=x;exact aP e
 |own y=>obtain⟨_,e⟩:=x;exact aP e
 |xd fs=>obtain⟨_,⟨_,_,_,e,_⟩,_⟩:=x;exact aP e
 |rng lo hi=>obtain⟨_,_,_,e⟩:=x;exact aP e
 |frz ob u=>obtain⟨e,_⟩:=x;exact aP e
 |tbl ps=>exact aP (show h.get? a=some _ from x)
 |met f y=>exact aP (show h.get? a=some _ from x)
 |ext φ=>obtain⟨_,⟨_,e⟩,_⟩:=x;exact aP e
theorem fQ.mapP:∀{la1:List α}{l₂:List β},fQ F la1 l₂->(∀a b,F a b->G a b)->fQ G la1 l₂
 |_,_,.nil,_=>.nil
 |_,_,.cons r t,f=>.cons (f _ _ r) (fQ.mapP t f)
def ObjOk.stay(x:ObjOk P w H h a o)(k:∀b u,(b=a\/H b=some (.own a))->h.get? b=some u->h'.get? b=some u)(ho:∀b,H b=some (.own a)->H' b=some (.own a))(ht:∀b xs,H b=some (.tup xs)->H' b=some (.tup xs)):ObjOk P w H' h' a o:=by
 induction o with
 |lst xs=>obtain⟨z,its,n,r,e⟩:=x;exact⟨z,its,n,r,k _ _ (.inl rfl) e⟩
 |tup xs=>obtain⟨z,its,r,ob,e,c⟩:=x;exact⟨z,its,r,ob,k _ _ (.inl rfl) e,c⟩
 |dK kvs=>obtain⟨z,y,vs,r,ob,es,ep,e,c⟩:=x;exact⟨z,y,vs,r,ob,es,ep,k _ _ (.inl rfl) e,c⟩
 |dT kvs =>
  obtain⟨z,y,xs,r,ob,es,ep,e,c⟩:=x;exact⟨z,y,xs,fQ.mapP r fun p q z=>⟨z.1,ht _ _ z.2.1,z.2.2⟩,ob,es,ep,k _ _ (.inl rfl) e,c⟩
 |set S n=>obtain⟨ob,es,ep,t,e,c⟩:=x;exact⟨ob,es,ep,t,k _ _ (.inl rfl) e,c⟩
 |ins C dx fs =>
  obtain⟨d,z,ne,e,mA,⟨od,es,ep,e2,c⟩,r⟩:=x;exact⟨ho _ d,z,ne,k _ _ (.inl rfl) e,mA,⟨od,es,ep,k _ _ (.inr d) e2,c⟩,r⟩
 |own y=>obtain⟨ob,e⟩:=x;exact⟨ob,k _ _ (.inl rfl) e⟩
 |xd fs=>obtain⟨mA,⟨od,es,ep,e,c⟩,r⟩:=x;exact⟨mA,⟨od,es,ep,k _ _ (.inl rfl) e,c⟩,r⟩
 |rng lo hi=>obtain⟨t,u,v,e⟩:=x;exact⟨t,u,v,k _ _ (.inl rfl) e⟩
 |frz ob u ih=>obtain⟨e,q⟩:=x;exact⟨k _ _ (.inl rfl) e,ih q⟩
 |tbl ps =>
  have e:h.get? a=some { cls:=.none,data:=.fields ps }:=x;show h'.get? a=some { cls:=.none,data:=.fields ps };exact k a _ (.inl rfl) e
 |met f y =>
  have e:h.get? a=some (il (.ref f) (.ref y)):=x;show h'.get? a=some (il (.ref f) (.ref y));exact k a _ (.inl rfl) e
 |ext φ=>obtain⟨p,⟨o,e⟩,st⟩:=x;exact⟨st _ _ p fun o q=>k _ _ (.inl rfl) q,⟨o,k _ _ (.inl rfl) e⟩,st⟩
theorem HOk.lt(x:HOk P w H h)(e:H a=some o):a<h.objs.size:=(x a o e).lt
def HOk.fresh(x:HOk P w H h)(e:h.objs.size<=a):H a=none:=by
 cases q:H a with
 |none=>rfl
 |some u=>exact absurd (aA (x.lt q) e) (dE _)
def HOk.kept(x:HOk P w H h)(k:∀b u,h.get? b=some u->h'.get? b=some u):HOk P w H h':=fun a o e =>
 (x a o e).stay (fun b u _ q=>k b u q) (fun _ q=>q) fun _ _ q=>q
def HOk.laid(x:HOk P w H h)(k:∀b u,h.get? b=some u->h'.get? b=some u)(hp:h.objs.size<=a)(new:ObjOk P w (upd H a o) h' a o):HOk P w (upd H a o) h':=fun b u e=>by
 have hn:=x.fresh hp;by_cases hb:b=a
 ·subst hb;rw[lr] at e;cases e;exact new
 ·rw[lg hb] at e;exact(x b u e).stay (fun c v _ q=>k c v q) (fun c q=>by rw[lg (lI q hn)];exact q) fun c xs q=>by rw[lg (lI q hn)];exact q
end
def Rd(H:Hp)(a:al)(u:HO):Prop:=H a=some u\/∃o,H a=some (.frz o u)
def Rd.ok(r:Rd H a u)(x:HOk P w H h):ObjOk P w H h a u:=by
 rcases r with r|⟨o,r⟩
 ·exact x a u r
 ·obtain⟨_,q⟩:=x a _ r;exact q
def Mut:Option HO->Prop
 |some (.lst _)=>True
 |some (.dK _)=>True
 |some (.dT _)=>True
 |some (.set _ _)=>True
 |some (.ins _ _ _)=>True
 |some (.ext _)=>True
 |_=>False
section
variable{P:aI}{w:aX}{H:Hp}{h h':bA}{x e:al}{o':HO}
def HOk.write(ok:HOk P w H h)(mu:Mut (H x))(he:e=x\/H e=some (.own x))(k:∀b u,b≠e->h.get? b=some u->h'.get? b=some u)(Rq:∃u,h'.get? e=some u)(new:ObjOk P w (upd H x o') h' x o'):HOk P w (upd H x o') h':=fun b u q=>by
 have RC:∀c y,H c=some (.own y)->c≠x:=fun c y r z=>by subst z;rw[r] at mu;exact mu
 have Tv:∀c xs,H c=some (.tup xs)->c≠x:=fun c xs r z=>by subst z;rw[r] at mu;exact mu
 by_cases hb:b=x
 ·subst hb;rw[lr] at q;cases q;exact new
 ·rw[lg hb] at q;by_cases hbe:b=e
  ·have q':H b=some (.own x):=by
    rcases he with z|z
    ·exact absurd (hbe.trans z) hb
    ·rw[hbe];exact z
   rw[q] at q';cases q';obtain⟨v,hv⟩:=Rq;exact⟨v,by rw[hbe];exact hv⟩
  ·refine(ok b u q).stay (fun c v hc r=>k c v ?_ r) (fun c r=>by rw[lg (RC c b r)];exact r) fun c xs r=>by rw[lg (Tv c xs r)];exact r
   rcases hc with rfl|hc
   ·exact hbe
   ·rintro rfl
    rcases he with z|z
    ·exact RC c b hc z
    ·rw[hc] at z;cases z;exact hb rfl
end
structure Un(fs ex:List al)(H H':Hp)(h h':bA):Prop where
 keep:∀b o,h.get? b=some o->H b=none->b∉fs->b∉ex->h'.get? b=some o
 slot:∀b o,h.get? b=some o->H b=none->b∈fs->b∉ex->∃sl,h'.get? b=some { o with slots:=sl }
 free:∀b o,h.get? b=some o->H b=none->b∉ex->H' b=none
 there:∀b o,h.get? b=some o->b∉ex->∃o',h'.get? b=some o'
 tups:∀b xs,H b=some (.tup xs)->H' b=some (.tup xs)
 frzs:∀b o u,H b=some (.frz o u)->H' b=some (.frz o u)
 tbls:∀b ps,H b=some (.tbl ps)->∃OB,H' b=some (.tbl (ps++OB))
section
variable{fs Rc ex SX:List al}{H H1 H2:Hp}{h h1 h2 h':bA}{a x e:al}{o:HO}
def Un.any(u:Un fs ex H H1 h h1)(q:h.get? b=some ob)(n:H b=none)(hx:b∉ex):∃sl,h1.get? b=some { ob with slots:=sl }:=by
 by_cases hb:b∈fs
 ·exact u.slot b ob q n hb hx
 ·exact⟨ob.slots,u.keep b ob q n hb hx⟩
def Un.kept(k:∀b u,h.get? b=some u->h'.get? b=some u):Un fs ex H H h h' :=
 ⟨fun b ob q _ _ _=>k b ob q,fun b ob q _ _ _=>⟨ob.slots,k b ob q⟩,fun _ _ _ n _=>n,fun b ob q _=>⟨ob,k b ob q⟩,fun _ _ q=>q,fun _ _ _ q=>q,fun _ ps q=>⟨#[],by rw[q];simp⟩⟩
def Un.refl:Un fs ex H H h h:=Un.kept fun _ _ q=>q
def Un.laid(k:∀b u,h.get? b=some u->h'.get? b=some u)(hp:h.objs.size<=a)(hn:H a=none):Un fs ex H (upd H a o) h h' where
 keep:=fun b u q _ _ _=>k b u q
 slot:=fun b u q _ _ _=>⟨u.slots,k b u q⟩
 free:=fun b u q n _=>by rw[lg (a6 (aA (aP q) hp))];exact n
 there:=fun b u q _=>⟨u,k b u q⟩
 tups:=fun b xs q=>by rw[lg (lI q hn)];exact q
 frzs:=fun b u xs q=>by rw[lg (lI q hn)];exact q
 tbls:=fun b ps q=>⟨#[],by rw[lg (lI q hn),q];simp⟩
def Un.write(mu:Mut (H x))(he:e=x\/H e=some (.own x))(k:∀b u,b≠e->h.get? b=some u->h'.get? b=some u)(Rq:∃u,h'.get? e=some u):Un fs ex H (upd H x o) h h':=by
 have hx:∀b,H b=none->b≠x:=fun b n z=>by subst z;rw[n] at mu;exact mu
 have hb:∀b,H b=none->b≠e:=fun b n z=>by
  subst z;rcases he with r|r
  ·exact hx b n r
  ·rw[n] at r;cases r
 have hm:∀b u,H b=some u->¬Mut (some u)->b≠x:=fun b u q nm z=>by subst z;rw[q] at mu;exact nm mu
 refine⟨fun b u q n _ _=>k b u (hb b n) q,fun b u q n _ _=>⟨u.slots,k b u (hb b n) q⟩,fun b u q n _=>by rw[lg (hx b n)];exact n,fun b u q _=>?_,
  fun b xs q=>by rw[lg (hm b _ q fun z=>z)];exact q,fun b u xs q=>by rw[lg (hm b _ q fun z=>z)];exact q,fun b ps q=>⟨#[],by rw[lg (hm b _ q fun z=>z),q];simp⟩⟩
 by_cases hbe:b=e
 ·subst hbe;exact Rq
 ·exact⟨u,k b u hbe q⟩
end
def trk(h:bA)(H:Hp):List al:=(gA h.objs.size).filter fun a=>(H a).isSome
def Fm(h:bA)(H:Hp):bA:=gr h (trk h H)
def Ht(h:bA)(H:Hp):(Fm h H).objs.size=h.objs.size:=PySem.W.hideAll_size _ _
def Jj(e:h.get? b=some o)(n:H b=none):(Fm h H).get? b=some o :=
 jV _ e fun hm=>by have q:(H b).isSome=true:=(cv.mp hm).2;rw[n] at q;simp at q
def Lj(e:(Fm h H).get? b=some o):h.get? b=some o/\H b=none:=by
 have e':h.get? b=some o:=kn (trk h H) e;refine⟨e',?_⟩;cases q:H b with
 |none=>rfl
 |some x =>
  have hm:b∈trk h H:=cv.mpr ⟨jB.mpr (aP e'),by simp[q]⟩;have z:(Fm h H).get? b=none:=PySem.W.hideAll_none (trk h H) hm;rw[z] at e;cases e
def L7(g h:bA)(L:al):List (al×Obj):=(gA h.objs.size).filterMap fun a=>if a=L\/(g.get? a).isSome=true then none else(h.get? a).map fun o=>(a,o)
def oY(g h:bA)(L d:al):List (al×Obj):=(L7 g h L).filter fun p=>decide (p.1≠d)
structure Mod(K:aa)(mg:Str->Option am)(base:bA):Prop where
 kin:K.In base
 glob:base.Ns bi mg
 blt:∃mb,base.Ns i4 mb/\∀x:Str,x≠"__name__"->mb x=bP x
 nolimit:base.NoLimit
structure Cx where
 prog:aI
 w:aX
 K:aa
 mg:Str->Option am
 base:bA
 A:cq
 N:List Str
 sa0:aw
 Ha0:Hp
 env:Env
 outer:List Env
 stack:List Env
 ex:List al
 fn:Str->Bool
 calm:Bool
 pn:List (al×Obj)
 xe:am->aw->Prop
def frs(l:List Env):List al:=l.filterMap (·.frame)
abbrev Cx.fs(X:Cx):List al:=frs X.outer
def Vis(sc:dq)(x:Str):Prop:=sc.names.lookup x=some .local\/sc.names.lookup x=some .cell\/sc.names.lookup x=some .free
def Loc(sc:dq)(x:Str):Prop:=sc.names.lookup x=some .local\/sc.names.lookup x=some .cell
def Look(env:Env)(h:bA)(m:Str->Option am)(x:Str)(u:am):Prop :=
 (env.kindOf x=some .local/\m x=some u)\/((env.kindOf x=some .cell\/env.kindOf x=some .free)/\∃c,env.cells.lookup x=some c/\h.IsCell c (some u))
structure Cx.Ok(X:Cx):Prop where
 mod:Mod X.K X.mg X.base
 kind:X.env.scope.kind=.function
 glob:X.env.globals=bi
 blt:X.env.builtins=i4
 above:X.sa0.heap.objs.size<=X.env.locals
 inj:∀x y c,X.env.cells.lookup x=some c->X.env.cells.lookup y=some c->x=y
 has:∀x,(X.env.kindOf x=some .cell\/X.env.kindOf x=some .free)->∃c,X.env.cells.lookup x=some c
 cab:∀x c,X.fn x=true->X.env.cells.lookup x=some c->X.sa0.heap.objs.size<=c
 hd:X.calm=true->X.A.handled=none
 frames:X.A.frames=some X.stack
 stk:X.stack=X.outer\/(X.stack=X.env::X.outer/\X.env.frame=some X.env.locals)
 exf:∀b∈X.ex,b≠X.env.locals/\∀x c,X.env.cells.lookup x=some c->c≠b
 bs:∀b o,X.base.get? b=some o->X.sa0.heap.get? b=some o/\X.Ha0 b=none
 bsz:X.base.objs.size<=X.sa0.heap.objs.size
 noex:∀b o,X.base.get? b=some o->b∉X.ex
 exfs:∀b∈X.ex,b∉X.fs
 funs:X.sa0.heap.FunFrames X.base X.outer
 frf:∀b∈X.fs,X.Ha0 b=none
structure Inv(X:Cx)(Ob:List (al×Obj))(σ:List (Option V))(H:Hp)(s:aw):Prop where
 ok:X.Ok
 os:s.os=X.sa0.os
 bare:gz s.gens
 base:Un X.fs X.ex X.Ha0 H X.sa0.heap s.heap
 loc:∃m,s.heap.Ns X.env.locals m/\∀(i:Nat)(x:Str)(v:V),X.N[i]?=some x->σ[i]?=some (some v)->Vis X.env.scope x->∃u,RelV v u/\Look X.env s.heap m x u
 cell:∀x c,X.env.cells.lookup x=some c->∃v,s.heap.IsCell c v
 free:H X.env.locals=none
 freeC:∀x c,X.env.cells.lookup x=some c->H c=none
 pin:∀p∈X.pn++Ob,s.heap.get? p.1=some p.2/\H p.1=none/\p.1≠X.env.locals/\p.1∉X.fs/\∀v,p.2.data≠.cell v
 hok:HOk X.prog X.w H s.heap
 len:σ.length=X.N.length
section
variable{X:Cx}{Ob:List (al×Obj)}{σ:List (Option V)}{H H':Hp}{s:aw}{h':bA}
def Cx.Ok.nofr(ok:X.Ok)(e:X.base.get? b=some o):b∉X.fs:=fun hb=>by have:=(ok.funs.mem hb).1;rw[e] at this;cases this
theorem Inv.bs(I:Inv X Ob σ H s):∀b o,X.base.get? b=some o->s.heap.get? b=some o/\H b=none:=fun b o e =>
 ⟨I.base.keep b o (I.ok.bs b o e).1 (I.ok.bs b o e).2 (I.ok.nofr e) (I.ok.noex b o e),I.base.free b o (I.ok.bs b o e).1 (I.ok.bs b o e).2 (I.ok.noex b o e)⟩
def Inv.bk(I:Inv X Ob σ H s):∀b o,X.base.get? b=some o->s.heap.get? b=some o:=fun b o e=>(I.bs b o e).1
theorem Inv.mod(I:Inv X Ob σ H s):Mod X.K X.mg X.base:=I.ok.mod
def Inv.kIn(I:Inv X Ob σ H s):X.K.In s.heap:=I.ok.mod.kin.keeps I.bk
theorem Inv.lt(I:Inv X Ob σ H s):X.env.locals<s.heap.objs.size:=let⟨_,hn,_⟩:=I.loc;hn.lt
def Inv.sz(I:Inv X Ob σ H s):X.sa0.heap.objs.size<=s.heap.objs.size:=aC I.ok.above (fk I.lt)
def Inv.nofs(I:Inv X Ob σ H s)(h:s.heap.objs.size<=a):a∉X.fs:=fun hb=>by obtain⟨_,o,ho,_⟩:=I.ok.funs.mem hb;exact absurd (aA (aP ho) (aC I.sz h)) (dE _)
def Inv.cne(I:Inv X Ob σ H s):∀x c,X.env.cells.lookup x=some c->c≠X.env.locals:=fun x c e z=>by obtain⟨v,o,ho,hd⟩:=I.cell x c e;obtain⟨m,⟨o',es,ep,Qu,Ub,_⟩,_⟩:=I.loc;rw[z,Qu] at ho;cases ho;rw[Ub] at hd;cases hd
theorem Inv.funs(I:Inv X Ob σ H s):s.heap.FunFrames X.base X.outer:=by
 have all:∀(l:List Env),(∀b∈frs l,b∈X.fs)->X.sa0.heap.FunFrames X.base l->s.heap.FunFrames X.base l:=by
  intro l;induction l with
  |nil=>intro _ _;trivial
  |cons env r ih =>
   intro hs hl;obtain⟨hk,⟨L,o,hf,hn,ho,hd⟩,hr⟩:=hl;have hL:L∈X.fs:=hs L (by unfold frs;rw[d9,hf];exact ag);obtain⟨sl,e⟩:=I.base.slot L o ho (I.ok.frf L hL) hL fun z=>I.ok.exfs L z hL;exact⟨hk,⟨L,_,hf,hn,e,hd⟩,ih (fun b hb=>hs b (by unfold frs;rw[d9,hf];exact ah _ hb)) hr⟩
 exact all X.outer (fun _ hb=>hb) I.ok.funs
theorem Inv.stack(I:Inv X Ob σ H s):s.heap.FunFrames X.base X.stack:=by
 rcases I.ok.stk with e|⟨e,hf⟩
 ·rw[e];exact I.funs
 ·rw[e];obtain⟨m,hn,_⟩:=I.loc;refine .cons (by rw[I.ok.kind];decide) hf hn ?_ I.funs;exact Heap.get?_none_of_le (aC I.ok.bsz I.ok.above)
def Inv.stkSub(I:Inv X Ob σ H s):∀b∈frs X.stack,b∈X.env.locals::X.fs:=fun b hb=>by
 rcases I.ok.stk with e|⟨e,hf⟩
 ·rw[e] at hb;exact ah _ hb
 ·rw[e] at hb;unfold frs at hb;rw[d9,hf] at hb;exact hb
def Inv.stkFree(I:Inv X Ob σ H s):∀b∈frs X.stack,H b=none:=fun b hb=>by
 rcases aj.mp (I.stkSub b hb) with e|hb
 ·rw[e];exact I.free
 ·obtain⟨_,o,ho,_⟩:=I.ok.funs.mem hb;exact I.base.free b o ho (I.ok.frf b hb) fun z=>I.ok.exfs b z hb
def Inv.step{g':Array ky}{t':Nat}{d':Drawn}{ch:List al}(I:Inv X Ob σ H s)(Pz:∀b∈ch,(b∈X.ex\/X.sa0.heap.objs.size<=b)/\b≠X.env.locals/\(∀x c,X.env.cells.lookup x=some c->c≠b)/\∀p∈X.pn++Ob,p.1≠b)(keep:∀b o,b≠X.env.locals->b∉X.fs->b∉ch->s.heap.get? b=some o->H b=none->h'.get? b=some o)(slot:∀b o,b≠X.env.locals->b∈X.fs->b∉ch->s.heap.get? b=some o->H b=none->∃sl,h'.get? b=some { o with slots:=sl })(free:∀b o,b∉ch->s.heap.get? b=some o->H b=none->H' b=none)(there:∀b o,b∉ch->s.heap.get? b=some o->∃o',h'.get? b=some o')(tups:∀b xs,H b=some (.tup xs)->H' b=some (.tup xs))(frzs:∀b o u,H b=some (.frz o u)->H' b=some (.frz o u))(tbls:∀b ps,H b=some (.tbl ps)->∃OB,H' b=some (.tbl (ps++OB)))(ns:∀m,s.heap.Ns X.env.locals m->h'.Ns X.env.locals m)(hok:HOk X.prog X.w H' h')(hg:gz g') :
  Inv X Ob σ H' { s with heap:=h',gens:=g',drawn:=d',toks:=t' }:=by
 have neL:∀b o,X.sa0.heap.get? b=some o->b≠X.env.locals:=fun b o e=>a6 (aA (aP e) I.ok.above);have SH:∀b o,X.sa0.heap.get? b=some o->b∉X.ex->b∉ch:=fun b o e hx hb=>by
  rcases(Pz b hb).1 with z|z
  ·exact hx z
  ·exact absurd (aA (aP e) z) (dE _)
 have QO:∀x c,X.env.cells.lookup x=some c->∀v,s.heap.IsCell c v->h'.IsCell c v:=fun x c e v ⟨o,ho,hd⟩=>by
  have RE:c∉ch:=fun z=>(Pz c z).2.2.1 x c e rfl;by_cases hc:c∈X.fs
  ·obtain⟨sl,q⟩:=slot c o (I.cne x c e) hc RE ho (I.freeC x c e);exact⟨_,q,hd⟩
  ·exact⟨o,keep c o (I.cne x c e) hc RE ho (I.freeC x c e),hd⟩
 refine⟨I.ok,I.os,hg,⟨fun b o e n hb hx=>?_,fun b o e n hb hx=>?_,fun b o e n hx=>?_,fun b o e hx=>?_,fun b xs e=>tups b xs (I.base.tups b xs e),fun b o xs e=>frzs b o xs (I.base.frzs b o xs e),fun b ps e=>?_⟩,?_,fun x c e=>?_,?_,fun x c e=>?_,fun p hp=>?_,hok,I.len⟩
 ·exact keep b o (neL b o e) hb (SH b o e hx) (I.base.keep b o e n hb hx) (I.base.free b o e n hx)
 ·obtain⟨sl,e1⟩:=I.base.slot b o e n hb hx;obtain⟨sl',e2⟩:=slot b _ (neL b o e) hb (SH b o e hx) e1 (I.base.free b o e n hx);exact⟨sl',e2⟩
 ·obtain⟨o',e1⟩:=I.base.there b o e hx;exact free b o' (SH b o e hx) e1 (I.base.free b o e n hx)
 ·obtain⟨o',e1⟩:=I.base.there b o e hx;exact there b o' (SH b o e hx) e1
 ·obtain⟨m1,e1⟩:=I.base.tbls b ps e;obtain⟨m2,e2⟩:=tbls b _ e1;exact⟨m1++m2,by rw[e2,iz]⟩
 ·obtain⟨m,hn,hl⟩:=I.loc;refine⟨m,ns m hn,fun i x v e1 e2 e3=>?_⟩;obtain⟨u,r,l⟩:=hl i x v e1 e2 e3;refine⟨u,r,?_⟩;rcases l with l|⟨k,c,e,z⟩
  ·exact .inl l
  ·exact .inr ⟨k,c,e,QO x c e _ z⟩
 ·obtain⟨v,z⟩:=I.cell x c e;exact⟨v,QO x c e v z⟩
 ·obtain⟨m,⟨o,_,_,ho,_⟩,_⟩:=I.loc;exact free _ o (fun z=>(Pz _ z).2.1 rfl) ho I.free
 ·obtain⟨v,o,ho,hd⟩:=I.cell x c e;exact free c o (fun z=>(Pz c z).2.2.1 x c e rfl) ho (I.freeC x c e)
 ·obtain⟨e,n,ne,nf,d⟩:=I.pin p hp;have RE:p.1∉ch:=fun z=>(Pz p.1 z).2.2.2 p hp rfl;exact⟨keep p.1 p.2 ne nf RE e n,free p.1 p.2 RE e n,ne,nf,d⟩
def Inv.un{t':Nat}(I:Inv X Ob σ H s)(u:Un X.fs [] H H' s.heap h')(hok:HOk X.prog X.w H' h'):Inv X Ob σ H' { s with heap:=h',toks:=t' }:=by
 obtain⟨m,⟨o,es,ep,ho,r⟩,_⟩:=id I.loc;obtain⟨sl,hL⟩:=u.any ho I.free (by simp);exact I.step (g':=s.gens) (d':=s.drawn) (ch:=[]) (fun _ z=>nomatch z) (fun b o _ hb _ e n=>u.keep b o e n hb (by simp)) (fun b o _ hb _ e n=>u.slot b o e n hb (by simp)) (fun b o _ e n=>u.free b o e n (by simp)) (fun b o _ e=>u.there b o e (by simp)) u.tups u.frzs u.tbls (fun m' hm=>by obtain⟨o',Um,SY,Qu,r'⟩:=hm;rw[ho] at Qu;cases Qu;exact⟨_,Um,SY,hL,r'⟩) hok I.bare
def Inv.call{g':Array ky}{t':Nat}{d':Drawn}{ch:List al}(I:Inv X Ob σ H s)(u:Un (frs X.stack) ch H H' s.heap h')(hok:HOk X.prog X.w H' h')(hg:gz g')(Pz:∀b∈ch,(b∈X.ex\/X.sa0.heap.objs.size<=b)/\b≠X.env.locals/\(∀x c,X.env.cells.lookup x=some c->c≠b)/\∀p∈X.pn++Ob,p.1≠b) :
  Inv X Ob σ H' { s with heap:=h',gens:=g',drawn:=d',toks:=t' }:=by
 obtain⟨m,⟨o,es,ep,ho,r⟩,_⟩:=id I.loc;obtain⟨sl,hL⟩:=u.any ho I.free fun z=>(Pz _ z).2.1 rfl;exact I.step (ch:=ch) Pz (fun b o hL hb hc e n=>u.keep b o e n (fun z=>(aj.mp (I.stkSub b z)).elim hL hb) hc) (fun b o _ _ hc e n=>u.any e n hc) (fun b o hc e n=>u.free b o e n hc) (fun b o hc e=>u.there b o e hc) u.tups u.frzs u.tbls (fun m' hm=>by obtain⟨o',Um,SY,Qu,r'⟩:=hm;rw[ho] at Qu;cases Qu;exact⟨_,Um,SY,hL,r'⟩) hok hg
def Inv.turned{t':Nat}{it:al}(I:Inv X Ob σ H s)(k:∀b o,b≠it->s.heap.get? b=some o->h'.get? b=some o)(hn:H it=none)(hL:it≠X.env.locals)(h1:it∈X.ex\/X.sa0.heap.objs.size<=it)(h2:∀x c,X.env.cells.lookup x=some c->c≠it)(h3:∀p∈X.pn++Ob,p.1≠it):Inv X Ob σ H { s with heap:=h',toks:=t' }:=by
 have nit:∀b u,H b=some u->b≠it:=fun b u e z=>by rw[z,hn] at e;cases e
 refine I.step (g':=s.gens) (d':=s.drawn) (ch:=[it]) (fun b hb=>?_) (fun b o _ _ hc e _=>k b o (fun z=>hc (by simp[z])) e) (fun b o _ _ hc e _=>⟨o.slots,k b o (fun z=>hc (by simp[z])) e⟩) (fun _ _ _ _ n=>n)
  (fun b o hc e=>⟨o,k b o (fun z=>hc (by simp[z])) e⟩) (fun _ _ e=>e) (fun _ _ _ e=>e) (fun b ps e=>⟨#[],by rw[e];simp⟩) (fun m hm=>?_) (fun b u e=>?_) I.bare
 ·have e:b=it:=by simpa using hb
  subst e;exact⟨h1,hL,h2,h3⟩
 ·obtain⟨o,es,ep,ho,r⟩:=hm;exact⟨o,es,ep,k _ o (fM hL) ho,r⟩
 ·refine(I.hok b u e).stay (fun c v hc q=>k c v ?_ q) (fun _ q=>q) fun _ _ q=>q;rcases hc with z|z
  ·rw[z];exact nit b u e
  ·exact nit c _ z
def Inv.tok(I:Inv X Ob σ H s)(t:Nat):Inv X Ob σ H { s with toks:=t }:=I.un (h':=s.heap) (t':=t) Un.refl I.hok
theorem Inv.kept(I:Inv X Ob σ H s)(k:∀b u,s.heap.get? b=some u->h'.get? b=some u):Inv X Ob σ H { s with heap:=h',toks:=t' }:=I.un (Un.kept k) (I.hok.kept k)
theorem Inv.laid(I:Inv X Ob σ H s)(k:∀b u,s.heap.get? b=some u->h'.get? b=some u)(hp:s.heap.objs.size<=a)(new:ObjOk X.prog X.w (upd H a o) h' a o) :
  Inv X Ob σ (upd H a o) { s with heap:=h',toks:=t' }:=I.un (Un.laid k hp (I.hok.fresh hp)) (I.hok.laid k hp new)
theorem Inv.write(I:Inv X Ob σ H s)(mu:Mut (H x))(he:e=x\/H e=some (.own x))(k:∀b u,b≠e->s.heap.get? b=some u->h'.get? b=some u)(Rq:∃u,h'.get? e=some u)(new:ObjOk X.prog X.w (upd H x o) h' x o):Inv X Ob σ (upd H x o) { s with heap:=h',toks:=t' }:=I.un (Un.write mu he k Rq) (I.hok.write mu he k Rq new)
def Inv.pins_of(I:Inv X Ob σ H s)(h:∀p∈pins',s.heap.get? p.1=some p.2/\H p.1=none/\p.1≠X.env.locals/\p.1∉X.fs/\∀v,p.2.data≠.cell v):Inv X pins' σ H s :=
 ⟨I.ok,I.os,I.bare,I.base,I.loc,I.cell,I.free,I.freeC,fun p hp=>(aJ.mp hp).elim (fun z=>I.pin p (a7 _ z)) (h p),I.hok,I.len⟩
def zS{N:List Str}(hN:N.Nodup){i j:Nat}{x:Str}(a:N[i]?=some x)(b:N[j]?=some x):i=j:=by obtain⟨h1,e1⟩:=aY.mp a;obtain⟨h2,e2⟩:=aY.mp b;exact(List.getElem_inj hN).mp (e1.trans e2.symm)
def Bo{M:Model}{A:cq}{E:am->aw->Prop}{i:Nat}{x:Str}{v:V}{u:am}{Q:Unit->aw->Prop}(I:Inv X Ob σ H s)(hN:X.N.Nodup)(hi:X.N[i]?=some x)(hx:Loc X.env.scope x)(r:RelV v u)(h:∀s',Inv X Ob (σ.set i (some v)) H s'->(∃a,iL a s.heap s'.heap/\(a=X.env.locals\/X.env.cells.lookup x=some a))->Q () s')(hf:X.fn x=true\/X.env.scope.names.lookup x=some .local:=by first|exact .inl rfl|exact .inr rfl|assumption):aZ M A (storeName X.env x u) Q E s:=by
 obtain⟨m,hn,hl⟩:=id I.loc;have QA:(X.env.scope.kind==.class||(X.env.scope.kind==.module&&X.env.locals != X.env.globals))=false:=by rw[I.ok.kind];rfl
 have hiσ:i<σ.length:=by rw[I.len];exact(aY.mp hi).1
 have cne:=I.cne;have Pq:∀{a:al}{h':bA},(∃o,s.heap.get? a=some o/\H a=none)->iL a s.heap h'->HOk X.prog X.w H h':=fun{a h'} ha hs b ob e=>by
  obtain⟨_,_,QK⟩:=ha;refine(I.hok b ob e).stay (fun c w' hc q=>(hs.2 c ?_).trans q) (fun _ q=>q) fun _ _ q=>q
  rintro rfl
  rcases hc with rfl|hc
  ·rw[QK] at e;cases e
  ·rw[QK] at hc;cases hc
 rcases hx with hk|hk
 ·refine wpAny_storeName_local hk hn (fun h' Pi hs=>?_) QA;obtain⟨oL,_,_,Rm,_⟩:=id hn;refine h _ ⟨I.ok,I.os,I.bare,⟨fun b o e n hb hx=>?_,fun b o e n hb hx=>?_,I.base.free,fun b o e hx=>?_,I.base.tups,I.base.frzs,I.base.tbls⟩,⟨_,Pi,fun j y v' e1 e2 e3=>?_⟩,fun y c e=>?_,I.free,I.freeC,fun p hp=>?_,Pq ⟨oL,Rm,I.free⟩ hs,by simpa using I.len⟩ ⟨_,hs,.inl rfl⟩
  ·exact(hs.2 b (a6 (aA (aP e) I.ok.above))).trans (I.base.keep b o e n hb hx)
  ·obtain⟨sl,e1⟩:=I.base.slot b o e n hb hx;exact⟨sl,(hs.2 b (a6 (aA (aP e) I.ok.above))).trans e1⟩
  ·obtain⟨o',e1⟩:=I.base.there b o e hx;exact⟨o',(hs.2 b (a6 (aA (aP e) I.ok.above))).trans e1⟩
  ·by_cases hj:j=i
   ·subst hj;rw[hi] at e1;cases e1;rw[ka hiσ] at e2;cases e2;exact⟨u,r,.inl ⟨hk,by simp⟩⟩
   ·rw[fL (fM hj)] at e2;obtain⟨u',r',q⟩:=hl j y v' e1 e2 e3;refine⟨u',r',?_⟩;rcases q with⟨k,e⟩|⟨k,c,e,z⟩
    ·refine .inl ⟨k,?_⟩;have:y≠x:=fun e=>hj (zS hN e1 (e▸hi));simp[this,e]
    ·exact .inr ⟨k,c,e,z.sameBut hs (cne y c e)⟩
  ·obtain⟨w',z⟩:=I.cell y c e;exact⟨w',z.sameBut hs (cne y c e)⟩
  ·obtain⟨e,n,ne,nf,d⟩:=I.pin p hp;exact⟨(hs.2 p.1 ne).trans e,n,ne,nf,d⟩
 ·have PN:X.fn x=true:=by
   rcases hf with z|z
   ·exact z
   ·rw[z] at hk;cases hk
  obtain⟨c,hc⟩:=I.ok.has x (.inl hk);obtain⟨w',z⟩:=I.cell x c hc;refine wpAny_storeName_cell I.ok.kind hk hc z (fun h' hc' hs=>?_);obtain⟨oc,hoc,TM⟩:=id z;refine h { s with heap:=h' } ⟨I.ok,I.os,I.bare,⟨fun b o e n hb hx=>?_,fun b o e n hb hx=>?_,I.base.free,fun b o e hx=>?_,I.base.tups,I.base.frzs,I.base.tbls⟩,⟨m,hn.sameBut hs (fM (cne x c hc)),fun j y v' e1 e2 e3=>?_⟩,fun y c' e=>?_,I.free,I.freeC,fun p hp=>?_,Pq ⟨oc,hoc,I.freeC x c hc⟩ hs,by simpa using I.len⟩ ⟨c,hs,.inr hc⟩
  ·exact(hs.2 b (a6 (aA (aP e) (I.ok.cab x c PN hc)))).trans (I.base.keep b o e n hb hx)
  ·obtain⟨sl,e1⟩:=I.base.slot b o e n hb hx;exact⟨sl,(hs.2 b (a6 (aA (aP e) (I.ok.cab x c PN hc)))).trans e1⟩
  ·obtain⟨o',e1⟩:=I.base.there b o e hx;exact⟨o',(hs.2 b (a6 (aA (aP e) (I.ok.cab x c PN hc)))).trans e1⟩
  ·by_cases hj:j=i
   ·subst hj;rw[hi] at e1;cases e1;rw[ka hiσ] at e2;cases e2;exact⟨u,r,.inr ⟨.inl hk,c,hc,hc'⟩⟩
   ·rw[fL (fM hj)] at e2;obtain⟨u',r',q⟩:=hl j y v' e1 e2 e3;refine⟨u',r',?_⟩;rcases q with q|⟨k,c',e,z'⟩
    ·exact .inl q
    ·refine .inr ⟨k,c',e,z'.sameBut hs ?_⟩
     rintro rfl
     exact hj (zS hN e1 (I.ok.inj _ _ _ e hc▸hi))
  ·by_cases hcc:c'=c
   ·subst hcc;exact⟨_,hc'⟩
   ·obtain⟨w2,z2⟩:=I.cell y c' e;exact⟨w2,z2.sameBut hs hcc⟩
  ·obtain⟨e,n,ne,nf,d⟩:=I.pin p hp;refine⟨(hs.2 p.1 ?_).trans e,n,ne,nf,d⟩;intro q;rw[q,hoc] at e;have q':oc=p.2:=aU e;exact d w' (by rw[<-q'];exact TM)
def uP(I:Inv X Ob σ H s)(hN:X.N.Nodup)(hi:X.N[i]?=some x)(hx:Loc X.env.scope x)(r:RelV v u)(h:∀s',Inv X Ob (σ.set i (some v)) H s'->Q () s')(hf:X.fn x=true\/X.env.scope.names.lookup x=some .local:=by first|exact .inl rfl|exact .inr rfl|assumption):aZ M A (storeName X.env x u) Q E s :=
 Bo I hN hi hx r (fun s' I' _=>h s' I') hf
def Inv.call'(I:Inv X Ob σ H s)(ho:s'.os=s.os)(u:Un (frs X.stack) ch H H' s.heap s'.heap)(hok:HOk X.prog X.w H' s'.heap)(hg:gz s'.gens)(Pz:∀b∈ch,(b∈X.ex\/X.sa0.heap.objs.size<=b)/\b≠X.env.locals/\(∀x c,X.env.cells.lookup x=some c->c≠b)/\∀p∈X.pn++Ob,p.1≠b):Inv X Ob σ H' s':=by
 obtain⟨h',g',d',t',o'⟩:=s';have e:o'=s.os:=ho;subst e;exact I.call (g':=g') (t':=t') (d':=d') u hok hg Pz
end
abbrev XK:=am->Option al->Hp->Prop
abbrev St:=List (Option V)
abbrev VK:=V->Hp->Prop
abbrev TE:=St->Hp->VK->Prop
abbrev TT:=St->Hp->(Bool->Hp->Prop)->Prop
abbrev TA:=St->Hp->(List V->Hp->Prop)->Prop
structure Ends where
 nx:St->Hp->Prop
 rt:VK
 bk:St->Hp->Prop:=fun _ _=>False
 ct:St->Hp->Prop:=fun _ _=>False
abbrev TS:=Ends->St->Hp->Prop
def EP(X:Cx)(Ob:List (al×Obj))(σ:St)(Q:VK)(u:am)(s':aw):Prop:=∃v H',Inv X Ob σ H' s'/\RelV v u/\Q v H'
def TP(X:Cx)(Ob:List (al×Obj))(σ:St)(Q:Bool->Hp->Prop)(b:Bool)(s':aw):Prop:=∃H',Inv X Ob σ H' s'/\Q b H'
def AP(X:Cx)(Ob:List (al×Obj))(σ:St)(Q:List V->Hp->Prop)(us:List am)(s':aw):Prop:=∃vs H',Inv X Ob σ H' s'/\Vals vs us/\Q vs H'
def SP(X:Cx)(Ob:List (al×Obj))(D:Ends)(f:Flow)(s':aw):Prop :=
 match f with
 |.next=>∃σ' H',Inv X Ob σ' H' s'/\D.nx σ' H'
 |.brk=>∃σ' H',Inv X Ob σ' H' s'/\D.bk σ' H'
 |.cont=>∃σ' H',Inv X Ob σ' H' s'/\D.ct σ' H'
 |.ret u=>∃v σ' H',Inv X Ob σ' H' s'/\RelV v u/\D.rt v H'
def PE(X:Cx)(e:bj)(t:TE):Prop :=
 ∀(Ob:List (al×Obj))(s:aw)(σ:St)(H:Hp)(Q:VK),Inv X Ob σ H s->t σ H Q->aZ (model X.prog X.w) X.A (eval e X.env) (EP X Ob σ Q) X.xe s
def PT(X:Cx)(e:bj)(t:TT):Prop :=
 ∀(Ob:List (al×Obj))(s:aw)(σ:St)(H:Hp)(Q:Bool->Hp->Prop),Inv X Ob σ H s->t σ H Q->aZ (model X.prog X.w) X.A (isTrue e X.env (eval e X.env)) (TP X Ob σ Q) X.xe s
def PW(X:Cx)(e:bj)(t:TT):Prop :=
 ∀(ON:Sem am)(Ob:List (al×Obj))(s:aw)(σ:St)(H:Hp)(Q:Bool->Hp->Prop),Inv X Ob σ H s->t σ H Q->aZ (model X.prog X.w) X.A (isTrue e X.env ON) (TP X Ob σ Q) X.xe s
def PW.pt(h:PW X e t):PT X e t:=h _
def PA(X:Cx)(es:List bj)(t:TA):Prop :=
 ∀(pos:Pos)(Ob:List (al×Obj))(s:aw)(σ:St)(H:Hp)(Q:List V->Hp->Prop),Inv X Ob σ H s->t σ H Q->aZ (model X.prog X.w) X.A (spliced (cj pos (aK es X.env))) (AP X Ob σ Q) X.xe s
def PS(X:Cx)(st:bL)(t:TS):Prop :=
 ∀(Ob:List (al×Obj))(s:aw)(σ:St)(H:Hp)(D:Ends),Inv X Ob σ H s->t D σ H->aZ (model X.prog X.w) X.A (exec st X.env) (SP X Ob D) X.xe s
def PSs(X:Cx)(st:List bL)(t:TS):Prop :=
 ∀(Ob:List (al×Obj))(s:aw)(σ:St)(H:Hp)(D:Ends),Inv X Ob σ H s->t D σ H->aZ (model X.prog X.w) X.A (execs st X.env) (SP X Ob D) X.xe s
def thn(h:aZ M A t Q E s)(hQ:∀a s,Q a s->Q' a s):aZ M A t Q' E s:=bK h hQ fun _ _ x=>x
section
variable{X:Cx}
def HU(i:Nat):TE:=fun σ H Q=>∃v,σ[i]?=some (some v)/\Q v H
def tC(v:V):TE:=fun _ H Q=>Q v H
abbrev NDb(x:Str):Prop:=(x==("__debug__":Str))=false
def FC(hN:X.N[i]?=some x)(hv:Vis X.env.scope x)(hd:NDb x:=by decide)(O7:(x==("__classdict__":Str))=false:=by decide):PE X (.Name x pos) (HU i):=by
 intro Ob s σ H Q I h;obtain⟨v,e,h⟩:=h;obtain⟨m,hn,hl⟩:=I.loc;obtain⟨u,r,l⟩:=hl i x v hN e hv;have fin:EP X Ob σ Q u s:=⟨v,H,I,r,h⟩;rcases l with⟨hk,hm⟩|⟨hk,c,hc,OY⟩
 ·exact wpAny_Name (wpAny_loadName_local I.ok.kind hk hn hm fin) hd
 ·rcases hk with hk|hk
  ·exact wpAny_Name (wpAny_loadName_cell I.ok.kind hk hc OY fin) hd
  ·exact wpAny_Name (wpAny_loadName_free I.ok.kind hk hc OY fin O7) hd
def pe_int{i j pos}:PE X (.Constant (.int i) j pos) (tC (.int i)):=fun _ _ _ H _ I h=>wpAny_Constant_int ⟨.int i,H,I.tok _,⟨_,rfl⟩,h⟩
def pe_bl{b j pos}:PE X (.Constant (.bool b) j pos) (tC (.bl b)):=fun _ _ _ H _ I h=>Constant_bool ⟨.bl b,H,I,rfl,h⟩
def pe_str{x j pos}:PE X (.Constant (.str x) j pos) (tC (.str x)):=fun _ _ _ H _ I h=>iq ⟨.str x,H,I.tok _,⟨_,rfl⟩,h⟩
def Gl(X:Cx)(x:Str):Prop:=X.env.kindOf x=some .globalImplicit
def tP(I:Inv X Ob σ H s)(hg:Gl X x)(hm:X.mg x=some u)(h:Q u s)(hd:NDb x:=by decide):aZ (model X.prog X.w) X.A (eval (.Name x pos) X.env) Q E s :=
 jq I.ok.kind hg (Calls.loadGlobal_global (by rw[I.ok.glob];exact I.mod.glob.keeps I.bk) hm h) hd
def C9(I:Inv X Ob σ H s)(hg:Gl X x)(hm:X.mg x=none)(hv:bP x=some u)(h:Q u s)(hn:x≠"__name__":=by decide)(hd:NDb x:=by decide):aZ (model X.prog X.w) X.A (eval (.Name x pos) X.env) Q E s:=by
 obtain⟨mb,h1,h2⟩:=I.mod.blt;exact jq I.ok.kind hg (Calls.loadGlobal_builtin (by rw[I.ok.glob];exact I.mod.glob.keeps I.bk) hm (by rw[I.ok.blt];exact h1.keeps I.bk) ((h2 x hn).trans hv) h) hd
def rb(hg:Gl X x)(hm:X.mg x=some u)(r:RelV v u)(hd:NDb x:=by decide):PE X (.Name x pos) (tC v) :=
 fun _ _ _ H _ I h=>tP I hg hm ⟨v,H,I,r,h⟩ hd
def K4(hg:Gl X x)(hm:X.mg x=none)(hv:bP x=some u)(r:RelV v u)(hn:x≠"__name__":=by decide)(hd:NDb x:=by decide):PE X (.Name x pos) (tC v) :=
 fun _ _ _ H _ I h=>C9 I hg hm hv ⟨v,H,I,r,h⟩ hn hd
variable{a b:bj}{ta tb:TE}{pos:Pos}
def PC(X:Cx)(op:CmpOp)(a b:bj)(t:TE):Prop :=
 ∀(Ob:List (al×Obj))(s:aw)(σ:St)(H:Hp)(Q:VK),Inv X Ob σ H s->t σ H Q ->
  aZ (model X.prog X.w) X.A (eval a X.env) (fun v Op=>aZ (model X.prog X.w) X.A (eval b X.env) (fun u PH=>aZ (model X.prog X.w) X.A (b9 op v u) (EP X Ob σ Q) X.xe PH) X.xe Op) X.xe s
def IZ(b:bj)(h:op≠.In)(h2:op≠.NotIn):cH op b=false:=by
 have e1:(op==CmpOp.In)=false:=by cases op<;>first|rfl|exact absurd rfl h
 have e2:(op==CmpOp.NotIn)=false:=by cases op<;>first|rfl|exact absurd rfl h2
 cases b<;>simp[cH,e1,e2]
def tB(t:TE):TT:=fun σ H Q=>t σ H fun x H1=>∃c,x=.bl c/\Q c H1
def JO(h:PC X op a b t)(h1:cH op b=false:=by first|exact IZ _ (by decide) (by decide)|rfl):PE X (.Compare a [op] [b] pos) t:=fun Ob s σ H Q I hw=>wpAny_Compare1 (h Ob s σ H Q I hw) h1
def wz(h:PE X e t)(he:∀ON,isTrue e X.env ON=(do let v <-ON;gy e.pos;holding [v] (truthy v)):=by intro _;rfl):PT X e (tB t):=by intro Ob s σ H Q I hw;refine isTrue_plain (thn (h Ob s σ H _ I hw) fun v s1 ⟨x,H1,I1,r1,q1⟩=>?_) (he _);obtain⟨d,rfl,q⟩:=q1;cases r1;exact dg ⟨H1,I1,q⟩
variable{tA Sq:TT}{oY:List bj}
def tAnd(t u:TT):TT:=fun σ H Q=>t σ H fun c H1=>if c=true then u σ H1 Q else Q false H1
def tOr(t u:TT):TT:=fun σ H Q=>t σ H fun c H1=>if c=true then Q true H1 else u σ H1 Q
def tNot(t:TT):TT:=fun σ H Q=>t σ H fun c H1=>Q (!c) H1
def KN(ha:PT X a tA):PW X (.BoolOp .And [a] pos) tA:=by
 intro wh Ob s σ H Q I h;refine isTrue_and (thn (ha Ob s σ H Q I h) fun c s1 e=>?_);cases c with
 |true=>exact isTrue_and_nil e
 |false=>exact e
def JK(ha:PT X a tA):PW X (.BoolOp .Or [a] pos) tA:=by
 intro wh Ob s σ H Q I h;refine isTrue_or (thn (ha Ob s σ H Q I h) fun c s1 e=>?_);cases c with
 |false=>exact isTrue_or_nil e
 |true=>exact e
def M6(ha:PT X a tA)(hb:PW X (.BoolOp .And (b::oY) pos) Sq):PW X (.BoolOp .And (a::b::oY) pos) (tAnd tA Sq):=by
 intro wh Ob s σ H Q I h;refine isTrue_and (thn (ha Ob s σ H _ I h) fun c s1 ⟨H1,I1,q1⟩=>?_);cases c with
 |true=>exact hb wh Ob s1 σ H1 Q I1 q1
 |false=>exact⟨H1,I1,q1⟩
def Mm(ha:PT X a tA)(hb:PW X (.BoolOp .Or (b::oY) pos) Sq):PW X (.BoolOp .Or (a::b::oY) pos) (tOr tA Sq):=by
 intro wh Ob s σ H Q I h;refine isTrue_or (thn (ha Ob s σ H _ I h) fun c s1 ⟨H1,I1,q1⟩=>?_);cases c with
 |true=>exact⟨H1,I1,q1⟩
 |false=>exact hb wh Ob s1 σ H1 Q I1 q1
def Am(ha:PT X a tA):PT X (.UnaryOp .Not a pos) (tNot tA):=by intro Ob s σ H Q I h;exact isTrue_not (ha Ob s σ H (fun c H1=>Q (!c) H1) I h)
def tAndV(ta tb:TE):TE:=fun σ H Q=>ta σ H fun x H1=>∃c,x=.bl c/\if c=true then tb σ H1 Q else Q (.bl false) H1
def tOrV(ta tb:TE):TE:=fun σ H Q=>ta σ H fun x H1=>∃c,x=.bl c/\if c=true then Q (.bl true) H1 else tb σ H1 Q
def tNotV(ta:TE):TE:=fun σ H Q=>ta σ H fun x H1=>∃c,x=.bl c/\Q (.bl (!c)) H1
def C6{op}{t:TE}(h:PE X a t):PE X (.BoolOp op [a] pos) t:=fun Ob s σ H Q I hw=>BoolOp_one (h Ob s σ H Q I hw)
def FD(ha:PE X a ta)(hb:PE X (.BoolOp .And (b::oY) pos) tb):PE X (.BoolOp .And (a::b::oY) pos) (tAndV ta tb):=by
 intro Ob s σ H Q I h;refine BoolOp_and (thn (ha Ob s σ H _ I h) fun v s1 ⟨x,H1,I1,r1,q1⟩=>?_);obtain⟨c,rfl,q1⟩:=q1;cases r1;refine dg ?_;cases c with
 |true=>exact hb Ob s1 σ H1 Q I1 q1
 |false=>exact⟨.bl false,H1,I1,rfl,q1⟩
def pe_or(ha:PE X a ta)(hb:PE X (.BoolOp .Or (b::oY) pos) tb):PE X (.BoolOp .Or (a::b::oY) pos) (tOrV ta tb):=by
 intro Ob s σ H Q I h;refine BoolOp_or (thn (ha Ob s σ H _ I h) fun v s1 ⟨x,H1,I1,r1,q1⟩=>?_);obtain⟨c,rfl,q1⟩:=q1;cases r1;refine dg ?_;cases c with
 |false=>exact hb Ob s1 σ H1 Q I1 q1
 |true=>exact⟨.bl true,H1,I1,rfl,q1⟩
def Nh(ha:PE X a ta):PE X (.UnaryOp .Not a pos) (tNotV ta):=by intro Ob s σ H Q I h;refine UnaryOp_ (thn (ha Ob s σ H _ I h) fun v s1 ⟨x,H1,I1,r1,q1⟩=>?_);obtain⟨c,rfl,q1⟩:=q1;cases r1;exact not_of (dg ⟨.bl (!c),H1,I1,rfl,q1⟩)
def tIf(t:TT)(ta tb:TE):TE:=fun σ H Q=>t σ H fun c H1=>if c=true then ta σ H1 Q else tb σ H1 Q
def IM(hc:PT X c tA)(ha:PE X a ta)(hb:PE X b tb):PE X (.IfExp c a b pos) (tIf tA ta tb):=by
 intro Ob s σ H Q I h;refine wpAny_IfExp (thn (hc Ob s σ H _ I h) fun d s1 ⟨H1,I1,q1⟩=>?_);cases d with
 |true=>exact ha Ob s1 σ H1 Q I1 q1
 |false=>exact hb Ob s1 σ H1 Q I1 q1
end
def SqL(K:aa)(H:Hp)(a:al)(xs:List V):Prop :=
 Rd H a (.lst xs) \/
  ∃(o:Obj)(its:Array am)(n:Nat),K.lookup a=some o/\o.cls=.type "list"/\o.dict=none/\o.data=.seq its n/\its.size<=aH/\Vals xs its.toList
def SqT(K:aa)(H:Hp)(a:al)(xs:List V):Prop :=
 Rd H a (.tup xs) \/
  ∃(o:Obj)(its:Array am)(n:Nat),K.lookup a=some o/\o.cls=.type "tuple"/\o.data=.seq its n/\its.size<=aH/\Vals xs its.toList
noncomputable def absV:am->Option V
 |.none=>some .non
 |.bool b=>some (.bl b)
 |.int i _=>some (.int i)
 |.str x _=>some (.str x)
 |.bytes b _=>some (.byt b)
 |.float b _=>some (.flt b)
 |.ref a=>some (.ref a)
 |.type n=>some (.ty n)
 |_=>none
def RelV.abs(r:RelV x u):absV u=some x:=by
 cases x with
 |non=>cases r;rfl
 |bl _=>cases r;rfl
 |int _=>obtain⟨t,rfl⟩:=r;rfl
 |str _=>obtain⟨t,rfl⟩:=r;rfl
 |byt _=>obtain⟨t,rfl⟩:=r;rfl
 |flt _=>obtain⟨t,rfl⟩:=r;rfl
 |ref _=>cases r;rfl
 |ty _=>cases r;rfl
def RelV.inj(r:RelV x u)(q:RelV y u):x=y:=aU (r.abs.symm.trans q.abs)
theorem Vals.inj:∀{xs ys:List V}{us:List am},Vals xs us->Vals ys us->xs=ys
 |_,_,_,.nil,.nil=>rfl
 |_,_,_,.cons r t,.cons r' t'=>by rw[r.inj r',Vals.inj t t']
section
variable{X:Cx}{Ob:List (al×Obj)}{σ:St}{H:Hp}{s:aw}{a:al}{xs ys:List V}
def SqL.of{K:aa}(h:H a=some (.lst xs)):SqL K H a xs:=.inl (.inl h)
def SqT.of{K:aa}(h:H a=some (.tup xs)):SqT K H a xs:=.inl (.inl h)
def Inv.list(I:Inv X Ob σ H s)(h:SqL X.K H a xs):∃its:List am,Vals xs its/\PlainL s.heap a its.toArray/\xs.length<=aH:=by
 rcases h with h|⟨o,its,n,hk,hc,hd,hs,hz,r⟩
 ·obtain⟨z,its,n,r,e⟩:=h.ok I.hok;exact⟨its,r,⟨_,n,e,rfl,rfl,rfl⟩,z⟩
 ·refine⟨its.toList,r,⟨o,n,I.kIn a o hk,hc,hd,by simpa using hs⟩,?_⟩;have e:=r.length;simp only[bS] at e;omega
def Inv.tuple(I:Inv X Ob σ H s)(h:SqT X.K H a xs):∃its:List am,Vals xs its/\IsTup s.heap a its.toArray/\xs.length<=aH:=by
 rcases h with h|⟨o,its,n,hk,hc,hs,hz,r⟩
 ·obtain⟨z,its,r,p⟩:=h.ok I.hok;exact⟨its,r,p,z⟩
 ·refine⟨its.toList,r,⟨o,I.kIn a o hk,hc,n,by simpa using hs⟩,?_⟩;have e:=r.length;simp only[bS] at e;omega
def Inv.list_inj(I:Inv X Ob σ H s)(h:SqL X.K H a xs)(h':SqL X.K H a ys):xs=ys:=by
 obtain⟨its,r,⟨o,n,e,_,_,d⟩,_⟩:=I.list h;obtain⟨its',r',⟨o',n',e',_,_,d'⟩,_⟩:=I.list h';rw[e] at e';cases e';rw[d] at d';injection d' with d1 _
 have:its=its':=by simpa using congrArg Array.toList d1
 subst this;exact r.inj r'
def Inv.tuple_inj(I:Inv X Ob σ H s)(h:SqT X.K H a xs)(h':SqT X.K H a ys):xs=ys:=by
 obtain⟨its,r,⟨o,e,_,n,d⟩,_⟩:=I.tuple h;obtain⟨its',r',⟨o',e',_,n',d'⟩,_⟩:=I.tuple h';rw[e] at e';cases e';rw[d] at d';injection d' with d1 _
 have:its=its':=by simpa using congrArg Array.toList d1
 subst this;exact r.inj r'
end
abbrev Cx.wish(X:Cx)(E:am->aw->Prop):Cx:={ X with xe:=E }
abbrev Cx.nox(X:Cx):Cx:=X.wish fun _ _=>False
theorem Cx.Ok.wish{X:Cx}(ok:X.Ok)(E:am->aw->Prop):(X.wish E).Ok :=
 ⟨ok.mod,ok.kind,ok.glob,ok.blt,ok.above,ok.inj,ok.has,ok.cab,ok.hd,ok.frames,ok.stk,ok.exf,ok.bs,ok.bsz,ok.noex,ok.exfs,ok.funs,ok.frf⟩
def Cx.Ok.unwish{X:Cx}{E:am->aw->Prop}(ok:(X.wish E).Ok):X.Ok :=
 ⟨ok.mod,ok.kind,ok.glob,ok.blt,ok.above,ok.inj,ok.has,ok.cab,ok.hd,ok.frames,ok.stk,ok.exf,ok.bs,ok.bsz,ok.noex,ok.exfs,ok.funs,ok.frf⟩
section
variable{X:Cx}{Ob:List (al×Obj)}{σ:St}{H:Hp}{s:aw}{E:am->aw->Prop}
theorem Inv.wish(I:Inv X Ob σ H s)(E:am->aw->Prop):Inv (X.wish E) Ob σ H s:=⟨I.ok.wish E,I.os,I.bare,I.base,I.loc,I.cell,I.free,I.freeC,I.pin,I.hok,I.len⟩
theorem Inv.unwish(I:Inv (X.wish E) Ob σ H s):Inv X Ob σ H s:=⟨I.ok.unwish,I.os,I.bare,I.base,I.loc,I.cell,I.free,I.freeC,I.pin,I.hok,I.len⟩
theorem SP.unwish(h:SP (X.wish E) Ob D f s'):SP X Ob D f s':=by
 cases f with
 |next=>obtain⟨σ',H',I,q⟩:=h;exact⟨σ',H',I.unwish,q⟩
 |brk=>obtain⟨σ',H',I,q⟩:=h;exact⟨σ',H',I.unwish,q⟩
 |cont=>obtain⟨σ',H',I,q⟩:=h;exact⟨σ',H',I.unwish,q⟩
 |ret u=>obtain⟨v,σ',H',I,r,q⟩:=h;exact⟨v,σ',H',I.unwish,r,q⟩
theorem PSs.nox{st:List bL}{t:TS}(h:PSs X.nox st t):PSs X st t:=fun Ob s σ H D I hw =>
 bK (h Ob s σ H D (I.wish _) hw) (fun _ _ q=>q.unwish) fun _ _ z=>bH z
end
section
variable{X:Cx}{st:bL}{oY:List bL}{t u:TS}{e:bj}{te:TE}{pos:Pos}
def tNext:TS:=fun D σ H=>D.nx σ H
def tSeq(t u:TS):TS:=fun D σ H=>t { D with nx:=u D } σ H
def pss_nil:PSs X [] tNext:=fun _ _ σ H _ I h=>eV ⟨σ,H,I,h⟩
def lM(h1:PS X st t)(h2:PSs X oY u):PSs X (st::oY) (tSeq t u):=by
 intro Ob s σ H D I h;refine iO (thn (h1 Ob s σ H { D with nx:=u D } I h) fun f s1 q=>?_);cases f with
 |next =>
  obtain⟨σ',H',I',q⟩:=q;exact h2 Ob s1 σ' H' D I' q
 |ret v=>exact q
 |brk=>exact q
 |cont=>exact q
def lQ(h1:PS X st t):PSs X [st] t:=by
 intro Ob s σ H D I h;refine iO (thn (h1 Ob s σ H D I h) fun f s1 q=>?_);cases f with
 |next=>exact eV q
 |ret v=>exact q
 |brk=>exact q
 |cont=>exact q
def Inv.quiet(I:Inv X Ob σ H s):interactive X.env=false:=by simp[interactive,I.ok.kind]
def tDrop(te:TE):TS:=fun D σ H=>te σ H fun _ H1=>D.nx σ H1
def nL(he:PE X e te)(hs:fO e none pos.line X.env=pure false:=by rfl):PS X (.Expr e pos) (tDrop te):=by intro Ob s σ H D I h;exact wpAny_Expr_any (thn (he Ob s σ H _ I h) fun v s1 ⟨x,H1,I1,r1,q1⟩=>⟨σ,H1,I1,q1⟩) I.quiet hs
def tRet(te:TE):TS:=fun D σ H=>te σ H D.rt
def qz(he:PE X e te):PS X (.Return (some e) pos) (tRet te):=by intro Ob s σ H D I h;exact wpAny_Return_some (thn (he Ob s σ H _ I h) fun v s1 ⟨x,H1,I1,r1,q1⟩=>⟨x,σ,H1,I1,r1,q1⟩)
def tIfS(c:TT)(t u:TS):TS:=fun D σ H=>c σ H fun b H1=>if b=true then t D σ H1 else u D σ H1
def wL{c:bj}{a b:List bL}{tc:TT}(hc:PT X c tc)(ha:PSs X a t)(hb:PSs X b u):PS X (.If c a b pos) (tIfS tc t u):=by
 intro Ob s σ H D I h;refine wpAny_If (thn (hc Ob s σ H _ I h) fun d s1 ⟨H1,I1,q1⟩=>?_);cases d with
 |true=>exact ha Ob s1 σ H1 D I1 q1
 |false=>exact hb Ob s1 σ H1 D I1 q1
abbrev TG:=V->St->Hp->(St->Hp->Prop)->Prop
abbrev TGs:=List V->St->Hp->(St->Hp->Prop)->Prop
def PG(X:Cx)(OO:bj)(t:TG):Prop :=
 ∀(Ob:List (al×Obj))(s:aw)(σ:St)(H:Hp)(v:V)(u:am)(Q:St->Hp->Prop),Inv X Ob σ H s->RelV v u->t v σ H Q ->
  aZ (model X.prog X.w) X.A (assign OO X.env u) (fun _ s'=>∃σ' H',Inv X Ob σ' H' s'/\Q σ' H') X.xe s
def PGs(X:Cx)(ts:List bj)(t:TGs):Prop :=
 ∀(Ob:List (al×Obj))(s:aw)(σ:St)(H:Hp)(vs:List V)(us:List am)(Q:St->Hp->Prop),Inv X Ob σ H s->Vals vs us->t vs σ H Q ->
  aZ (model X.prog X.w) X.A (kH ((cF ts X.env).map (·.2)) us) (fun _ s'=>∃σ' H',Inv X Ob σ' H' s'/\Q σ' H') X.xe s
abbrev MI:=V->V->V->Hp->(Hp->Prop)->Prop
def PSet(X:Cx)(t:MI):Prop :=
 ∀(Ob:List (al×Obj))(s:aw)(σ:St)(H:Hp)(o i v:V)(ov iv u:am)(Q:Hp->Prop),Inv X Ob σ H s->RelV o ov->RelV i iv->RelV v u->t o i v H Q ->
  aZ (model X.prog X.w) X.A (setItem ov iv u) (fun _ s'=>∃H',Inv X Ob σ H' s'/\Q H') X.xe s
def HQ(i:Nat):TG:=fun v σ H Q=>Q (σ.set i (some v)) H
def Gj(hN:X.N.Nodup)(hi:X.N[i]?=some x)(hx:Loc X.env.scope x)(hf:X.fn x=true\/X.env.scope.names.lookup x=some .local:=by first|exact .inl rfl|exact .inr rfl|assumption):PG X (.Name x pos) (HQ i):=by intro Ob s σ H v u Q I r h;exact wpAny_assign_Name (uP I hN hi hx r (fun s' I'=>⟨_,H,I',h⟩) hf)
def gNil:TGs:=fun vs σ H Q=>vs=[]/\Q σ H
def gCons(t:TG)(u:TGs):TGs:=fun vs σ H Q=>∃v r,vs=v::r/\t v σ H fun σ' H'=>u r σ' H' Q
def pgs_nil:PGs X [] gNil:=by intro Ob s σ H vs us Q I r h;obtain⟨e,h⟩:=h;subst e;cases r;exact assignInOrder_nil ⟨σ,H,I,h⟩
def II{e:bj}{t:TG}{u:TGs}(h1:PG X e t)(h2:PGs X es u)(hs:(cF (e::es) X.env).map (·.2)=assign e X.env::(cF es X.env).map (·.2):=by rfl):PGs X (e::es) (gCons t u):=by
 intro Ob s σ H vs us Q I r h;obtain⟨v,vr,e1,h⟩:=h;subst e1;cases r with
 |cons r rr =>
  rw[hs];refine i7 (thn (h1 Ob s σ H _ _ _ I r h) fun _ s1 ⟨σ1,H1,I1,q1⟩=>?_);exact h2 Ob s1 σ1 H1 _ _ Q I1 rr q1
def gTup(K:aa)(n:Nat)(t:TGs):TG:=fun v σ H Q=>∃a xs,v=.ref a/\SqT K H a xs/\xs.length=n/\t xs σ H Q
def Nc{t:TGs}(hc:X.calm=true)(h:PGs X es t)(hn:(cF es X.env).length=n:=by rfl)(O6:(cF es X.env).findIdx? (·.1)=none:=by rfl):PG X (.Tuple es k pos) (gTup X.K n t):=by
 intro Ob s σ H v u Q I r hw;obtain⟨a,xs,e1,hq,hl,hw⟩:=hw;subst e1;cases r;obtain⟨its,rv,ht,hz⟩:=I.tuple hq;refine assign_Tuple_tuple (I.ok.hd hc) ht (by simp[hn,<-hl,rv.length]) O6 fun h' hx=>?_;have I1:Inv X Ob σ H { s with heap:=h' }:=I.kept (t':=s.toks) fun b o e=>hx b o (a6 (aP e)) e;exact h Ob _ σ H xs _ Q I1 (by simpa using rv) hw
def gSub(to ti:TE)(t:MI):TG:=fun v σ H Q=>to σ H fun o H1=>ti σ H1 fun i H2=>t o i v H2 fun H3=>Q σ H3
def Nd{t:MI}(ho:PE X o to)(hi:PE X i ti)(hs:PSet X t)(ha:∀v,assign (.Subscript o i pos) X.env v=(do
   let ov <-holding [v] (eval o X.env);let iv <-holding [v,ov] (eval i X.env)
   gy pos
   holding [v,ov,iv] (setItem ov iv v)
   release [v,ov,iv] []):=by intro _;rfl):PG X (.Subscript o i pos) (gSub to ti t):=by
 intro Ob s σ H v u Q I r h;rw[ha];refine av (eS (thn (ho Ob s σ H _ I h) fun ov s1 ⟨x,H1,I1,r1,q1⟩=>?_));refine av (eS (thn (hi Ob s1 σ H1 _ I1 q1) fun iv s2 ⟨y,H2,I2,r2,q2⟩=>?_));refine av (gE (av (eS (thn (hs Ob s2 σ H2 x y v ov iv u _ I2 r1 r2 r q2) fun _ s3 ⟨H3,I3,q3⟩=>?_))));exact wpAny_release ⟨σ,H3,I3,q3⟩
def N1(te:TE)(g:TG):TS:=fun D σ H=>te σ H fun x H1=>g x σ H1 D.nx
def JL{tg e:bj}{te:TE}(he:PE X e te)(hg:PG X tg g)(hs:gG [tg] e pos.line X.env=pure false:=by rfl)(hw:gH [tg] e X.env=pure none:=by rfl)(h1:(cF [tg] X.env).map (·.2)=[assign tg X.env]:=by rfl):PS X (.Assign [tg] e pos) (N1 te g):=by
 intro Ob s σ H D I h;refine wpAny_Assign_stores (thn (he Ob s σ H _ I h) fun v s1 ⟨x,H1,I1,r1,q1⟩=>?_) hs hw;rw[h1];exact thn (hg Ob s1 σ H1 x v _ I1 r1 q1) fun _ s2 q=>q
def su{i:Nat}{x:Str}{e:bj}{te:TE}{Oy:Pos}(hN:X.N.Nodup)(hi:X.N[i]?=some x)(hx:Loc X.env.scope x)(he:PE X e te)(hs:fO e (some (.Name x Oy)) pos.line X.env=pure false:=by rfl)(hf:X.fn x=true\/X.env.scope.names.lookup x=some .local:=by first|exact .inl rfl|exact .inr rfl|assumption) :
  PS X (.Assign [.Name x Oy] e pos) (N1 te (HQ i)):=by
 intro Ob s σ H D I h;refine wpAny_Assign_Name (thn (he Ob s σ H _ I h) fun v s1 ⟨y,H1,I1,r1,q1⟩=>?_) hs;exact uP I1 hN hi hx r1 (fun s2 I2=>⟨_,H1,I2,q1⟩) hf
def tPar(i j:Nat)(ta:TA):TS:=fun D σ H=>ta σ H fun vs H1=>∃v w,vs=[v,w]/\D.nx ((σ.set i (some v)).set j (some w)) H1
def M9{kt k2 pt2}(hc:X.calm=true)(hN:X.N.Nodup)(hi:X.N[i]?=some x)(hj:X.N[j]?=some y)(SS:i≠j)(hx:X.env.scope.names.lookup x=some .local)(hy:X.env.scope.names.lookup y=some .local)(ha:PA X [a,b] ta)(hw:gH [.Tuple [.Name x px,.Name y py] kt pt] (.Tuple [a,b] k2 pt2) X.env=pure (some [x,y]))(hs:gG [.Tuple [.Name x px,.Name y py] kt pt] (.Tuple [a,b] k2 pt2) pos.line X.env=pure false:=by rfl) :
  PS X (.Assign [.Tuple [.Name x px,.Name y py] kt pt] (.Tuple [a,b] k2 pt2) pos) (tPar i j ta):=by
 intro Ob s σ H D I h;rw[exec_Assign_arm];refine av (gE ?_);rw[hs];refine av (aS ?_);rw[if_neg (by decide)];refine av (Tuple_ (thn (ha _ Ob s σ H _ I h) fun us s1 ⟨vs,H1,I1,r1,q1⟩=>?_));obtain⟨v,w,e1,q1⟩:=q1;subst e1;obtain⟨u1,u2,rfl,rv,OP⟩:∃u1 u2,us=[u1,u2]/\RelV v u1/\RelV w u2:=by
  cases r1 with
  |cons p q =>
   cases q with
   |cons p' q' =>
    cases q';exact⟨_,_,rfl,p,p'⟩
 refine dR ?_ (by show 2<=aH;decide);have I2:Inv X Ob σ H1 { s1 with heap:=s1.heap.push { cls:=.type "tuple",data:=.seq [u1,u2].toArray } }:=I1.kept (t':=s1.toks) fun b o e=>aG _ e;rw[hw];refine av (aS ?_);show aZ (model X.prog X.w) X.A (do rule "assign.swapped-stores";let items <-unpackItems (.ref s1.heap.objs.size) 2 none;kH [fun v=>kj X.env y v,fun v=>kj X.env x v] items.reverse;pure Flow.next) _ _ _;refine av (wpAny_rule (av (unpackItems_tuple (items:=#[u1,u2]) (I.ok.hd hc) (jP s1.heap _) fun h' SK=>?_)));have I3:=I2.kept (h':=h') (t':=s1.toks) fun b o e=>SK b o (a6 (aP e)) e;show aZ _ _ (kH [fun v=>kj X.env y v,fun v=>kj X.env x v] [u2,u1] >>= fun _=>pure Flow.next) _ _ _;refine av (i7 (wpAny_bindName (uP I3 hN hj (.inl hy) OP (fun s2 I4=>?_) (.inr hy))));refine i7 (wpAny_bindName (uP I4 hN hi (.inl hx) rv (fun s3 I5=>assignInOrder_nil (aS ?_)) (.inr hx)));rw[List.set_comm _ _ (fM SS)] at I5;exact⟨_,H1,I5,q1⟩
noncomputable def MN(c:TT)(tb:TS):TS:=fun D σ H=>∃W:Nat->St->Hp->Prop,(∃m,W m σ H)/\∀m σ H,W m σ H ->
 c σ H fun b H1=>if b=true then ∃N:St->Hp->Prop,(∀σ' H',N σ' H'->∃m',m'<m/\W m' σ' H')/\tb { D with nx:=N,ct:=N,bk:=D.nx } σ H1 else D.nx σ H1
def D4(hp:PassesOwn (model X.prog X.w) X.A X.env X.xe)(hc:PT X c tc)(hb:PSs X body tb):PS X (.While c body [] pos) (MN tc tb):=by
 intro Ob s σ H D I h;obtain⟨W,⟨m0,w0⟩,Pd⟩:=h;refine wpAny_While (codeAny_whileLoop (fun n s'=>∃σ' H',Inv X Ob σ' H' s'/\W n σ' H') ?_ m0 ⟨σ,H,I,w0⟩)
 rintro n s1 ⟨σ1,H1,I1,w1⟩
 refine dL hp (thn (hc Ob s1 σ1 H1 _ I1 (Pd n σ1 H1 w1)) fun b s2 ⟨H2,I2,q2⟩=>?_);cases b with
 |true =>
  obtain⟨N,hN,q2⟩:=q2;rw[if_pos rfl];refine dL hp (thn (hb Ob s2 σ1 H2 _ I2 q2) fun f s3 q3=>?_);cases f with
  |next =>
   obtain⟨σ3,H3,I3,n3⟩:=q3;obtain⟨m',hm,w3⟩:=hN σ3 H3 n3;exact⟨m',hm,σ3,H3,I3,w3⟩
  |cont =>
   obtain⟨σ3,H3,I3,n3⟩:=q3;obtain⟨m',hm,w3⟩:=hN σ3 H3 n3;exact⟨m',hm,σ3,H3,I3,w3⟩
  |brk=>exact q3
  |ret v=>exact q3
 |false =>
  rw[if_neg a8];exact eV ⟨σ1,H2,I2,q2⟩
end
structure It where
 go:Nat->Hp->Prop
 yld:Nat->Hp->V->Hp->Prop
 stop:Nat->Hp->Prop
def EJ(X:Cx)(Ob:List (al×Obj))(H:Hp)(b:al):Prop :=
 H b=none/\b≠X.env.locals/\b∉X.fs/\(b∈X.ex\/X.sa0.heap.objs.size<=b)/\(∀x c,X.env.cells.lookup x=some c->c≠b)/\∀p∈X.pn++Ob,p.1≠b
def Inv.fpOk(I:Inv X Ob σ H s)(hb:s.heap.objs.size<=b)(hn:H' b=none):EJ X Ob H' b:=by
 refine⟨hn,Nat.ne_of_gt (aA I.lt hb),I.nofs hb,.inr (aC I.sz hb),fun x c e z=>?_,fun p hp z=>?_⟩
 ·obtain⟨v,q⟩:=I.cell x c e;exact absurd (aA q.lt (by rw[z];exact hb)) (dE _)
 ·exact absurd (aA (aP (I.pin p hp).1) (by rw[z];exact hb)) (dE _)
structure Turn(P:aI)(w:aX)(K:aa)(tg:bj)(J:It)(fp:List al)(it:al)(tn:Nat->bA->Prop):Prop where
 mem:it∈fp
 obj:∀i h,tn i h->∀b∈fp,∃o,h.get? b=some o/\∀v,o.data≠.cell v
 keep:∀i h h',tn i h->(∀b∈fp,∀o,h.get? b=some o->h'.get? b=some o)->tn i h'
 item:∀(X:Cx),X.prog=P->X.w=w->X.K=K->X.calm=true->∀(i:Nat)(Ob:List (al×Obj))(s:aw)(σ:St)(H:Hp)(E:am->aw->Prop),Inv X Ob σ H s->(∀b∈fp,EJ X Ob H b)->tn i s.heap->J.go i H ->
  aZ (model P w) X.A (pyNext (.ref it)) (fun r s1=>∃u,r=some u /\
   aZ (model P w) X.A (ig tg (.ref it) u) (fun _ s2=>∃x H',Inv X Ob σ H' s2/\RelV x u/\J.yld i H x H'/\tn (i+1) s2.heap/\∀b∈fp,H' b=none) E s1) E s
 done:∀(X:Cx),X.prog=P->X.w=w->X.K=K->X.calm=true->∀(i:Nat)(Ob:List (al×Obj))(s:aw)(σ:St)(H:Hp)(E:am->aw->Prop),Inv X Ob σ H s->(∀b∈fp,EJ X Ob H b)->tn i s.heap->J.stop i H ->
  aZ (model P w) X.A (pyNext (.ref it)) (fun r s1=>r=none/\Inv X Ob σ H s1) E s
 self:∀(A:cq)(i:Nat)(s:aw)(Q:am->aw->Prop)(E:am->aw->Prop),tn i s.heap->Q (.ref it) s->aZ (model P w) A (pyIter (.ref it)) Q E s
abbrev TI:=St->Hp->(It->Hp->Prop)->Prop
def PIE(X:Cx)(Ob:List (al×Obj))(σ:St)(tg:bj)(R:It->Hp->Prop)(RH:am)(s2:aw):Prop :=
 ∃(it:al)(fp:List al)(tn:Nat->bA->Prop)(J:It)(H':Hp),RH=.ref it/\Inv X Ob σ H' s2/\Turn X.prog X.w X.K tg J fp it tn/\tn 0 s2.heap/\(∀b∈fp,EJ X Ob H' b)/\R J H'
def PI(X:Cx)(tg iter:bj)(wi:TI):Prop :=
 ∀(Ob:List (al×Obj))(s:aw)(σ:St)(H:Hp)(R:It->Hp->Prop),Inv X Ob σ H s->wi σ H R ->
  aZ (model X.prog X.w) X.A (eval iter X.env) (fun v s1=>aZ (model X.prog X.w) X.A (pyIter v) (PIE X Ob σ tg R) X.xe s1) X.xe s
def Fo(ho:s.heap.get? it=some o)(hc:o.cls=.type n)(hd:o.data=.fields vs)(hn:["enumerate","zip","dict_itemiterator","dict_reverseitemiterator","odict_iterator","itertools.zip_longest","itertools.pairwise"].contains n=false)(hQ:Q () s):aZ M A (ig tg (.ref it) u) Q E s:=by
 unfold ig;cases tg<;>first
  |exact aS hQ
  | (cases u<;>first
    |exact aS hQ
    | (refine av (wpAny_load ho ?_)
       rw[hc,hd];show aZ M A (if(["enumerate","zip","dict_itemiterator","dict_reverseitemiterator","odict_iterator","itertools.zip_longest","itertools.pairwise"].contains n&&vs[0]?==some (rawInt _))=true then _ else _) Q E s;rw[if_neg (by intro h;rw[hn,cB] at h;cases h)];exact aS hQ))
def Itl(K:aa)(a:al):It :=
 ⟨fun i H=>∃xs x,SqL K H a xs/\xs[i]?=some x,fun i H x H'=>H'=H/\∀xs,SqL K H a xs->xs[i]?=some x,fun i H=>∃xs,SqL K H a xs/\xs.length<=i⟩
def Itt(K:aa)(a:al):It :=
 ⟨fun i H=>∃xs x,SqT K H a xs/\xs[i]?=some x,fun i H x H'=>H'=H/\∀xs,SqT K H a xs->xs[i]?=some x,fun i H=>∃xs,SqT K H a xs/\xs.length<=i⟩
def Itr(lo:Int)(n:Nat):It:=⟨fun i _=>i<n,fun i H x H'=>H'=H/\x=.int (lo+i),fun i _=>n<=i⟩
def Bj{P:aI}{w:aX}{K:aa}{tg:bj}(a it:al):Turn P w K tg (Itl K a) [it] it (fun i h=>h.IsListIter it a i) where
 mem:=by simp
 obj:=fun i h st b hb=>by
  have e:b=it:=by simpa using hb
  subst e;obtain⟨o,e,c,d⟩:=st;exact⟨o,e,fun v z=>by rw[d] at z;cases z⟩
 keep:=fun i h h' st k=>st.at fun o e=>k it (by simp) o e
 item:=by intro X hP hw hK hc i Ob s σ H E I hf st hg;subst hP hw hK;obtain⟨xs,x,hq,hx⟩:=hg;obtain⟨its,rv,p,hz⟩:=I.list hq;obtain⟨u,hu,ru⟩:=rv.get hx;obtain⟨f0,f1,f2,f3,f4,f5⟩:=hf it (by simp);refine wpAny_pyNext_list_item st p.isList (x:=u) (by simpa using hu) fun h' Ps sb=>?_;have I1:Inv X Ob σ H { s with heap:=h' }:=I.turned (t':=s.toks) (fun b o hb e=>(sb.2 b hb).trans e) f0 f1 f3 f4 f5;obtain⟨o,e,c,d⟩:=id Ps;exact⟨u,rfl,Fo (s:={ s with heap:=h' }) e c d (by decide) ⟨x,H,I1,ru,⟨rfl,fun ys hy=>by rw[I.list_inj hy hq];exact hx⟩,Ps,fun b hb=>(hf b hb).1⟩⟩
 done:=by intro X hP hw hK hc i Ob s σ H E I hf st hg;subst hP hw hK;obtain⟨xs,hq,hx⟩:=hg;obtain⟨its,rv,p,hz⟩:=I.list hq;obtain⟨f0,f1,f2,f3,f4,f5⟩:=hf it (by simp);have hl:=rv.length;exact wpAny_pyNext_list_end (I.ok.hd hc) st p.isList (by simp;omega) fun h' eb=>⟨rfl,I.turned (t':=s.toks) (fun b o hb e=>eb b o hb e) f0 f1 f3 f4 f5⟩
 self:=fun _ _ _ _ _ st h=>wpAny_pyIter_listiter st h
def EL{P:aI}{w:aX}{K:aa}{tg:bj}(a it:al):Turn P w K tg (Itt K a) [it] it (fun i h=>h.IsTupleIter it a i) where
 mem:=by simp
 obj:=fun i h st b hb=>by
  have e:b=it:=by simpa using hb
  subst e;obtain⟨o,e,c,d⟩:=st;exact⟨o,e,fun v z=>by rw[d] at z;cases z⟩
 keep:=fun i h h' st k=>st.at fun o e=>k it (by simp) o e
 item:=by intro X hP hw hK hc i Ob s σ H E I hf st hg;subst hP hw hK;obtain⟨xs,x,hq,hx⟩:=hg;obtain⟨its,rv,p,hz⟩:=I.tuple hq;obtain⟨u,hu,ru⟩:=rv.get hx;obtain⟨f0,f1,f2,f3,f4,f5⟩:=hf it (by simp);refine wpAny_pyNext_tuple_item st (show s.heap.IsTuple a its.toArray from p) (x:=u) (by simpa using hu) fun h' Ps sb=>?_;have I1:Inv X Ob σ H { s with heap:=h' }:=I.turned (t':=s.toks) (fun b o hb e=>(sb.2 b hb).trans e) f0 f1 f3 f4 f5;obtain⟨o,e,c,d⟩:=id Ps;exact⟨u,rfl,Fo (s:={ s with heap:=h' }) e c d (by decide) ⟨x,H,I1,ru,⟨rfl,fun ys hy=>by rw[I.tuple_inj hy hq];exact hx⟩,Ps,fun b hb=>(hf b hb).1⟩⟩
 done:=by intro X hP hw hK hc i Ob s σ H E I hf st hg;subst hP hw hK;obtain⟨xs,hq,hx⟩:=hg;obtain⟨its,rv,p,hz⟩:=I.tuple hq;obtain⟨f0,f1,f2,f3,f4,f5⟩:=hf it (by simp);have hl:=rv.length;exact wpAny_pyNext_tuple_end (I.ok.hd hc) st (show s.heap.IsTuple a its.toArray from p) (by simp;omega) fun h' eb=>⟨rfl,I.turned (t':=s.toks) (fun b o hb e=>eb b o hb e) f0 f1 f3 f4 f5⟩
 self:=fun _ _ _ _ _ st h=>wpAny_pyIter_tupleiter st h
def EM{P:aI}{w:aX}{K:aa}{tg:bj}(it:al)(lo:Int)(n:Nat):Turn P w K tg (Itr lo n) [it] it (fun i h=>IsRangeIter h it (lo+(i:Nat)*1) ((n:Int)-(i:Nat)) 1) where
 mem:=by simp
 obj:=fun i h st b hb=>by
  have e:b=it:=by simpa using hb
  subst e;exact⟨_,st,fun v z=>by have z':Data.fields _=Data.cell v:=z;cases z'⟩
 keep:=fun i h h' st k=>k it (by simp) _ st
 item:=by intro X hP hw hK hc i Ob s σ H E I hf st hg;subst hP hw hK;obtain⟨f0,f1,f2,f3,f4,f5⟩:=hf it (by simp);have W:=Walks.range (prog:=X.prog) (w:=X.w) (I.ok.hd hc) it lo 1 n;refine W.item i s _ _ hg st fun v h' tk hv Ps kk=>?_;obtain⟨t,rfl⟩:=hv;have I1:Inv X Ob σ H { s with heap:=h',toks:=tk }:=I.turned (fun b o hb e=>kk b o (by simpa using hb) e) f0 f1 f3 f4 f5;refine⟨_,rfl,Fo (s:={ s with heap:=h',toks:=tk }) (n:="range_iterator") Ps rfl rfl (by decide) ⟨.int (lo+i),H,I1,⟨t,?_⟩,⟨rfl,rfl⟩,Ps,fun b hb=>(hf b hb).1⟩⟩;rw[kQ]
 done:=by intro X hP hw hK hc i Ob s σ H E I hf st hg;subst hP hw hK;obtain⟨f0,f1,f2,f3,f4,f5⟩:=hf it (by simp);exact wpAny_pyNext_range_end (I.ok.hd hc) st (by have:n<=i:=hg;omega) fun h' eb=>⟨rfl,I.turned (t':=s.toks) (fun b o hb e=>eb b o hb e) f0 f1 f3 f4 f5⟩
 self:=fun _ _ _ _ _ st h=>wpAny_pyIter_rangeiter st h
section
variable{X:Cx}{tg:bj}
def iList(K:aa)(tl:TE):TI:=fun σ H R=>tl σ H fun x H1=>∃a,x=.ref a/\(∃xs,SqL K H1 a xs)/\R (Itl K a) H1
def K0{l:bj}{tl:TE}(hl:PE X l tl):PI X tg l (iList X.K tl):=by
 intro Ob s σ H R I h;refine thn (hl Ob s σ H _ I h) fun v s1 ⟨x,H1,I1,r1,q1⟩=>?_;obtain⟨a,e,⟨xs,hq⟩,q⟩:=q1;subst e;cases r1;obtain⟨its,rv,p,hz⟩:=I1.list hq;refine jg p.isList ?_;refine⟨s1.heap.objs.size,[s1.heap.objs.size],_,_,H1,rfl,I1.kept (t':=s1.toks) fun b o e=>aG _ e,Bj a _,⟨_,bC _ rfl,rfl,rfl⟩,fun b hb=>?_,q⟩;have e:b=s1.heap.objs.size:=by simpa using hb
 subst e;exact I1.fpOk (ax _) (I1.hok.fresh (ax _))
def IB{Ob:List (al×Obj)}{σ:St}{H:Hp}{s:aw}{R:It->Hp->Prop}{E:am->aw->Prop}{lo hi:Int}{t u v:Tok}{tk:Nat}(I:Inv X Ob σ H s)(h1:-(2^62)<=lo)(h2:lo<2^62)(h3:-(2^62)<=hi)(h4:hi<2^62)(q:R (Itr lo (hi-lo).toNat) H):aZ (model X.prog X.w) X.A (pyIter (.ref s.heap.objs.size)) (PIE X Ob σ tg R) E { s with heap:=s.heap.push { cls:=.type "range",data:=.fields #[.int lo t,.int hi u,.int 1 v] },toks:=tk }:=by
 refine wpAny_pyIter_range (IsRange.new ..) (small_one h1 h2 h3 h4) ?_;have I1:Inv X Ob σ H { s with heap:=s.heap.push { cls:=.type "range",data:=.fields #[.int lo t,.int hi u,.int 1 v] },toks:=tk }:=I.kept fun b o e=>aG _ e;refine⟨(s.heap.push { cls:=.type "range",data:=.fields #[.int lo t,.int hi u,.int 1 v] }).objs.size,[(s.heap.push { cls:=.type "range",data:=.fields #[.int lo t,.int hi u,.int 1 v] }).objs.size],_,_,H,rfl,
  I1.kept (t':=tk) fun b o e=>aG _ e,EM _ lo (hi-lo).toNat,?_,fun b hb=>?_,q⟩
 ·have e1:lo+((0:Nat):Int)*1=lo:=by simp
  have e2:(((hi-lo).toNat:Nat):Int)-((0:Nat):Int)=Builtin.Range.rangeSize lo hi 1:=by rw[rangeSize_one];split<;>omega
  show IsRangeIter _ _ (lo+((0:Nat):Int)*1) ((((hi-lo).toNat:Nat):Int)-((0:Nat):Int)) 1;rw[e1,e2];exact bC _ rfl
 ·have e:b=(s.heap.push { cls:=.type "range",data:=.fields #[.int lo t,.int hi u,.int 1 v] }).objs.size:=by simpa using hb
  subst e;exact I1.fpOk (ax _) (I1.hok.fresh (ax _))
def iRng1(ta:TA):TI:=fun σ H R=>ta σ H fun vs H1=>∃j:Int,vs=[.int j]/\-(2^62)<=j/\j<2^62/\R (Itr 0 j.toNat) H1
def G6{a:bj}{ta:TA}{p pos:Pos}(hg:Gl X "range")(hm:X.mg "range"=none)(ha:PA X [a] ta)(hs:aK [a] X.env=[(false,eval a X.env)]:=by rfl):PI X tg (.Call (.Name "range" p) [a] [] pos) (iRng1 ta):=by
 intro Ob s σ H R I h;refine Call_ (C9 I hg hm boot_range (iw (thn (ha pos Ob s σ H _ I h) fun us s1 ⟨vs,H1,I1,r1,q1⟩=>?_) hs rfl));obtain⟨j,e,q1,q2,q⟩:=q1;subst e;cases r1 with
 |cons r rr =>
  cases rr;obtain⟨t,rfl⟩:=r;exact call_range_1 (IB I1 (by omega) (by omega) q1 q2 (by simpa using q))
noncomputable def tFor(wi:TI)(g:TG)(tb:TS):TS:=fun D σ H=>wi σ H fun J H1=>∃W:Nat->Nat->St->Hp->Prop,(∃m,W 0 m σ H1)/\∀i m σ H,W i m σ H ->
 (J.stop i H/\D.nx σ H)\/(J.go i H/\∃N:St->Hp->Prop,(∀σ' H',N σ' H'->∃m',m'<m/\W (i+1) m' σ' H')/\∀x H',J.yld i H x H'->g x σ H' fun σ2 H2=>tb { D with nx:=N,ct:=N,bk:=D.nx } σ2 H2)
def Aq(fp:List al)(h:bA):List (al×Obj):=fp.filterMap fun b=>(h.get? b).map fun o=>(b,o)
def tD(hb:b∈fp)(e:h.get? b=some o):(b,o)∈Aq fp h:=iC.mpr ⟨b,hb,by rw[e];rfl⟩
def Hg(hp:p∈Aq fp h):p.1∈fp/\h.get? p.1=some p.2:=by
 obtain⟨b,hb,e⟩:=iC.mp hp;cases q:h.get? b with
 |none=>rw[q] at e;cases e
 |some o =>
  rw[q] at e;have e':(b,o)=p:=aU e;subst e';exact⟨hb,q⟩
def Inv.pinned(I:Inv X Ob σ H s)(hf:∀b∈fp,EJ X Ob H b)(ho:∀b∈fp,∃o,s.heap.get? b=some o/\∀v,o.data≠.cell v):Inv X (Ob++Aq fp s.heap) σ H s :=
 I.pins_of fun p hp=>(aJ.mp hp).elim (fun z=>I.pin p (aB _ z)) fun z=>by obtain⟨hb,e⟩:=Hg z;obtain⟨f0,f1,f2,_⟩:=hf p.1 hb;obtain⟨o,e',d⟩:=ho p.1 hb;rw[e] at e';cases e';exact⟨e,f0,f1,f2,d⟩
def Inv.unpinned(I:Inv X (Ob++pl) σ H s):Inv X Ob σ H s:=I.pins_of fun p hp=>I.pin p (aB _ (a7 _ hp))
def Na(hp:PassesOwn (model X.prog X.w) X.A X.env X.xe)(hc:X.calm=true)(hi:PI X tg iter wi)(hg:PG X tg g)(hb:PSs X body tb)(hs:∀x,cr iter X.env x=pure x:=by intro _;rfl):PS X (.For tg iter body [] pos) (tFor wi g tb):=by
 intro Ob s σ H D I h;refine wpAny_For (thn (hi Ob s σ H _ I h) fun v s1 h1=>thn h1 fun RH s2 h2=>?_) hs;obtain⟨it,fp,tn,J,H2,e,I2,T,Pg,f2,W,⟨m0,w0⟩,Pd⟩:=h2;subst e;have Pf:∀{H':Hp},(∀b∈fp,H' b=none)->∀b∈fp,EJ X Ob H' b:=fun hn b hb=>⟨hn b hb,(f2 b hb).2⟩;refine codeAny_forLoop_any (fun n s'=>∃i σ' H',Inv X Ob σ' H' s'/\tn i s'.heap/\(∀b∈fp,H' b=none)/\W i n σ' H') ?_ m0 ⟨0,σ,H2,I2,Pg,fun b hb=>(f2 b hb).1,w0⟩
 rintro n s3 ⟨i,σ3,H3,I3,RA,fr3,w3⟩
 rcases Pd i n σ3 H3 w3 with⟨stop,qn⟩|⟨go,N,hN,step⟩
 ·refine dL hp (thn (T.done X rfl rfl rfl hc i Ob s3 σ3 H3 X.xe I3 (Pf fr3) RA stop) fun r s4 ⟨hr,I4⟩=>?_);subst hr;exact eV ⟨σ3,H3,I4,qn⟩
 ·refine dL hp (thn (T.item X rfl rfl rfl hc i Ob s3 σ3 H3 X.xe I3 (Pf fr3) RA go) fun r s4 ⟨u,hr,h4⟩=>?_);subst hr;refine dL hp (thn h4 fun _ s5 ⟨x,H5,I5,r5,y5,st5,fr5⟩=>?_);have I5':=I5.pinned (Pf fr5) (T.obj _ _ st5);refine dL hp (thn (hg _ s5 σ3 H5 x u _ I5' r5 (step x H5 y5)) fun _ s6 ⟨σ6,H6,I6,q6⟩=>?_);refine dL hp (thn (hb _ s6 σ6 H6 _ I6 q6) fun f s7 q7=>?_);have again:∀{σ7:St}{H7:Hp},Inv X (Ob++Aq fp s5.heap) σ7 H7 s7->N σ7 H7->∃m,m<n/\∃i σ' H',Inv X Ob σ' H' s7/\tn i s7.heap/\(∀b∈fp,H' b=none)/\W i m σ' H':=fun{σ7 H7} I7 n7=>by obtain⟨m',hm,w7⟩:=hN σ7 H7 n7;refine⟨m',hm,i+1,σ7,H7,I7.unpinned,T.keep _ _ _ st5 fun b hb o e=>(I7.pin (b,o) (aB _ (aB _ (tD hb e)))).1,fun b hb=>?_,w7⟩;obtain⟨o,e,d⟩:=T.obj _ _ st5 b hb;exact(I7.pin (b,o) (aB _ (aB _ (tD hb e)))).2.1
  cases f with
  |next=>obtain⟨σ7,H7,I7,n7⟩:=q7;exact again I7 n7
  |cont=>obtain⟨σ7,H7,I7,n7⟩:=q7;exact again I7 n7
  |brk=>obtain⟨σ7,H7,I7,q7⟩:=q7;exact⟨σ7,H7,I7.unpinned,q7⟩
  |ret v=>obtain⟨x7,σ7,H7,I7,r7,q7⟩:=q7;exact⟨x7,σ7,H7,I7.unpinned,r7,q7⟩
end
abbrev R2:=V->V->Hp->VK->Prop
def OpR(X:Cx)(f:am->am->Sem am)(r:R2):Prop :=
 ∀(Ob:List (al×Obj))(s:aw)(σ:St)(H:Hp)(x y:V)(v u:am)(Q:VK),Inv X Ob σ H s->RelV x v->RelV y u->r x y H Q ->
  aZ (model X.prog X.w) X.A (f v u) (EP X Ob σ Q) X.xe s
def UnR(X:Cx)(f:am->Sem am)(r:V->Hp->VK->Prop):Prop :=
 ∀(Ob:List (al×Obj))(s:aw)(σ:St)(H:Hp)(x:V)(v:am)(Q:VK),Inv X Ob σ H s->RelV x v->r x H Q ->
  aZ (model X.prog X.w) X.A (f v) (EP X Ob σ Q) X.xe s
def CallR(X:Cx)(f:am)(r:List V->Hp->VK->Prop):Prop :=
 ∀(Ob:List (al×Obj))(s:aw)(σ:St)(H:Hp)(xs:List V)(us:List am)(Q:VK),Inv X Ob σ H s->Vals xs us->r xs H Q ->
  aZ (model X.prog X.w) X.A (call f us) (EP X Ob σ Q) X.xe s
def tOp(r:R2)(ta tb:TE):TE:=fun σ H Q=>ta σ H fun x H1=>tb σ H1 fun y H2=>r x y H2 Q
def tUn(r:V->Hp->VK->Prop)(ta:TE):TE:=fun σ H Q=>ta σ H fun x H1=>r x H1 Q
def rI(C:Int->Int->Prop)(g:Int->Int->V):R2:=fun x y H Q=>∃i j,x=.int i/\y=.int j/\C i j/\Q (g i j) H
def rI0(g:Int->Int->V):R2:=fun x y H Q=>∃i j,x=.int i/\y=.int j/\Q (g i j) H
def rU(g:Int->V):V->Hp->VK->Prop:=fun x H Q=>∃i,x=.int i/\Q (g i) H
section
variable{X:Cx}{a b c:bj}{ta tb tc:TE}{pos:Pos}
def Oa(ha:PE X a ta)(hb:PE X b tb){Ob:List (al×Obj)}{s:aw}{σ:St}{H:Hp}{R:V->V->Hp->Prop}(I:Inv X Ob σ H s)(h:ta σ H fun x H1=>tb σ H1 fun y H2=>R x y H2){Q:am->aw->Prop}{f:am->am->Sem am}(hf:∀v u s2 x y H2,Inv X Ob σ H2 s2->RelV x v->RelV y u->R x y H2->aZ (model X.prog X.w) X.A (f v u) Q X.xe s2) :
  aZ (model X.prog X.w) X.A (eval a X.env) (fun v Op=>aZ (model X.prog X.w) X.A (eval b X.env) (fun u PH=>aZ (model X.prog X.w) X.A (f v u) Q X.xe PH) X.xe Op) X.xe s:=by
 refine thn (ha Ob s σ H _ I h) fun v s1 ⟨x,H1,I1,r1,q1⟩=>?_;refine thn (hb Ob s1 σ H1 _ I1 q1) fun u s2 ⟨y,H2,I2,r2,q2⟩=>?_;exact hf v u s2 x y H2 I2 r1 r2 q2
def tT{op:Operator}{r:R2}(ho:OpR X (dk op) r)(ha:PE X a ta)(hb:PE X b tb):PE X (.BinOp a op b pos) (tOp r ta tb):=by intro Ob s σ H Q I h;exact wpAny_BinOp (Oa ha hb I h fun v u s2 x y H2 I2 rx ry q=>ho Ob s2 σ H2 x y v u Q I2 rx ry q)
def Mo{op:UnaryOp}{r:V->Hp->VK->Prop}(ho:UnR X (unaryOp op) r)(ha:PE X a ta):PE X (.UnaryOp op a pos) (tUn r ta):=by intro Ob s σ H Q I h;exact UnaryOp_ (thn (ha Ob s σ H _ I h) fun v s1 ⟨x,H1,I1,r1,q1⟩=>ho Ob s1 σ H1 x v Q I1 r1 q1)
def opI{f:am->am->Sem am}{C:Int->Int->Prop}{g:Int->Int->Int}(rule:∀(i j:Int)(t u:Tok)(s:aw)(Q:am->aw->Prop)(E:am->aw->Prop),C i j->Q (.int (g i j) s.toks) { s with toks:=s.toks+1 }->aZ (model X.prog X.w) X.A (f (.int i t) (.int j u)) Q E s) :
  OpR X f (rI C fun i j=>.int (g i j)):=by
 intro Ob s σ H x y v u Q I rx ry h;obtain⟨i,j,rfl,rfl,hc,q⟩:=h;obtain⟨t,rfl⟩:=rx;obtain⟨t',rfl⟩:=ry;exact rule i j t t' s _ _ hc ⟨.int (g i j),H,I.tok _,⟨_,rfl⟩,q⟩
def opI0{f:am->am->Sem am}{g:Int->Int->Int}(rule:∀(i j:Int)(t u:Tok)(s:aw)(Q:am->aw->Prop)(E:am->aw->Prop),Q (.int (g i j) s.toks) { s with toks:=s.toks+1 }->aZ (model X.prog X.w) X.A (f (.int i t) (.int j u)) Q E s) :
  OpR X f (rI0 fun i j=>.int (g i j)):=by
 intro Ob s σ H x y v u Q I rx ry h;obtain⟨i,j,rfl,rfl,q⟩:=h;obtain⟨t,rfl⟩:=rx;obtain⟨t',rfl⟩:=ry;exact rule i j t t' s _ _ ⟨.int (g i j),H,I.tok _,⟨_,rfl⟩,q⟩
def Ms{f:am->am->Sem am}{g:Int->Int->Bool}(rule:∀(i j:Int)(t u:Tok)(s:aw)(Q:am->aw->Prop)(E:am->aw->Prop),Q (.bool (g i j)) s->aZ (model X.prog X.w) X.A (f (.int i t) (.int j u)) Q E s) :
  OpR X f (rI0 fun i j=>.bl (g i j)):=by
 intro Ob s σ H x y v u Q I rx ry h;obtain⟨i,j,rfl,rfl,q⟩:=h;obtain⟨t,rfl⟩:=rx;obtain⟨t',rfl⟩:=ry;exact rule i j t t' s _ _ ⟨.bl (g i j),H,I,rfl,q⟩
def CPow(i j:Int):Prop:=0<=j/\j<=1000000/\i.natAbs<2^64
def CMul(i j:Int):Prop:=(-(2^64)<i/\i<2^64)\/(-(2^64)<j/\j<2^64)
def CMul.ok(h:CMul i j):IntMulOk i j:=by
 rcases h with⟨h1,h2⟩|⟨h1,h2⟩
 ·exact .of_left (intBits_le_64 h1 h2)
 ·exact .of_right (intBits_le_64 h1 h2)
def op_add:OpR X (dk .Add) (rI0 fun i j=>.int (i+j)):=opI0 fun _ _ _ _ _ _ _ q=>add_int q
def No:OpR X (dk .Sub) (rI0 fun i j=>.int (i-j)):=opI0 fun _ _ _ _ _ _ _ q=>sub_int q
def Nt:OpR X (dk .Mult) (rI CMul fun i j=>.int (i*j)):=opI fun _ _ _ _ _ _ _ hc q=>mul_int q hc.ok
def JQ:OpR X (dk .Mod) (rI (fun _ j=>0<j) fun i j=>.int (i%j)):=opI fun i j _ _ _ _ _ hc q=>by have h1:(0:Int)<j:=hc;exact mod_int' (by omega) (by rw[Int.fmod_eq_emod_of_nonneg i (by omega)];exact q)
def Nq:OpR X (dk .Pow) (rI CPow fun i j=>.int (i^j.toNat)):=opI fun _ _ _ _ _ _ _ hc q=>pow_int_small hc.1 hc.2.1 hc.2.2 q
def unI{f:am->Sem am}{g:Int->Int}(rule:∀(i:Int)(t:Tok)(s:aw)(Q:am->aw->Prop)(E:am->aw->Prop),Q (.int (g i) s.toks) { s with toks:=s.toks+1 }->aZ (model X.prog X.w) X.A (f (.int i t)) Q E s) :
  UnR X f (rU fun i=>.int (g i)):=by
 intro Ob s σ H x v Q I rx h;obtain⟨i,rfl,q⟩:=h;obtain⟨t,rfl⟩:=rx;exact rule i t s _ _ ⟨.int (g i),H,I.tok _,⟨_,rfl⟩,q⟩
def JC:UnR X (unaryOp .USub) (rU fun i=>.int (-i)):=unI fun _ _ _ _ _ q=>neg_int q
noncomputable def scal:V->V->Bool
 |.non,.non=>true|.non,.int _=>true|.int _,.non=>true|.non,.bl _=>true|.bl _,.non=>true|.non,.str _=>true|.str _,.non=>true
 |.int _,.int _=>true|.bl _,.bl _=>true|.str _,.str _=>true|.byt _,.byt _=>true
 |.int _,.str _=>true|.str _,.int _=>true|.bl _,.str _=>true|.str _,.bl _=>true
 |_,_=>false
def rNe:R2:=fun x y H Q=>scal x y=true/\Q (.bl (!decide (x=y))) H
def LQ:decide (V.int i=V.int j)=(i==j):=by rw[bM];simp
def NR:decide (V.bl i=V.bl j)=(i==j):=by rw[bM];simp
def LP:decide (V.str i=V.str j)=(i==j):=by rw[bM];simp
def LR:decide (V.byt i=V.byt j)=(i.toList==j.toList):=by rw[bM];cases i;cases j;simp
def pb(I:Inv X Ob σ H s)(q:Q (.bl k) H)(e:k=k'):EP X Ob σ Q (.bool k') s:=by subst e;exact⟨.bl k,H,I,rfl,q⟩
def op_ne:OpR X (b9 .NotEq) rNe:=by
 intro Ob s σ H x y v u Q I rx ry h;obtain⟨hs,q⟩:=h;cases x with
 |non =>
  cases rx;cases y with
  |non=>cases ry;exact PySem.EqNone.ne_none_none (pb I q (by simp))
  |bl j=>cases ry;exact PySem.EqNone.ne_none_bool (pb I q (by simp))
  |int j=>obtain⟨t',rfl⟩:=ry;exact PySem.EqNone.ne_none_int (pb I q (by simp))
  |str j=>obtain⟨t',rfl⟩:=ry;exact PySem.EqNone.ne_none_str (pb I q (by simp))
  |_=>exact absurd (show false=true from hs) a8
 |bl i =>
  cases rx;cases y with
  |non=>cases ry;exact PySem.EqNone.ne_bool_none (pb I q (by simp))
  |bl j=>cases ry;exact ne_bool (pb I q (congrArg not NR))
  |str j=>obtain⟨t',rfl⟩:=ry;exact PySem.EqMixed.ne_bool_str (pb I q (by simp))
  |_=>exact absurd (show false=true from hs) a8
 |int i =>
  obtain⟨t,rfl⟩:=rx;cases y with
  |non=>cases ry;exact PySem.EqNone.ne_int_none (pb I q (by simp))
  |int j=>obtain⟨t',rfl⟩:=ry;exact ne_int (pb I q (congrArg not LQ))
  |str j=>obtain⟨t',rfl⟩:=ry;exact PySem.EqMixed.ne_int_str (pb I q (by simp))
  |_=>exact absurd (show false=true from hs) a8
 |str i =>
  obtain⟨t,rfl⟩:=rx;cases y with
  |non=>cases ry;exact PySem.EqNone.ne_str_none (pb I q (by simp))
  |bl j=>cases ry;exact PySem.EqMixed.ne_str_bool (pb I q (by simp))
  |int j=>obtain⟨t',rfl⟩:=ry;exact PySem.EqMixed.ne_str_int (pb I q (by simp))
  |str j=>obtain⟨t',rfl⟩:=ry;exact ne_str (pb I q (congrArg not LP))
  |_=>exact absurd (show false=true from hs) a8
 |byt i =>
  obtain⟨t,rfl⟩:=rx;cases y with
  |byt j=>obtain⟨t',rfl⟩:=ry;exact PySem.W.ne_bytes (pb I q (congrArg not LR))
  |_=>exact absurd (show false=true from hs) a8
 |_=>cases y<;>exact absurd (show false=true from hs) a8
def Mq:OpR X (b9 .Lt) (rI0 fun i j=>.bl (decide (i<j))):=Ms fun _ _ _ _ _ _ _ q=>lt_int q
def HN:OpR X (b9 .LtE) (rI0 fun i j=>.bl (decide (i<=j))):=Ms fun _ _ _ _ _ _ _ q=>le_int q
def Mr:OpR X (b9 .Gt) (rI0 fun i j=>.bl (decide (j<i))):=Ms fun _ _ _ _ _ _ _ q=>gt_int q
def Kg:OpR X (b9 .GtE) (rI0 fun i j=>.bl (decide (j<=i))):=Ms fun _ _ _ _ _ _ _ q=>ge_int q
def OpR.or(h:OpR X f r)(h':OpR X f r'):OpR X f (fun x y H Q=>r x y H Q\/r' x y H Q):=by
 intro Ob s σ H x y v u Q I rx ry q;rcases q with q|q
 ·exact h Ob s σ H x y v u Q I rx ry q
 ·exact h' Ob s σ H x y v u Q I rx ry q
def vJ(b:bj)(h:op≠.In:=by decide)(h2:op≠.NotIn:=by decide):cH op b=false:=by
 have e1:(op==CmpOp.In)=false:=by cases op<;>first|rfl|exact absurd rfl h
 have e2:(op==CmpOp.NotIn)=false:=by cases op<;>first|rfl|exact absurd rfl h2
 cases b<;>simp[cH,e1,e2]
def Gn{op:CmpOp}{r:R2}(ho:OpR X (b9 op) r)(ha:PE X a ta)(hb:PE X b tb)(hm:cH op b=false):PE X (.Compare a [op] [b] pos) (tOp r ta tb):=by intro Ob s σ H Q I h;exact wpAny_Compare1 (Oa ha hb I h fun v u s2 x y H2 I2 rx ry q=>ho Ob s2 σ H2 x y v u Q I2 rx ry q) hm
def tTest(t:TE):TT:=fun σ H Q=>t σ H fun x H'=>∃k,x=.bl k/\Q k H'
def vH{op:CmpOp}{r:R2}(ho:OpR X (b9 op) r)(ha:PE X a ta)(hb:PE X b tb)(hm:cH op b=false):PT X (.Compare a [op] [b] pos) (tTest (tOp r ta tb)):=by
 intro Ob s σ H Q I h;refine wpAny_isTrue_Compare1 (thn (ha Ob s σ H _ I h) fun v s1 ⟨x,H1,I1,r1,q1⟩=>thn (hb Ob s1 σ H1 _ I1 q1) fun u s2 ⟨y,H2,I2,r2,q2⟩ =>
  thn (ho Ob s2 σ H2 x y v u _ I2 r1 r2 q2) fun c s3 ⟨z,H3,I3,r3,k,e,q3⟩=>?_) hm
 subst e;cases r3;exact dg ⟨H3,I3,q3⟩
noncomputable def MR(r r':R2)(ta tb tc:TE):TE:=fun σ H Q=>ta σ H fun x H1=>tb σ H1 fun y H2=>r x y H2 fun z H3=>∃k,z=.bl k /\
 (if k=true then tc σ H3 fun w' H4=>r' y w' H4 Q else Q (.bl false) H3)
def wN(ho:OpR X (b9 op) r)(Qu:OpR X (b9 op') r')(ha:PE X a ta)(hb:PE X b tb)(hc:PE X c tc)(hm:lastMarks [op,op'] [b,c]=false:=by with_unfolding_all rfl):PE X (.Compare a [op,op'] [b,c] pos) (MR r r' ta tb tc):=by
 intro Ob s σ H Q I h;refine Compare_chain (thn (ha Ob s σ H _ I h) fun v s1 ⟨x,H1,I1,r1,q1⟩=>chain_link (thn (hb Ob s1 σ H1 _ I1 q1) fun u s2 ⟨y,H2,I2,r2,q2⟩ =>
  thn (ho Ob s2 σ H2 x y v u _ I2 r1 r2 q2) fun d s3 ⟨z,H3,I3,r3,k,e,q3⟩=>?_)) hm
 subst e;cases r3;refine dg ?_;cases k with
 |false=>exact ite_ff ⟨.bl false,H3,I3,rfl,q3⟩
 |true=>exact ite_tt (chain_last (thn (hc Ob s3 σ H3 _ I3 q3) fun w' s4 ⟨z',H4,I4,r4,q4⟩=>Qu Ob s4 σ H4 y z' u w' Q I4 r2 r4 q4))
def yB:(aH:Nat)<2^63:=by rw[jI];decide
def op_add_str:OpR X (dk .Add) (fun x y H Q=>∃i j,x=.str i/\y=.str j/\i.length+j.length<=aH/\Q (.str (i++j)) H):=by intro Ob s σ H x y v u Q I rx ry h;obtain⟨i,j,rfl,rfl,hz,q⟩:=h;obtain⟨t,rfl⟩:=rx;obtain⟨t',rfl⟩:=ry;exact add_str (fun t' tk=>⟨.str (i++j),H,I.tok _,⟨_,rfl⟩,q⟩) hz
def tj(r:Vals [x] us):∃u,us=[u]/\RelV x u:=by
 cases r with
 |cons r1 r2=>cases r2;exact⟨_,rfl,r1⟩
def vals2(r:Vals [x,y] us):∃u w',us=[u,w']/\RelV x u/\RelV y w':=by
 cases r with
 |cons r1 r2 =>
  cases r2 with
  |cons r3 r4=>cases r4;exact⟨_,_,rfl,r1,r3⟩
def Jw:CallR X (.builtin "abs") (fun xs H Q=>∃i,xs=[.int i]/\Q (.int (if i<0 then -i else i)) H):=by intro Ob s σ H xs us Q I r h;obtain⟨i,rfl,q⟩:=h;obtain⟨u,rfl,t,rfl⟩:=tj r;exact call_abs_int fun u tk=>⟨.int (if i<0 then -i else i),H,I.tok _,⟨_,rfl⟩,q⟩
def HH:CallR X (.type "int") (fun xs H Q=>(∃i,xs=[.int i]/\Q (.int i) H)\/∃k,xs=[.bl k]/\Q (.int (if k then 1 else 0)) H):=by
 intro Ob s σ H xs us Q I r h;rcases h with⟨i,rfl,q⟩|⟨k,rfl,q⟩
 ·obtain⟨u,rfl,t,rfl⟩:=tj r;exact call_int_int ⟨.int i,H,I,⟨_,rfl⟩,q⟩
 ·obtain⟨u,rfl,r1⟩:=tj r;cases r1;exact call_int_bool ⟨.int (if k then 1 else 0),H,I.tok _,⟨_,rfl⟩,q⟩
end
structure ObjM(h:bA)(x dx C:al)(mA:Str->Option am):Prop where
 obj:h.get? x=some (cV C dx)
 ns:h.Ns1 dx mA
 ne:dx≠x
def Hk{h:bA}{dx:al}{mA:Str->Option am}(n:h.Ns1 dx mA):∃od,h.get? dx=some od/\∀name,gI name od=some (mA name):=by
 obtain⟨o,es,ep,ho,hd,hk,_,hm⟩:=n;refine⟨o,ho,fun name=>?_⟩;have e:=hm name;unfold nsFind findBy at e;rw[<-Array.find?_toList] at e;unfold gI;rw[hd];dsimp only;split
 ·rename_i y q;rw[q] at e;exact congrArg some e
 ·rename_i q;rw[q] at e;have a:es.toList.any (·.refKey)=false:=by rw[List.any_eq_false];intro y hy;obtain⟨z,t,Q5⟩:=hk y (Array.mem_toList_iff.mp hy);simp[DictEntry.refKey,Q5]
  have a':¬es.toList.any (·.refKey)=true:=by rw[a];exact a8
  rw[if_neg a'];exact congrArg some e
def ObjM.look(I:ObjM h x dx C mA):∃od,PySem.W.InstAt h x (cV C dx) C (some od)/\∀name,gI name od=some (mA name) :=
 let⟨od,ho,hl⟩:=Hk I.ns
 ⟨od,⟨I.obj,rfl,rfl,ho⟩,hl⟩
section
variable{prog:aI}{w:aX}{A:cq}{E:am->aw->Prop}{s:aw}{K:aa}{x dx C f:al}{mA:Str->Option am}{name:Str}{v:am}
def LF(X:K.In s.heap)(I:ObjM s.heap x dx C mA)(hg:e9 K C name=true)(hh:fZ K C=true)(ha:bc K (.ref C) name=some none)(hv:mA name=some v)(hv':kI v=true)(h:Q v { s with toks:=s.toks+1 }) :
  aZ (model prog w) A (getAttr (.ref x) name expr) Q E s:=by
 obtain⟨od,J,hl⟩:=I.look;exact PySem.W.get_value X J (gN hg).1 (PySem.W.findObj_own hh ha rfl (by rw[hl,hv])) hv' h
def Jl(X:K.In s.heap)(I:ObjM s.heap x dx C mA)(hg:e9 K C name=true)(hf:bc K (.ref C) name=some (some (.ref f)))(ht:gk K (.ref f)=true)(hv:mA name=none)(h:Q (.ref f,[.ref x]) s) :
  aZ (model prog w) A (gh (.ref x) name pl) Q E s:=by
 obtain⟨od,J,hl⟩:=I.look;exact PySem.W.method_fn X J (gN hg).1 (gN hg).2 hf (beq_iff_eq.mp ht) (by show(gI name od).map (·.isSome)=some false;rw[hl,hv];rfl) h
def KC(X:K.In s.heap)(I:ObjM s.heap x dx C mA)(hs:bc K (.ref C) "__setattr__"=some (some (.builtin "object.__setattr__")))(hp:ik K C=true)(ht:iQ K C name=some none)(hh:fZ K C=true)(hw:jR mA ns)(hsz:ns.length<=aH)(h:∀h',ObjM h' x dx C (fun y=>if y=name then some v else mA y)->iL dx s.heap h'->Q () { s with heap:=h',toks:=s.toks+2 }) :
  aZ (model prog w) A (setAttr (.ref x) name v) Q E s:=by
 obtain⟨od,J,hl⟩:=I.look;refine PySem.W.set_plain X J hs (PySem.W.osa_open (s:={ s with toks:=s.toks+1 }) (r:=none) X J hp ht fun b=>?_);obtain⟨cd,hc,Ub⟩:=PySem.W.any_some hh;have hx:s.heap.get? x=some ⟨.ref C,some dx,.plain,#[]⟩:=I.obj;refine av (aS (av (av (wpAny_loadPart hx (av (PySem.W.Looks.here (s:={ s with toks:=s.toks+1 }) (PySem.W.looks_clsIn X hc) ?_))))));rw[Ub];refine aS (a:=some dx) (av (aS (av ?_)));refine wpAny_nsSet1 (s:={ s with toks:=s.toks+1 }) I.ns fun h' Rn hs2=>?_;obtain⟨oD,esD,epD,hoD,hdD,hcD⟩:=Rn.count (PySem.Within.cons name v hw);refine av (wpAny_lookBehind hoD (by rw[hdD];exact pastItsLine_dict (aC hcD (by rw[aq];omega))) ?_);exact aS (h _ ⟨(hs2.2 _ (fM I.ne)).trans I.obj,Rn,I.ne⟩ hs2)
def Jc(X:K.In s.heap)(hm:iR K C=true)(hi:bc K (.ref C) "__init__"=some (some (.ref f)))(hf:PySem.W.typeIn K (.ref f)=some (.type "function"))(h:fT (model prog w) (A.under (.builtin "type.__call__" ⟨.ref C::vs,kw⟩)) (.call (.ref f) ⟨.ref (s.heap.objs.size+1)::vs,kw⟩) (PySem.W.InitBack (s.heap.objs.size+1) R)
   {s with heap:=(s.heap.push cA).push (cV C s.heap.objs.size) }) :
  fT (model prog w) A (.call (.ref C) ⟨vs,kw⟩) R s:=by
 obtain⟨hh,g,d,t,os⟩:=s;exact PySem.W.make_core (PySem.W.makes_of X hm) (io X hi) (fun self=>PySem.W.bind_fn X self hf) (.inl rfl) h
end
def tw(f:Str)(v:V):List (Str×V)->List (Str×V)
 |[]=>[(f,v)]
 |(g,x)::r=>if g=f then(g,v)::r else(g,x)::tw f v r
theorem x6(f g:Str)(v:V):∀fs:List (Str×V),(tw f v fs).lookup g=if g=f then some v else fs.lookup g
 |[]=>by
  show cQ g [(f,v)]=_;by_cases h:g=f
  ·have hb:(g==f)=true:=beq_iff_eq.mpr h;simp only[cQ,hb,if_pos h]
  ·have hb:(g==f)=false:=beq_eq_false_iff_ne.mpr h;simp only[cQ,hb,if_neg h]
 |(k,x)::r=>by
  have ih:=x6 f g v r;rw[show tw f v ((k,x)::r)=(if k=f then(k,v)::r else(k,x)::tw f v r) from rfl];by_cases hk:k=f
  ·rw[if_pos hk];by_cases h:g=k
   ·have hb:(g==k)=true:=beq_iff_eq.mpr h;simp only[cQ,hb,if_pos (h.trans hk)]
   ·have hb:(g==k)=false:=beq_eq_false_iff_ne.mpr h;simp only[cQ,hb,if_neg (fun e:g=f=>h (e.trans hk.symm))]
  ·rw[if_neg hk];by_cases h:g=k
   ·have hb:(g==k)=true:=beq_iff_eq.mpr h;simp only[cQ,hb,if_neg (fun e:g=f=>hk (h.symm.trans e))]
   ·have hb:(g==k)=false:=beq_eq_false_iff_ne.mpr h;simp only[cQ,hb];exact ih
theorem xO(f:Str)(v:V):∀fs:List (Str×V),f∈(tw f v fs).map (·.1)/\∀g,g∈fs.map (·.1)->g∈(tw f v fs).map (·.1)
 |[]=>⟨by simp[tw],fun g h=>by simp at h⟩
 |(k,x)::r=>by
  obtain⟨i1,i2⟩:=xO f v r;rw[show tw f v ((k,x)::r)=(if k=f then(k,v)::r else(k,x)::tw f v r) from rfl];by_cases hk:k=f
  ·rw[if_pos hk];subst hk;exact⟨by simp,fun g h=>by simpa using h⟩
  ·rw[if_neg hk];refine⟨?_,fun g h=>?_⟩
   ·rw[ap];exact ah _ i1
   ·rw[ap] at h ⊢;rcases aj.mp h with e|e
    ·exact aj.mpr (.inl e)
    ·exact ah _ (i2 g e)
theorem uA(f:Str)(v:V):∀fs:List (Str×V),(tw f v fs).length<=fs.length+1
 |[]=>by simp[tw]
 |(k,x)::r=>by
  have ih:=uA f v r;rw[show tw f v ((k,x)::r)=(if k=f then(k,v)::r else(k,x)::tw f v r) from rfl];by_cases hk:k=f
  ·rw[if_pos hk,aq,aq];omega
  ·rw[if_neg hk,aq,aq];omega
def RelO.some_of(r:RelO (some v) o):∃u,o=some u/\RelV v u:=by
 cases o with
 |none=>exact(show False from r).elim
 |some u=>exact⟨u,rfl,r⟩
def RelO.none_of(r:RelO none o):o=none:=by
 cases o with
 |none=>rfl
 |some u=>exact(show False from r).elim
def Hv(r:RelV v u):kI u=true:=by
 cases v with
 |non=>cases(show u=jm from r);rfl
 |bl b=>cases(show u=jn b from r);rfl
 |int i=>obtain⟨t,e⟩:=(show ∃t,u=gT i t from r);cases e;rfl
 |str x=>obtain⟨t,e⟩:=(show ∃t,u=gn x t from r);cases e;rfl
 |byt b=>obtain⟨t,e⟩:=(show ∃t,u=Value.bytes b t from r);cases e;rfl
 |flt b=>obtain⟨t,e⟩:=(show ∃t,u=kq b t from r);cases e;rfl
 |ref a=>cases(show u=bz a from r);rfl
 |ty n=>cases(show u=Value.type n from r);rfl
section
variable{P:aI}{w:aX}{H H':Hp}{h h':bA}{a C dx:al}{fs Rc:List (Str×V)}
def zp(hok:HOk P w H h)(e:H a=some (.ins C dx fs)):∃mA,ObjM h a dx C mA/\(∀f,RelO (fs.lookup f) (mA f))/\jR mA (fs.map (·.1))/\fs.length<=1000/\H dx=some (.own a):=by obtain⟨d,z,ne,ob,mA,n,r,q⟩:=(show ObjOk P w H h a (.ins C dx fs) from hok a _ e);exact⟨mA,⟨ob,n,ne⟩,r,q,z,d⟩
end
structure Cls(K:aa)(C:al):Prop where
 pg:e9 K C cS=true
 hd:fZ K C=true
 po:ik K C=true
 sa:bc K (.ref C) "__setattr__"=some (some (.builtin "object.__setattr__"))
def Cls.get{K:aa}{C:al}(c:Cls K C)(f:Str):e9 K C f=true:=c.pg
def NoAttr(K:aa)(C:al)(f:Str):Prop:=bc K (.ref C) f=some none
def NoAttr.taker{K:aa}{C:al}{f:Str}(n:NoAttr K C f):iQ K C f=some none:=by unfold iQ;rw[show bc K (.ref C) f=some none from n];rfl
structure Con(K:aa)(C:al)(f:Str)(v:V)(u:am):Prop where
 at_:bc K (.ref C) f=some (some u)
 rel:RelV v u
 get:fY K u "__get__"=some none
 cp:PySem.W.copiedNames.contains f=false
structure Meth(K:aa)(C:al)(m:Str)(f:al):Prop where
 at_:bc K (.ref C) m=some (some (.ref f))
 fn:gk K (.ref f)=true
 kp:cz K (.ref f)=true
section
variable{X:Cx}{Ob:List (al×Obj)}{σ:St}{H:Hp}{s:aw}{a C dx:al}{fs:List (Str×V)}{f:Str}{v:V}{A:cq}{E:am->aw->Prop}
def Fp(I:Inv X Ob σ H s)(e:H a=some (.ins C dx fs))(c:Cls X.K C)(n:NoAttr X.K C f)(l:fs.lookup f=some v)(h:∀u s',Inv X Ob σ H s'->RelV v u->Q u s'):aZ (model X.prog X.w) A (getAttr (.ref a) f b) Q E s:=by
 obtain⟨mA,O,r,_,_,_⟩:=zp I.hok e;obtain⟨u,hu,ru⟩:=RelO.some_of (v:=v) (o:=mA f) (by rw[<-l];exact r f);exact LF I.kIn O (c.get f) c.hd n hu (Hv ru) (h u _ (I.tok _) ru)
def zw(I:Inv X Ob σ H s)(e:H a=some (.ins C dx fs))(c:Cls X.K C)(k:Meth X.K C m g)(l:fs.lookup m=none)(h:Q (.ref g,[.ref a]) s):aZ (model X.prog X.w) A (gh (.ref a) m pl) Q E s:=by
 obtain⟨mA,O,r,_,_,_⟩:=zp I.hok e;have hn:mA m=none:=RelO.none_of (by rw[<-l];exact r m);exact Jl I.kIn O (c.get m) k.at_ k.fn hn h
def EZ(I:Inv X Ob σ H s)(e:H a=some (.ins C dx fs))(c:Cls X.K C)(n:NoAttr X.K C f)(hl:fs.length<1000)(ry:RelV y u)(h:∀s',Inv X Ob σ (upd H a (.ins C dx (tw f y fs))) s'->Q () s'):aZ (model X.prog X.w) A (setAttr (.ref a) f u) Q E s:=by
 obtain⟨mA,O,r,wi,_,ho⟩:=zp I.hok e;have hz:(fs.map (·.1)).length<=aH:=by rw[af,jI];omega
 refine KC I.kIn O c.sa c.po n.taker c.hd wi hz fun h' O' sb=>h _ ?_;have hd:∃o,h'.get? dx=some o:=let⟨o,_,_,e',_⟩:=O'.ns;⟨o,e'⟩;refine I.write (x:=a) (e:=dx) (by rw[e];exact cJ) (.inr ho) (fun b q hb z=>(sb.2 b hb).trans z) hd ?_;refine⟨by rw[lg O.ne];exact ho,?_,O.ne,O'.obj,_,O'.ns,fun g=>?_,fun g hg=>?_⟩
 ·have:=uA f y fs;omega
 ·show RelO ((tw f y fs).lookup g) (if g=f then some u else mA g);rw[x6];by_cases q:g=f
  ·rw[if_pos q,if_pos q];exact ry
  ·rw[if_neg q,if_neg q];exact r g
 ·by_cases q:g=f
  ·rw[q];exact(xO f y fs).1
  ·refine(xO f y fs).2 g (wi g fun z=>hg ?_);show(if g=f then some u else mA g)=none;rw[if_neg q];exact z
def Inv.made(I:Inv X Ob σ H s):Inv X Ob σ (upd (upd H s.heap.objs.size (.own (s.heap.objs.size+1))) (s.heap.objs.size+1) (.ins C s.heap.objs.size []))
  {s with heap:=(s.heap.push cA).push (cV C s.heap.objs.size) }:=by
 have e1:(s.heap.push cA).get? s.heap.objs.size=some cA:=bC s.heap rfl;have e2:((s.heap.push cA).push (cV C s.heap.objs.size)).get? (s.heap.objs.size+1)=some (cV C s.heap.objs.size):=by have:=bC (s.heap.push cA) (o:=cV C s.heap.objs.size) rfl;rwa[Heap.size_push] at this
 have e3:(s.heap.push cA).Ns s.heap.objs.size (fun _=>none):=⟨cA,#[],_,e1,rfl,(fun e he=>absurd he (by simp)),fun _=>rfl⟩;have I1:=I.laid (a:=s.heap.objs.size) (o:=.own (s.heap.objs.size+1)) (h':=s.heap.push cA) (t':=s.toks) (fun b u q=>aG _ q) (ax _) ⟨_,e1⟩;refine I1.laid (a:=s.heap.objs.size+1) (o:=.ins C s.heap.objs.size []) (t':=s.toks) (fun b u q=>aG _ q) (iU (Heap.size_push _ _)) ?_;have ne:s.heap.objs.size≠s.heap.objs.size+1:=a6 (dw _);refine⟨by rw[lg ne,lr],ba _,ne,e2,fun _=>none,(Heap.Ns1.of_empty e3).at fun o q=>aG _ q,fun _=>cJ,fun y hy=>absurd rfl hy⟩
def L6{f:Str}{s:aw}(hb:du e f env (eval e env)=eval e env)(h:aZ (model prog w) A (eval e env) (fun o Op=>aZ (model prog w) A (getAttr o f true) Q E Op) E s):aZ (model prog w) A (eval (.Attribute e f pos) env) Q E s :=
 Attribute_any_ h (by rw[arm_eval_Attribute,hb])
end
def tFld(K:aa)(ta:TE)(f:Str):TE:=fun σ H Q=>ta σ H fun x H1=>∃a C dx fs v,x=.ref a/\H1 a=some (.ins C dx fs)/\Cls K C/\NoAttr K C f/\fs.lookup f=some v/\Q v H1
noncomputable def sFld(K:aa)(ta tv:TE)(f:Str):TS:=fun D σ H=>tv σ H fun y H1=>ta σ H1 fun x H2=>∃a C dx fs,x=.ref a/\H2 a=some (.ins C dx fs)/\Cls K C/\NoAttr K C f/\fs.length<1000 /\
 D.nx σ (upd H2 a (.ins C dx (tw f y fs)))
section
variable{X:Cx}{o e value:bj}{f:Str}{pos Oy O0:Pos}{ta tv:TE}
def nU(he:PE X e ta)(hb:du e f X.env (eval e X.env)=eval e X.env):PE X (.Attribute e f pos) (tFld X.K ta f):=by intro Ob s σ H Q I h;refine L6 hb (thn (he Ob s σ H _ I h) fun u s1 ⟨x,H1,I1,rx,a,C,dx,fs,v,ex,ea,c,n,l,q⟩=>?_);subst ex;obtain rfl:u=bz a:=rx;exact Fp I1 ea c n l fun u' s2 I2 ru=>⟨v,H1,I2,ru,q⟩
def An(ha:PE X o ta)(hv:PE X value tv)(hs:fO value (some (.Attribute o f Oy)) pos.line X.env=pure false):PS X (.Assign [.Attribute o f Oy] value pos) (sFld X.K ta tv f):=by intro Ob s σ H D I h;refine plainObj_wpAny_Assign_Attribute (thn (hv Ob s σ H _ I h) fun u s1 ⟨y,H1,I1,ry,q⟩=>thn (ha Ob s1 σ H1 _ I1 q) fun ov s2 ⟨x,H2,I2,rx,a,C,dx,fs,ex,ea,c,n,l,q2⟩=>?_) hs;subst ex;obtain rfl:ov=bz a:=rx;exact EZ I2 ea c n l ry fun s3 I3=>⟨σ,_,I3,q2⟩
end
section
variable{X:Cx}{Ob:List (al×Obj)}{σ:St}{H:Hp}{s:aw}{A:cq}{E:am->aw->Prop}{Q:am->aw->Prop}{c:am}{b:Bool}
inductive TyOf (K:aa) (H:Hp):V->am->Prop where
 |non:TyOf K H .non (.type "NoneType")
 |bl (x:Bool):TyOf K H (.bl x) (.type "bool")
 |int (i:Int):TyOf K H (.int i) (.type "int")
 |str (x:Str):TyOf K H (.str x) (.type "str")
 |flt (x:UInt64):TyOf K H (.flt x) (.type "float")
 |lst {a:al}{xs:List V} (e:H a=some (.lst xs)):TyOf K H (.ref a) (.type "list")
 |frz {a:al}{o:Obj}{xs:List V} (e:H a=some (.frz o (.lst xs))):TyOf K H (.ref a) (.type "list")
 |tup {a:al}{xs:List V} (e:H a=some (.tup xs)):TyOf K H (.ref a) (.type "tuple")
 |dK {a:al}{kvs:List (Key×V)} (e:H a=some (.dK kvs)):TyOf K H (.ref a) (.type "dict")
 |dT {a:al}{kvs:List (List Key×V)} (e:H a=some (.dT kvs)):TyOf K H (.ref a) (.type "dict")
 |ins {a C dx:al}{fs:List (Str×V)} (e:H a=some (.ins C dx fs)) (cl:Cls K C) (ha:bc K (.ref C) "__class__"=some (some (.builtin "object.__class__")))
   (hn:fY K (.builtin "object.__class__") "__get__"=some (some (.builtin "getset_descriptor.__get__"))) (htk:iP K (.builtin "object.__class__")=some true)
   (hm:dz K C (.type "object")=some true):TyOf K H (.ref a) (.ref C)
def Hq(I:Inv X Ob σ H s)(rx:RelV x u)(ty:TyOf X.K H x t)(e:i5 X.K t c=some b)(h:∀tk,Q (.bool b) { s with toks:=tk }) :
  aZ (model X.prog X.w) A (call (.builtin "isinstance") [u,c]) Q E s:=by
 cases ty with
 |non=>cases(show u=jm from rx);exact bR PySem.W.kitx_none I.kIn cJ e (fun z=>nomatch z) h
 |bl y=>cases(show u=jn y from rx);exact bR PySem.W.kitx_bool I.kIn cJ e (fun z=>nomatch z) h
 |int i=>obtain⟨t,q⟩:=(show ∃t,u=gT i t from rx);cases q;exact bR PySem.W.kitx_int I.kIn cJ e (fun z=>nomatch z) h
 |str y=>obtain⟨t,q⟩:=(show ∃t,u=gn y t from rx);cases q;exact bR PySem.W.kitx_str I.kIn cJ e (fun z=>nomatch z) h
 |flt y=>obtain⟨t,q⟩:=(show ∃t,u=kq y t from rx);cases q;exact bR PySem.W.kitx_float I.kIn cJ e (fun z=>nomatch z) h
 |@lst a xs ea =>
  cases(show u=bz a from rx);obtain⟨_,_,n,_,h1⟩:=(show ObjOk X.prog X.w H s.heap a (.lst xs) from I.hok a _ ea);exact bR ip I.kIn ⟨_,h1,rfl⟩ e (fun z=>nomatch z) h
 |@frz a ob xs ea =>
  cases(show u=bz a from rx);obtain⟨_,_,_,n,_,h1⟩:=(show ObjOk X.prog X.w H s.heap a (.frz ob (.lst xs)) from I.hok a _ ea);exact bR ip I.kIn ⟨_,h1,rfl⟩ e (fun z=>nomatch z) h
 |@tup a xs ea =>
  cases(show u=bz a from rx);obtain⟨_,_,_,p⟩:=(show ObjOk X.prog X.w H s.heap a (.tup xs) from I.hok a _ ea);obtain⟨o,h1,h2,_⟩:=p;exact bR ko I.kIn ⟨o,h1,h2⟩ e (fun z=>nomatch z) h
 |@dK a kvs ea =>
  cases(show u=bz a from rx);obtain⟨_,_,vs,_,p⟩:=(show ObjOk X.prog X.w H s.heap a (.dK kvs) from I.hok a _ ea);obtain⟨o,es,ep,h1,h2,_⟩:=p;exact bR kE I.kIn ⟨o,h1,h2.1⟩ e (fun z=>nomatch z) h
 |@dT a kvs ea =>
  cases(show u=bz a from rx);obtain⟨_,_,xs,_,o,es,ep,h1,h2,_⟩:=(show ObjOk X.prog X.w H s.heap a (.dT kvs) from I.hok a _ ea);exact bR kE I.kIn ⟨o,h1,h2.1⟩ e (fun z=>nomatch z) h
 |@ins a C dx fs ea cl ha hn htk hm =>
  cases(show u=bz a from rx);obtain⟨mA,O,_⟩:=zp I.hok ea;obtain⟨od,J,_⟩:=O.look;exact bR (PySem.W.kitx_own (cl.get _) cl.hd ha hn htk hm) I.kIn J e (fun z=>nomatch z) h
end
structure Room(k:Nat)(A:cq):Prop where
 hd:A.handled=none
 dp:A.depth+3*k+5<recursionLimit
 un:A.units+16*k+200<fE
def Room.mono(r:Room k A)(h:j<=k):Room j A:=⟨r.hd,by have:=r.dp;omega,by have:=r.un;omega⟩
theorem Room.deeper(r:Room (k+1) A)(env:Env):Room k (A.deeper env) :=
 ⟨r.hd,by have:=r.dp;show A.depth+1+3*k+5<_;omega,by have:=r.un;show A.units+3+16*k+200<_;omega⟩
def Fk{A:cq}{C:al}{us:List am}{kw:List (Str×am)}:(A.under (.builtin "type.__call__" ⟨.ref C::us,kw⟩)).depth=A.depth+1:=by
 first|rfl|simp[jO,Code.weight,Code.isCreation,Code.isGuard,Code.isCaller,Code.frames,jZ,guardIds]
def Fj{A:cq}{C:al}{us:List am}{kw:List (Str×am)}:(A.under (.builtin "type.__call__" ⟨.ref C::us,kw⟩)).units=A.units+1:=by
 first|rfl|simp[jO,Code.cUnits,Code.frames,jZ]
def Room.make(r:Room (k+1) A)(C:al)(us:List am)(kw:List (Str×am)):Room k (A.under (.builtin "type.__call__" ⟨.ref C::us,kw⟩)) :=
 ⟨r.hd,by have:=r.dp;rw[Fk];omega,by have:=r.un;rw[Fj];omega⟩
theorem Room.depth(r:Room k A):A.depth<recursionLimit:=by have:=r.dp;omega
theorem Room.units(r:Room k A):A.units+64<fE:=by have:=r.un;omega
def FV:TA:=fun _ H Q=>Q [] H
def Ka(ta:TE)(tr:TA):TA:=fun σ H Q=>ta σ H fun x H1=>tr σ H1 fun xs H2=>Q (x::xs) H2
section
variable{X:Cx}{e:bj}{es:List bj}{te:TE}{t:TA}{pos:Pos}
def pa_nil:PA X [] FV:=fun _ _ _ _ H Q I h=>gb ⟨[],H,I,.nil,h⟩
abbrev SEb(X:Cx)(e:bj)(es:List bj):Prop:=aK (e::es) X.env=(false,eval e X.env)::aK es X.env
def lG(ha:PE X e te)(hr:PA X es t)(hs:SEb X e es:=by rfl):PA X (e::es) (Ka te t):=by intro pos Ob s σ H Q I h;rw[hs];show aZ _ _ (spliced ((false,eval e X.env)::cj pos (aK es X.env))) _ _ s;refine ei (thn (ha Ob s σ H _ I h) fun u s1 ⟨x,H1,I1,r1,q1⟩=>?_);exact thn (hr pos Ob s1 σ H1 _ I1 q1) fun us s2 ⟨xs,H2,I2,r2,q2⟩=>⟨x::xs,H2,I2,.cons r1 r2,q2⟩
def tTup(t:TA):TE:=fun σ H Q=>t σ H fun xs H1=>xs.length<=aH/\∀p,H1 p=none->Q (.ref p) (upd H1 p (.tup xs))
def tLst(t:TA):TE:=fun σ H Q=>t σ H fun xs H1=>xs.length<=aH/\∀p,H1 p=none->Q (.ref p) (upd H1 p (.lst xs))
def Ar{x1}(h:PA X es t):PE X (.Tuple es x1 pos) (tTup t):=by intro Ob s σ H Q I hq;refine wpAny_Tuple_spliced (thn (h pos Ob s σ H _ I hq) fun us s1 ⟨xs,H1,I1,r,z,q⟩=>⟨by rw[<-r.length];exact z,?_⟩);have hf:H1 s1.heap.objs.size=none:=I1.hok.fresh (ax _);refine⟨.ref s1.heap.objs.size,upd H1 s1.heap.objs.size (.tup xs),I1.laid (t':=s1.toks) (fun b u e=>aG _ e) (ax _) ?_,rfl,q _ hf⟩;exact⟨z,us,r,⟨_,bC _ rfl,rfl,_,rfl⟩⟩
def JN(h:PA X es t):PE X (.List es pos) (tLst t):=by intro Ob s σ H Q I hq;refine wpAny_List_spliced (thn (h pos Ob s σ H _ I hq) fun us s1 ⟨xs,H1,I1,r,z,q⟩=>⟨by rw[<-r.length];exact z,?_⟩);have hf:H1 s1.heap.objs.size=none:=I1.hok.fresh (ax _);refine⟨.ref s1.heap.objs.size,upd H1 s1.heap.objs.size (.lst xs),I1.laid (t':=s1.toks) (fun b u e=>aG _ e) (ax _) ?_,rfl,q _ hf⟩;exact⟨z,us,0,r,bC _ rfl⟩
end
abbrev Sp:=List V->Hp->VK->XK->Prop
abbrev CXT:=List Env->Hp->aw->XK->am->aw->Prop
structure Env0(P:aI)(w:aX)(K:aa)(mg:Str->Option am)(base:bA)(A:cq)(outer:List Env)(s:aw)(H:Hp):Prop where
 frames:A.frames=some outer
 mod:Mod K mg base
 bs:∀b o,base.get? b=some o->s.heap.get? b=some o/\H b=none
 bsz:base.objs.size<=s.heap.objs.size
 funs:s.heap.FunFrames base outer
 frf:∀b∈frs outer,H b=none
 hok:HOk P w H s.heap
 bare:gz s.gens
def CE(outer:List Env)(P:aI)(w:aX)(H:Hp)(s:aw)(Q:VK)(u:am)(s':aw):Prop :=
 ∃v H',s'.os=s.os/\gz s'.gens/\Un (frs outer) [] H H' s.heap s'.heap/\HOk P w H' s'.heap/\RelV v u/\Q v H'
def CR(CX:CXT)(outer:List Env)(P:aI)(w:aX)(H:Hp)(s:aw)(Q:VK)(E:XK)(r:ku)(s':aw):Prop :=
 match r with
 |.ok (.ret u)=>CE outer P w H s Q u s'
 |.ok _=>False
 |.error e=>CX outer H s E e s'
structure FnOk(P:aI)(w:aX)(K:aa)(mg:Str->Option am)(base:bA)(CX:CXT)(k:Nat)(f:al)(fd:bQ)(ps:List Str)(sp:Sp):Prop where
 len:∀vs H Q E,sp vs H Q E->vs.length=ps.length
 run:∀(A:cq)(outer:List Env)(s:aw)(H:Hp)(args:Args)(us:List am)(vs:List V)(Q:VK)(E:XK),Room k A->Env0 P w K mg base A outer s H->js s fd args (ps.zip us)->Vals vs us->sp vs H Q E ->
  fT (model P w) A (.call (.ref f) args) (CR CX outer P w H s Q E) s
def FnOk.imp{P:aI}{w:aX}{K:aa}{mg:Str->Option am}{base:bA}{CX:CXT}{k:Nat}{f:al}{fd:bQ}{ps:List Str}{sp Rg:Sp}(F:FnOk P w K mg base CX k f fd ps sp)(h:∀vs H Q E,Rg vs H Q E->sp vs H Q E):FnOk P w K mg base CX k f fd ps Rg :=
 ⟨fun vs H Q E q=>F.len vs H Q E (h _ _ _ _ q),fun A outer s H args us vs Q E hr he hb hv hs=>F.run A outer s H args us vs Q E hr he hb hv (h _ _ _ _ hs)⟩
def Env0.make{P:aI}{w:aX}{K:aa}{mg:Str->Option am}{base:bA}{A:cq}{outer:List Env}{s:aw}{H:Hp}(e:Env0 P w K mg base A outer s H)(C:al)(us:List am)(kw:List (Str×am)) :
  Env0 P w K mg base (A.under (.builtin "type.__call__" ⟨.ref C::us,kw⟩)) outer s H:=⟨by first|exact e.frames|(simpa[jO,Code.envs,jZ,pushEnvs] using e.frames),e.mod,e.bs,e.bsz,e.funs,e.frf,e.hok,e.bare⟩
section
variable{X:Cx}{Ob:List (al×Obj)}{σ:St}{H:Hp}{s s':aw}
def Inv.env0(I:Inv X Ob σ H s):Env0 X.prog X.w X.K X.mg X.base X.A X.stack s H :=
 ⟨I.ok.frames,I.ok.mod,I.bs,aC I.ok.bsz I.sz,I.stack,I.stkFree,I.hok,I.bare⟩
def Inv.after(I:Inv X Ob σ H s)(h:CE X.stack X.prog X.w H s Q u s'):EP X Ob σ Q u s':=by obtain⟨v,H',os,bare,un,hok,r,q⟩:=h;obtain⟨hh,g,d,t,os'⟩:=s';obtain rfl:os'=s.os:=os;exact⟨v,H',I.call (h':=hh) (g':=g) (d':=d) (t':=t) (ch:=[]) un hok bare (fun b z=>absurd z (by simp)),r,q⟩
end
def AV(sp:Sp)(OI:List V)(E:XK)(t:TA):TE:=fun σ H Q=>t σ H fun vs H1=>sp (vs++OI) H1 Q E
noncomputable def HJ(C:al)(m:Str)(sp:Sp)(OI:List V)(E:XK)(ta:TE)(t:TA):TE:=fun σ H Q=>ta σ H fun x H1=>∃a dx fs,x=.ref a/\H1 a=some (.ins C dx fs)/\fs.lookup m=none /\
 t σ H1 fun vs H2=>sp (x::(vs++OI)) H2 Q E
noncomputable def Md(C:al)(sp:Sp)(OI:List V)(E:XK)(t:TA):TE:=fun σ H Q=>t σ H fun vs H1=>∀x dx,H1 x=none->H1 dx=none->dx≠x ->
 sp (.ref x::(vs++OI)) (upd (upd H1 dx (.own x)) x (.ins C dx [])) (fun v H2=>v=.non/\Q (.ref x) H2) E
def Binds(K:aa)(fd:bQ)(ps:List Str)(ds:List am):Prop :=
 ∀(s:aw)(us:List am),K.In s.heap->(us++ds).length=ps.length->js s fd ⟨us,[]⟩ (ps.zip (us++ds))
def Binds.all{K:aa}{fd:bQ}{ps:List Str}(h:∀us:List am,us.length=ps.length->fV fd ⟨us,[]⟩=pure (ps.zip us)):Binds K fd ps []:=fun s us _ hl=>by rw[bJ] at hl ⊢;exact .of_eq (h us hl)
def nX(CX:CXT)(X:Cx)(E:XK):Prop:=∀(Ob:List (al×Obj))(σ:St)(H:Hp)(s:aw)(e:am)(s':aw),Inv X Ob σ H s->CX X.stack H s E e s'->X.xe e s'
section
variable{X:Cx}{CX:CXT}{k:Nat}{f C:al}{fd:bQ}{ps:List Str}{sp:Sp}{OI:List V}{ds:List am}{E:XK}{x m:Str}{p pos Og:Pos}{e o:bj}{es:List bj}{ta:TE}{t:TA}
def C1(F:FnOk X.prog X.w X.K X.mg X.base CX k f fd ps sp)(hr:Room k X.A)(hb:Binds X.K fd ps ds)(hd:Vals OI ds)(hx:nX CX X E)(I:Inv X Ob σ H s)(r:Vals vs us)(h:sp (vs++OI) H Q E):aZ (model X.prog X.w) X.A (call (.ref f) us) (EP X Ob σ Q) X.xe s:=by
 have r2:Vals (vs++OI) (us++ds):=r.append hd;have hl:(us++ds).length=ps.length:=by rw[<-r2.length];exact F.len _ _ _ _ h
 refine wpAny_call (hJ (F.run X.A X.stack s H ⟨us,[]⟩ (us++ds) (vs++OI) Q E hr I.env0 (hb s us I.kIn hl) r2 h) fun r s' hq=>?_);cases r with
 |error e=>exact hx Ob σ H s e s' I hq
 |ok fl =>
  cases fl with
  |ret u=>exact I.after hq
  |next=>exact bH hq
  |brk=>exact bH hq
  |cont=>exact bH hq
def K3(F:FnOk X.prog X.w X.K X.mg X.base CX k f fd ps sp)(hr:Room k X.A)(hg:Gl X x)(hm:X.mg x=some (.ref f))(hk:cz X.K (.ref f)=true)(hb:Binds X.K fd ps ds)(hd:Vals OI ds)(hx:nX CX X E)(ha:PA X (e::es) t)(OF:NDb x:=by decide)(he:SEb X e es:=by rfl)(OH:(cj pos (aK es X.env)).any (·.1)=false:=by rfl) :
  PE X (.Call (.Name x p) (e::es) [] pos) (AV sp OI E t):=by
 intro Ob s σ H Q I h;refine dG (tP I hg hm ?_ OF);refine hV (h₀:=X.base) I.ok.mod.kin hk (thn (ha pos Ob s σ H _ I h) fun us s1 ⟨vs,H1,I1,r,q⟩=>⟨I1.kIn,?_⟩) he OH;exact C1 F hr hb hd hx I1 r q
def IQ(F:FnOk X.prog X.w X.K X.mg X.base CX k f fd ps sp)(hr:Room k X.A)(hg:Gl X x)(hm:X.mg x=some (.ref f))(hk:cz X.K (.ref f)=true)(hb:Binds X.K fd ps ds)(hd:Vals OI ds)(hx:nX CX X E)(OF:NDb x:=by decide):PE X (.Call (.Name x p) [] [] pos) (AV sp OI E FV):=by
 intro Ob s σ H Q I h;refine dG (tP I hg hm ?_ OF);exact gP I.kIn hk (C1 (us:=[]) F hr hb hd hx I .nil h)
def K2(he:PE X o ta)(c:Cls X.K C)(hm:Meth X.K C m f)(F:FnOk X.prog X.w X.K X.mg X.base CX k f fd ps sp)(hr:Room k X.A)(hb:Binds X.K fd ps ds)(hd:Vals OI ds)(hx:nX CX X E)(ha:PA X (e::es) t)(O6:SEb X e es:=by rfl)(OH:(cj pos (aK es X.env)).any (·.1)=false:=by rfl)(ht:eval (.Call (.Attribute o m Og) (e::es) [] pos) X.env=(do
   let ov <-eval o X.env
   gy Og.atName
   let(f,first) <-holding [ov] (gh ov m pl)
   jj pos f first (cj pos (aK (e::es) X.env)) (dM pos (cE [] X.env))):=by rfl) :
  PE X (.Call (.Attribute o m Og) (e::es) [] pos) (HJ C m sp OI E ta t):=by
 intro Ob s σ H Q I h;refine jJ (pl:=pl) (thn (he Ob s σ H _ I h) fun u s1 ⟨x,H1,I1,rx,a,dx,fs,ex,ea,l,q⟩=>?_) ht;subst ex;obtain rfl:u=bz a:=rx;refine zw I1 ea c hm l ?_;refine hV (first:=[.ref a]) (h₀:=X.base) I.ok.mod.kin hm.kp (thn (ha pos Ob s1 σ H1 _ I1 q) fun us s2 ⟨vs,H2,I2,r,q2⟩=>⟨I2.kIn,?_⟩) O6 OH;exact C1 (us:=.ref a::us) (vs:=.ref a::vs) F hr hb hd hx I2 (.cons rfl r) q2
def IK(he:PE X o ta)(c:Cls X.K C)(hm:Meth X.K C m f)(F:FnOk X.prog X.w X.K X.mg X.base CX k f fd ps sp)(hr:Room k X.A)(hb:Binds X.K fd ps ds)(hd:Vals OI ds)(hx:nX CX X E)(ht:eval (.Call (.Attribute o m Og) [] [] pos) X.env=(do
   let ov <-eval o X.env
   gy Og.atName
   let(f,first) <-holding [ov] (gh ov m pl)
   jj pos f first (cj pos (aK [] X.env)) (dM pos (cE [] X.env))):=by rfl) :
  PE X (.Call (.Attribute o m Og) [] [] pos) (HJ C m sp OI E ta FV):=by
 intro Ob s σ H Q I h;refine jJ (pl:=pl) (thn (he Ob s σ H _ I h) fun u s1 ⟨x,H1,I1,rx,a,dx,fs,ex,ea,l,q⟩=>?_) ht;subst ex;obtain rfl:u=bz a:=rx;refine zw I1 ea c hm l ?_;exact gP (first:=[.ref a]) I1.kIn hm.kp (C1 (us:=[.ref a]) (vs:=[.ref a]) F hr hb hd hx I1 (.cons rfl .nil) q)
structure Mk(K:aa)(C f:al):Prop where
 makes:iR K C=true
 init:bc K (.ref C) "__init__"=some (some (.ref f))
 fn:gk K (.ref f)=true
 kp:cz K (.ref C)=true
def Ix(M:Mk X.K C f)(F:FnOk X.prog X.w X.K X.mg X.base CX k f fd ps sp)(hr:Room (k+1) X.A)(hb:Binds X.K fd ps ds)(hd:Vals OI ds)(hx:nX CX X E)(I:Inv X Ob σ H s)(r:Vals vs us)(h:∀x dx,H x=none->H dx=none->dx≠x->sp (.ref x::(vs++OI)) (upd (upd H dx (.own x)) x (.ins C dx [])) (fun v H2=>v=.non/\Q (.ref x) H2) E) :
  aZ (model X.prog X.w) X.A (call (.ref C) us) (EP X Ob σ Q) X.xe s:=by
 have hq:=h (s.heap.objs.size+1) s.heap.objs.size (I.hok.fresh (hZ _)) (I.hok.fresh (ax _)) (a6 (dw _));have I2:=Inv.made (C:=C) I;have r2:Vals (V.ref (s.heap.objs.size+1)::(vs++OI)) (bz (s.heap.objs.size+1)::(us++ds)):=.cons rfl (r.append hd);have hl:(bz (s.heap.objs.size+1)::us++ds).length=ps.length:=by have e:=r2.length;rw[F.len _ _ _ _ hq] at e;exact e.symm
 refine wpAny_call (Jc (f:=f) I.kIn M.makes M.init (beq_iff_eq.mp M.fn) (hJ (F.run _ X.stack _ _ ⟨bz (s.heap.objs.size+1)::us,[]⟩ (bz (s.heap.objs.size+1)::(us++ds)) _ _ E (hr.make C us [])
  (I2.env0.make C us []) (hb _ (bz (s.heap.objs.size+1)::us) I2.kIn hl) r2 hq) fun r s' PZ=>?_))
 cases r with
 |error e=>exact hx Ob σ _ _ e s' I2 PZ
 |ok fl =>
  cases fl with
  |ret u =>
   obtain⟨v,H',I3,rv,ev,q3⟩:=I2.after PZ;subst ev;exact⟨rv,⟨V.ref (s.heap.objs.size+1),H',I3,rfl,q3⟩⟩
  |next=>exact bH PZ
  |brk=>exact bH PZ
  |cont=>exact bH PZ
def IL(M:Mk X.K C f)(F:FnOk X.prog X.w X.K X.mg X.base CX k f fd ps sp)(hr:Room (k+1) X.A)(hg:Gl X x)(hm:X.mg x=some (.ref C))(hb:Binds X.K fd ps ds)(hd:Vals OI ds)(hx:nX CX X E)(OF:NDb x:=by decide):PE X (.Call (.Name x p) [] [] pos) (Md C sp OI E FV):=by
 intro Ob s σ H Q I h;refine dG (tP I hg hm ?_ OF);exact gP I.kIn M.kp (Ix (us:=[]) M F hr hb hd hx I .nil h)
end
def PK(X:Cx)(kws:List dS)(t:TA):Prop :=
 ∀(pos:Pos)(Ob:List (al×Obj))(s:aw)(σ:St)(H:Hp)(Q:List V->Hp->Prop),Inv X Ob σ H s->t σ H Q->aZ (model X.prog X.w) X.A (evalAll ((dM pos (cE kws X.env)).map (·.2))) (AP X Ob σ Q) X.xe s
section
variable{X:Cx}{CX:CXT}{k:Nat}{f C:al}{fd:bQ}{ps ks:List Str}{sp:Sp}{E:XK}{x m:Str}{p pos Og kpos:Pos}{e o:bj}{es:List bj}{kws:List dS}{te ta:TE}{t tk:TA}{nm:Option Str}
structure KBinds(K:aa)(fd:bQ)(ps ks:List Str)(g:List am->List am->List am)(gV:List V->List V->List V):Prop where
 to:∀(s:aw)(us ws:List am),K.In s.heap->(g us ws).length=ps.length->js s fd ⟨us,ks.zip ws⟩ (ps.zip (g us ws))
 rel:∀{vs:List V}{us:List am}{zs:List V}{ws:List am},Vals vs us->Vals zs ws->Vals (gV vs zs) (g us ws)
variable{g:List am->List am->List am}{gV:List V->List V->List V}
end
structure FnScope(N P:List Str)(sc:dq):Prop where
 kind:sc.kind=.function
 co:sc.isCoroutine=false
 gen:sc.isGenerator=false
 nd:N.Nodup
 pre:N.take P.length=P
 par:∀x∈P,sc.names.lookup x=some .local\/sc.names.lookup x=some .cell
 nofree:∀y∈sc.names,y.2≠.free
def fsc{N P:List Str}{sc:dq}(h1:sc.kind=.function:=by rfl)(h2:sc.isCoroutine=false:=by rfl)(h3:sc.isGenerator=false:=by rfl)(h4:N.Nodup:=by decide +kernel)(h5:N.take P.length=P:=by rfl)(h6:∀x∈P,sc.names.lookup x=some .local\/sc.names.lookup x=some .cell:=by decide +kernel)(h7:∀y∈sc.names,y.2≠.free:=by decide +kernel):FnScope N P sc:=⟨h1,h2,h3,h4,h5,h6,h7⟩
theorem B3{kindOf:Str->Option eU}{x:Str}:∀{binds:List (Str×am)}{m:Str->Option am},(∀v,(x,v)∉binds)->kT kindOf binds m x=m x
 |[],_,_=>rfl
 |(n,v)::r,m,h=>by
  unfold kT;rw[B3 fun w hw=>h w (ah _ hw)];split
  ·have:x≠n:=by rintro rfl;exact h v ag
   simp[this]
  ·rfl
theorem B5{kindOf:Str->Option eU}{x:Str}:∀{binds:List (Str×am)}{m:Str->Option am},(∀v,(x,v)∉binds)->kU kindOf binds m x=m x
 |[],_,_=>rfl
 |(n,v)::r,m,h=>by
  unfold kU;rw[B5 fun w hw=>h w (ah _ hw)];split
  ·rfl
  ·have:x≠n:=by rintro rfl;exact h v ag
   simp[this]
theorem B4{kindOf:Str->Option eU}{x:Str}{v:am}:∀{P:List Str}{vs:List am}{i:Nat}{m:Str->Option am},P.Nodup->P[i]?=some x->vs[i]?=some v->kindOf x=some .local ->
  kT kindOf (P.zip vs) m x=some v
 |[],_,_,_,_,h,_,_=>by simp at h
 |_::_,[],_,_,_,_,h,_=>by simp at h
 |p::P,w::vs,0,m,nd,h1,h2,hk=>by
  simp at h1 h2;subst h1;subst h2;show kT kindOf ((p,w)::P.zip vs) m p=_;unfold kT;rw[B3 fun v hv=>(az.mp nd).1 (jc hv).1,if_pos hk];simp
 |p::P,w::vs,i+1,m,nd,h1,h2,hk=>by show kT kindOf ((p,w)::P.zip vs) m x=_;unfold kT;exact B4 (i:=i) (az.mp nd).2 (by simpa using h1) (by simpa using h2) hk
theorem B6{kindOf:Str->Option eU}{x:Str}{v:am}:∀{P:List Str}{vs:List am}{i:Nat}{m:Str->Option am},P.Nodup->P[i]?=some x->vs[i]?=some v->kindOf x≠some .local ->
  kU kindOf (P.zip vs) m x=some v
 |[],_,_,_,_,h,_,_=>by simp at h
 |_::_,[],_,_,_,_,h,_=>by simp at h
 |p::P,w::vs,0,m,nd,h1,h2,hk=>by
  simp at h1 h2;subst h1;subst h2;show kU kindOf ((p,w)::P.zip vs) m p=_;unfold kU;rw[B5 fun v hv=>(az.mp nd).1 (jc hv).1,if_neg hk];simp
 |p::P,w::vs,i+1,m,nd,h1,h2,hk=>by show kU kindOf ((p,w)::P.zip vs) m x=_;unfold kU;exact B6 (i:=i) (az.mp nd).2 (by simpa using h1) (by simpa using h2) hk
def start(N:List Str)(vs:List V):St:=vs.map some++aT (N.length-vs.length) none
noncomputable def Ey(CX:CXT)(P:aI)(w:aX)(K:aa)(mg:Str->Option am)(base:bA)(N:List Str)(qual:Str)(scope:dq)(f:al)(cd:am)(A:cq)(outer:List Env)(s:aw)(H:Hp)(E:XK):Cx where
 prog:=P
 w:=w
 K:=K
 mg:=mg
 base:=base
 A:=A.deeper (eI qual scope s.heap.objs.size f cd)
 N:=N
 sa0:=s
 Ha0:=H
 env:=eI qual scope s.heap.objs.size f cd
 outer:=outer
 stack:=eI qual scope s.heap.objs.size f cd::outer
 ex:=[]
 calm:=true
 fn:=fun _=>true
 pn:=[]
 xe:=fun e s'=>aZ (model P w) (A.deeper (eI qual scope s.heap.objs.size f cd)) (leaving (eI qual scope s.heap.objs.size f cd) e) (fun _ To=>CX outer H s E e To) (fun e' To=>CX outer H s E e' To) s'
def EC{sc:dq}{n:Nat}{x:Str}(h:sc.names.lookup x=some .cell):∃c,(cellsFrom n sc.names []).lookup x=some c:=by have q:=jD sc.names n [] (.inl h);exact bY.mp q
def Hr{CX:CXT}{P:aI}{w:aX}{K:aa}{mg:Str->Option am}{base:bA}{N ps:List Str}{qual:Str}{scope:dq}{f:al}{cd:am}{A:cq}{outer:List Env}{s s1:aw}{H:Hp}{E:XK}{us:List am}{vs:List V}(S:FnScope N ps scope)(hd:A.handled=none)(e0:Env0 P w K mg base A outer s H)(hl:vs.length=ps.length)(r:Vals vs us)(x:InCallC s s.heap.objs.size (kT (eI qual scope s.heap.objs.size f cd).kindOf (ps.zip us) fun _=>none) (cellsFrom (s.heap.objs.size+1) scope.names []) (kU (eI qual scope s.heap.objs.size f cd).kindOf (ps.zip us) fun _=>none) s1) :
  Inv (Ey CX P w K mg base N qual scope f cd A outer s H E) [] (start N vs) H s1:=by
 have OH:ps.length<=N.length:=by have:=congrArg b6 S.pre;rw[ce] at this;omega
 obtain⟨h1,tk,rfl,hk⟩:=x.done;have RD:∀b:al,b∉(Ey CX P w K mg base N qual scope f cd A outer s H E).ex:=fun b z=>absurd (show b∈([]:List al) from z) (by simp);refine⟨⟨e0.mod,S.kind,rfl,rfl,ax _,fun y z c h1 h2=>?_,fun y hy=>?_,fun y c _ h=>?_,fun _=>hd,Around.frames_deeper e0.frames,.inr ⟨rfl,rfl⟩,fun b z=>absurd z (RD b),e0.bs,e0.bsz,fun b _ _=>RD b,fun b z=>absurd z (RD b),e0.funs,e0.frf⟩,
  rfl,e0.bare,Un.kept hk,⟨_,x.toInCall.ns,fun i y v h1 h2 h3=>?_⟩,fun y c h=>⟨_,x.cell y c h⟩,e0.hok.fresh (ax _),fun y c h=>?_,fun p hp=>absurd (show p∈([]:List (al×Obj)) from hp) (by simp),e0.hok.kept hk,?_⟩
 ·exact name_of_addr x.apart (db h1) (db h2)
 ·have hy:scope.names.lookup y=some .cell\/scope.names.lookup y=some .free:=hy;rcases hy with hy|hy
  ·exact EC hy
  ·exact absurd rfl (S.nofree _ (db hy))
 ·exact fk (x.above y c (db h))
 ·have hi:i<vs.length:=by
   unfold start at h2;by_cases hi:i<vs.length
   ·exact hi
   ·rw[dO (by simpa using hi)] at h2;rw[gu] at h2;split at h2<;>cases h2
  have ha:vs[i]?=some v:=by
   unfold start at h2;rw[gc (by simpa using hi),bu] at h2;cases e:vs[i]? with
   |none=>rw[e] at h2;cases h2
   |some a=>rw[e] at h2;cases h2;rfl
  obtain⟨u,hu,rv⟩:=r.get ha;have hp:ps[i]?=some y:=by rw[<-S.pre,List.getElem?_take_of_lt (by omega)];exact h1
  have ndP:ps.Nodup:=by rw[<-S.pre];exact S.nd.sublist (dI _ _)
  refine⟨u,rv,?_⟩;rcases S.par y (bW hp) with k|k
  ·exact .inl ⟨k,B4 ndP hp hu k⟩
  ·obtain⟨c,e⟩:=EC (n:=s.heap.objs.size+1) k;refine .inr ⟨.inl k,c,e,?_⟩;have q:=x.cell y c e;rw[B6 ndP hp hu (by show scope.names.lookup y≠_;rw[k];decide)] at q;exact q
 ·exact e0.hok.fresh (fk (x.above y c (db h)))
 ·unfold start;show _=N.length;rw[aE,af,dF];omega
def MA{CX:CXT}{P:aI}{w:aX}{K:aa}{mg:Str->Option am}{base:bA}{k:Nat}{f:al}{name qual:Str}{params:jH}{body:List bL}{scope:dq}{dV kV O4 pm Ol ct oc:am}{an od:Option al}{Qo:Array (Option am)}{N ps:List Str}{sp:Sp}(lk:K.lookup f=some ⟨oc,od,.func (b5 name qual params body scope dV kV O4 pm an Ol ct),Qo⟩)(O7:fP K Ol qual=true)(S:FnScope N ps scope)(len:∀vs H Q E,sp vs H Q E->vs.length=ps.length)(O8:∀(A:cq)(outer:List Env)(s:aw)(H:Hp)(vs:List V)(Q:VK)(E:XK),Room k (A.deeper (eI qual scope s.heap.objs.size f Ol))->sp vs H Q E ->
   ∃t,PSs (Ey CX P w K mg base N qual scope f Ol A outer s H E) body t/\t { nx:=fun _ H'=>Q .non H',rt:=Q } (start N vs) H) :
  FnOk P w K mg base CX (k+1) f (b5 name qual params body scope dV kV O4 pm an Ol ct) ps sp:=by
 refine⟨len,fun A outer s H args us vs Q E hr e0 hb r Qe=>?_⟩;have hl:=len _ _ _ _ Qe;have KX:K.In s.heap:=e0.mod.kin.keeps fun b o e=>(e0.bs b o e).1;have lim:s.heap.NoLimit:=e0.mod.nolimit.keeps fun b o e=>(e0.bs b o e).1;have RU:∀y∈ps.zip us,scope.names.lookup y.1=some .local\/(scope.names.lookup y.1=some .cell/\((cellsFrom (s.heap.objs.size+1) scope.names []).lookup y.1).isSome=true):=fun⟨n,v⟩ hy=>by
  rcases S.par n (jc hy).1 with q|q
  ·exact .inl q
  ·exact .inr ⟨q,jD _ _ _ (.inl q)⟩
 refine codeAny_call_function hr.depth (KX _ _ lk) rfl S.co S.gen rfl (PySem.W.codeRec_of KX O7) (hb _ _ _ _ ?_);refine wpAny_newFunctionEnv_cells S.kind RU fun env he s1 x=>?_;subst he;refine⟨lim.keeps x.toInCall.keep,codeAny_func ?_⟩;obtain⟨t,ht,hq⟩:=O8 A outer s H vs Q E (hr.deeper _) Qe;have I:Inv (Ey CX P w K mg base N qual scope f Ol A outer s H E) [] (start N vs) H s1:=Hr S hr.hd e0 hl r x;refine bK (ht [] s1 (start N vs) H _ I hq) (fun fl s' hs=>?_) fun e s' hs=>hs;have fin:∀{σ':St}{H':Hp}{v:V}{u:am},Inv (Ey CX P w K mg base N qual scope f Ol A outer s H E) [] σ' H' s'->RelV v u->Q v H'->CE outer P w H s Q u s' :=
  fun{σ' H' v u} J rv q=>⟨v,H',J.os,J.bare,J.base,J.hok,rv,q⟩
 cases fl with
 |ret u =>
  obtain⟨v,σ',H',J,rv,q⟩:=hs;exact fin J rv q
 |next =>
  obtain⟨σ',H',J,q⟩:=hs;exact fin (v:=V.non) (u:=jm) J rfl q
 |brk =>
  obtain⟨_,_,_,q⟩:=hs;exact bH q
 |cont =>
  obtain⟨_,_,_,q⟩:=hs;exact bH q
section
variable{X:Cx}{x:Str}{p pos:Pos}{e:bj}{es:List bj}{t:TA}{id T:String}{r:List V->Hp->VK->Prop}
def tCB(r:List V->Hp->VK->Prop)(t:TA):TE:=fun σ H Q=>t σ H fun vs H1=>r vs H1 Q
def om(hc:CallR X (.builtin id) r)(hg:Gl X x)(hm:X.mg x=none)(hv:bP x=some (.builtin id))(ha:PA X (e::es) t)(hn:x≠"__name__":=by decide)(OF:NDb x:=by decide)(he:SEb X e es:=by rfl)(OH:(cj pos (aK es X.env)).any (·.1)=false:=by rfl):PE X (.Call (.Name x p) (e::es) [] pos) (tCB r t):=by
 intro Ob s σ H Q I h;refine dG (C9 I hg hm hv ?_ hn OF);exact PyProof.Rows.callWith_builtin1 (thn (ha pos Ob s σ H _ I h) fun us s1 ⟨vs,H1,I1,r1,q1⟩=>hc Ob s1 σ H1 vs us Q I1 r1 q1) he OH
def G7(hc:CallR X (.type T) r)(hg:Gl X x)(hm:X.mg x=none)(hv:bP x=some (.type T))(ha:PA X (e::es) t)(hn:x≠"__name__":=by decide)(OF:NDb x:=by decide)(he:SEb X e es:=by rfl)(OH:(cj pos (aK es X.env)).any (·.1)=false:=by rfl):PE X (.Call (.Name x p) (e::es) [] pos) (tCB r t):=by
 intro Ob s σ H Q I h;refine dG (C9 I hg hm hv ?_ hn OF);exact iw (thn (ha pos Ob s σ H _ I h) fun us s1 ⟨vs,H1,I1,r1,q1⟩=>hc Ob s1 σ H1 vs us Q I1 r1 q1) he OH
end
end L2
namespace HT
open PySem PyProof.Rows
section
open PySem.SeqAt
open PySem.AutoSeq1 (wpAny_loadPart')
open PySem.MeetsSeq PySem.MeetsSeq2 PySem.MeetsSeq3
end
section
variable{prog:aI}{w:aX}{A:cq}{E:am->aw->Prop}{s:aw}
def cat_tup(ht:IsTup s.heap t vs.toArray)(hb:IsTup s.heap b ws.toArray)(hv:vs≠[])(h1:ws=[]->Q (.ref t) s)(h2:ws≠[]->Q (.ref s.heap.objs.size) { s with heap:=s.heap.push { cls:=.type "tuple",data:=.seq (vs++ws).toArray } })(hsz:vs.length+ws.length<=aH):aZ (model prog w) A (dk .Add (.ref t) (.ref b)) Q E s:=by
 obtain⟨⟨cls,dd,data,sl⟩,ho,hc,n,hd⟩:=id ht;obtain⟨⟨cls2,dd2,data2,P4⟩,ho2,hc2,n2,hd2⟩:=id hb;simp only at hc hd hc2 hd2;subst hc hd hc2 hd2;have e:vs.toArray++ws.toArray=(vs++ws).toArray:=by simp
 by_cases hw:ws=[]
 ·exact concat_meets ⟨_,ho,rfl⟩ ⟨_,ho2,rfl⟩ noFill_tuple_add seq_tuple_add jF jx (jp _ _)
   (tuple_addW1 t b vs.toArray ws.toArray n n2 dd dd2 sl P4 (by simpa using hv) (by simp[hw])) ⟨ho,ho2,h1 hw⟩
 ·refine concat_meets ⟨_,ho,rfl⟩ ⟨_,ho2,rfl⟩ noFill_tuple_add seq_tuple_add jF jx (jp _ _)
   (tuple_addW2 t b vs.toArray ws.toArray n n2 dd dd2 sl P4 (by simpa using hv) (by simpa using hw) (by rw[aV,aV];exact hsz)) ⟨ho,ho2,?_⟩
  rw[e];exact h2 hw
def sIx(n d:Nat):Option Int->Nat
 |none=>d
 |some v=>if v<0 then(v+(n:Int)).toNat else min v.toNat n
def sIx_none(n d:Nat):sIx n d none=d:=rfl
def sIx_nat(n d k:Nat):sIx n d (some (k:Int))=min k n:=by show(if(k:Int)<0 then((k:Int)+(n:Int)).toNat else min (k:Int).toNat n)=min k n;rw[if_neg (by omega),Int.toNat_natCast]
def sIx_le(n d:Nat)(hd:d<=n)(o:Option Int):sIx n d o<=n:=by
 cases o with
 |none=>exact hd
 |some v =>
  show(if v<0 then(v+(n:Int)).toNat else min v.toNat n)<=n;by_cases hv:v<0
  ·rw[if_pos hv];omega
  ·rw[if_neg hv];exact Nat.min_le_right _ _
def GK(v:Int)(n d:Nat):(if v<0 then max (v+(n:Int)) 0 else min v (n:Int))=((sIx n d (some v):Nat):Int):=by
 show(if v<0 then max (v+(n:Int)) 0 else min v (n:Int))=(((if v<0 then(v+(n:Int)).toNat else min v.toNat n):Nat):Int);by_cases hv:v<0
 ·simp only[if_pos hv];omega
 ·simp only[if_neg hv];omega
def Fv(lo hi:Option Int)(n:Nat):fH lo hi 1 (n:Int)=(((sIx n 0 lo:Nat):Int),((sIx n n hi:Nat):Int)):=by
 have h1:¬((1:Int)<0):=by omega
 unfold fH;simp only[h1,if_false];refine Prod.ext ?_ ?_
 ·cases lo with
  |none=>rfl
  |some v=>exact GK v n 0
 ·cases hi with
  |none=>rfl
  |some v=>exact GK v n n
def E7(i j:Nat):dA (i:Int) (j:Int) 1=j-i:=by
 unfold dA;have h1:(1:Int)>0:=by omega
 simp only[h1,if_true,Int.ediv_one];split<;>omega
def za(p:jE v o)(h:Q o s):aZ (model prog w) A (Builtin.Slice.slicePartIndex v) Q E s:=by
 cases p with
 |none=>exact slicePart_none h
 |int i t=>exact slicePart_int h
def w4{sl:al}{vl vu:am}{lo hi:Option Int}{n:Nat}{Q:Int×Int×Nat->aw->Prop}(hs:s.heap.IsSliceOf sl vl vu .none)(pl:jE vl lo)(pu:jE vu hi)(h:Q (((sIx n 0 lo:Nat):Int),1,sIx n n hi-sIx n 0 lo) s):aZ (model prog w) A (ir (.ref sl) (pure (n:Int))) Q E s:=by
 obtain⟨os,Qt,Ra,SW⟩:=id hs;unfold ir Builtin.Slice.sliceFields;refine av (av (wpAny_field Qt SW (x:=vl) rfl (av (wpAny_field Qt SW (x:=vu) rfl (av (wpAny_field Qt SW (x:=.none) rfl (aS ?_)))))));refine av (slicePart_none ?_);show aZ _ _ (if((1:Int)==0)=true then _ else _) _ _ s;rw[if_neg (by decide)];refine av (za pl (av (za pu (av (aS ?_)))));show aZ _ _ (match fH lo hi 1 (n:Int) with|(lo,hi)=>pure (lo,(1:Int),dA lo hi 1)) _ _ s;rw[Fv lo hi n];show aZ _ _ (pure (((sIx n 0 lo:Nat):Int),(1:Int),dA ((sIx n 0 lo:Nat):Int) ((sIx n n hi:Nat):Int) 1)) _ _ s;rw[E7];exact aS h
def IH(xs:Array am)(i k:Nat):((gA k).filterMap fun(m:Nat)=>xs[((i:Int)+(m:Int)*1).toNat]?).toArray=((xs.toList.drop i).take k).toArray:=by
 have e:(fun(m:Nat)=>xs[((i:Int)+(m:Int)*1).toNat]?)=fun m=>xs[i+m]?:=by
  funext m
  have:((i:Int)+(m:Int)*1).toNat=i+m:=by omega
  rw[this]
 rw[e];have:=pick_run xs i k;rw[List.filterMap_map] at this;have e2:((fun x=>xs[x]?)∘fun x=>i+x)=fun m=>xs[i+m]?:=rfl;rw[e2] at this;rw[this]
def getItem_tuple_cut{t sl:al}{items:Array am}{vl vu:am}{lo hi:Option Int}{Q:am->aw->Prop}(ht:IsTup s.heap t items)(hs:s.heap.IsSliceOf sl vl vu .none)(pl:jE vl lo)(pu:jE vu hi)(hw:¬(sIx items.size 0 lo=0/\sIx items.size items.size hi=items.size))(h:Q (.ref s.heap.objs.size) { s with heap:=s.heap.push { cls:=.type "tuple",data:=.seq ((items.toList.drop (sIx items.size 0 lo)).take (sIx items.size items.size hi-sIx items.size 0 lo)).toArray } })(hsz:items.size<=aH):aZ (model prog w) A (iK (.ref t) (.ref sl)) Q E s:=by
 have Pw:sizeOk (.seq ((items.toList.drop (sIx items.size 0 lo)).take (sIx items.size items.size hi-sIx items.size 0 lo)).toArray):=by show((items.toList.drop (sIx items.size 0 lo)).take (sIx items.size items.size hi-sIx items.size 0 lo)).toArray.size<=aH;rw[aV,ce,fC,bS];omega
 have hj:sIx items.size items.size hi<=items.size:=sIx_le _ _ (ax _) hi;obtain⟨os,Qt,Ra,SW⟩:=id hs;have hTs:s.TypeIs (.ref sl) "slice":=⟨os,Qt,Ra⟩;unfold iK
 try with_reducible refine eS ?_
 first|refine av (aS ?_)|skip
 refine av (wpAny_sequenceKey ht.typeIs (by decide) ?_);refine av (wpAny_callSpecial?_slot (name:=ac "__getitem__") ht.typeIs dy
  (wpAny_call_entry dy ht.typeIs entry_tuple_getitem ?_ (args_tuple_getitem _ _)))
 show aZ _ _ (Builtin.Tuple.tupleItemsOf (.ref t) >>= _) _ _ s;refine av (tupleItemsOf_ ht ?_);refine av (wpAny_typeOf hTs ?_);rw[if_pos (by decide)];refine av (w4 hs pl pu ?_);have Qf:¬((((sIx items.size 0 lo:Nat):Int)==0&&(1:Int)==1&&(sIx items.size items.size hi-sIx items.size 0 lo)==items.size)=true):=by intro q;rw[bG,bG] at q;have q1:((sIx items.size 0 lo:Nat):Int)=0:=eq_of_beq q.1.1;have q2:sIx items.size items.size hi-sIx items.size 0 lo=items.size:=eq_of_beq q.2;exact hw ⟨by omega,by omega⟩
 show aZ _ _ (if(((sIx items.size 0 lo:Nat):Int)==0&&(1:Int)==1&&(sIx items.size items.size hi-sIx items.size 0 lo)==items.size)=true then _ else _) _ _ s;rw[if_neg Qf,IH]
 first
  |exact av (m:=dH _) (dR (aS ⟨_,rfl,aS h⟩) Pw)
  |exact av (m:=dH _) (dR (av (aS (aS ⟨_,rfl,aS h⟩))) Pw)
  |exact av (av (m:=dH _) (dR (aS (aS ⟨_,rfl,aS h⟩)) Pw))
  |exact av (av (m:=dH _) (dR (aS ⟨_,rfl,aS h⟩) Pw))
end
end HT
namespace L2
open PySem PySem.Spec PyProof.Rows
abbrev TO:=St->Hp->(Option Int->Hp->Prop)->Prop
def PO(X:Cx)(e:Option bj)(t:TO):Prop :=
 ∀(Ob:List (al×Obj))(s:aw)(σ:St)(H:Hp)(Q:Option Int->Hp->Prop),Inv X Ob σ H s->t σ H Q ->
  aZ (model X.prog X.w) X.A (evalPart e X.env) (fun u s'=>∃o H',Inv X Ob σ H' s'/\jE u o/\Q o H') X.xe s
def Kx:TO:=fun _ H Q=>Q none H
def tPart(t:TE):TO:=fun σ H Q=>t σ H fun x H1=>∃i,x=.int i/\Q (some i) H1
section
variable{X:Cx}{e:bj}{te:TE}{lo hi:Option bj}{tl th:TO}{pos p2:Pos}
def po_none:PO X none Kx:=by intro Ob s σ H Q I h;rw[evalPart_none];exact aS ⟨none,H,I,.none,h⟩
def KW(h:PE X e te):PO X (some e) (tPart te):=by intro Ob s σ H Q I hw;rw[evalPart_some];refine thn (h Ob s σ H _ I hw) fun u s1 ⟨x,H1,I1,r1,q1⟩=>?_;obtain⟨i,rfl,q⟩:=q1;obtain⟨t,rfl⟩:=r1;exact⟨some i,H1,I1,.int i t,q⟩
def SlR(X:Cx)(r:V->Option Int->Option Int->Hp->VK->Prop):Prop :=
 ∀(Ob:List (al×Obj))(s:aw)(σ:St)(H:Hp)(x:V)(v vl vu:am)(lo hi:Option Int)(sl:al)(Q:VK),Inv X Ob σ H s->RelV x v->s.heap.IsSliceOf sl vl vu .none->jE vl lo->jE vu hi->r x lo hi H Q ->
  ∃T id,typeLookup (.type T) "__getitem__"=pure (some (.builtin id))/\s.TypeIs v T/\aZ (model X.prog X.w) X.A (iK v (.ref sl)) (EP X Ob σ Q) X.xe s
def SlR.or(h:SlR X r)(h':SlR X r'):SlR X (fun x lo hi H Q=>r x lo hi H Q\/r' x lo hi H Q):=by
 intro Ob s σ H x v vl vu lo hi sl Q I rx hs pl pu q;rcases q with q|q
 ·exact h Ob s σ H x v vl vu lo hi sl Q I rx hs pl pu q
 ·exact h' Ob s σ H x v vl vu lo hi sl Q I rx hs pl pu q
def tSl(r:V->Option Int->Option Int->Hp->VK->Prop)(te:TE)(tl th:TO):TE:=fun σ H Q=>te σ H fun x H1=>tl σ H1 fun l H2=>th σ H2 fun u H3=>r x l u H3 Q
def D7(hr:SlR X r)(he:PE X e te)(hl:PO X lo tl)(hu:PO X hi th):PE X (.Subscript e (.Slice lo hi none p2) pos) (tSl r te tl th):=by intro Ob s σ H Q I h;refine Subscript_ (thn (he Ob s σ H _ I h) fun v s1 ⟨x,H1,I1,r1,q1⟩=>?_);refine wpAny_Slice (thn (hl Ob s1 σ H1 _ I1 q1) fun vl s2 ⟨l,H2,I2,pl,q2⟩=>thn (hu Ob s2 σ H2 _ I2 q2) fun vu s3 ⟨u,H3,I3,pu,q3⟩=>?_);rw[evalPart_none];refine aS ?_;have I4:Inv X Ob σ H3 { s3 with heap:=s3.heap.push { cls:=.type "slice",data:=.fields #[vl,vu,.none] } }:=I3.kept (t':=s3.toks) fun b ob q=>aG _ q;obtain⟨T,id,hT,ht,hg⟩:=hr Ob { s3 with heap:=s3.heap.push { cls:=.type "slice",data:=.fields #[vl,vu,.none] } } σ H3 x v vl vu l u s3.heap.objs.size Q I4 r1 (Heap.IsSliceOf.new ..) pl pu q3;show aZ (model X.prog X.w) X.A (iX e (.Slice lo hi none p2) v (.ref s3.heap.objs.size)) (EP X Ob σ Q) X.xe { s3 with heap:=s3.heap.push { cls:=.type "slice",data:=.fields #[vl,vu,.none] } };exact tail_any (ops:=[.ref s3.heap.objs.size,v]) ht hT hg (by with_unfolding_all rfl)
def GI(xs:List V)(lo hi:Option Int):List V:=(xs.drop (HT.sIx xs.length 0 lo)).take (HT.sIx xs.length xs.length hi-HT.sIx xs.length 0 lo)
def yi(xs:List V)(lo hi:Option Int):(GI xs lo hi).length<=xs.length:=by unfold GI;rw[ce,fC];omega
def rSlT(K:aa):V->Option Int->Option Int->Hp->VK->Prop:=fun x lo hi H Q=>∃a xs,x=.ref a/\SqT K H a xs /\
 ¬(HT.sIx xs.length 0 lo=0/\HT.sIx xs.length xs.length hi=xs.length)/\∀p,H p=none->Q (.ref p) (upd H p (.tup (GI xs lo hi)))
def MT:SlR X (rSlT X.K):=by
 intro Ob s σ H x v vl vu lo hi sl Q I rx hs pl pu h;obtain⟨a,xs,rfl,hx,hw,q⟩:=h;cases rx;obtain⟨its,r,ht,hz⟩:=I.tuple hx;have Of:its.toArray.size=xs.length:=by rw[aV];exact r.length.symm
 refine⟨"tuple",_,dy.lookup,ht.typeIs,?_⟩;refine HT.getItem_tuple_cut ht hs pl pu (by rw[Of];exact hw) ?_ (by rw[Of];exact hz);rw[Of];refine⟨.ref s.heap.objs.size,_,I.laid (t':=s.toks) (o:=.tup (GI xs lo hi)) (fun b ob q=>aG _ q) (ax _) ?_,rfl,q _ (I.hok.fresh (ax _))⟩;exact⟨aC (yi xs lo hi) hz,_,(r.drop (HT.sIx xs.length 0 lo)).take (HT.sIx xs.length xs.length hi-HT.sIx xs.length 0 lo),jP _ _⟩
noncomputable def Ml(K:aa):R2:=fun x y H Q=>∃a b xs ys,x=.ref a/\y=.ref b/\SqT K H a xs/\SqT K H b ys/\xs≠[]/\xs.length+ys.length<=aH /\
 (ys=[]->Q (.ref a) H)/\(ys≠[]->∀p,H p=none->Q (.ref p) (upd H p (.tup (xs++ys))))
def Vals.nil_iff(r:Vals xs us):us=[]↔xs=[]:=by
 cases r with
 |nil=>simp
 |cons _ _=>simp
def K7:OpR X (dk .Add) (Ml X.K):=by intro Ob s σ H x y v u Q I rx ry h;obtain⟨a,b,xs,ys,rfl,rfl,ha,hb,hx,hz,q1,q2⟩:=h;cases rx;cases ry;obtain⟨its,r1,p1,_⟩:=I.tuple ha;obtain⟨PM,r2,p2,_⟩:=I.tuple hb;refine HT.cat_tup p1 p2 (fun z=>hx (r1.nil_iff.mp z)) (fun z=>⟨.ref a,H,I,rfl,q1 (r2.nil_iff.mp z)⟩) (fun z=>?_) (by rw[<-r1.length,<-r2.length];exact hz);refine⟨.ref s.heap.objs.size,_,I.laid (t':=s.toks) (o:=.tup (xs++ys)) (fun b ob q=>aG _ q) (ax _) ?_,rfl,q2 (fun w=>z (r2.nil_iff.mpr w)) _ (I.hok.fresh (ax _))⟩;exact⟨by rw[aE];exact hz,_,r1.append r2,jP _ _⟩
end
def ixN(n:Nat)(i:Int):Option Nat:=if 0<=i then(if i<n then some i.toNat else none) else if -(n:Int)<=i then some (i+n).toNat else none
def atI{α:Type}(xs:List α)(i:Int):Option α:=(ixN xs.length i).bind fun j=>xs[j]?
def Gv(h:ixN n i=some j):seqIndex? i n=some j/\j<n/\-(n:Int)<=i/\i<n:=by
 unfold ixN at h;by_cases h0:0<=i
 ·rw[if_pos h0] at h;by_cases h1:i<n
  ·rw[if_pos h1] at h;have e:i.toNat=j:=aU h;exact⟨by rw[seqIndex_of h0 h1,e],by omega,by omega,h1⟩
  ·rw[if_neg h1] at h;cases h
 ·rw[if_neg h0] at h;by_cases h1:-(n:Int)<=i
  ·rw[if_pos h1] at h;have e:(i+n).toNat=j:=aU h;exact⟨by rw[seqIndex_neg (by omega) h1,e],by omega,h1,by omega⟩
  ·rw[if_neg h1] at h;cases h
def CW(h:atI xs i=some v):∃j,seqIndex? i xs.length=some j/\xs[j]?=some v/\j<xs.length/\-(xs.length:Int)<=i/\i<xs.length:=by
 unfold atI at h;cases e:ixN xs.length i with
 |none=>rw[e] at h;cases h
 |some j =>
  rw[e] at h;obtain⟨h1,h2,h3,h4⟩:=Gv e;exact⟨j,h1,h,h2,h3,h4⟩
def mP{α:Type}{xs:List α}{j:Nat}{v:α}(h:xs[j]?=some v):atI xs (j:Int)=some v:=by
 have hj:j<xs.length:=(aY.mp h).1;have e:ixN xs.length (j:Int)=some j:=by unfold ixN;rw[if_pos (by omega),if_pos (by omega)];simp
 unfold atI;rw[e];exact h
def GR(b:bj):Prop:=∀o i,subscripted b false o i=operate [o,i] (iK o i)
def IxR(X:Cx)(r:R2):Prop :=
 ∀(value slice:bj)(Ob:List (al×Obj))(s:aw)(σ:St)(H:Hp)(x y:V)(v u:am)(Q:VK),Inv X Ob σ H s->RelV x v->RelV y u->r x y H Q ->
  subscripted slice false v u=operate [v,u] (iK v u)->aZ (model X.prog X.w) X.A (iX value slice v u) (EP X Ob σ Q) X.xe s
def MtR(X:Cx)(id:String)(r:V->List V->Hp->VK->Prop):Prop :=
 ∀(Ob:List (al×Obj))(s:aw)(σ:St)(H:Hp)(x:V)(xs:List V)(v:am)(us:List am)(Q:VK),Inv X Ob σ H s->RelV x v->Vals xs us->r x xs H Q ->
  aZ (model X.prog X.w) X.A (call (.builtin id) (v::us)) (EP X Ob σ Q) X.xe s
section
variable{X:Cx}{a b:bj}{ta tb:TE}{pos:Pos}
def IxR.or(h:IxR X r)(h':IxR X r'):IxR X (fun x y H Q=>r x y H Q\/r' x y H Q):=by
 intro value slice Ob s σ H x y v u Q I rx ry q hs;rcases q with q|q
 ·exact h value slice Ob s σ H x y v u Q I rx ry q hs
 ·exact h' value slice Ob s σ H x y v u Q I rx ry q hs
def sf{r:R2}(hr:IxR X r)(ha:PE X a ta)(hb:PE X b tb)(hs:GR b):PE X (.Subscript a b pos) (tOp r ta tb):=by intro Ob s σ H Q I h;exact Subscript_ (Oa ha hb I h fun v u s2 x y H2 I2 rx ry q=>hr a b Ob s2 σ H2 x y v u Q I2 rx ry q (hs _ _))
def N5(K:aa):R2:=fun x y H Q=>∃p xs i v,x=.ref p/\y=.int i/\SqL K H p xs/\atI xs i=some v/\Q v H
def N3(K:aa):R2:=fun x y H Q=>∃p xs i v,x=.ref p/\y=.int i/\SqT K H p xs/\atI xs i=some v/\Q v H
def N4:R2:=fun x y H Q=>∃z i c,x=.str z/\y=.int i/\z.length<=aH/\atI z.cps.toList i=some c/\Q (.str ⟨#[c]⟩) H
def ix_list:IxR X (N5 X.K):=by
 intro value slice Ob s σ H x y v u Q I rx ry h hs;obtain⟨p,xs,i,z,rfl,rfl,hq,he,q⟩:=h;cases rx;obtain⟨t,rfl⟩:=ry;obtain⟨its,r,pl,hz⟩:=I.list hq;obtain⟨j,h1,h2,h3,h4,h5⟩:=CW he;obtain⟨w,ew,OP⟩:=r.get h2;have hl:=r.length;have hn:=yB;have fin:EP X Ob σ Q w s:=⟨z,H,I,OP,q⟩;by_cases h0:0<=i
 ·have hj:i.toNat=j:=by rw[seqIndex_of h0 h5] at h1;exact aU h1
  exact item_listR pl.isList h0 (by omega) (by rw[hj];simpa using ew) fin hs
 ·have hj:(i+(its.toArray.size:Int)).toNat=j:=by rw[seqIndex_neg (by omega) h4] at h1;rw[aV,<-hl];exact aU h1
  exact subscriptTail_builtinR (x:=w) pl.isList.typeIs slot_list_getitem.lookup
   (wpAny_getItem_list_neg (Q:=fun r s'=>r=w/\EP X Ob σ Q r s') pl.isList (by omega) (by rw[aV]<;>omega) (by omega) (by rw[hj];simpa using ew) ⟨rfl,fin⟩) hs
def ix_tup:IxR X (N3 X.K):=by
 intro value slice Ob s σ H x y v u Q I rx ry h hs;obtain⟨p,xs,i,z,rfl,rfl,hq,he,q⟩:=h;cases rx;obtain⟨t,rfl⟩:=ry;obtain⟨its,r,pl,hz⟩:=I.tuple hq;obtain⟨j,h1,h2,h3,h4,h5⟩:=CW he;obtain⟨w,ew,OP⟩:=r.get h2;have hl:=r.length;have hn:=yB;have fin:EP X Ob σ Q w s:=⟨z,H,I,OP,q⟩;exact subscriptTail_builtinR (x:=w) pl.typeIs dy.lookup
  (getItem_tuple (j:=j) (Q:=fun r s'=>r=w/\EP X Ob σ Q r s') pl (by omega) (by omega) (by rw[aV,<-hl];exact h1) (by simpa using ew) ⟨rfl,fin⟩) hs
def NI:IxR X N4:=by
 intro value slice Ob s σ H x y v u Q I rx ry h hs;obtain⟨z,i,c,rfl,rfl,hz,he,q⟩:=h;obtain⟨t,rfl⟩:=rx;obtain⟨t',rfl⟩:=ry;obtain⟨j,h1,h2,h3,h4,h5⟩:=CW he;have hl:z.cps.toList.length=z.length:=by simp[Str.length]
 rw[hl] at h1 h4 h5;have hn:=yB;exact tail_any (g6 s z t) slot_str_getitem.lookup (getItem_str (c:=c) (by have e1:decide (i < -(2^63:Int))=false:=decide_eq_false (by omega);have e2:decide (i>=2^63)=false:=decide_eq_false (by omega);rw[e1,e2,Bool.or_false]) (by rw[h1];simpa using h2) ⟨.str ⟨#[c]⟩,H,I.tok _,⟨_,rfl⟩,q⟩) hs
def Fi(its:List am)(n j:Nat)(u:am):iG (·.setIfInBounds j u) { cls:=.type "list",data:=.seq its.toArray n }={ cls:=.type "list",data:=.seq (its.set j u).toArray n }:=by simp[iG]
theorem Inv.lst{Ob:List (al×Obj)}{σ:St}{H:Hp}{s:aw}{p:al}{xs:List V}(I:Inv X Ob σ H s)(h:H p=some (.lst xs)) :
  ∃(its:List am)(n:Nat),Vals xs its/\s.heap.get? p=some { cls:=.type "list",data:=.seq its.toArray n }/\xs.length<=aH:=by
 obtain⟨z,its,n,r,e⟩:=I.hok p _ h;exact⟨its,n,r,e,z⟩
def Inv.lstUpd{Ob:List (al×Obj)}{σ:St}{H:Hp}{s:aw}{p:al}{xs ys:List V}{its its':List am}{n n':Nat}{f:Obj->Obj}(I:Inv X Ob σ H s)(h:H p=some (.lst xs))(ho:s.heap.get? p=some { cls:=.type "list",data:=.seq its.toArray n })(hf:f { cls:=.type "list",data:=.seq its.toArray n }={ cls:=.type "list",data:=.seq its'.toArray n' })(r:Vals ys its')(hz:ys.length<=aH)(t:Nat) :
  Inv X Ob σ (upd H p (.lst ys)) { s with heap:=s.heap.update p f,toks:=t }:=by
 have e:(s.heap.update p f).get? p=some { cls:=.type "list",data:=.seq its'.toArray n' }:=by rw[Heap.get?_update_self f ho (by rw[hf]<;>rfl),hf]
 refine I.write (x:=p) (e:=p) (by rw[h];trivial) (.inl rfl) (fun b u hb q=>(jX _ _ (fM hb)).trans q) ⟨_,e⟩ ?_;exact⟨hz,its',n',r,e⟩
def Mi:V->V->V->Hp->(Hp->Prop)->Prop:=fun o i v H Q=>∃p xs k j,o=.ref p/\i=.int k/\H p=some (.lst xs)/\ixN xs.length k=some j/\Q (upd H p (.lst (xs.set j v)))
def set_list:PSet X Mi:=by
 intro Ob s σ H o i v ov iv u Q I ro ri rv h;obtain⟨p,xs,k,j,rfl,rfl,hp,hj,q⟩:=h;cases ro;obtain⟨t,rfl⟩:=ri;obtain⟨its,n,r,ho,hz⟩:=I.lst hp;obtain⟨h1,h2,h3,h4⟩:=Gv hj;have hl:=r.length;have hn:=yB;have I':Inv X Ob σ (upd H p (.lst (xs.set j v))) { s with heap:=s.heap.update p (iG (·.setIfInBounds j u)) } :=
  I.lstUpd hp ho (Fi its n j u) (r.set rv j) (by rw[jd];exact hz) s.toks
 by_cases h0:0<=k
 ·have hk:k.toNat=j:=by rw[seqIndex_of h0 h4] at h1;exact aU h1
  exact PySem.W.ki_setAt ho h0 (by omega) (by rw[aV,<-hl];exact h4) (by rw[hk];exact⟨_,I',q⟩)
 ·have hk:(k+(its.toArray.size:Int)).toNat=j:=by rw[seqIndex_neg (by omega) h3] at h1;rw[aV,<-hl];exact aU h1
  exact PySem.W.ki_setBack ho (by omega) (by rw[aV,<-hl];exact h3) (by omega) (by rw[hk];exact⟨_,I',q⟩)
def B8(lo hi:Option Int)(n:Nat):(fU lo hi none n).1=((HT.sIx n 0 lo:Nat):Int)/\(fU lo hi none n).2.1=((HT.sIx n n hi:Nat):Int)/\(fU lo hi none n).2.2=1:=by
 refine⟨?_,?_,rfl⟩
 ·cases lo with
  |none=>simp[fU,HT.sIx]
  |some i =>
   simp only[fU,HT.sIx,kX,show(1:Int)>0 by decide,if_true];by_cases h:i<0
   ·simp only[h,if_true]<;>omega
   ·simp only[h,if_false]<;>omega
 ·cases hi with
  |none=>simp[fU,HT.sIx]
  |some i =>
   simp only[fU,HT.sIx,kX,show(1:Int)>0 by decide,if_true];by_cases h:i<0
   ·simp only[h,if_true]<;>omega
   ·simp only[h,if_false]<;>omega
def Ab(its:List am)(lo hi:Option Int):slicePick its.toArray lo hi none=((its.drop (HT.sIx its.length 0 lo)).take (HT.sIx its.length its.length hi-HT.sIx its.length 0 lo)).toArray:=by obtain⟨h1,h2,h3⟩:=B8 lo hi its.toArray.size;unfold slicePick;rw[h1,h2,h3];simp only[kg,pick_run,aV]<;>rfl
def rSlL(K:aa):V->Option Int->Option Int->Hp->VK->Prop:=fun x lo hi H Q=>∃a xs,x=.ref a/\SqL K H a xs/\∀p,H p=none->Q (.ref p) (upd H p (.lst (GI xs lo hi)))
def sl_list:SlR X (rSlL X.K):=by intro Ob s σ H x v vl vu lo hi sl Q I rx hs pl pu h;obtain⟨a,xs,rfl,hx,q⟩:=h;cases rx;obtain⟨its,r,ht,hz⟩:=I.list hx;have Of:=r.length;refine⟨"list",_,slot_list_getitem.lookup,ht.isList.typeIs,?_⟩;refine wpAny_getItem_list_slice ht.isList hs pl pu .none (by simp) ?_ (by rw[aV]<;>omega);rw[Ab,<-Of];refine⟨.ref s.heap.objs.size,_,I.laid (t':=s.toks) (o:=.lst (GI xs lo hi)) (fun b ob q=>aG _ q) (ax _) ?_,rfl,q _ (I.hok.fresh (ax _))⟩;exact⟨aC (yi xs lo hi) hz,_,0,(r.drop (HT.sIx xs.length 0 lo)).take (HT.sIx xs.length xs.length hi-HT.sIx xs.length 0 lo),bC _ rfl⟩
def tG:V->Bool
 |.non=>true
 |.bl _=>true
 |.int _=>true
 |.str _=>true
 |_=>false
noncomputable def eqV:V->V->Bool
 |.non,.non=>true
 |.bl a,.bl b=>a==b
 |.bl a,.int b=>(if a then 1 else 0)==b
 |.int a,.bl b=>a==(if b then 1 else 0)
 |.int a,.int b=>a==b
 |.str a,.str b=>a==b
 |_,_=>false
def J1(ry:RelV y u)(rx:RelV x v)(fy:tG y=true)(fx:tG x=true):kK A s u v (eqV y x):=by
 cases y with
 |non =>
  cases ry;cases x with
  |non=>cases rx;exact SeqAt.EqAt.same _
  |bl b=>cases rx;exact SeqAt.EqAt.none_bool b
  |int b=>obtain⟨t,rfl⟩:=rx;exact SeqAt.EqAt.none_int b t
  |str b=>obtain⟨t,rfl⟩:=rx;exact SeqAt.EqAt.none_str b t
  |_=>exact absurd (show false=true from fx) a8
 |bl a =>
  cases ry;cases x with
  |non=>cases rx;exact SeqAt.EqAt.bool_none a
  |bl b=>cases rx;exact SeqAt.EqAt.bool_bool a b
  |int b=>obtain⟨t,rfl⟩:=rx;exact SeqAt.EqAt.bool_int a b t
  |str b=>obtain⟨t,rfl⟩:=rx;exact SeqAt.EqAt.bool_str a b t
  |_=>exact absurd (show false=true from fx) a8
 |int a =>
  obtain⟨t',rfl⟩:=ry;cases x with
  |non=>cases rx;exact SeqAt.EqAt.int_none a t'
  |bl b=>cases rx;exact SeqAt.EqAt.int_bool a t' b
  |int b=>obtain⟨t,rfl⟩:=rx;exact SeqAt.EqAt.int_int a t' b t
  |str b=>obtain⟨t,rfl⟩:=rx;exact jM a t' b t
  |_=>exact absurd (show false=true from fx) a8
 |str a =>
  obtain⟨t',rfl⟩:=ry;cases x with
  |non=>cases rx;exact SeqAt.EqAt.str_none a t'
  |bl b=>cases rx;exact SeqAt.EqAt.str_bool a t' b
  |int b=>obtain⟨t,rfl⟩:=rx;exact jL a t' b t
  |str b=>obtain⟨t,rfl⟩:=rx;exact SeqAt.EqAt.str_str a t' b t
  |_=>exact absurd (show false=true from fx) a8
 |_=>exact absurd (show false=true from fy) a8
def eqU(x:V)(u:am):Bool:=match u with
 |.none=>eqV .non x
 |.bool b=>eqV (.bl b) x
 |.int i _=>eqV (.int i) x
 |.str z _=>eqV (.str z) x
 |_=>false
def J0(r:RelV y u)(f:tG y=true):eqU x u=eqV y x:=by
 cases y with
 |non=>cases r;rfl
 |bl b=>cases r;rfl
 |int i=>obtain⟨t,rfl⟩:=r;rfl
 |str z=>obtain⟨t,rfl⟩:=r;rfl
 |_=>exact absurd (show false=true from f) a8
theorem CY:∀{xs:List V}{us:List am},Vals xs us->xs.all tG=true->us.any (eqU x)=xs.any fun y=>eqV y x
 |_,_,.nil,_=>rfl
 |y::xs,u::us,.cons r t,f=>by rw[iy,bG] at f;rw[fJ,fJ,J0 r f.1,CY t f.2]
theorem zT(rx:RelV x v)(fx:tG x=true):∀{xs:List V}{us:List am},Vals xs us->xs.all tG=true->∀u∈us,kK A s u v (eqU x u)
 |_,_,.nil,_=>fun u hu=>by cases hu
 |y::xs,u::us,.cons r t,f=>fun u' hu=>by
  rw[iy,bG] at f;rcases aj.mp hu with rfl|hu
  ·rw[J0 r f.1];exact J1 r rx f.1 fx
  ·exact zT rx fx t f.2 u' hu
def inV(x:V)(xs:List V):Bool:=xs.any fun y=>eqV y x
def rIn(K:aa)(neg:Bool):R2:=fun x y H Q=>∃p xs,y=.ref p/\(SqL K H p xs\/SqT K H p xs)/\tG x=true/\xs.all tG=true/\Q (.bl (if neg then !inV x xs else inV x xs)) H
def Cn:OpR X (b9 .NotIn) (rIn X.K true):=by
 intro Ob s σ H x y v u Q I rx ry h;obtain⟨p,xs,rfl,hq,fx,fs,q⟩:=h;cases ry;rcases hq with hq|hq
 ·obtain⟨its,r,pl,hz⟩:=I.list hq;refine SeqAt.notIn_listAt (eqU x) pl.isList (fun w hw=>zT rx fx r fs w (by simpa using hw)) ⟨.bl _,H,I,rfl,?_⟩;rw[show its.toArray.any (eqU x)=its.any (eqU x) by simp,CY r fs];exact q
 ·obtain⟨its,r,pl,hz⟩:=I.tuple hq;refine SeqAt.notIn_tupleAt (eqU x) pl (fun w hw=>zT rx fx r fs w (by simpa using hw)) ⟨.bl _,H,I,rfl,?_⟩;rw[show its.toArray.any (eqU x)=its.any (eqU x) by simp,CY r fs];exact q
def call_len_seq:CallR X (.builtin "len") (fun xs H Q=>∃p ys,xs=[.ref p]/\(SqL X.K H p ys\/SqT X.K H p ys)/\Q (.int ys.length) H):=by
 intro Ob s σ H xs us Q I r h;obtain⟨p,ys,rfl,hq,q⟩:=h;obtain⟨u,rfl,rx⟩:=tj r;cases rx;have hn:=yB;rcases hq with hq|hq
 ·obtain⟨its,r',pl,hz⟩:=I.list hq;have Of:=r'.length;exact Calls.call_len_list pl.isList (by simp only[aV]<;>omega) ⟨.int ys.length,H,I.tok _,⟨s.toks+1,by rw[aV,Of]⟩,q⟩
 ·obtain⟨its,r',pl,hz⟩:=I.tuple hq;have Of:=r'.length;exact len_tuple pl (by simp only[aV]<;>omega) ⟨.int ys.length,H,I.tok _,⟨s.toks+1,by rw[aV,Of]⟩,q⟩
def call_len_str:CallR X (.builtin "len") (fun xs H Q=>∃z,xs=[.str z]/\z.length<=aH/\Q (.int z.length) H):=by intro Ob s σ H xs us Q I r h;obtain⟨z,rfl,hz,q⟩:=h;obtain⟨u,rfl,t,rfl⟩:=tj r;have hn:=yB;exact len_str (by omega) ⟨.int z.length,H,I.tok _,⟨_,rfl⟩,q⟩
def CallR.or(h:CallR X f r)(h':CallR X f r'):CallR X f (fun xs H Q=>r xs H Q\/r' xs H Q):=by
 intro Ob s σ H xs us Q I rs q;rcases q with q|q
 ·exact h Ob s σ H xs us Q I rs q
 ·exact h' Ob s σ H xs us Q I rs q
def AN:CallR X (.type "tuple") (fun xs H Q=>∃p ys,xs=[.ref p]/\((SqL X.K H p ys/\∀l,H l=none->Q (.ref l) (upd H l (.tup ys)))\/(SqT X.K H p ys/\Q (.ref p) H))):=by
 intro Ob s σ H xs us Q I r h;obtain⟨p,ys,rfl,h⟩:=h;obtain⟨u,rfl,rx⟩:=tj r;cases rx;rcases h with⟨hq,q⟩|⟨hq,q⟩
 ·obtain⟨its,r',pl,hz⟩:=I.list hq;have Of:=r'.length;refine call_tuple_list pl.isList (fun h' kp=>?_) (by simp only[aV]<;>omega);have I1:Inv X Ob σ H { s with heap:=h' }:=I.kept (t':=s.toks) kp;have I2:Inv X Ob σ (upd H h'.objs.size (.tup ys)) { s with heap:=h'.push { cls:=.type "tuple",data:=.seq its.toArray } } :=
   I1.laid (t':=s.toks) (fun b o e=>aG _ e) (ax _) (show ObjOk X.prog X.w _ _ _ (.tup ys) from⟨hz,its,r',jP _ _⟩)
  exact⟨.ref h'.objs.size,_,I2,rfl,q _ (I1.hok.fresh (ax _))⟩
 ·obtain⟨its,r',pl,hz⟩:=I.tuple hq;exact call_tuple_same pl ⟨.ref p,H,I,rfl,q⟩
def tyV(K:aa)(T:String)(x:V)(H:Hp):Prop:=match x with
 |.str _=>T="str"
 |.int _=>T="int"
 |.ref p=>(T="list"/\∃xs,SqL K H p xs)\/(T="tuple"/\∃o,K.lookup p=some o/\o.cls=.type "tuple"/\o.dict=none) \/
   (T="dict"/\((∃kvs,H p=some (.dK kvs))\/∃kvs,H p=some (.dT kvs)))\/(T="set"/\∃S n,H p=some (.set S n))
 |_=>False
def MK(I:Inv X Ob σ H s)(r:RelV x v)(ty:tyV X.K T x H) :
  s.TypeIs v T/\∀a,v=.ref a->∃ob,s.heap.get? a=some ob/\ob.dict=none:=by
 cases x with
 |str z =>
  obtain⟨t,rfl⟩:=r;cases(show T="str" from ty);exact⟨g6 s z t,fun _ e=>nomatch e⟩
 |int i =>
  obtain⟨t,rfl⟩:=r;cases(show T="int" from ty);exact⟨typeIs_int s i t,fun _ e=>nomatch e⟩
 |ref p =>
  cases r;rcases ty with⟨rfl,xs,hq⟩|⟨rfl,o,hk,hc,hd⟩|⟨rfl,hk⟩|⟨rfl,S,n,hk⟩
  ·obtain⟨its,_,pl,_⟩:=I.list hq;refine⟨pl.isList.typeIs,fun a e=>?_⟩;cases e;obtain⟨o,n,e,c,hd,_⟩:=pl;exact⟨o,e,hd⟩
  ·refine⟨⟨o,I.kIn p o hk,hc⟩,fun a e=>?_⟩;cases e;exact⟨o,I.kIn _ o hk,hd⟩
  ·have z:∃o,s.heap.get? p=some o/\o.ExactDict:=by
    rcases hk with⟨kvs,hk⟩|⟨kvs,hk⟩
    ·obtain⟨_,_,_,_,o,_,_,e,ex,_⟩:=I.hok p _ hk;exact⟨o,e,ex⟩
    ·obtain⟨_,_,_,_,o,_,_,e,ex,_⟩:=I.hok p _ hk;exact⟨o,e,ex⟩
   obtain⟨o,e,ex⟩:=z;refine⟨⟨o,e,ex.1⟩,fun a e2=>?_⟩;cases e2;exact⟨o,e,ex.2.1⟩
  ·obtain⟨o,_,_,_,e,ex,_⟩:=I.hok p _ hk;refine⟨⟨o,e,ex.1⟩,fun a e2=>?_⟩;cases e2;exact⟨o,e,ex.2.1⟩
 |_=>exact bH ty
def tBM(K:aa)(T:String)(r:V->List V->Hp->VK->Prop)(to:TE)(t:TA):TE:=fun σ H Q=>to σ H fun x H1=>tyV K T x H1/\t σ H1 fun xs H2=>r x xs H2 Q
variable{o e:bj}{es:List bj}{to:TE}{t:TA}{name:Str}{Og Oe:Pos}{T id:String}{r:V->List V->Hp->VK->Prop}
def HL(pa:PlainAttrs T)(slot:Slot T name id)(SM:typeOf (.builtin id)=pure (.type "method_descriptor"))(hm:MtR X id r)(ho:PE X o to)(ha:PA X (e::es) t)(OL:du o name X.env (eval o X.env)=eval o X.env:=by rfl)(O2:((cj Oe (aK (e::es) X.env)).all (fun x=>!x.1)&&(dM Oe (cE [] X.env)).all (fun x=>x.1.isSome)
   && decide ((e::es).length+([]:List dS).length+(if([]:List dS).isEmpty then 0 else 1)<30))=true:=by rfl)(OK:(Og.endLine==Oe.line)=true:=by rfl)(hs:SEb X e es:=by rfl)(Ox:(cj Oe (aK es X.env)).any (·.1)=false:=by rfl) :
  PE X (.Call (.Attribute o name Og) (e::es) [] Oe) (tBM X.K T r to t):=by
 intro Ob s σ H Q I h;refine wpAny_Call_method_late OL O2 OK rfl (thn (ho Ob s σ H _ I h) fun v s1 ⟨x,H1,I1,r1,ty,q1⟩=>?_);obtain⟨h1,h2⟩:=MK I1 r1 ty;refine⟨T,id,pa,slot,SM,h1,h2,?_⟩;have hA:=ha Oe Ob s1 σ H1 _ I1 q1;rw[hs] at hA ⊢;refine gw (by show(false||(cj Oe (aK es X.env)).any (·.1))=false;rw[Ox]<;>rfl) (fG ?_);exact thn hA fun us s2 ⟨vs,H2,I2,r2,q2⟩=>hm Ob s2 σ H2 x vs v us Q I2 r1 r2 q2
end
def MtM(X:Cx)(id:String)(r:V->List V->Hp->VK->Prop):Prop :=
 ∀(Ob:List (al×Obj))(s:aw)(σ:St)(H:Hp)(x:V)(xs:List V)(v:am)(us:List am)(Q:VK),Inv X Ob σ H s->RelV x v->Vals xs us->r x xs H Q ->
  aZ (model X.prog X.w) X.A (call (.builtin id) (v::us)) (EP X Ob σ Q) X.xe s
def Vals.one:∀{x:V}{us:List am},Vals [x] us->∃u,us=[u]/\RelV x u
 |_,_,.cons r .nil=>⟨_,rfl,r⟩
theorem Vals.rep(h:Vals xs us):∀k:Nat,Vals (aT k xs).flatten (aT k us).flatten
 |0=>.nil
 |k+1=>by rw[cN,cN,cn,cn];exact Vals.append h (Vals.rep h k)
theorem BQ(its:List am):∀(k:Nat)(Oj:List am),
  k6 (fun x1 x2=>x1++x2) Oj.toArray (aT k its.toArray)=(Oj++(aT k its).flatten).toArray
 |0,Oj=>by simp
 |k+1,Oj=>by
  have e:Oj.toArray++its.toArray=(Oj++its).toArray:=by simp
  have e2:(Oj++its)++(aT k its).flatten=Oj++(aT (k+1) its).flatten:=by rw[cN,cn,aO]
  rw[<-e2,<-BQ its k (Oj++its),<-e,cN,List.foldl_cons]
section
variable{X:Cx}{Ob:List (al×Obj)}{σ:St}{H:Hp}{s:aw}{l b:al}{xs ys zs:List V}
def Inv.lset{its its':List am}{n:Nat}{f:Array am->Array am}{t':Nat}(I:Inv X Ob σ H s)(hH:H l=some (.lst xs))(e:s.heap.get? l=some { cls:=.type "list",data:=.seq its.toArray n })(hf:f its.toArray=its'.toArray)(hv:Vals ys its')(hz:ys.length<=aH) :
  Inv X Ob σ (upd H l (.lst ys)) { s with heap:=s.heap.update l (iG f),toks:=t' }:=by
 have q:=PySem.IsL.update e f;rw[hf] at q;refine I.write (x:=l) (e:=l) (by rw[hH];exact trivial) (.inl rfl) (fun b' u hb hu=>(jX s.heap (iG f) (fM hb)).trans hu) ⟨_,q⟩ ?_;exact⟨hz,its',_,hv,q⟩
def Inv.lnew(I:Inv X Ob σ H s)(hv:Vals ys its)(hz:ys.length<=aH) :
  Inv X Ob σ (upd H s.heap.objs.size (.lst ys)) { s with heap:=s.heap.push { cls:=.type "list",data:=.seq its.toArray },toks:=t' } :=
 I.laid (fun _ _ q=>aG _ q) (ax _) ⟨hz,its,0,hv,bC _ rfl⟩
theorem Inv.fresh(I:Inv X Ob σ H s):H s.heap.objs.size=none:=I.hok.fresh (ax _)
def Inv.lstM(I:Inv X Ob σ H s)(hH:H l=some (.lst xs)):xs.length<=aH/\∃(its:List am)(n:Nat),Vals xs its/\xs.length=its.length/\s.heap.get? l=some { cls:=.type "list",data:=.seq its.toArray n }:=by obtain⟨z,its,n,r,e⟩:=I.hok l _ hH;exact⟨z,its,n,r,r.length,e⟩
def IY(h:n<=aH):fN n=false:=by unfold fN;exact decide_eq_false (by omega)
def KM:V->List V->Hp->VK->Prop:=fun x vs H Q=>∃l xs y,x=.ref l/\vs=[y]/\H l=some (.lst xs)/\xs.length<aH/\Q .non (upd H l (.lst (xs++[y])))
def BE:MtM X "list.append" KM:=by intro Ob s σ H x vs v us Q I rx rv h;obtain⟨l,xs,y,rfl,rfl,hH,hz,q⟩:=h;cases rx;obtain⟨u,rfl,ru⟩:=rv.one;obtain⟨z,its,n,r,hl,e⟩:=I.lstM hH;refine hU kA ⟨_,e,rfl⟩ F.entry_list_append (F.args_list_append_2 _ _) (PySem.list_append l its.toArray n u (by rw[aV];omega)) ⟨e,?_⟩;refine⟨.non,_,I.lset (its':=its++[u]) hH e (by simp) (r.append (.cons ru .nil)) ?_,rfl,q⟩;rw[aE,gK];omega
noncomputable def N2:R2:=fun x y H Q=>∃l k xs,x=.ref l/\y=.int k/\H l=some (.lst xs)/\-(2^63)<=k/\k<2^63/\xs.length*k.toNat<=aH /\
 ∀p,H p=none->Q (.ref p) (upd H p (.lst (aT k.toNat xs).flatten))
def Lr(xs:List α)(k:Nat):(aT k xs).flatten.length=k*xs.length:=by
 induction k with
 |zero=>simp
 |succ k ih=>rw[cN,cn,aE,ih,Nat.succ_mul,Nat.add_comm]
def Np:OpR X (dk .Mult) N2:=by
 intro Ob s σ H x y v u Q I rx ry h;obtain⟨l,k,xs,rfl,rfl,hH,h1,h2,hz,q⟩:=h;cases rx;obtain⟨t,rfl⟩:=ry;obtain⟨z,its,n,r,hl,e⟩:=I.lstM hH;have Of:its.toArray.size*k.toNat<=aH:=by rw[aV,<-hl];exact hz
 have Ud:¬its.toArray.size*k.toNat>(2^63-1)/8:=by
  have:(aH:Nat)<=(2^63-1)/8:=by decide
  omega
 have T3:¬(!Builtin.List.listFitsIndex k)=true:=by rw[fitsIndex_both h1 h2];exact a8
 have RS:¬fN (its.toArray.size*k.toNat)=true:=by rw[IY Of];exact a8
 have OV:k6 (fun x1 x2=>x1++x2) #[] (aT (if its.toArray.isEmpty=true then 0 else k.toNat) its.toArray)=(aT k.toNat its).flatten.toArray:=by
  have f0:∀m:Nat,k6 (fun x1 x2=>x1++x2) #[] (aT m its.toArray)=(aT m its).flatten.toArray:=fun m=>by have:=BQ its m [];rw[bI] at this;exact this
  rw[f0];cases its with
  |nil=>simp
  |cons a r'=>rw[if_neg (by simp)]
 refine wpAny_binaryOp_repeat_ref (T:="list") (U:="int") (by decide) ⟨_,e,rfl⟩ (fun s'=>typeIs_int s' k t) noFill_list_mul F.fills_int_mul F.slot_int_rmul repeat_list F.slot_int_index.lookup
  (hU F.slot_int_rmul (typeIs_int s k t) F.entry_int_rmul (F.args_int_rmul_2 _ _) (int___rmul___int_list k t l its.toArray n)
   ⟨e,rfl,⟨_,e,rfl⟩,hU F.slot_list_mul ⟨_,e,rfl⟩ F.entry_list_mul (F.args_list_mul_2 _ _) (AutoListH.list___mul___list_int_3 l its.toArray n k t T3 Ud RS) ⟨e,?_⟩⟩)
 rw[OV];exact⟨.ref _,_,I.lnew (t':=s.toks) (r.rep k.toNat) (by rw[Lr,Nat.mul_comm];exact hz),rfl,q _ I.fresh⟩
end
section
variable{prog:aI}{w:aX}{A:cq}{E:am->aw->Prop}{s:aw}
set_option maxRecDepth 100000 in
end
section
variable{X:Cx}
end
open PySem PySem.Spec PyProof.Rows
section
variable{κ:Type}[DecidableEq κ]
def pN(kvs:List (κ×V))(k:κ):Option V:=(kvs.find? fun kv=>decide (kv.1=k)).map (·.2)
def rO(kvs:List (κ×V))(k:κ)(v:V):List (κ×V) :=
 if(kvs.any fun kv=>decide (kv.1=k))=true then kvs.map (fun kv=>if kv.1=k then(kv.1,v) else kv) else kvs++[(k,v)]
def Bc(kvs:List (κ×V))(k:κ):List (κ×V):=kvs.filter fun kv=>decide (kv.1≠k)
def wG{p:κ×V}{r:List (κ×V)}{k:κ}(e:p.1=k):pN (p::r) k=some p.2:=by simp[pN,bw,e]
def wH{p:κ×V}{r:List (κ×V)}{k:κ}(e:¬p.1=k):pN (p::r) k=pN r k:=by simp[pN,bw,e]
theorem wI(k:κ):∀kvs:List (κ×V),(kvs.any fun kv=>decide (kv.1=k))=(pN kvs k).isSome
 |[]=>rfl
 |p::r=>by
  rw[fJ];by_cases e:p.1=k
  ·simp only[wG e,decide_eq_true e,Bool.true_or,Option.isSome_some]
  ·rw[wH e,decide_eq_false e,Bool.false_or];exact wI k r
def uz(kvs:List (κ×V))(k:κ)(v:V):(rO kvs k v).length<=kvs.length+1:=by
 unfold rO;split
 ·rw[af];omega
 ·rw[aE,aq,aD];omega
def uS{kvs:List (κ×V)}{k:κ}(v:V)(h:pN kvs k=none):rO kvs k v=kvs++[(k,v)]:=by unfold rO;rw[wI,h];exact if_neg (by decide)
def RelO.isSome_eq(r:RelO o u):o.isSome=u.isSome:=by
 cases o with
 |none=>cases u with
  |none=>rfl
  |some _=>exact(show False from r).elim
 |some _=>cases u with
  |none=>exact(show False from r).elim
  |some _=>rfl
theorem RelO.getD(r:RelO o u)(rd:RelV d d'):RelV (o.getD d) (u.getD d'):=by
 cases o with
 |none=>cases u with
  |none=>exact rd
  |some _=>exact(show False from r).elim
 |some _=>cases u with
  |none=>exact(show False from r).elim
  |some _=>exact r
def KV.val{kvs:List (κ×V)}{vs:List (κ×am)}(r:KV kvs vs)(k:κ):RelO (pN kvs k) (iI vs k):=by
 unfold KV at r;induction r with
 |nil=>exact cJ
 |@cons p q ps qs h t ih =>
  obtain⟨h1,h2⟩:=h;by_cases e:p.1=k
  ·have e':q.1=k:=h1.symm.trans e;have b:iI (q::qs) k=some q.2:=by simp[iI,bw,e']
   rw[wG e,b];exact h2
  ·have e':¬q.1=k:=fun z=>e (h1.trans z);have b:iI (q::qs) k=iI qs k:=by simp[iI,bw,e']
   rw[wH e,b];exact ih
theorem KV.any(r:KV kvs vs)(k:κ):(kvs.any fun kv=>decide (kv.1=k))=vs.any fun kv=>decide (kv.1=k):=by
 unfold KV at r;induction r with
 |nil=>rfl
 |cons h t ih=>rw[fJ,fJ,ih,h.1]
def KV.repl(r:KV kvs vs)(k:κ)(ry:RelV y u) :
  KV (kvs.map fun kv=>if kv.1=k then(kv.1,y) else kv) (vs.map fun kv=>if kv.1=k then(kv.1,u) else kv):=by
 unfold KV at r ⊢;induction r with
 |nil=>exact .nil
 |@cons p q ps qs h t ih =>
  rw[ap,ap];refine .cons ?_ ih;obtain⟨h1,h2⟩:=h;by_cases e:p.1=k
  ·rw[if_pos e,if_pos (h1.symm.trans e)];exact⟨h1,ry⟩
  ·rw[if_neg e,if_neg (fun z=>e (h1.trans z))];exact⟨h1,h2⟩
def KV.put(r:KV kvs vs)(k:κ)(ry:RelV y u):KV (rO kvs k y) (stored vs k u):=by
 unfold rO stored;rw[r.any k];by_cases e:(vs.any fun kv=>decide (kv.1=k))=true
 ·rw[if_pos e,if_pos e];exact r.repl k ry
 ·rw[if_neg e,if_neg e];exact jW r ⟨rfl,ry⟩
def KV.drop(r:KV kvs vs)(k:κ):KV (Bc kvs k) (without vs k):=by
 unfold KV at r ⊢;unfold Bc without;induction r with
 |nil=>exact .nil
 |@cons p q ps qs h t ih =>
  obtain⟨h1,h2⟩:=h;rw[dW,dW];by_cases e:p.1=k
  ·have a:¬decide (p.1≠k)=true:=by simp[e]
   have b:¬decide (q.1≠k)=true:=by simp[h1.symm.trans e]
   rw[if_neg a,if_neg b];exact ih
  ·have e':¬q.1=k:=fun z=>e (h1.trans z);have a:decide (p.1≠k)=true:=by simp[e]
   have b:decide (q.1≠k)=true:=by simp[e']
   rw[if_pos a,if_pos b];exact .cons ⟨h1,h2⟩ ih
def KV.keys{kvs:List (κ×V)}{vs:List (κ×am)}(r:KV kvs vs):kvs.map (·.1)=vs.map (·.1):=by
 unfold KV at r;induction r with
 |nil=>rfl
 |cons h t ih=>rw[ap,ap,ih,h.1]
theorem KV.length(r:KV kvs vs):kvs.length=vs.length:=jv r
def Jp(kvs:List (κ×V))(k:κ):(Bc kvs k).length<=kvs.length:=fA _ _
end
def zn(r:RelV (kV k) u):(mH P w).is k u=true:=by
 cases k with
 |inl i=>obtain⟨t,e⟩:=(show ∃t,u=gT i t from r);subst e;exact Dt P w i t
 |inr x=>obtain⟨t,e⟩:=(show ∃t,u=gn x t from r);subst e;exact Ds P w x t
theorem BM:∀{ks:List Key}{us:List am},Vals (ks.map kV) us->ItemsAre (mH P w) ks us
 |[],_,r=>by rw[bv] at r;cases r;exact .nil
 |k::ks,_,r=>by
  rw[ap] at r;cases r with
  |cons h t=>exact .cons (zn h) (BM t)
abbrev KT(H:Hp):List (List Key×V)->List (List Key×al×am)->Prop:=fQ fun p q=>p.1=q.1/\H q.2.1=some (.tup (p.1.map kV))/\RelV p.2 q.2.2
def KT.val{H:Hp}{kvs:List (List Key×V)}{xs:List (List Key×al×am)}(r:KT H kvs xs)(k:List Key):RelO (pN kvs k) ((km xs k).map (·.2)):=by
 induction r with
 |nil=>exact cJ
 |@cons p q ps qs h t ih =>
  obtain⟨h1,_,h2⟩:=h;by_cases e:p.1=k
  ·have e':q.1=k:=h1.symm.trans e;have b:km (q::qs) k=some q.2:=by simp[km,bw,e']
   rw[wG e,b];exact h2
  ·have e':¬q.1=k:=fun z=>e (h1.trans z);have b:km (q::qs) k=km qs k:=by simp[km,bw,e']
   rw[wH e,b];exact ih
def KT.repl(r:KT H kvs xs)(k:List Key)(ry:RelV y u) :
  KT H (kvs.map fun kv=>if kv.1=k then(kv.1,y) else kv) (xs.map (putAt k u)):=by
 induction r with
 |nil=>exact .nil
 |@cons p q ps qs h t ih =>
  rw[ap,ap];refine .cons ?_ ih;obtain⟨h1,h2,h3⟩:=h;unfold putAt;by_cases e:p.1=k
  ·rw[if_pos e,if_pos (h1.symm.trans e)];exact⟨h1,h2,ry⟩
  ·rw[if_neg e,if_neg (fun z=>e (h1.trans z))];exact⟨h1,h2,h3⟩
def KT.put(r:KT H kvs xs)(k:List Key)(hb:H b=some (.tup (k.map kV)))(ry:RelV y u) :
  KT H (rO kvs k y) (storedH xs k b u):=by
 have e:(kvs.any fun kv=>decide (kv.1=k))=(km xs k).isSome:=by rw[wI,(r.val k).isSome_eq,ck]
 unfold rO storedH;rw[e];by_cases q:(km xs k).isSome=true
 ·rw[if_pos q,if_pos q];exact r.repl k ry
 ·rw[if_neg q,if_neg q];exact jW r ⟨rfl,hb,ry⟩
def KT.keeps(r:KT H kvs xs)(ht:∀b ys,H b=some (.tup ys)->H' b=some (.tup ys)):KT H' kvs xs :=
 fQ.mapP r fun _ _ z=>⟨z.1,ht _ _ z.2.1,z.2.2⟩
section
variable{P:aI}{w:aX}{H:Hp}{h:bA}{a:al}
def Mh(ok:HOk P w H h)(e:Rd H a u):ObjOk P w H h a u:=e.ok ok
def wT(ok:HOk P w H h)(e:Rd H a (.dK kvs)):kvs.length<=aH/\(a==ee)=false/\∃vs,KV kvs vs/\h.DictOf (mH P w) a vs :=
 show ObjOk P w H h a (.dK kvs) from Mh ok e
def Kl(ok:HOk P w H h)(e:H a=some (.dK kvs)):kvs.length<=aH/\(a==ee)=false/\∃vs,KV kvs vs/\h.DictOf (mH P w) a vs:=wT ok (.inl e)
def yD(ok:HOk P w H h)(e:H a=some (.tup (ks.map kV))):(iJ (mH P w)).is h ks a:=by obtain⟨_,its,r,o,h1,h2,n,h3⟩:=(show ObjOk P w H h a (.tup (ks.map kV)) from ok a _ e);exact⟨o,its.toArray,n,h1,h2,h3,by simpa using BM r⟩
def Bb(ok:HOk P w H h)(e:Rd H a (.dT kvs)):kvs.length<=aH/\(a==ee)=false /\
  ∃xs,KT H kvs xs/\h.DictOfH (iJ (mH P w)) a xs:=by
 obtain⟨z,y,xs,r,o,es,ep,h1,h2,h3,h4,h5⟩:=(show ObjOk P w H h a (.dT kvs) from Mh ok e);refine⟨z,y,xs,r,o,es,ep,h1,h2,h3,h4,fun x hx=>?_,h5⟩;have all:∀{l:List (List Key×V)}{m:List (List Key×al×am)},KT H l m->∀x∈m,(iJ (mH P w)).is h x.1 x.2.1:=by
  intro l m q;induction q with
  |nil=>intro x hx;exact nomatch hx
  |@cons p q ps qs hq t ih =>
   intro x hx;rcases aj.mp hx with e|hx
   ·subst e;exact yD ok (by rw[<-hq.1];exact hq.2.1)
   ·exact ih x hx
 exact all r x hx
def dt_of(ok:HOk P w H h)(e:H a=some (.dT kvs)):kvs.length<=aH/\(a==ee)=false /\
  ∃xs,KT H kvs xs/\h.DictOfH (iJ (mH P w)) a xs:=Bb ok (.inl e)
end
def DGet(H:Hp)(a:al)(y:V)(r:Option V):Prop :=
 (∃kvs k,Rd H a (.dK kvs)/\y=kV k/\r=pN kvs k)\/∃kvs k b,Rd H a (.dT kvs)/\y=.ref b/\H b=some (.tup (k.map kV))/\r=pN kvs k
def DPut(H:Hp)(a:al)(y v:V)(H':Hp):Prop :=
 (∃kvs k,H a=some (.dK kvs)/\y=kV k/\kvs.length<aH/\H'=upd H a (.dK (rO kvs k v))) \/
 ∃kvs k b,H a=some (.dT kvs)/\y=.ref b/\H b=some (.tup (k.map kV))/\kvs.length<aH/\H'=upd H a (.dT (rO kvs k v))
theorem DGet.k{H:Hp}{a:al}{kvs:List (Key×V)}{k:Key}(e:H a=some (.dK kvs)):DGet H a (kV k) (pN kvs k):=.inl ⟨kvs,k,.inl e,rfl,rfl⟩
theorem DPut.k{H:Hp}{a:al}{kvs:List (Key×V)}{k:Key}{v:V}(e:H a=some (.dK kvs))(hl:kvs.length<aH):DPut H a (kV k) v (upd H a (.dK (rO kvs k v))):=.inl ⟨kvs,k,e,rfl,hl,rfl⟩
section
variable{X:Cx}{Ob:List (al×Obj)}{σ:St}{H:Hp}{s:aw}{a:al}{y v:V}{u r:am}{o:Option V}{A:cq}{E:am->aw->Prop}
def Inv.big(I:Inv X Ob σ H s):ee<s.heap.objs.size:=by have h:bi<s.heap.objs.size:=(I.mod.glob.keeps I.bk).lt;exact fj (by decide) h
def BV(hu:A.units+1<fE)(I:Inv X Ob σ H s)(g:DGet H a y (some v))(ry:RelV y u)(h:∀w' s',Inv X Ob σ H s'->RelV v w'->Q w' s') :
  aZ (model X.prog X.w) A (iK (.ref a) u) Q E s:=by
 rcases g with⟨kvs,k,e,ey,l⟩|⟨kvs,k,b,e,ey,eb,l⟩
 ·subst ey;obtain⟨z,hd,vs,rel,dd⟩:=wT I.hok e;obtain⟨w',hw,OP⟩:=RelO.some_of (v:=v) (o:=iI vs k) (by rw[l];exact rel.val k);exact wpAny_getItem_of (zn ry) dd.mapOf hw (h w' _ (I.tok _) OP)
 ·subst ey;cases(show u=bz b from ry);obtain⟨z,hd,xs,rel,dd⟩:=Bb I.hok e;obtain⟨w',hw,OP⟩:=RelO.some_of (v:=v) (o:=(km xs k).map (·.2)) (by rw[l];exact rel.val k);obtain⟨p,hp,Rl⟩:=cM.mp hw;refine wpAny_getItem_heap (eZ hu) (yD I.hok eb) dd hp ?_;rw[Rl];exact h w' _ (I.tok _) OP
def d_in(hu:A.units+1<fE)(I:Inv X Ob σ H s)(g:DGet H a y o)(ry:RelV y u)(h:∀s',Inv X Ob σ H s'->Q (.bool o.isSome) s') :
  aZ (model X.prog X.w) A (b9 .In u (.ref a)) Q E s:=by
 rcases g with⟨kvs,k,e,ey,l⟩|⟨kvs,k,b,e,ey,eb,l⟩
 ·subst ey;obtain⟨z,hd,vs,rel,dd⟩:=wT I.hok e;refine wpAny_in_of (zn ry) hd dd.mapOf ?_;rw[<-(rel.val k).isSome_eq,<-l];exact h _ (I.tok _)
 ·subst ey;cases(show u=bz b from ry);obtain⟨z,hd,xs,rel,dd⟩:=Bb I.hok e;refine wpAny_in_heap (eZ hu) (yD I.hok eb) hd dd ?_;have q:=(rel.val k).isSome_eq;rw[ck] at q;rw[<-q,<-l];exact h _ (I.tok _)
def LY(hu:A.units+1<fE)(I:Inv X Ob σ H s)(g:DGet H a y o)(ry:RelV y u)(h:∀s',Inv X Ob σ H s'->Q (.bool (!o.isSome)) s') :
  aZ (model X.prog X.w) A (b9 .NotIn u (.ref a)) Q E s:=by
 rcases g with⟨kvs,k,e,ey,l⟩|⟨kvs,k,b,e,ey,eb,l⟩
 ·subst ey;obtain⟨z,hd,vs,rel,dd⟩:=wT I.hok e;refine wpAny_notIn_of (zn ry) hd dd.mapOf ?_;rw[<-(rel.val k).isSome_eq,<-l];exact h _ (I.tok _)
 ·subst ey;cases(show u=bz b from ry);obtain⟨z,hd,xs,rel,dd⟩:=Bb I.hok e;refine wpAny_notIn_heap (eZ hu) (yD I.hok eb) hd dd ?_;have q:=(rel.val k).isSome_eq;rw[ck] at q;rw[<-q,<-l];exact h _ (I.tok _)
def zB(I:Inv X Ob σ H s)(mu:Mut (H a))(hs:iL a s.heap h')(he:∃q,h'.get? a=some q)(new:ObjOk X.prog X.w (upd H a ob) h' a ob) :
  Inv X Ob σ (upd H a ob) { s with heap:=h',toks:=t' } :=
 I.write (x:=a) (e:=a) mu (.inl rfl) (fun b q hb z=>(hs.2 b hb).trans z) he new
def FM(z:kvs.length<=aH)(hd:(a==ee)=false)(rel:KV kvs vs)(dd:h'.DictOf (mH P w) a vs) :
  ObjOk P w H' h' a (.dK kvs):=⟨z,hd,vs,rel,dd⟩
def BU(hu:A.units+1<fE)(I:Inv X Ob σ H s)(g:DPut H a y v H')(ry:RelV y u)(rv:RelV v r)(h:∀s',Inv X Ob σ H' s'->Q () s') :
  aZ (model X.prog X.w) A (setItem (.ref a) u r) Q E s:=by
 rcases g with⟨kvs,k,e,ey,l,eH⟩|⟨kvs,k,b,e,ey,eb,l,eH⟩
 ·subst ey eH;obtain⟨z,hd,vs,rel,dd⟩:=Kl I.hok e;have hz:vs.length<=aH:=by rw[<-rel.length];exact z
  have hl:(rO kvs k v).length<=aH:=by have:=uz kvs k v;omega
  refine wpAny_setItem_pairs (hsz:=hz) (zn ry) dd fun h' Qi hs=>h _ ?_;have he:∃q,h'.get? a=some q:=let⟨q,_,_,hq,_⟩:=Qi;⟨q,hq⟩;exact zB I (by rw[e];exact cJ) hs he (FM hl hd (rel.put k rv) Qi)
 ·subst ey eH;cases(show u=bz b from ry);obtain⟨z,hd,xs,rel,dd⟩:=dt_of I.hok e;have hz:xs.length<=aH:=by rw[<-jv rel];exact z
  have hl:(rO kvs k v).length<=aH:=by have:=uz kvs k v;omega
  refine wpAny_setItem_heap (hsz:=hz) (eZ hu) (yD I.hok eb) dd fun h' Qi hs=>h _ ?_;obtain⟨q,es,ep,hq,h2,h3,h4,_,h5⟩:=Qi;refine zB I (by rw[e];exact cJ) hs ⟨q,hq⟩ ⟨hl,hd,_,(rel.put k eb rv).keeps fun c ys ec=>?_,q,es,ep,hq,h2,h3,h4,h5⟩;rw[lg (C8 ec e (fun z=>nomatch z))];exact ec
end
section
variable{X:Cx}{Ob:List (al×Obj)}{σ:St}{H:Hp}{s:aw}{a:al}{kvs:List (Key×V)}{k:Key}{u:am}{A:cq}{E:am->aw->Prop}
def d_pop(I:Inv X Ob σ H s)(e:H a=some (.dK kvs))(ry:RelV (kV k) u)(l:pN kvs k=some v)(hm:OB=[]\/∃x,OB=[x])(h:∀w' s',Inv X Ob σ (upd H a (.dK (Bc kvs k))) s'->RelV v w'->Q w' s'):aZ (model X.prog X.w) A (call (.builtin "dict.pop") (.ref a::u::OB)) Q E s:=by
 obtain⟨z,hd,vs,rel,dd⟩:=Kl I.hok e;obtain⟨w',hw,OP⟩:=RelO.some_of (v:=v) (o:=iI vs k) (by rw[<-l];exact rel.val k);have hp:(keyPart u).isSome=true:=by
  cases k with
  |inl i=>obtain⟨t,q⟩:=(show ∃t,u=gT i t from ry);subst q;rfl
  |inr x=>obtain⟨t,q⟩:=(show ∃t,u=gn x t from ry);subst q;rfl
 have ha:argsOk "dict.pop" ⟨.ref a::u::OB,[]⟩:=by
  rcases hm with q|⟨x,q⟩
  ·subst q;exact PySem.F.args_dict_pop_2 _ _
  ·subst q;exact PySem.F.args_dict_pop_3 _ _ _
 refine call_meetsIn jN dd.typeIs PySem.F.entry_dict_pop ha (meets_dict_pop_there (mH X.prog X.w) a (zn ry) OB hm hp)
  ⟨vs,w',dd,by rw[<-rel.length];exact z,hw,fun h' Qi hs=>h w' _ ?_ OP⟩
 have he:∃q,h'.get? a=some q:=let⟨q,_,_,hq,_⟩:=Qi;⟨q,hq⟩;exact zB I (by rw[e];exact cJ) hs he (FM (aC (Jp kvs k) z) hd (rel.drop k) Qi)
def MC(I:Inv X Ob σ H s)(e:Rd H a (.dK kvs))(h:∀t s',Inv X Ob σ H s'->Q (.int kvs.length t) s'):aZ (model X.prog X.w) A (call (.builtin "len") [.ref a]) Q E s:=by obtain⟨z,hd,vs,rel,dd⟩:=wT I.hok e;refine call_len_dict hd dd (by rw[<-rel.length];rw[jI] at z;omega) ?_;rw[<-rel.length];exact h _ _ (I.tok _)
end
def NoSl(i:bj):Prop:=∀ov iv,subscripted i false ov iv=operate [ov,iv] (iK ov iv)
def Ky{prog:aI}{w:aX}{A:cq}{E:am->aw->Prop}{s:aw}{env:Env}{value slice:bj}{pos:Pos}{T id:String}{Q:am->aw->Prop}(hl:typeLookup (.type T) "__getitem__"=pure (some (.builtin id)))(hs:NoSl slice)(h:aZ (model prog w) A (eval value env) (fun o Op=>aZ (model prog w) A (eval slice env) (fun i PH=>PH.TypeIs o T/\aZ (model prog w) A (iK o i) Q E PH) E Op) E s) :
  aZ (model prog w) A (eval (.Subscript value slice pos) env) Q E s:=by
 refine Subscript_ (bK h (fun o Op Sb=>bK Sb (fun i PH Sa=>?_) fun _ _ x=>x) fun _ _ x=>x);obtain⟨hT,Sa⟩:=Sa;unfold iX;refine av ?_;rw[getitemInPython_of_ne hT.not_modules];refine av (wpAny_specialOf hT hl ?_);have fin:aZ (model prog w) A (subscripted slice false o i) (fun r Oh=>aZ (model prog w) A (letTemporaryGo value o r >>= fun _=>pure r) Q E Oh) E PH:=by rw[hs o i];exact wpAny_operating (bK Sa (fun r Oh Rt=>av (wpAny_letTemporaryGo (aS Rt))) fun _ _ x=>x)
 first
  |exact aS (av fin)
  |exact av (aS (av fin))
  |exact av fin
def yh(I:Inv X Ob σ H s)(g:DGet H a y o):s.TypeIs (.ref a) "dict":=by
 rcases g with⟨kvs,k,e,_,_⟩|⟨kvs,k,b,e,_,_,_⟩
 ·obtain⟨_,_,vs,_,dd⟩:=wT I.hok e;exact dd.typeIs
 ·obtain⟨_,_,xs,_,dd⟩:=Bb I.hok e;exact dd.typeIs
def tDGet(td ty:TE):TE:=fun σ H Q=>td σ H fun x H1=>ty σ H1 fun y H2=>∃a v,x=.ref a/\DGet H2 a y (some v)/\Q v H2
def tDIn(ty td:TE):TE:=fun σ H Q=>ty σ H fun y H1=>td σ H1 fun x H2=>∃a o,x=.ref a/\DGet H2 a y o/\Q (.bl o.isSome) H2
def Mf(td ty tv:TE):TS:=fun D σ H=>tv σ H fun v H1=>td σ H1 fun x H2=>ty σ H2 fun y H3=>∃a H4,x=.ref a/\DPut H3 a y v H4/\D.nx σ H4
section
variable{X:Cx}{o i e value:bj}{pos Oy O0:Pos}{td ty tv:TE}
def tN(hu:X.A.units+1<fE)(ho:PE X o td)(hi:PE X i ty)(hs:NoSl i):PE X (.Subscript o i pos) (tDGet td ty):=by intro Ob s σ H Q I h;refine Ky ja.lookup hs (thn (ho Ob s σ H _ I h) fun u s1 ⟨x,H1,I1,rx,q1⟩=>thn (hi Ob s1 σ H1 _ I1 q1) fun iv s2 ⟨y,H2,I2,ry,a,v,ex,g,q2⟩=>?_);subst ex;obtain rfl:u=bz a:=rx;exact⟨yh I2 g,BV hu I2 g ry fun w' s3 I3 OP=>⟨v,H2,I3,OP,q2⟩⟩
def JP(hu:X.A.units+1<fE)(hi:PE X i ty)(ho:PE X o td):PC X .In i o (tDIn ty td):=by intro Ob s σ H Q I h;refine thn (hi Ob s σ H _ I h) fun iv s1 ⟨y,H1,I1,ry,q1⟩=>thn (ho Ob s1 σ H1 _ I1 q1) fun u s2 ⟨x,H2,I2,rx,a,ov,ex,g,q2⟩=>?_;subst ex;obtain rfl:u=bz a:=rx;exact d_in hu I2 g ry fun s3 I3=>⟨.bl ov.isSome,H2,I3,rfl,q2⟩
def qo(hu:X.A.units+1<fE)(ho:PE X o td)(hi:PE X i ty)(hv:PE X value tv)(hs:fO value (some (.Subscript o i Oy)) pos.line X.env=pure false) :
  PS X (.Assign [.Subscript o i Oy] value pos) (Mf td ty tv):=by
 intro Ob s σ H D I h;refine wpAny_Assign_Subscript (thn (hv Ob s σ H _ I h) fun r s1 ⟨v,H1,I1,rv,q1⟩=>thn (ho Ob s1 σ H1 _ I1 q1) fun u s2 ⟨x,H2,I2,rx,q2⟩=>thn (hi Ob s2 σ H2 _ I2 q2) fun iv s3 ⟨y,H3,I3,ry,a,H4,ex,g,q3⟩=>?_) hs;subst ex;obtain rfl:u=bz a:=rx;exact BU hu I3 g ry rv fun s4 I4=>⟨σ,H4,I4,q3⟩
def Eu(h:bA)(hb:ee<h.objs.size):ObjOk P w H (h.push { cls:=.type "dict",data:=.dict #[] }) h.objs.size (.dK []) :=
 ⟨ba _,beq_eq_false_iff_ne.mpr (fM (a6 hb)),[],.nil,Heap.DictOf.new h⟩
def MQ:TE:=fun _ H Q=>∀p,H p=none->Q (.ref p) (upd H p (.dK []))
def pe_dnewK:PE X (.Dict [] [] pos) MQ:=fun Ob s σ H Q I h =>
 wpAny_Dict_empty ⟨.ref s.heap.objs.size,_,I.laid (a:=s.heap.objs.size) (o:=.dK []) (t':=s.toks) (fun _ _ q=>aG _ q) (ax _) (Eu s.heap I.big),rfl,h _ (I.hok.fresh (ax _))⟩
end
def Fx:List (TE×TE)->St->Hp->(List (V×V)->Hp->Prop)->Prop
 |[],_,H,Q=>Q [] H
 |(tk,tv)::r,σ,H,Q=>tk σ H fun x H1=>tv σ H1 fun y H2=>Fx r σ H2 fun ps H3=>Q ((x,y)::ps) H3
abbrev VV:List (V×V)->List (am×am)->Prop:=fQ fun p q=>RelV p.1 q.1/\RelV p.2 q.2
def PPs(X:Cx)(pos:Pos)(keys:List (Option bj))(OZ:List bj)(QQ:List (TE×TE)):Prop :=
 ∀(Ob:List (al×Obj))(s:aw)(σ:St)(H:Hp)(Q:List (V×V)->Hp->Prop),Inv X Ob σ H s->Fx QQ σ H Q ->
  aZ (model X.prog X.w) X.A (evalPairs (pairTrees keys OZ X.env pos)) (fun vs s'=>∃ps H',Inv X Ob σ H' s'/\VV ps vs/\Q ps H') X.xe s
def Ge:PPs X pos [] [] []:=fun Ob s σ H Q I h=>pairTrees_nil_walk ⟨[],H,I,.nil,h⟩
def D5(hk:PE X k tk)(hv:PE X v tv)(hr:PPs X pos ks vs QQ) :
  PPs X pos (some k::ks) (v::vs) ((tk,tv)::QQ):=fun Ob s σ H Q I h =>
 pairTrees_cons_walk (thn (hk Ob s σ H _ I h) fun u s1 ⟨x,H1,I1,rx,q1⟩=>thn (hv Ob s1 σ H1 _ I1 q1) fun w2 s2 ⟨y,H2,I2,ry,q2⟩ =>
  thn (hr Ob s2 σ H2 _ I2 q2) fun ws s3 ⟨ps,H3,I3,rel,q3⟩=>⟨(x,y)::ps,H3,I3,.cons ⟨rx,ry⟩ rel,q3⟩)
def AE(kvs OB:List (Key×V)):List (Key×V):=OB.foldl (fun Oj kv=>rO Oj kv.1 kv.2) kvs
def KV.merge:∀{OB:List (Key×V)}{rs:List (Key×am)}{kvs:List (Key×V)}{vs:List (Key×am)},KV OB rs->KV kvs vs->KV (AE kvs OB) (merged vs rs):=by
 intro OB rs kvs vs r;unfold KV at r;induction r generalizing kvs vs with
 |nil=>intro q;exact q
 |@cons p q ps qs h t ih =>
  intro r0;have e:KV (rO kvs p.1 p.2) (stored vs q.1 q.2):=by have:=r0.put p.1 h.2;rw[<-h.1];exact this
  exact ih e
theorem vM:∀(OB kvs:List (Key×V)),(AE kvs OB).length<=kvs.length+OB.length
 |[],kvs=>by show kvs.length<=kvs.length+0;omega
 |p::r,kvs=>by have h1:=vM r (rO kvs p.1 p.2);have h2:=uz kvs p.1 p.2;show(AE (rO kvs p.1 p.2) r).length<=_;rw[aq];omega
theorem zG:∀{kvs:List (Key×V)}{ws:List (am×am)},VV (kvs.map fun kv=>(kV kv.1,kv.2)) ws->∃rs,Carries (mH P w) ws rs/\KV kvs rs
 |[],_,r=>by rw[bv] at r;cases r;exact⟨[],cJ,.nil⟩
 |p::kvs,_,r=>by
  rw[ap] at r;cases r with
  |@cons a b as bs h t =>
   obtain⟨rs,c,q⟩:=zG (P:=P) (w:=w) t;obtain⟨b1,b2⟩:=b;exact⟨(p.1,b2)::rs,⟨zn h.1,rfl,c⟩,.cons ⟨rfl,h.2⟩ q⟩
noncomputable def tDisp(QQ:List (TE×TE)):TE:=fun σ H Q=>∀p,H p=none->Fx QQ σ (upd H p (.dK [])) fun ps H2=>H2 p=some (.dK [])/\∃kvs:List (Key×V),ps=kvs.map (fun kv=>(kV kv.1,kv.2))/\kvs.length<=15/\Q (.ref p) (upd H2 p (.dK (AE [] kvs)))
def Gk(h:PPs X pos keys OZ QQ)(Rb:keys.all (·.isSome)=true)(hl:keys.length=OZ.length)(h0:keys≠[])(h15:keys.length<=15):PE X (.Dict keys OZ pos) (tDisp QQ):=by
 intro Ob s σ H Q I q;have hn:=I.hok.fresh (ax s.heap.objs.size);have I1:=I.laid (a:=s.heap.objs.size) (o:=.dK []) (h':=s.heap.push { cls:=.type "dict",data:=.dict #[] }) (t':=s.toks) (fun _ _ q=>aG _ q) (ax _) (Eu s.heap I.big);refine wpAny_Dict_walk (knd:=mH X.prog X.w) Rb hl h0 h15 (thn (h Ob _ σ _ _ I1 (q _ hn)) fun ws s2 ⟨ps,H2,I2,rel,e,kvs,ep,lk,q2⟩=>?_);subst ep;obtain⟨rs,c,rk⟩:=zG (P:=X.prog) (w:=X.w) rel;obtain⟨z,hd,So,r0,dd⟩:=Kl I2.hok e;cases r0;refine⟨rs,c,dd,fun h' Qi hs=>⟨.ref s.heap.objs.size,_,?_,rfl,q2⟩⟩;have hz:(AE [] kvs).length<=aH:=by have h1:=vM kvs [];rw[aD] at h1;rw[jI];omega
 have he:∃q,h'.get? s.heap.objs.size=some q:=let⟨q,_,_,hq,_⟩:=Qi;⟨q,hq⟩;exact zB I2 (by rw[e];exact cJ) hs he (FM hz hd (rk.merge .nil) Qi)
structure M1(X:Cx)(o:bj)(m:Str)(Og:Pos)(e:bj)(Oe:Pos):Prop where
 base:du o m X.env (eval o X.env)=eval o X.env
 few:((cj Oe (aK [e] X.env)).all (fun x=>!x.1)&&(dM Oe (cE [] X.env)).all (fun x=>x.1.isSome)
  && decide (([e]:List bj).length+([]:List dS).length+(if([]:List dS).isEmpty then 0 else 1)<30))=true
 line:(Og.endLine==Oe.line)=true
 trees:cj Oe (aK [e] X.env)=[(false,eval e X.env)]
structure M2(X:Cx)(o:bj)(m:Str)(Og:Pos)(e f:bj)(Oe:Pos):Prop where
 base:du o m X.env (eval o X.env)=eval o X.env
 few:((cj Oe (aK [e,f] X.env)).all (fun x=>!x.1)&&(dM Oe (cE [] X.env)).all (fun x=>x.1.isSome)
  && decide (([e,f]:List bj).length+([]:List dS).length+(if([]:List dS).isEmpty then 0 else 1)<30))=true
 line:(Og.endLine==Oe.line)=true
 trees:cj Oe (aK [e,f] X.env)=[(false,eval e X.env),(false,eval f X.env)]
def IsD(H:Hp)(a:al):Prop:=(∃kvs,Rd H a (.dK kvs))\/∃kvs,Rd H a (.dT kvs)
def JW(I:Inv X Ob σ H s)(d:IsD H a) :
  s.TypeIs (.ref a) "dict"/\(∀b,bz a=.ref b->∃ob,s.heap.get? b=some ob/\ob.dict=none)/\(a==ee)=false:=by
 rcases d with⟨kvs,e⟩|⟨kvs,e⟩
 ·obtain⟨_,hd,vs,_,dd⟩:=wT I.hok e;refine⟨dd.typeIs,fun b q=>?_,hd⟩;cases q;obtain⟨ob,_,_,h1,h2,_⟩:=dd;exact⟨ob,h1,h2.2.1⟩
 ·obtain⟨_,hd,xs,_,dd⟩:=Bb I.hok e;refine⟨dd.typeIs,fun b q=>?_,hd⟩;cases q;obtain⟨ob,_,_,h1,h2,_⟩:=dd;exact⟨ob,h1,h2.2.1⟩
section
variable{X:Cx}{Ob:List (al×Obj)}{σ:St}{H:Hp}{s:aw}{a:al}{y d:V}{u r:am}{o:Option V}{A:cq}{E:am->aw->Prop}
def NX(hu:A.units+1<fE)(I:Inv X Ob σ H s)(g:DGet H a y o)(ry:RelV y u)(rd:RelV d r)(h:∀w' s',Inv X Ob σ H s'->RelV (o.getD d) w'->Q w' s') :
  aZ (model X.prog X.w) A (call (.builtin "dict.get") [.ref a,u,r]) Q E s:=by
 rcases g with⟨kvs,k,e,ey,l⟩|⟨kvs,k,b,e,ey,eb,l⟩
 ·subst ey;obtain⟨z,hd,vs,rel,dd⟩:=wT I.hok e;refine call_meetsIn gv dd.typeIs jG (jy _ _ _) (meets_dict_get_default (mH X.prog X.w) a (zn ry) hd r) ⟨_,dd.mapOf,h _ _ (I.tok _) ?_⟩;rw[l];exact(rel.val k).getD rd
 ·subst ey;cases(show u=bz b from ry);obtain⟨z,hd,xs,rel,dd⟩:=Bb I.hok e;refine call_meetsIn gv dd.typeIs jG (jy _ _ _) (meetsH_dict_get_default (iJ (mH X.prog X.w)) a b hd r) ⟨eZ hu,k,xs,yD I.hok eb,dd,h _ _ (I.tok _) ?_⟩;rw[l];exact(rel.val k).getD rd
end
def JE(td ty tx:TE):TE:=fun σ H Q=>td σ H fun x H1=>∃a,x=.ref a/\IsD H1 a/\ty σ H1 fun y H2=>tx σ H2 fun z H3=>∃o,DGet H3 a y o/\Q (o.getD z) H3
def MP(td ty:TE):TE:=fun σ H Q=>td σ H fun x H1=>∃a,x=.ref a/\IsD H1 a/\ty σ H1 fun y H2=>∃kvs k v,H2 a=some (.dK kvs)/\y=kV k/\pN kvs k=some v/\Q v (upd H2 a (.dK (Bc kvs k)))
section
variable{X:Cx}{o e f:bj}{Og Oe:Pos}{td ty tx:TE}
def zR(hu:X.A.units+1<fE)(ho:PE X o td)(he:PE X e ty)(hf:PE X f tx)(m:M2 X o "get" Og e f Oe):PE X (.Call (.Attribute o "get" Og) [e,f] [] Oe) (JE td ty tx):=by
 intro Ob s σ H Q I h;refine wpAny_Call_method m.base m.few m.line jw gv PySem.F.type_dict_get (thn (ho Ob s σ H _ I h) fun u s1 ⟨x,H1,I1,rx,a,ex,d,q1⟩=>?_);subst ex;obtain rfl:u=bz a:=rx;obtain⟨t1,t2,_⟩:=JW I1 d;refine⟨t1,t2,?_⟩;rw[m.trees];refine gw rfl (fG (ei (thn (he Ob s1 σ H1 _ I1 q1) fun iv s2 ⟨y,H2,I2,ry,q2⟩ =>
  ei (thn (hf Ob s2 σ H2 _ I2 q2) fun fv s3 ⟨z,H3,I3,rz,ov,g,q3⟩=>gb ?_))))
 exact NX hu I3 g ry rz fun w' s4 I4 OP=>⟨_,H3,I4,OP,q3⟩
def IN(ho:PE X o td)(he:PE X e ty)(m:M1 X o "pop" Og e Oe):PE X (.Call (.Attribute o "pop" Og) [e] [] Oe) (MP td ty):=by intro Ob s σ H Q I h;refine wpAny_Call_method m.base m.few m.line jw jN PySem.F.type_dict_pop (thn (ho Ob s σ H _ I h) fun u s1 ⟨x,H1,I1,rx,a,ex,d,q1⟩=>?_);subst ex;obtain rfl:u=bz a:=rx;obtain⟨t1,t2,_⟩:=JW I1 d;refine⟨t1,t2,?_⟩;rw[m.trees];refine gw rfl (fG (ei (thn (he Ob s1 σ H1 _ I1 q1) fun iv s2 ⟨y,H2,I2,ry,kvs,k,v,ea,ey,l,q2⟩=>gb ?_)));subst ey;exact d_pop I2 ea ry l (.inl rfl) fun w' s3 I3 OP=>⟨v,_,I3,OP,q2⟩
end
section
variable{X:Cx}{Ob:List (al×Obj)}{σ:St}{H:Hp}{s:aw}{a:al}{kvs:List (Key×V)}{A:cq}{E:am->aw->Prop}
end
section
variable{X:Cx}{Ob:List (al×Obj)}{σ:St}{H:Hp}{s:aw}{a:al}{y:V}{u:am}{A:cq}{E:am->aw->Prop}
end
end L2
namespace Att
open PySem PySem.W PySem.Calls PyProof.Rows
def yu:∀(ns:List Int)(vs:List am),WellAll P h vs (ns.map WData.int)->IntsAre vs ns:=by
 intro ns;induction ns with
 |nil =>
  intro vs w;rw[bv] at w;cases w;exact .nil
 |cons n ns ih =>
  intro vs w;rw[ap] at w;cases w with
  |cons a b =>
   cases a;exact .cons _ _ (ih _ b)
def G0{l:gj}{n:Nat}(hn:l.most=some n){P:Params}{h:bA}{args:List WData}{QP:List am}(Qr:l.row.toRowW.claim.pre args=true)(TF:WellAll P h QP args) :
  ∃a vs ns,QP=[bz a]/\args=[WData.list (ns.map WData.int)]/\h.get? a=some { cls:=.type "list",data:=.seq vs.toArray }/\IntsAre vs ns/\ns.length<=n:=by
 have hsh:WShape.hasAll [] args [.list .int]=true:=(pre_splitW Qr).1;have hc:l.pre.holds [] { args:=args }=true:=(pre_splitW Qr).2;obtain⟨d,r,rfl,h1,h2⟩:=hasAllW_cons hsh;obtain rfl:=hasAllW_nil h2;obtain⟨xs,rfl,h3⟩:=hasW_list h1;obtain⟨ns,rfl⟩:=items_int h3;have Of:ns.length<=n:=by
  unfold OpenLaw.pre at hc;have h4:(WTm.not (.lt (.lit (.int (n:Int))) (.len (.arg 0)))).holds [] { args:=[.list (ns.map .int)] }=true:=by have h4:=(holds_andW hc).1;rw[hn] at h4;exact h4
  have h5:=condW_of h4 (w_not (w_lt w_lit (w_len_list (w_arg rfl))));rw[af] at h5;refine dZ fun q=>?_;have q':(n:Int)<((ns.length:Nat):Int):=by omega
  first
   |(rw[decide_eq_true q'] at h5;exact absurd h5 (by decide))
   |(simp at h5;omega)
 cases TF with
 |cons w1 w2 =>
  cases w2;cases w1 with
  |list ho Rb=>exact⟨_,_,ns,rfl,rfl,ho,yu ns _ Rb,Of⟩
def G5(l:gj)(args:List WData):l.row.toRowW.claim.post args (.bool true) args=true :=
 postW_of (r:=l.row.toRowW) (X:=(true==true))
  (show WShape.has [] (.bool true) .bool=true by first|rfl|decide|simp[WShape.has,WShape.arms,WShape.armsAll])
  (show(WTm.eq .res (.lit (.bool true))).value [] { args:=args,res:=some (.bool true),after:=args }=some (.bool (true==true)) from w_eq_bool (w_res rfl) w_lit) rfl
def attach_call{l:gj}{n:Nat}{q:aI}{OW:List Str}{XP:(Str->Option am)->bA->Prop}{YP:aX->bA->Prop}{d:DefRec}(hn:l.most=some n)(R5:d.params.defaults=[])(call:∀(w:aX)(sa0 Op:aw)(mg mb:Str->Option am)(fa:al)(o:Obj)(pm cd O4:am)(a:al)(vs:List am)(ns:List Int),
   Ground q OW [] XP w sa0 mg mb Op.heap->YP w Op.heap ->
   Op.heap.get? fa=some o->o.data=.func (docDef d.name d.params d.body d.scope pm cd O4)->Op.heap.CodeRec cd d.name->mg d.name=some (.ref fa) ->
   Op.heap.get? a=some { cls:=.type "list",data:=.seq vs.toArray }->IntsAre vs ns->ns.length<=n->Op.gens=#[] ->
   fT (model l.prog w) ji (.call (.ref fa) ⟨[.ref a],[]⟩) (fun r s'=>r=.ok (.ret (.bool true))/\OldK Op.heap s'.heap/\s'.os=Op.os/\gz s'.gens) Op) :
  kJ q OW XP YP l.row.toRowW d [] (fun f vs=>kG f vs):=by
 intro w sa0 Op mg mb G Y fa o pm cd O4 dV kV ho hd O7 hD RR hg args QP as Qr hlay hrd TF TV;obtain rfl:dV=.none:=Dflts.none hD R5;obtain rfl:kV=.none:=Dflts.noKw hD;obtain⟨a,vs,ns,rfl,rfl,Q3,P7,Of⟩:=G0 hn Qr TF;refine enter_call (hJ (call w sa0 Op mg mb fa o pm cd O4 a vs ns G Y ho (fd_plain hd) O7 RR Q3 P7 Of hg) fun r s' hq=>?_);obtain⟨rfl,h2,h3,h4⟩:=hq;exact⟨.inl ⟨.bool true,.bool true,[],rfl,fun _=>rfl,.bool true,G5 l _,fun _=>⟨List.Pairwise.nil,fun _ hm=>(nomatch hm)⟩⟩,h2,h3,h4⟩
section
variable{prog:aI}{w:aX}{A:cq}{E:am->aw->Prop}{s:aw}{K:aa}
end
end Att
namespace L2
open PySem PySem.Spec PyProof.Rows
theorem Bi:∀{vs:List am}{ns:List Int},IntsAre vs ns->Vals (ns.map V.int) vs
 |_,_,.nil=>.nil
 |_,_,.cons n t h=>.cons ⟨t,rfl⟩ (Bi h)
def Ma(H:Hp):Prop:=∀b,H b=none\/∃o xs,H b=some (.frz o (.lst xs))
def Jf{P:aI}{w:aX}{K:aa}{mg mb:Str->Option am}{CX:CXT}{k:Nat}{fa a:al}{fd:bQ}{x:Str}{sp:Sp}{Op:aw}{vs:List am}{ns:List Int}(KX:K.In Op.heap)(QI:Op.heap.Ns bi mg)(hb:Op.heap.Ns i4 mb)(hbb:∀x:Str,x≠"__name__"->mb x=bP x)(TW:Op.heap.NoLimit)(hg:Op.gens=#[])(ha:Op.heap.get? a=some { cls:=.type "list",data:=.seq vs.toArray })(hi:IntsAre vs ns)(hl:ns.length<=aH)(hr:Room k ji)(F:∀base:bA,K.In base->base.Ns bi mg->FnOk P w K mg base CX k fa fd [x] sp)(R8:∀(s:aw)(u:am),js s fd ⟨[u],[]⟩ [(x,u)])(Qe:∀H:Hp,Ma H->SqL K H a (ns.map V.int)->sp [.ref a] H (fun v _=>v=.bl true) fun _ _ _=>False)(Ui:∀H e s',CX [] H Op (fun _ _ _=>False) e s'->False) :
  fT (model P w) ji (.call (.ref fa) ⟨[.ref a],[]⟩) (fun r s'=>r=.ok (.ret (.bool true))/\OldK Op.heap s'.heap/\s'.os=Op.os/\gz s'.gens) Op:=by
 have rv:=Bi hi;have Tz:=hi.length;have Si:∀H:Hp,Ma H->SqL K H a (ns.map V.int)->HOk P w H Op.heap->(∀b,H b≠none->b=a)->(H a≠none->K.lookup a=none) ->
   fT (model P w) ji (.call (.ref fa) ⟨[.ref a],[]⟩) (fun r s'=>r=.ok (.ret (.bool true))/\OldK Op.heap s'.heap/\s'.os=Op.os/\gz s'.gens) Op:=by
  intro H hO hS hok hA hK;have PB:∀{b:al}{o:Obj},Op.heap.get? b=some o->H b=none->(Fm Op.heap H).get? b=some o:=fun e n=>Jj e n;have RD:∀{b:al}{o:Obj}{es:Array DictEntry}{ep:Nat},Op.heap.get? b=some o->o.data=.dict es ep->H b=none:=fun{b o es ep} e d=>by
   cases q:H b with
   |none=>rfl
   |some u =>
    have e':b=a:=hA b (by rw[q];simp);subst e';rw[ha] at e;cases e;have d':Data.seq vs.toArray _=Data.dict es ep:=d;cases d'
  have SF:∀{b:al}{m:Str->Option am},Op.heap.Ns b m->(Fm Op.heap H).Ns b m:=fun{b m} ⟨o,es,ep,e,d,r⟩=>⟨o,es,ep,PB e (RD e d),d,r⟩;have hKb:K.In (Fm Op.heap H):=fun b o e=>PB (KX b o e) (by
   cases q:H b with
   |none=>rfl
   |some u =>
    have e':b=a:=hA b (by rw[q];simp);subst e';rw[hK (by rw[q];simp)] at e;cases e)
  have hM:Mod K mg (Fm Op.heap H):=⟨hKb,SF QI,⟨mb,SF hb,hbb⟩,let⟨mc,h1,h2⟩:=TW;⟨mc,SF h1,h2⟩⟩;have e0:Env0 P w K mg (Fm Op.heap H) ji [] Op H:=⟨rfl,hM,fun b o e=>Lj e,iU (Ht _ _),trivial,fun b hb=>absurd (show b∈([]:List al) from hb) (by simp),hok,.of_eq hg⟩;refine hJ ((F _ hKb (SF QI)).run ji [] Op H ⟨[.ref a],[]⟩ [.ref a] [.ref a] _ _ hr e0 (R8 Op (.ref a)) (.cons rfl .nil) (Qe H hO hS)) fun r s' h=>?_;cases r with
  |error e=>exact(Ui H e s' h).elim
  |ok fl =>
   cases fl with
   |next=>exact bH h
   |brk=>exact bH h
   |cont=>exact bH h
   |ret u =>
    obtain⟨v,H',os,bare,un,TL,r',q⟩:=h;have q':v=.bl true:=q;subst q';obtain rfl:u=jn true:=r';refine⟨rfl,OldK.of_keep fun b o e=>?_,os,bare⟩;cases q:H b with
    |none=>exact un.keep b o e q (by intro z;exact absurd (show b∈([]:List al) from z) (by simp)) (by simp)
    |some u =>
     rcases hO b with z|⟨ob,xs,z⟩
     ·rw[q] at z;cases z
     ·have z2:=un.frzs b ob _ z;obtain⟨e1,_⟩:=hok b _ z;obtain⟨e2,_⟩:=TL b _ z2;rw[e] at e1;cases e1;exact e2
 cases hk:K.lookup a with
 |some o =>
  have e:=KX a o hk;rw[ha] at e;cases e;refine Si (fun _=>none) (fun _=>.inl rfl) (.inr ⟨_,vs.toArray,_,hk,rfl,rfl,rfl,by rw[aV,Tz];exact hl,by simpa using rv⟩) (fun b u z=>by have z':(none:Option HO)=some u:=z;cases z') (fun b z=>absurd rfl z) fun z=>absurd rfl z
 |none =>
  refine Si (fun b=>if b=a then some (.frz { cls:=.type "list",data:=.seq vs.toArray } (.lst (ns.map V.int))) else none) (fun b=>?_) (.inl (.inr ⟨{ cls:=.type "list",data:=.seq vs.toArray },if_pos rfl⟩)) (fun b u z=>?_) (fun b z=>?_) fun _=>hk
  ·by_cases hb:b=a
   ·exact .inr ⟨_,_,if_pos hb⟩
   ·exact .inl (if_neg hb)
  ·by_cases hb:b=a
   ·have z':=(if_pos hb).symm.trans z;cases z';subst hb;exact⟨ha,by rw[af];exact hl,vs,_,rv,ha⟩
   ·have z':=(if_neg hb).symm.trans z;cases z'
  ·by_cases hb:b=a
   ·exact hb
   ·exact absurd (if_neg hb) z
def walk_of{l:gj}{n k:Nat}{q:aI}{OW:List Str}{XP:(Str->Option am)->bA->Prop}{YP:aX->bA->Prop}{d:DefRec}{K:Params->aa}{CX:aX->CXT}{sp:aX->Sp}{x:Str}(hn:l.most=some n)(Rn:n<=aH)(R5:d.params.defaults=[])(hr:Room k ji)(hY:∀(w:aX)(h:bA),YP w h->(K w.params).In h)(F:∀(w:aX)(mg:Str->Option am)(fa:al)(h:bA),(K w.params).In h->h.Ns bi mg->mg d.name=some (.ref fa) ->
   ∃fd:bQ,(∀(s:aw)(u:am),js s fd ⟨[u],[]⟩ [(x,u)]) /\
    ∀base:bA,(K w.params).In base->base.Ns bi mg->FnOk l.prog w (K w.params) mg base (CX w) k fa fd [x] (sp w))(Qe:∀(w:aX)(H:Hp)(a:al)(ns:List Int),ns.length<=n->Ma H->SqL (K w.params) H a (ns.map V.int)->sp w [.ref a] H (fun v _=>v=.bl true) fun _ _ _=>False)(Ui:∀(w:aX)(H:Hp)(s:aw)(e:am)(s':aw),CX w [] H s (fun _ _ _=>False) e s'->False) :
  kJ q OW XP YP l.row.toRowW d [] (fun f vs=>kG f vs):=by
 refine Att.attach_call hn R5 fun w sa0 Op mg mb fa o pm cd O4 a vs ns G Y ho hd O7 RR Q3 P7 Of hg=>?_;have KX:=hY w _ Y;obtain⟨fd,hb,hF⟩:=F w mg fa _ KX G.T.g RR;exact Jf KX G.T.g G.T.b G.T.builtins G.T.nolimit hg Q3 P7 (aC Of Rn) hr hF hb (fun H hO hS=>Qe w H a ns Of hO hS) fun H e s'=>Ui w H Op e s'
def nu(s:bL)(j:Nat):bL:=match s with
 |.ClassDef _ _ _ body _ _ _ _ _ _ _=>body.getD j (.Pass ⟨0,0,0,0⟩)
 |_=>.Pass ⟨0,0,0,0⟩
def oh(s:bL):jH:=match s with
 |.FunctionDef _ a _ _ _ _ _ _ _ _=>a
 |_=>{ posonlyargs:=[],args:=[],vararg:=none,kwonlyargs:=[],kw_defaults:=[],kwarg:=none,defaults:=[] }
def m7(s:bL):List bL:=match s with
 |.FunctionDef _ _ b _ _ _ _ _ _ _=>b
 |_=>[]
def lh(s:bL):dq:=match s with
 |.FunctionDef _ _ _ _ _ _ sc _ _ _=>sc
 |_=>{ kind:=.function,names:=[],isGenerator:=false,isCoroutine:=false }
abbrev E0:XK:=fun _ _ _=>False
structure Fun(K:aa)(x qual:Str)(st:bL)(f:al)(fd:bQ):Prop where
 ex:∃(oc:am)(od:Option al)(kV O4 pm:am)(an:Option al)(Ol ct:am)(Qo:Array (Option am)),
  fd=b5 x qual (oh st) (m7 st) (lh st) .none kV O4 pm an Ol ct/\K.lookup f=some ⟨oc,od,.func fd,Qo⟩/\fP K Ol qual=true
 kp:cz K (.ref f)=true
section
variable{P:aI}{w:aX}{K:aa}{mg:Str->Option am}{base:bA}
def Fun.binds{x qual:Str}{st:bL}{f:al}{fd:bQ}{ps:List Str}(F:Fun K x qual st f fd)(h:∀(kV O4 pm:am)(an:Option al)(Ol ct:am)(us:List am),us.length=ps.length->fV (b5 x qual (oh st) (m7 st) (lh st) .none kV O4 pm an Ol ct) ⟨us,[]⟩=pure (ps.zip us)):Binds K fd ps []:=by
 obtain⟨oc,od,kV,O4,pm,an,Ol,ct,Qo,rfl,lk,O7⟩:=F.ex;exact .all (h kV O4 pm an Ol ct)
def JX{x qual:Str}{st:bL}{f:al}{oc:am}{od an:Option al}{Qo:Array (Option am)}{kV O4 pm Ol ct:am}(l:K.lookup f=some ⟨oc,od,.func (b5 x qual (oh st) (m7 st) (lh st) .none kV O4 pm an Ol ct),Qo⟩)(c:fP K Ol qual=true)(k:cz K (.ref f)=true):Fun K x qual st f (b5 x qual (oh st) (m7 st) (lh st) .none kV O4 pm an Ol ct):=⟨⟨oc,od,kV,O4,pm,an,Ol,ct,Qo,rfl,l,c⟩,k⟩
end
def nV(hr:Room k A):A.units+1<fE:=aM (kY (by decide:1<=64) _) hr.units
section
variable{X:Cx}
def pv(i:Nat)(hN:X.N[i]?=some x:=by rfl)(hv:Vis X.env.scope x:=by first|exact eR rfl|exact gJ (eR rfl)|exact gJ (gJ rfl))(hd:NDb x:=by decide)(O7:(x==("__classdict__":Str))=false:=by decide):PE X (.Name x pos) (HU i):=FC hN hv hd O7
def B2:CallR X (.builtin "len") (fun xs H Q=>∃a kvs,xs=[V.ref a]/\H a=some (.dK kvs)/\Q (.int kvs.length) H):=by intro Ob s σ H xs us Q I r h;obtain⟨a,kvs,rfl,ha,q⟩:=h;obtain⟨u,rfl,ru⟩:=tj r;cases ru;exact MC I (.inl ha) fun t s' I'=>⟨.int kvs.length,H,I',⟨t,rfl⟩,q⟩
end
def JU{A B:Prop}(h:B):if false=true then A else B:=by rw[if_neg a8];exact h
def Lx{A B:Prop}(h:A):if true=true then A else B:=by rw[if_pos rfl];exact h
def tQ{c A B:Prop}[Decidable c](h1:c->A)(h2:¬c->B):if c then A else B:=by
 by_cases h:c
 ·rw[if_pos h];exact h1 h
 ·rw[if_neg h];exact h2 h
def Same(H H':Hp):Prop:=∀b o,H b=some o->H' b=some o
def Same.trans(a:Same H H1)(b:Same H1 H2):Same H H2:=fun c o h=>b c o (a c o h)
def Same.free(e:Same H H')(h:H' l=Option.none):H l=Option.none:=by
 cases q:H l with
 |none=>rfl
 |some o =>
  rw[e l o q] at h;cases h
def Same.seq{K:aa}{H H':Hp}{a:al}{xs:List V}(e:Same H H')(h:SqL K H a xs):SqL K H' a xs:=by
 rcases h with(h|⟨o,h⟩)|h
 ·exact .inl (.inl (e _ _ h))
 ·exact .inl (.inr ⟨o,e _ _ h⟩)
 ·exact .inr h
section
variable{κ:Type}[DecidableEq κ]
theorem xk:∀{l:List κ}{k:κ},l.Nodup->¬k∈l->(l++[k]).Nodup
 |[],k,_,_=>by simp
 |a::r,k,h,hk=>by
  obtain⟨h1,h2⟩:=az.mp h;show(a::(r++[k])).Nodup;refine az.mpr ⟨fun m=>?_,xk h2 fun m=>hk (aj.mpr (gJ m))⟩;rcases aJ.mp m with q|q
  ·exact h1 q
  ·exact hk (aj.mpr (eR (au.mp q).symm))
end
def ff:(bN==bN)=true:=rfl
def rg(cells:List (Str×al)):List (Str×eU)->List (Str×al)->List (Str×al)
 |[],cs=>cs
 |(n,k)::r,cs=>rg cells r (if k==.free then(n,(cells.lookup n).getD 0)::cs else cs)
theorem xW(env:Env):∀(names:List (Str×eU))(cs:List (Str×al)),(∀y∈names,y.2=.free->∃c,env.cells.lookup y.1=some c) ->
  (forIn names cs fun(x:Str×eU)(r:List (Str×al))=>match x with
   |(name,kind)=>if(kind==.free)=true then(do let c <-cellOf env name;pure (dY ((name,c)::r))) else pure (dY r):Sem (List (Str×al)))=pure (rg env.cells names cs)
 |[],cs,_=>rfl
 |(n,k)::r,cs,h=>by
  rw[List.forIn_cons];by_cases hk:k=.free
  ·subst hk;obtain⟨c,hc⟩:=h (n,.free) ag rfl;have hc:env.cells.lookup n=some c:=hc;have ih:=xW env r ((n,c)::cs) fun y hy=>h y (ah _ hy);have e1:rg env.cells ((n,bN)::r) cs=rg env.cells r ((n,c)::cs):=by
    show rg env.cells r (if(bN==bN)=true then(n,(env.cells.lookup n).getD 0)::cs else cs)=_;rw[if_pos ff,hc]
    all_goals rfl
   rw[e1,<-ih];have e2:cellOf env n=pure c:=by unfold cellOf;rw[hc]
   simp only[beq_self_eq_true,if_true,e2];rfl
  ·have hb:(k==bN)=false:=by simpa using hk
   have ih:=xW env r cs fun y hy=>h y (ah _ hy);have e1:rg env.cells ((n,k)::r) cs=rg env.cells r cs:=by show rg env.cells r (if(k==bN)=true then(n,(env.cells.lookup n).getD 0)::cs else cs)=_;rw[hb,if_neg a8]
   rw[e1,<-ih];simp only[hb];rfl
def rR(h:∀y∈scope.names,y.2=.free->∃c,env.cells.lookup y.1=some c):closureFor scope env=pure (rg env.cells scope.names []):=by have e:=xW env scope.names [] h;unfold closureFor;refine Eq.trans ?_ (congrArg (fun m:Sem (List (Str×al))=>m >>= pure) e);rfl
theorem EB:∀(names:List (Str×eU))(cs:List (Str×al)),(∀z∈names,z.2=.free->∃c,cells.lookup z.1=some c)->(∀z d,cs.lookup z=some d->cells.lookup z=some d) ->
  (rg cells names cs).lookup y=some c->cells.lookup y=some c
 |[],cs,_,Ra,h=>Ra y c h
 |(n,k)::r,cs,hf,Ra,h=>by
  refine EB r _ (fun z hz=>hf z (ah _ hz)) ?_ h;by_cases hk:k=.free
  ·subst hk;obtain⟨d,hd⟩:=hf (n,.free) ag rfl;have hd:cells.lookup n=some d:=hd;intro z d' hz;rw[if_pos ff,hd] at hz;by_cases e:z=n
   ·subst e;rw[bO] at hz;simp only[beq_self_eq_true] at hz;rw[hd];exact hz
   ·have hb:(z==n)=false:=by simpa using e
    rw[bO] at hz;simp only[hb] at hz;exact Ra z d' hz
  ·have hb:(k==bN)=false:=by simpa using hk
   rw[hb,if_neg a8];exact Ra
theorem zF:∀(names:List (Str×eU))(cs:List (Str×al)),(cs.lookup y).isSome=true->((rg cells names cs).lookup y).isSome=true
 |[],cs,h=>h
 |(n,k)::r,cs,h=>by
  refine zF r _ ?_;by_cases hk:(k==bN)=true
  ·rw[if_pos hk,bO];cases z:(y==n)
   ·exact h
   ·rfl
  ·rw[if_neg hk];exact h
theorem BZ:∀(names:List (Str×eU))(cs:List (Str×al)),(y,bN)∈names->((rg cells names cs).lookup y).isSome=true
 |(n,k)::r,cs,h=>by
  rcases aj.mp h with e|e
  ·cases e;refine zF r _ ?_;rw[if_pos ff,bO];simp
  ·exact BZ r _ e
noncomputable def blk(X:Cx)(scope:dq)(cl:List (Str×al))(C:al)(Nb:List Str)(Oh:aw)(Oi:Hp)(fp:List al):Cx where
 prog:=X.prog
 w:=X.w
 K:=X.K
 mg:=X.mg
 base:=X.base
 A:=X.A
 N:=Nb
 sa0:=Oh
 Ha0:=Oi
 env:=compEnvC scope cl C X.env
 outer:=X.stack
 stack:=X.stack
 ex:=fp
 fn:=fun _=>false
 calm:=true
 pn:=[]
 xe:=fun _ _=>False
structure CompOk(N:List Str)(Sf:dq)(scope:dq)(x:Str)(fr:List Str)(ix:List Nat):Prop where
 kind:scope.kind=.function
 cell:∀y∈scope.names,y.2≠.cell
 loc:scope.names.lookup x=some .local
 nm:∀y∈scope.names,y.2=.local->scope.names.lookup y.1=some .local
 free:∀y∈scope.names,y.2=.free->Sf.names.lookup y.1=some .cell
 nd:(x::fr).Nodup
 idx:∀p∈fr.zip ix,N[p.2]?=some p.1
 frs:∀y∈fr,scope.names.lookup y=some .free/\Sf.names.lookup y=some .cell
 len:ix.length=fr.length
def cok{N:List Str}{e c:dq}{x:Str}{fr:List Str}{ix:List Nat}(h1:c.kind=.function:=by rfl)(h2:∀y∈c.names,y.2≠.cell:=by decide +kernel)(h3:c.names.lookup x=some .local:=by rfl)(h4:∀y∈c.names,y.2=.local->c.names.lookup y.1=some .local:=by decide +kernel)(h5:∀y∈c.names,y.2=.free->e.names.lookup y.1=some .cell:=by decide +kernel)(h6:(x::fr).Nodup:=by decide +kernel)(h7:∀p∈fr.zip ix,N[p.2]?=some p.1:=by decide +kernel)(h8:∀y∈fr,c.names.lookup y=some .free/\e.names.lookup y=some .cell:=by decide +kernel)(h9:ix.length=fr.length:=by rfl):CompOk N e c x fr ix:=⟨h1,h2,h3,h4,h5,h6,h7,h8,h9⟩
def ME{X:Cx}{N ps:List Str}{e c:dq}{x:Str}{fr:List Str}{ix:List Nat}(S:FnScope N ps e)(h0:X.N=N:=by rfl)(Ru:X.env.scope=e:=by rfl)(h1:c.kind=.function:=by rfl)(h2:∀y∈c.names,y.2≠.cell:=by decide +kernel)(h3:c.names.lookup x=some .local:=by rfl)(h4:∀y∈c.names,y.2=.local->c.names.lookup y.1=some .local:=by decide +kernel)(h5:∀y∈c.names,y.2=.free->e.names.lookup y.1=some .cell:=by decide +kernel)(h6:(x::fr).Nodup:=by decide +kernel)(h7:∀p∈fr.zip ix,N[p.2]?=some p.1:=by decide +kernel)(h8:∀y∈fr,c.names.lookup y=some .free/\e.names.lookup y=some .cell:=by decide +kernel)(h9:ix.length=fr.length:=by rfl):CompOk X.N X.env.scope c x fr ix:=by rw[h0,Ru];exact⟨h1,h2,h3,h4,h5,h6,h7,h8,h9⟩
def capt(ix:List Nat)(σ:St):St:=ix.map fun i=>(σ[i]?).getD none
def GS(X:Cx)(Ov:List bj)(t:TT):Prop :=
 ∀(Ob:List (al×Obj))(s:aw)(σ:St)(H:Hp)(Q:Bool->Hp->Prop),Inv X Ob σ H s->t σ H Q ->
  aZ (model X.prog X.w) X.A (forIn Ov true fun c r=>if r=true then do let ok <-isTrue c X.env (eval c X.env);pure (dY ok) else pure (dY r)) (TP X Ob σ Q) X.xe s
def tYes:TT:=fun _ H Q=>Q true H
def wM:GS X [] tYes:=fun Ob s σ H Q I h=>aS ⟨H,I,h⟩
def IG(h:PT X c t):GS X [c] t:=by intro Ob s σ H Q I hq;rw[List.forIn_cons];refine av ?_;rw[if_pos rfl];refine av (thn (h Ob s σ H Q I hq) fun b s1 h1=>aS ?_);show aZ _ _ (forIn [] b _) _ _ _;rw[List.forIn_nil];exact aS h1
def CompB(J:It)(tc:TT)(te:TE)(cap:St)(D:al)(H1:Hp)(Q:VK):Prop :=
 ∃Pv:Nat->Nat->List V->Hp->Prop,(∃m,Pv 0 m [] (upd H1 D (.lst [])))/\∀i m ys H2,Pv i m ys H2 ->
  (J.stop i H2/\H2 D=some (.lst ys)/\Q (.ref D) H2)\/(J.go i H2/\∀x H3,J.yld i H2 x H3->tc (some x::cap) H3 fun b H4=>if b=true then
   te (some x::cap) H4 fun v H5=>H5 D=some (.lst ys)/\ys.length<aH/\∃m',m'<m/\Pv (i+1) m' (ys++[v]) (upd H5 D (.lst (ys++[v])))
   else ∃m',m'<m/\Pv (i+1) m' ys H4)
def HK(wi:TI)(ix:List Nat)(tc:TT)(te:TE):TE:=fun σ H Q=>wi σ H fun J H1=>∀D,H1 D=none->CompB J tc te (capt ix σ) D H1 Q
section
variable{X:Cx}{Oz iter:bj}{Ov:List bj}{x:Str}{px pos:Pos}{scope:dq}{wi:TI}{tc:TT}{te:TE}{fr:List Str}{ix:List Nat}
theorem qq{env:Env}(hk:env.scope.kind=.function):∀{names:List (Str×eU)}{y:Str},names.lookup y=some .free->env.scope.names.lookup y=some .cell ->
  (names.map fun(n,k)=>if(k==bN&&env.scope.kind==.function&&env.kindOf n==some .cell) then(n,gS) else(n,k)).lookup y=some .cell
 |[],_,h,_=>by simp at h
 |(n,k)::r,y,h,hc=>by
  have ih:=@qq env hk r y;show cQ y ((if(k==bN&&env.scope.kind==.function&&env.kindOf n==some .cell)=true then(n,gS) else(n,k))::_)=_;cases hx:y==n with
  |true =>
   simp only[bO,hx] at h;cases h;have e:y=n:=by simpa using hx
   subst e;have e2:env.kindOf y=some .cell:=hc;rw[if_pos (by rw[hk,e2];rfl),bO];simp
  |false =>
   simp only[bO,hx] at h;split
   ·simp only[bO,hx];exact ih h hc
   ·simp only[bO,hx];exact ih h hc
def Ju{ix:List Nat}{σ:St}{k:Nat}{v:V}(h:(capt ix σ)[k]?=some (some v)):∃i,ix[k]?=some i/\σ[i]?=some (some v):=by
 unfold capt at h;rw[bu] at h;cases e:ix[k]? with
 |none=>rw[e] at h;cases h
 |some i =>
  rw[e] at h;refine⟨i,rfl,?_⟩;have h2:(σ[i]?).getD none=some v:=aU h;cases q:σ[i]? with
  |none=>rw[q] at h2;cases h2
  |some o=>rw[q] at h2;exact congrArg some h2
def MJ(X:Cx)(Ob:List (al×Obj))(C:al):Prop:=C≠X.env.locals/\X.sa0.heap.objs.size<=C/\(∀y c,X.env.cells.lookup y=some c->c≠C)/\∀p∈X.pn++Ob,p.1≠C
end
section
variable{prog:aI}{w:aX}{A:cq}{R:ku->aw->Prop}{s:aw}
def Fu(I:Nat->aw->Prop)(Pd:∀n s,I n s->aZ (model prog w) A (pyNext it) (fun r Op=>match r with
   |none=>R (.ok .next) Op
   |some v=>aZ (model prog w) A (ig OO it v) (fun _ sa0=>aZ (model prog w) A (assign OO env v) (fun _ PH =>
     aZ (model prog w) A (forIn Ov true fun c r=>if r=true then do let ok <-isTrue c env (eval c env);pure (dY ok) else pure (dY r)) (fun ok Oh =>
      if ok=true then aZ (model prog w) A (eval Oz env) (fun x Rh =>
       aZ (model prog w) A (call (.builtin "list.append") [Oj,x]) (fun _ sa5=>∃m,m<n/\I m sa5) (jU (model prog w) A env fun e s'=>R (.error e) s') Rh) (jU (model prog w) A env fun e s'=>R (.error e) s') Oh
      else ∃m,m<n/\I m Oh) (jU (model prog w) A env fun e s'=>R (.error e) s') PH) (jU (model prog w) A env fun e s'=>R (.error e) s') sa0) (jU (model prog w) A env fun e s'=>R (.error e) s') Op) (jU (model prog w) A env fun e s'=>R (.error e) s') s)(n:Nat)(h:I n s) :
  fT (model prog w) A (.compLoop (.ListComp Oz [⟨OO,iter,Ov,0⟩] scope pos) 0 it Oj env) R s:=by
 refine codeAny_loop rfl I (fun n s hI=>?_) n h;show aZ _ A ((compTurn (.ListComp Oz [⟨OO,iter,Ov,0⟩] scope pos) 0 it Oj env).onRaise (fun x=>do noteFrame x env;theTreesLotGoes x)) _ _ s;refine wpAny_noted ?_;rw[compTurn_list];refine av (gE (av (bK (Pd n s hI) (fun r Op Sb=>?_) fun _ _ h'=>h')));cases r with
 |none=>exact aS Sb
 |some v =>
  refine av (bK Sb (fun _ sa0 h₀=>?_) fun _ _ h'=>h');refine av (bK h₀ (fun _ PH Sa=>av (bK Sa (fun ok Oh Rt=>?_) fun _ _ h'=>h')) fun _ _ h'=>h');cases ok with
  |false=>exact aS ⟨rfl,Rt⟩
  |true =>
   exact av (av (bK Rt (fun x Rh ha4=>av (bK ha4 (fun _ sa5 hb5=>aS (aS ⟨rfl,hb5⟩)) fun _ _ h'=>h')) fun _ _ h'=>h'))
end
structure CompOkG(N:List Str)(Sf:dq)(scope:dq)(xs fr:List Str)(ix:List Nat):Prop where
 kind:scope.kind=.function
 cell:∀y∈scope.names,y.2≠.cell
 nm:∀y∈scope.names,y.2=.local->scope.names.lookup y.1=some .local
 free:∀y∈scope.names,y.2=.free->Sf.names.lookup y.1=some .cell
 nd:(xs++fr).Nodup
 idx:∀p∈fr.zip ix,N[p.2]?=some p.1
 frs:∀y∈fr,scope.names.lookup y=some .free/\Sf.names.lookup y=some .cell
 len:ix.length=fr.length
def cokG{X:Cx}{N ps:List Str}{e c:dq}{xs fr:List Str}{ix:List Nat}(S:FnScope N ps e)(h0:X.N=N:=by rfl)(Ru:X.env.scope=e:=by rfl)(h1:c.kind=.function:=by rfl)(h2:∀y∈c.names,y.2≠.cell:=by decide +kernel)(h4:∀y∈c.names,y.2=.local->c.names.lookup y.1=some .local:=by decide +kernel)(h5:∀y∈c.names,y.2=.free->e.names.lookup y.1=some .cell:=by decide +kernel)(h6:(xs++fr).Nodup:=by decide +kernel)(h7:∀p∈fr.zip ix,N[p.2]?=some p.1:=by decide +kernel)(h8:∀y∈fr,c.names.lookup y=some .free/\e.names.lookup y=some .cell:=by decide +kernel)(h9:ix.length=fr.length:=by rfl):CompOkG X.N X.env.scope c xs fr ix:=by rw[h0,Ru];exact⟨h1,h2,h4,h5,h6,h7,h8,h9⟩
def Dg(J:It)(gt:TG)(k:Nat)(tc:TT)(te:TE)(cap:St)(D:al)(H1:Hp)(Q:VK):Prop :=
 ∃Pv:Nat->Nat->List V->St->Hp->Prop,(∃m,Pv 0 m [] (aT k none++cap) (upd H1 D (.lst [])))/\∀i m ys σ2 H2,Pv i m ys σ2 H2 ->
  (J.stop i H2/\H2 D=some (.lst ys)/\Q (.ref D) H2)\/(J.go i H2/\∀x H3,J.yld i H2 x H3->gt x σ2 H3 fun σ3 H3'=>tc σ3 H3' fun b H4=>if b=true then
   te σ3 H4 fun v H5=>H5 D=some (.lst ys)/\ys.length<aH/\∃m',m'<m/\Pv (i+1) m' (ys++[v]) σ3 (upd H5 D (.lst (ys++[v])))
   else ∃m',m'<m/\Pv (i+1) m' ys σ3 H4)
def JF(wi:TI)(ix:List Nat)(gt:TG)(k:Nat)(tc:TT)(te:TE):TE:=fun σ H Q=>wi σ H fun J H1=>∀D,H1 D=none->Dg J gt k tc te (capt ix σ) D H1 Q
section
variable{X:Cx}{Oz iter tg:bj}{Ov:List bj}{pos:Pos}{scope:dq}{wi:TI}{tc:TT}{te:TE}{gt:TG}{xs fr:List Str}{ix:List Nat}
def zE{PR:am->al->ku->aw->Prop}{Ob:List (al×Obj)}{σ:St}{H2:Hp}{s2:aw}{it:al}{fp:List al}{tn:Nat->bA->Prop}{J:It}{Q:VK}(hc:X.calm=true)(S:CompOkG X.N X.env.scope scope xs fr ix)(hg:∀cl C Oh Oi fp,PG (blk X scope cl C (xs++fr) Oh Oi fp) tg gt)(ht:∀cl C Oh Oi fp,GS (blk X scope cl C (xs++fr) Oh Oi fp) Ov tc)(he:∀cl C Oh Oi fp,PE (blk X scope cl C (xs++fr) Oh Oi fp) Oz te)(Oq:∀y∈scope.names,y.2=.free->∃c,X.env.cells.lookup y.1=some c)(I2:Inv X Ob σ H2 s2)(T:Turn X.prog X.w X.K tg J fp it tn)(Pg:tn 0 s2.heap)(f2:∀b∈fp,EJ X Ob H2 b)(q2:∀D,H2 D=none->Dg J gt xs.length tc te (capt ix σ) D H2 Q)(Q7:∀D C H' s',Inv X Ob σ H' s'->H' C=none->MJ X Ob C->(∃m,s'.heap.Ns C m)->Q (.ref D) H'->PR (.ref D) C (.ok .next) s') :
  aZ (model X.prog X.w) X.A (newList []) (fun Oj Oh=>aZ (model X.prog X.w) X.A (newFunctionEnv scope X.env.globals (rg X.env.cells scope.names []) [] X.env.qual none .none (some X.env)) (fun Qb Rh =>
   fT (model X.prog X.w) X.A (.compStart (.ListComp Oz [⟨tg,iter,Ov,0⟩] scope pos) 0 (.ref it) Oj { Qb with scope:=relabel scope X.env }) (PR Oj Qb.locals) Rh) X.xe Oh) X.xe s2:=by
 refine dR ?_;have hD:H2 s2.heap.objs.size=none:=I2.hok.fresh (ax _);have I3:Inv X Ob σ (upd H2 s2.heap.objs.size (.lst [])) { s2 with heap:=s2.heap.push { cls:=.type "list",dict:=none,data:=.seq ([]:List am).toArray } } :=
  I2.lnew (its:=[]) (t':=s2.toks) (.nil) (ba _)
 obtain⟨Pv,⟨m0,p0⟩,Pd⟩:=q2 s2.heap.objs.size hD;generalize hD':s2.heap.objs.size=D at *;generalize hs3:({ s2 with heap:=s2.heap.push { cls:=.type "list",dict:=none,data:=.seq ([]:List am).toArray } }:aw)=s3 at *;have RW:∀b o,s2.heap.get? b=some o->s3.heap.get? b=some o:=fun b o e=>by rw[<-hs3];exact aG _ e
 have hH3:∀b,b≠D->(upd H2 D (.lst [])) b=H2 b:=fun b hb=>lg hb;have f3:∀b∈fp,EJ X Ob (upd H2 D (.lst [])) b/\b<s3.heap.objs.size:=fun b hb=>by obtain⟨o,e,_⟩:=T.obj _ _ Pg b hb;have Ow:=aP e;refine⟨⟨?_,(f2 b hb).2⟩,aP (RW b o e)⟩;rw[hH3 b (by rw[<-hD'];exact a6 Ow)];exact(f2 b hb).1
 have RA:tn 0 s3.heap:=T.keep _ _ _ Pg fun b hb o e=>RW b o e;refine wpAny_newFunctionEnv S.cell (by intro y hy;simp at hy) (fun h4 TN TJ=>?_) S.kind;generalize hC:s3.heap.objs.size=C at *;let X':Cx:=blk X scope (rg X.env.cells scope.names []) C (xs++fr) s3 (upd H2 D (.lst [])) fp;have Pl:∀y c,(rg X.env.cells scope.names []).lookup y=some c->X.env.cells.lookup y=some c:=fun y c e=>EB scope.names [] Oq (fun z d hz=>by simp at hz) e;have Qa:∀y,(y,bN)∈scope.names->∃c,(rg X.env.cells scope.names []).lookup y=some c:=fun y hy=>bY.mp (BZ scope.names [] hy);have Rj:∀b o,s3.heap.get? b=some o->h4.get? b=some o:=fun b o e=>TJ.extBut b o (by rw[<-hC];exact a6 (aP e)) (aG _ e);have Pt:∀(l:List (Str×eU)) y k,(l.map fun(n,k)=>if(k==bN&&X.env.scope.kind==.function&&X.env.kindOf n==some .cell) then(n,gS) else(n,k)).lookup y=some k->(k=.cell\/k=.free) ->
   (∀z∈l,z.2≠.cell)->(y,bN)∈l:=by
  intro l;induction l with
  |nil=>intro y k e _ _;simp at e
  |cons z r ih =>
   intro y k e hk hn;obtain⟨n,kz⟩:=z;rw[ap] at e;by_cases hy:y=n
   ·subst hy;have:kz=.free:=by
     by_cases hkz:kz=.free
     ·exact hkz
     ·exfalso;have hb:(kz==bN)=false:=by simpa using hkz
      simp only[hb,cB,bX,if_false,bO,beq_self_eq_true] at e;have e':kz=k:=aU e;rcases hk with z|z
      ·exact hn (y,kz) ag (e'.trans z)
      ·exact hkz (e'.trans z)
    rw[this];exact ag
   ·have hb:(y==n)=false:=by simpa using hy
    refine ah _ (ih y k ?_ hk fun z hz=>hn z (ah _ hz));have e:cQ y ((if(kz==bN&&X.env.scope.kind==.function&&X.env.kindOf n==some .cell)=true then(n,gS) else(n,kz))::_)=some k:=e;by_cases hq:(kz==bN&&X.env.scope.kind==.function&&X.env.kindOf n==some .cell)=true
    ·rw[if_pos hq,bO] at e;simp only[hb] at e;exact e
    ·rw[if_neg hq,bO] at e;simp only[hb] at e;exact e
 have ok':X'.Ok:=by
  refine⟨I3.ok.mod,S.kind,I3.ok.glob,I3.ok.blt,?_,fun y z c e1 e2=>I3.ok.inj y z c (Pl y c e1) (Pl z c e2),fun y hy=>?_,fun y c e _=>(by cases e),fun _=>I3.ok.hd hc,I3.ok.frames,.inl rfl,fun b hb=>⟨?_,fun y c e=>(f3 b hb).1.2.2.2.2.1 y c (Pl y c e)⟩,I3.bs,aC I3.ok.bsz I3.sz,fun b o e hb=>?_,fun b hb z=>?_,I3.stack,I3.stkFree⟩
  ·show s3.heap.objs.size<=C;rw[hC];exact ax _
  ·rcases hy with hy|hy
   ·exact Qa y (Pt scope.names y _ hy (.inl rfl) S.cell)
   ·exact Qa y (Pt scope.names y _ hy (.inr rfl) S.cell)
  ·exact a6 (f3 b hb).2
  ·rcases(f3 b hb).1.2.2.2.1 with z|z
   ·exact I3.ok.noex b o e z
   ·exact absurd (aA (aP e) (aC I3.ok.bsz z)) (dE _)
  ·rcases aj.mp (I3.stkSub b z) with z|z
   ·exact(f3 b hb).1.2.1 z
   ·exact(f3 b hb).1.2.2.1 z
 have QB:∀{h':bA}{m:Str->Option am},(∀b o,s3.heap.get? b=some o->(∃v,o.data=.cell v)->h'.get? b=some o)->∀(k:Nat)(y:Str)(v:V),fr[k]?=some y->(capt ix σ)[k]?=some (some v)->∃u,RelV v u/\Look X'.env h' m y u:=by
  intro h' m hkc k y v hy hv;obtain⟨i,TZ,hσ⟩:=Ju hv;have TD:(y,i)∈fr.zip ix:=by refine bW (i:=k) ?_;rw[List.getElem?_zip_eq_some];exact⟨hy,TZ⟩
  have hN:X.N[i]?=some y:=S.idx (y,i) TD;obtain⟨hfr,OY⟩:=S.frs y (bW hy);obtain⟨m3,hn3,hl3⟩:=I3.loc;obtain⟨u,ru,l⟩:=hl3 i y v hN hσ (.inr (.inl OY));refine⟨u,ru,?_⟩;rcases l with⟨kd,_⟩|⟨_,c,ec,ic⟩
  ·have kd:X.env.scope.names.lookup y=some .local:=kd;rw[OY] at kd;cases kd
  ·refine .inr ⟨.inl (qq I3.ok.kind hfr OY),c,?_,?_⟩
   ·obtain⟨c',e'⟩:=Qa y (db hfr);have:=Pl y c' e';rw[ec] at this;cases this;exact e'
   ·obtain⟨o,ho,hd⟩:=ic;exact⟨o,hkc c o ho ⟨_,hd⟩,hd⟩
 have hNd:X'.N.Nodup:=S.nd;have Tx:(aT xs.length none++capt ix σ).length=X'.N.length:=by show _=(xs++fr).length;unfold capt;rw[aE,aE,dF,af,S.len]
 have I4:Inv X' [] (aT xs.length none++capt ix σ) (upd H2 D (.lst [])) { s3 with heap:=h4,toks:=s3.toks+([]:List (Str×am)).length }:=by
  refine⟨ok',rfl,I3.bare,Un.kept Rj,⟨_,TN,fun k y v e1 e2 e3=>?_⟩,fun y c e=>?_,?_,fun y c e=>I3.freeC y c (Pl y c e),fun p hp=>?_,I3.hok.kept Rj,Tx⟩
  ·have e1:(xs++fr)[k]?=some y:=e1;by_cases hk:k<xs.length
   ·rw[gc (by rw[dF];exact hk),gu,if_pos hk] at e2;cases e2
   ·have hk:xs.length<=k:=dZ hk;rw[dO hk] at e1;rw[dO (by rw[dF];exact hk),dF] at e2;exact QB (fun b o e _=>Rj b o e) (k-xs.length) y v e1 e2
  ·obtain⟨v,o,ho,hd⟩:=I3.cell y c (Pl y c e);exact⟨v,o,Rj c o ho,hd⟩
  ·exact I3.hok.fresh (by show s3.heap.objs.size<=C;rw[hC];exact ax _)
  ·exact absurd (show p∈([]:List (al×Obj)) from hp) (by simp)
 have Pf:∀{H':Hp}{b:al},b∈fp->H' b=none->EJ X' [] H' b:=fun{H' b} hb hn=>by
  refine⟨hn,?_,?_,.inl hb,fun y c e=>(f3 b hb).1.2.2.2.2.1 y c (Pl y c e),fun p hp=>absurd (show p∈([]:List (al×Obj)) from hp) (by simp)⟩
  ·exact a6 (f3 b hb).2
  ·intro z;rcases aj.mp (I3.stkSub b z) with z|z
   ·exact(f3 b hb).1.2.1 z
   ·exact(f3 b hb).1.2.2.1 z
 have Pz:∀b∈fp,(b∈X.ex\/X.sa0.heap.objs.size<=b)/\b≠X.env.locals/\(∀y c,X.env.cells.lookup y=some c->c≠b)/\∀p∈X.pn++Ob,p.1≠b:=fun b hb =>
  ⟨(f3 b hb).1.2.2.2.1,(f3 b hb).1.2.1,(f3 b hb).1.2.2.2.2.1,(f3 b hb).1.2.2.2.2.2⟩
 have fin:∀{σ':St}{H':Hp}{s':aw},Inv X' [] σ' H' s'->Q (.ref D) H'->PR (.ref D) C (.ok .next) s':=fun{σ' H' s'} I' q'=>by
  obtain⟨m',Pi,_⟩:=I'.loc;have J:=I3.call' (s':=s') (ch:=fp) I'.os I'.base I'.hok I'.bare Pz;refine Q7 D C H' s' J I'.free ⟨?_,?_,fun y c e=>?_,fun p hp=>?_⟩ ⟨m',Pi⟩ q'
  ·rw[<-hC];exact Nat.ne_of_gt I3.lt
  ·rw[<-hC];exact I3.sz
  ·obtain⟨v,z⟩:=I3.cell y c e;rw[<-hC];exact a6 z.lt
  ·rw[<-hC];exact a6 (aP (I3.pin p hp).1)
 have loop:fT (model X.prog X.w) X.A (.compLoop (.ListComp Oz [⟨tg,iter,Ov,0⟩] scope pos) 0 (.ref it) (.ref D) X'.env) (PR (.ref D) C) { s3 with heap:=h4,toks:=s3.toks+([]:List (Str×am)).length }:=by
  refine Fu (fun n s'=>∃i ys σ5 H',Inv X' [] σ5 H' s'/\tn i s'.heap/\(∀b∈fp,H' b=none)/\Pv i n ys σ5 H') ?_ m0 ⟨0,[],_,_,I4,T.keep _ _ _ RA fun b hb o e=>Rj b o e,fun b hb=>(f3 b hb).1.1,p0⟩
  rintro n s5 ⟨i,ys,σ5,H5,I5,st5,fr5,p5⟩
  rcases Pd i n ys σ5 H5 p5 with⟨stop,hd5,qn⟩|⟨go,step⟩
  ·refine bK (T.done X' rfl rfl rfl rfl i [] s5 _ H5 (fun _ _=>False) I5 (fun b hb=>Pf hb (fr5 b hb)) st5 stop) (fun r s6 ⟨hr,I6⟩=>?_) fun _ _ z=>bH z;subst hr;exact fin I6 qn
  ·refine bK (T.item X' rfl rfl rfl rfl i [] s5 _ H5 (fun _ _=>False) I5 (fun b hb=>Pf hb (fr5 b hb)) st5 go) (fun r s6 ⟨u,hr,h6⟩=>?_) fun _ _ z=>bH z;subst hr;dsimp only;refine bK h6 (fun _ s6' h6'=>?_) fun _ _ z=>bH z;obtain⟨xv,H6,I6,r6,y6,Rz,fr6⟩:=h6';have I6':=I6.pinned (fun b hb=>Pf hb (fr6 b hb)) (T.obj _ _ Rz);refine bK (hg _ _ _ _ _ _ s6' _ H6 xv u _ I6' r6 (step xv H6 y6)) (fun _ s7 h7=>?_) fun _ _ z=>bH z;obtain⟨σ7,H7,I7,q7⟩:=h7;refine bK (ht _ _ _ _ _ _ s7 _ H7 _ I7 q7) (fun b s8 ⟨H8,I8,q8⟩=>?_) fun _ _ z=>bH z;have back:∀{H9:Hp}{s9:aw}{Sn:List V},Inv X' ([]++Aq fp s6'.heap) σ7 H9 s9->(∃m',m'<n/\Pv (i+1) m' Sn σ7 H9) ->
     ∃m,m<n/\∃i ys σ5 H',Inv X' [] σ5 H' s9/\tn i s9.heap/\(∀b∈fp,H' b=none)/\Pv i m ys σ5 H':=fun{H9 s9 Sn} I9 h9=>by
    obtain⟨m',hm,p9⟩:=h9;refine⟨m',hm,i+1,Sn,_,H9,I9.unpinned,T.keep _ _ _ Rz fun b hb o e=>(I9.pin (b,o) (aB _ (aB _ (tD hb e)))).1,fun b hb=>?_,p9⟩;obtain⟨o,e,d⟩:=T.obj _ _ Rz b hb;exact(I9.pin (b,o) (aB _ (aB _ (tD hb e)))).2.1
   cases b with
   |false =>
    rw[if_neg a8] at q8 ⊢;exact back I8 q8
   |true =>
    rw[if_pos rfl] at q8 ⊢;refine bK (he _ _ _ _ _ _ s8 _ H8 _ I8 q8) (fun w9 s9 ⟨v9,H9,I9,r9,hd9,hz9,q9⟩=>?_) fun _ _ z=>bH z;refine bK (BE (X:=X') _ s9 _ H9 (.ref D) [v9] (.ref D) [w9] (fun _ H'=>H'=upd H9 D (.lst (ys++[v9]))) I9 rfl (.cons r9 .nil) ⟨D,ys,v9,rfl,rfl,hd9,hz9,rfl⟩) (fun _ Su h10=>?_) fun _ _ z=>bH z;obtain⟨_,H10,QD,_,rfl⟩:=h10;exact back QD q9
 exact codeAny_compStart_list loop (T.self _ 0 _ _ _ (T.keep _ _ _ RA fun b hb o e=>Rj b o e) loop)
end
section
variable{X:Cx}{Oz iter:bj}{Ov:List bj}{x:Str}{px pos:Pos}{scope:dq}{wi:TI}{tc:TT}{te:TE}{fr:List Str}{ix:List Nat}
theorem CompB.g(h:CompB J tc te cap D H1 Q):Dg J (HQ 0) 1 tc te cap D H1 Q:=by obtain⟨Pv,⟨m,p⟩,h⟩:=h;refine⟨fun i m ys σ2 H2=>Pv i m ys H2/\∃o,σ2=o::cap,⟨m,p,none,rfl⟩,fun i m ys σ2 H2 ⟨p,o,e⟩=>?_⟩;subst e;refine(h i m ys H2 p).imp id fun⟨g,h⟩=>⟨g,fun x H3 y=>?_⟩;have h:=h x H3 y;have e:(∃o,(some x::cap:St)=o::cap)=True:=eq_true ⟨_,rfl⟩;show tc (some x::cap) H3 _;simpa only[iB,e,and_true] using h
def BW{PR:am->al->ku->aw->Prop}{Ob:List (al×Obj)}{σ:St}{H2:Hp}{s2:aw}{it:al}{fp:List al}{tn:Nat->bA->Prop}{J:It}{Q:VK}(hc:X.calm=true)(S:CompOk X.N X.env.scope scope x fr ix)(ht:∀cl C Oh Oi fp,GS (blk X scope cl C (x::fr) Oh Oi fp) Ov tc)(he:∀cl C Oh Oi fp,PE (blk X scope cl C (x::fr) Oh Oi fp) Oz te)(Oq:∀y∈scope.names,y.2=.free->∃c,X.env.cells.lookup y.1=some c)(I2:Inv X Ob σ H2 s2)(T:Turn X.prog X.w X.K (.Name x px) J fp it tn)(Pg:tn 0 s2.heap)(f2:∀b∈fp,EJ X Ob H2 b)(q2:∀D,H2 D=none->CompB J tc te (capt ix σ) D H2 Q)(Q7:∀D C H' s',Inv X Ob σ H' s'->H' C=none->MJ X Ob C->(∃m,s'.heap.Ns C m)->Q (.ref D) H'->PR (.ref D) C (.ok .next) s') :
  aZ (model X.prog X.w) X.A (newList []) (fun Oj Oh=>aZ (model X.prog X.w) X.A (newFunctionEnv scope X.env.globals (rg X.env.cells scope.names []) [] X.env.qual none .none (some X.env)) (fun Qb Rh =>
   fT (model X.prog X.w) X.A (.compStart (.ListComp Oz [⟨.Name x px,iter,Ov,0⟩] scope pos) 0 (.ref it) Oj { Qb with scope:=relabel scope X.env }) (PR Oj Qb.locals) Rh) X.xe Oh) X.xe s2 :=
 zE (xs:=[x]) hc ⟨S.kind,S.cell,S.nm,S.free,S.nd,S.idx,S.frs,S.len⟩ (fun cl C Oh Oi fp=>Gj (i:=0) S.nd rfl (.inl (di S.loc)) (.inr (di S.loc))) ht he Oq I2 T Pg f2 (fun D hD=>(q2 D hD).g) Q7
def xg(hc:X.calm=true)(S:CompOk X.N X.env.scope scope x fr ix)(hi:PI X (.Name x px) iter wi)(ht:∀cl C Oh Oi fp,GS (blk X scope cl C (x::fr) Oh Oi fp) Ov tc)(he:∀cl C Oh Oi fp,PE (blk X scope cl C (x::fr) Oh Oi fp) Oz te)(hs:∀v,cr iter X.env v=pure v:=by intro _;rfl):PE X (.ListComp Oz [⟨.Name x px,iter,Ov,0⟩] scope pos) (HK wi ix tc te):=by
 intro Ob s σ H Q I h;have Oq:∀y∈scope.names,y.2=.free->∃c,X.env.cells.lookup y.1=some c:=fun y hy hf=>I.ok.has y.1 (.inl (S.free y hy hf));rw[eval_ListComp];refine gF (use:=none) rfl hs (rR Oq) S.kind S.nm (thn (hi Ob s σ H _ I h) fun v s1 h1=>thn h1 fun RH s2 h2=>?_);obtain⟨it,fp,tn,J,H2,e,I2,T,Pg,f2,q2⟩:=h2;subst e;refine BW (PR:=fun Oj C r s'=>compPost (model X.prog X.w) X.A X.xe none (EP X Ob σ Q) Oj C r s') hc S ht he Oq I2 T Pg f2 q2 fun D C H' s' I' Sc ⟨b1,b2,b3,b4⟩ QI q'=>?_;obtain⟨m',Pi⟩:=QI;refine⟨m',Pi,fun h' RN=>⟨.ref D,H',?_,rfl,q'⟩⟩;exact I'.turned (t':=s'.toks) (it:=C) (fun b o hb e=>RN.extBut b o hb e) Sc b1 (.inr b2) b3 b4
def zf(hN:X.N.Nodup)(RY:X.N[i]?=some y)(Ro:X.env.scope.names.lookup y=some .local)(hc:X.calm=true)(S:CompOk X.N X.env.scope scope x fr ix)(hi:PI X (.Name x px) iter wi)(ht:∀cl C Oh Oi fp,GS (blk X scope cl C (x::fr) Oh Oi fp) Ov tc)(he:∀cl C Oh Oi fp,PE (blk X scope cl C (x::fr) Oh Oi fp) Oz te)(RL:fO (.ListComp Oz [⟨.Name x px,iter,Ov,0⟩] scope pos) (some (.Name y py)) spos.line X.env=pure true:=by rfl)(hs:∀v,cr iter X.env v=pure v:=by intro _;rfl):PS X (.Assign [.Name y py] (.ListComp Oz [⟨.Name x px,iter,Ov,0⟩] scope pos) spos) (N1 (HK wi ix tc te) (HQ i)):=by
 intro Ob s σ H D0 I h;have Oq:∀y∈scope.names,y.2=.free->∃c,X.env.cells.lookup y.1=some c:=fun y hy hf=>I.ok.has y.1 (.inl (S.free y hy hf));rw[exec_Assign_Name_used _ _ _ _ RL];refine av (gE (av ?_));show aZ _ X.A (do let _ <-comprehension (.ListComp Oz [⟨.Name x px,iter,Ov,0⟩] scope pos) scope X.env _ (newList []) false (eval iter X.env) (some (assign (.Name y py) X.env))) _ _ s;refine av (bK (gF (use:=some (assign (.Name y py) X.env)) (Q:=fun _ s'=>SP X Ob D0 .next s') rfl hs (rR Oq) S.kind S.nm
  (thn (hi Ob s σ H _ I h) fun v s1 h1=>thn h1 fun RH s2 h2=>?_)) (fun _ s' hq=>aS (aS hq)) fun _ _ e=>e)
 obtain⟨it,fp,tn,J,H2,e,I2,T,Pg,f2,q2⟩:=h2;subst e;refine BW (PR:=fun Oj C r s'=>compPost (model X.prog X.w) X.A X.xe (some (assign (.Name y py) X.env)) (fun _ s'=>SP X Ob D0 .next s') Oj C r s') hc S ht he Oq I2 T Pg f2 q2 fun D C H' s' I' Sc ⟨b1,b2,b3,b4⟩ QI q'=>?_;obtain⟨m',Pi⟩:=QI;refine wpAny_assign_Name (Bo (v:=.ref D) I' hN RY (.inl Ro) rfl (fun s5 I5 sb=>?_) (.inr Ro));obtain⟨a5,sb,ha5⟩:=sb;have hCa:C≠a5:=by
  rcases ha5 with z|z
  ·rw[z];exact b1
  ·exact(b3 _ _ z).symm
 refine⟨m',Pi.sameBut sb hCa,fun h' RN=>⟨_,H',?_,q'⟩⟩;exact I5.turned (t':=s5.toks) (it:=C) (fun b o hb e=>RN.extBut b o hb e) Sc b1 (.inr b2) b3 b4
end
abbrev bmV:List am:=[.type "ValueError",.type "Exception",.type "BaseException",.type "object"]
structure Exc(K:aa)(C:al):Prop where
 ex:jl K C bmV "ValueError.__new__"=true
 ga:bc K (.ref C) "__getattribute__"=some (some (.builtin "BaseException.__getattribute__"))
 gt:bc K (.ref C) "__getattr__"=some none
 ha:bc K (.ref C) "__class__"=some (some (.builtin "object.__class__"))
 hn:fY K (.builtin "object.__class__") "__get__"=some (some (.builtin "getset_descriptor.__get__"))
 ht:iP K (.builtin "object.__class__")=some true
 mo:dz K C (.type "object")=some true
 mb:dz K C (.type "BaseException")=some true
def Exc.obj{K:aa}{C:al}{h:bA}(Z:Exc K C)(X:K.In h):∃bm N nm q bs hdct sn sub ab col dd k0 k1 k2 k3 k5 mN,
  h.get? C=some (excClassObj nm q C N bs bm hdct sn sub ab col dd k0 k1 k2 k3 k5 "ValueError.__new__")/\h.Ns N mN/\mN "__init__"=none/\OwnTail h bmV bm:=by
 have z:=Z.ex;unfold jl at z;split at z
 case h_2=>cases z
 case h_1 ddv Ol slv lk =>
  split at z
  case h_2=>cases z
  case h_1 D bm a0 a1 a2 a3 nw a5 em es =>
   have z':((((D=C/\nw="ValueError.__new__")/\Ol.hasDel=false)/\PySem.W.tailIn K bmV bm=true)/\PySem.W.nsOkIn K Ol.ns=true)/\bU K Ol.ns "__init__"=some none:=by simpa only[bG,beq_iff_eq,Bool.not_eq_true'] using z
   obtain⟨⟨⟨⟨⟨eD,eN⟩,Ua⟩,tl⟩,SE⟩,TC⟩:=z';rcases Ol with⟨c1,c2,c3,c4,c5,c6,c7,c8,c9,c10,c11⟩;have em:c3=.ref D::bm:=em;have Ua:c11=false:=Ua;have SE:PySem.W.nsOkIn K c4=true:=SE;have TC:bU K c4 "__init__"=some none:=TC;subst em Ua eD eN;have esl:slv=#[a0,a1,a2,a3,some (.builtin "ValueError.__new__"),a5]:=by rcases slv with⟨l⟩;have es:l=_:=es;rw[es]
   subst esl;refine⟨bm,c4,c1,c5,c2,c6,c7,c8,c9,c10,ddv,a0,a1,a2,a3,a5,h.nsMap c4,X _ _ lk,?_,?_,PySem.W.tail_of_in X tl⟩
   ·exact .of_isNs (PySem.W.isNs_of_in X SE)
   ·exact PySem.W.nsMap_none_of_in X SE TC
def HS(h:bA)(a C:al):Prop:=∃ox vs,h.get? a=some ox/\ox.cls=.ref C/\ox.data=.fields vs
def GA(C a:al):HO:=.ext fun h=>HS h a C
def LK(I:HS h a C):ObjOk P w H h a (GA C a):=by
 refine⟨I,?_,fun h1 h2 p k=>?_⟩
 ·obtain⟨ox,_,e,_⟩:=I;exact⟨ox,e⟩
 ·obtain⟨ox,vs,e,c,d⟩:=p;exact⟨ox,vs,k _ e,c,d⟩
section
variable{prog:aI}{w:aX}{A:cq}{E:am->aw->Prop}{s:aw}{K:aa}{x C:al}{ox:Obj}
open PySem.W Builtin Builtin.ObjectAttr Builtin.Getset_descriptor in
def HA(Z:Exc K C)(X:K.In s.heap)(I:HS s.heap x C)(h:Q (some (.ref C)) { s with toks:=s.toks+1 }) :
  aZ (model prog w) A (getAttr? (.ref x) "__class__") Q E s:=by
 obtain⟨hh,g,d,t,os⟩:=s;have L0:i9 (model prog w) hh (typeOf (.ref x)) (.ref C):=by obtain⟨ox,vs,Pk,QM,T8⟩:=I;have Pk:hh.get? x=some ox:=Pk;exact QM▸(jT Pk).andThen .now
 have L1:=io (M:=model prog w) X Z.ga;have L2:=io (M:=model prog w) X Z.gt;have L3:i9 (model prog w) hh (Builtin.ObjectAttr.find (.ref x) (.ref C) "__class__") (.bind (.builtin "getset_descriptor.__get__") (.builtin "object.__class__")):=by have M1:=io (M:=model prog w) X Z.ha;have M2:i9 (model prog w) hh (Builtin.ObjectAttr.getOf (some (.builtin "object.__class__"))) (some (.builtin "getset_descriptor.__get__")):=looks_specialIn X Z.hn;have M3:=looks_takesIn (M:=model prog w) X Z.ht;refine M1.andThen (M2.andThen ?_);refine Looks.andThen (a:=some (.builtin "getset_descriptor.__get__",.builtin "object.__class__")) ?_ (Looks.tag .now);exact M3.andThen .now
 have LO:=jS (M:=model prog w) X Z.mo;have Uy:∀{A:cq}{tk:Nat}{R:ku->aw->Prop},R (.ok (.ret (.ref C))) ⟨hh,g,d,tk,os⟩->fT (model prog w) A (.call (.builtin "getset_descriptor.__get__") ⟨[.builtin "object.__class__",.ref x,.ref C],[]⟩) R ⟨hh,g,d,tk,os⟩:=by
  intro A tk R hq;obtain⟨ox,vs,Pk,QM,T8⟩:=I;have Pk:hh.get? x=some ox:=Pk;refine codeAny_call_builtin KF.slot_gs.plain KF.entry_gs (KF.slot_gs.check _ _ _ _ _ _ _ _ KF.type_class (KF.args_gs _ _ _) ?_);unfold Builtin.«getset_descriptor.__get__» descrGet;rw[dga_obj];refine av (aS ?_);unfold descrGetter descrCheckInstance descrNameAndClass isInstance;simp only[KF.owner_class]
  repeat lk
  refine⟨Code.quiet_builtin _ (by decide +kernel),codeAny_builtin KF.entry_class ?_⟩;unfold Builtin.«object.__class__» shownTypeOf
  repeat lk
  exact hq
 have LB:i9 (model prog w) hh (isInstance (.ref x) (.type "BaseException")) true:=L0.andThen (jS X Z.mb);have f3:=PySem.F.slot_gs_get;have SJ:(Value.builtin "BaseException.__getattribute__"==Value.builtin "object.__getattribute__")=false:=by decide +kernel
 have cls:∀{tk:Tok}{R:ku->aw->Prop},R (.ok (.ret (.ref C))) ⟨hh,g,d,t+1,os⟩->fT (model prog w) A (.call (.builtin "BaseException.__getattribute__") ⟨[.ref x,.str "__class__" tk],[]⟩) R ⟨hh,g,d,t+1,os⟩:=by
  intro tk R hq;have hk:builtinKind "BaseException.__getattribute__"=some .slot:=by decide +kernel
  have QZ:splitId "BaseException.__getattribute__"=some ("BaseException","__getattribute__"):=by decide +kernel
  have ha:=F.args_bexc_ga (.ref x) (.str "__class__" tk);refine codeAny_call_builtin (by decide +kernel) F.entry_bexc_ga ?_;simp only[checkBuiltinCall,hk,QZ];refine av (LB.at ?_)
  repeat (any_goals (first|assumption|wp_step))
  obtain⟨ox,vs,Pk,QM,T8⟩:=id I;have Pk:hh.get? x=some ox:=Pk;refine wpAny_loadPart_at Pk (aS ?_);rw[QM];clear Pk QM T8;refine av (L3.at ?_)
  repeat (any_goals (first|assumption|wp_step))
  refine Uy ?_
  repeat (any_goals (first|assumption|wp_step))
 have f4:=PySem.F.excAttr_ValueError.ga.bind (.ref x);unfold getAttr? getAttrBy? getAttrBy;refine av (wpAny_mkText (av (wpAny_attempt (eS (av (L0.at (av (L1.at ?_))))))));show aZ _ _ (getAttrByItsOwn _ _ _ _ _ _) _ _ _;unfold getAttrByItsOwn;refine av (L2.at ?_)
 repeat (any_goals (first|assumption|wp_step))
 refine cls ?_
 repeat (any_goals (first|assumption|wp_step))
end
section
variable{K:aa}{C a:al}
open PySem.W in
def Jg(Z:Exc K C):KitX K (.ref a) (.ref C) (fun h=>HS h a C) where
 ty:=fun _ _ _ ⟨_,_,e,c,_⟩=>c▸(jT e).andThen .now
 it:=fun _ h X _=>by obtain⟨bm,N,nm,q,bs,hdct,sn,sub,ab,col,dd,k0,k1,k2,k3,k5,mN,hC,_⟩:=Z.obj X;intro A' Q' E' s' k z;unfold isType loadHead;exact av (wpAny_loadPart (k _ _ hC) (aS z))
 ne:=fun h tp dd its n sl X htp=>by
  obtain⟨bm,N,nm,q,bs,hdct,sn,sub,ab,col,dd,k0,k1,k2,k3,k5,mN,hC,_⟩:=Z.obj X;refine cC.mpr fun z=>?_;have e:C=tp:=Value.ref.inj (beq_iff_eq.mp z);subst e;rw[hC] at htp;injection (aU htp) with _ _ z3 _
  exact nomatch z3
 ca:=fun X I k=>HA Z X I k
end
def clsV:V->am
 |.ref a=>.ref a
 |.ty n=>.type n
 |_=>.none
def Jt(r:RelV c u)(h:(∃a,c=.ref a)\/∃n,c=.ty n):u=clsV c:=by rcases h with⟨a,rfl⟩|⟨n,rfl⟩<;>exact r
section
variable{X:Cx}
def rIsi(K:aa):List V->Hp->VK->Prop:=fun xs H Q=>∃x c t b,xs=[x,c]/\((∃a,c=.ref a)\/∃n,c=.ty n)/\(TyOf K H x t\/(∃a C,x=.ref a/\t=.ref C/\H a=some (GA C a)/\Exc K C)\/(∃a ys,x=.ref a/\t=.type "list"/\SqL K H a ys)\/∃a ys,x=.ref a/\t=.type "tuple"/\SqT K H a ys)/\i5 K t (clsV c)=some b/\Q (.bl b) H
def Jv:CallR X (.builtin "isinstance") (rIsi X.K):=by
 intro Ob s σ H xs us Q I r h;obtain⟨x,c,t,b,rfl,hc,ty,e,q⟩:=h;obtain⟨u,v,rfl,ru,rv⟩:=vals2 r;rw[Jt rv hc];have fin:∀tk,EP X Ob σ Q (.bool b) { s with toks:=tk }:=fun tk=>⟨.bl b,H,I.tok tk,rfl,q⟩;rcases ty with ty|⟨a,C,rfl,rfl,ha,Z⟩|⟨a,ys,rfl,rfl,hq⟩|⟨a,ys,rfl,rfl,hq⟩
 ·exact Hq I ru ty e fin
 ·cases(show u=bz a from ru);obtain⟨p,_⟩:=I.hok a _ ha;exact bR (Jg Z) I.kIn p e (fun z=>nomatch z) fin
 ·cases(show u=bz a from ru);obtain⟨its,r',pl,_⟩:=I.list hq;obtain⟨o,h1,h2,_⟩:=pl.isList;exact bR ip I.kIn ⟨o,h1,h2⟩ e (fun z=>nomatch z) fin
 ·cases(show u=bz a from ru);obtain⟨its,r',pl,_⟩:=I.tuple hq;obtain⟨o,h1,h2,_⟩:=pl;exact bR ko I.kIn ⟨o,h1,h2⟩ e (fun z=>nomatch z) fin
end
def ObjOk.there(x:ObjOk P w H h a o):∃ob,h.get? a=some ob:=by
 cases o with
 |lst xs=>obtain⟨_,_,_,_,e⟩:=x;exact⟨_,e⟩
 |tup xs=>obtain⟨_,_,_,ob,e,_⟩:=x;exact⟨ob,e⟩
 |dK kvs=>obtain⟨_,_,_,_,ob,_,_,e,_⟩:=x;exact⟨ob,e⟩
 |dT kvs=>obtain⟨_,_,_,_,ob,_,_,e,_⟩:=x;exact⟨ob,e⟩
 |set S n=>obtain⟨ob,_,_,_,e,_⟩:=x;exact⟨ob,e⟩
 |ins C dx fs=>obtain⟨_,_,_,e,_⟩:=x;exact⟨_,e⟩
 |own y=>exact x
 |xd fs=>obtain⟨_,⟨ob,_,_,e,_⟩,_⟩:=x;exact⟨ob,e⟩
 |rng lo hi=>obtain⟨_,_,_,e⟩:=x;exact⟨_,e⟩
 |frz ob u=>obtain⟨e,_⟩:=x;exact⟨ob,e⟩
 |tbl ps=>exact⟨_,show h.get? a=some _ from x⟩
 |met f y=>exact⟨_,show h.get? a=some _ from x⟩
 |ext φ=>exact x.2.1
noncomputable def CXo(P:aI)(w:aX):CXT:=fun outer H s E e s'=>∃(a C:al)(t:am)(B:bA)(H':Hp),e=.ref a/\s'.os=s.os/\gz s'.gens/\Un (frs outer) [] H H' s.heap s'.heap/\HOk P w H' s'.heap /\
 jY B outer a (.ref C) t s'.heap/\(∀b u o,H' b=some u->s'.heap.get? b=some o->B.get? b=some o) /\
 (∀b o,s.heap.get? b=some o->b∉frs outer->∃o',s'.heap.get? b=some o'/\B.get? b=some o')/\E (.ref C) none H'
def tU:nX (CXo P w) X E0:=fun _ _ _ _ _ _ _ h=>by obtain⟨_,_,_,_,_,_,_,_,_,_,_,_,_,z⟩:=h;exact z.elim
def Lm(hf:env.frame=some L)(h:b∈frs (env::outer)):b=L\/b∈frs outer:=by unfold frs at h ⊢;rw[d9,hf] at h;exact aj.mp h
def zx(hf:env.frame=some L)(h:b∈frs outer):b∈frs (env::outer):=by unfold frs at h ⊢;rw[d9,hf];exact ah _ h
section
variable{P:aI}{w:aX}{K:aa}{mg:Str->Option am}{base:bA}{N:List Str}{qual:Str}{scope:dq}{f:al}{cd:am}{A:cq}{outer:List Env}{sa0:aw}{Ha0:Hp}{E:XK}
def n9:nX (CXo P w) (Ey (CXo P w) P w K mg base N qual scope f cd A outer sa0 Ha0 E) E:=by
 intro Ob σ H s e s' I h;obtain⟨a,C,t,B,H',rfl,Qt,P8,un,hok,fl,Qp,O5,hE⟩:=h;have TU:∀b o,sa0.heap.get? b=some o->b≠sa0.heap.objs.size:=fun b o e=>a6 (aP e);refine wpAny_leaves_onW (L:=sa0.heap.objs.size) (by exact I.ok.frames) rfl fl fun h' Rv up=>?_;have eq1:frs (eI qual scope sa0.heap.objs.size f cd::outer)=sa0.heap.objs.size::frs outer:=rfl;have OQ:∀b o,sa0.heap.get? b=some o->b∉frs outer->b∉frs (eI qual scope sa0.heap.objs.size f cd::outer):=fun b o e n z=>by
  rw[eq1] at z;rcases aj.mp z with z|z
  ·exact TU b o e z
  ·exact n z
 have ub:Un (frs outer) [] Ha0 H sa0.heap s.heap:=I.base;have old:∀b o,sa0.heap.get? b=some o->b∉frs outer->∃o',h'.get? b=some o'/\B.get? b=some o':=fun b o e n=>by obtain⟨o1,e1⟩:=ub.there b o e (by simp);obtain⟨o2,e2,e3⟩:=O5 b o1 e1 (OQ b o e n);exact⟨o2,Rv.1 b o2 e3,e3⟩
 refine⟨a,C,t,B,H',rfl,Qt.trans I.os,P8,⟨fun b o e n hb _=>?_,fun b o e n hb _=>?_,fun b o e n _=>?_,fun b o e _=>?_,fun b xs e=>un.tups b xs (ub.tups b xs e),fun b o u e=>un.frzs b o u (ub.frzs b o u e),fun b ps e=>?_⟩,?_,Rv,?_,old,hE⟩
 ·have e1:=ub.keep b o e n hb (by simp);have n1:=ub.free b o e n (by simp);have e2:=un.keep b o e1 n1 (OQ b o e hb) (by simp);obtain⟨o2,e3,e4⟩:=O5 b o e1 (OQ b o e hb);rw[e2] at e3;cases e3;exact Rv.1 b o e4
 ·obtain⟨sl,e1⟩:=ub.slot b o e n hb (by simp);have n1:=ub.free b o e n (by simp);obtain⟨P4,e2⟩:=un.slot b _ e1 n1 (zx rfl hb) (by simp);obtain⟨_,o3,e3,Qg⟩:=fl.2.2.1.mem (show b∈(eI qual scope sa0.heap.objs.size f cd::outer).filterMap (·.frame) from zx rfl hb);obtain⟨sl3,e4⟩:=up b _ e3 Qg;rw[e2] at e3;cases e3;exact⟨sl3,e4⟩
 ·obtain⟨o1,e1⟩:=ub.there b o e (by simp);exact un.free b o1 e1 (ub.free b o e n (by simp)) (by simp)
 ·by_cases hb:b∈frs outer
  ·obtain⟨_,o3,e3,Qg⟩:=fl.2.2.1.mem (show b∈(eI qual scope sa0.heap.objs.size f cd::outer).filterMap (·.frame) from zx rfl hb);obtain⟨sl3,e4⟩:=up b _ e3 Qg;exact⟨_,e4⟩
  ·obtain⟨o',e1,_⟩:=old b o e hb;exact⟨o',e1⟩
 ·obtain⟨m1,e1⟩:=ub.tbls b ps e;obtain⟨m2,e2⟩:=un.tbls b _ e1;exact⟨m1++m2,by rw[e2,iz]⟩
 ·intro b u e;refine(hok b u e).stay (fun c v hc q=>?_) (fun _ q=>q) fun _ _ q=>q;rcases hc with z|z
  ·subst z;exact Rv.1 _ _ (Qp _ u v e q)
  ·exact Rv.1 _ _ (Qp c _ v z q)
 ·intro b u o e q;obtain⟨o1,q1⟩:∃o1,s'.heap.get? b=some o1:=by exact(hok b u e).there
  have z:=Qp b u o1 e q1;have z2:=Rv.1 b o1 z;rw[z2] at q;cases q;exact z
def zJ(X:Cx)(E:XK):Prop:=∀(Ob:List (al×Obj))(σ:St)(H:Hp)(s:aw)(a C:al)(vs:List am)(h':bA),Inv X Ob σ H s->Heap.MadeExcOf s.heap h' a (.ref C) vs->E (.ref C) none H->X.xe (.ref a) { s with heap:=h' }
def zl:zJ (Ey (CXo P w) P w K mg base N qual scope f cd A outer sa0 Ha0 E) E:=by
 intro Ob σ H s a C vs Sb I mk hE;have stk:s.heap.FunFrames base (eI qual scope sa0.heap.objs.size f cd::outer):=I.stack;let l:List al:=frs (eI qual scope sa0.heap.objs.size f cd::outer);have Oo:∀env∈(eI qual scope sa0.heap.objs.size f cd::outer),∀b,env.frame=some b->b∈l:=fun env he b hb=>iC.mpr ⟨env,he,hb⟩;have Ti:∀b o,s.heap.get? b=some o->b∉l->(gr s.heap l).get? b=some o:=fun b o e n=>jV l e n;have ub:Un (frs outer) [] Ha0 H sa0.heap s.heap:=I.base;have OQ:∀b o,sa0.heap.get? b=some o->b∉frs outer->b∉l:=fun b o e n z=>by
  rcases Lm (L:=sa0.heap.objs.size) rfl z with z|z
  ·exact a6 (aP e) z
  ·exact n z
 have Qm:∀b u,H b=some u->b∉l:=fun b u e z=>by rw[I.stkFree b z] at e;cases e
 refine wpAny_leaves_madeW (L:=sa0.heap.objs.size) (base:=gr s.heap l) (h:=s.heap) (by exact I.ok.frames) rfl (fun b o e=>kn l e) (PySem.W.funFrames_hide stk Oo) mk fun h' t fl tup nt up=>?_;have OX:∀b o,s.heap.get? b=some o->b∉l->h'.get? b=some o:=fun b o e n=>fl.1 b o (Ti b o e n);have frame:∀b o,s.heap.get? b=some o->b∈l->∃sl,h'.get? b=some { o with slots:=sl }:=fun b o e hb=>by obtain⟨_,o3,e3,Qg⟩:=stk.mem hb;rw[e] at e3;cases e3;exact up b o (mk.keeps b o e) Qg
 refine⟨a,C,.ref t,gr s.heap l,H,rfl,I.os,I.bare,⟨fun b o e n hb _=>?_,fun b o e n hb _=>?_,fun b o e n _=>ub.free b o e n (by simp),fun b o e _=>?_,ub.tups,ub.frzs,ub.tbls⟩,fun b u e=>?_,fl,fun b u o e q=>?_,fun b o e n=>?_,hE⟩
 ·exact OX b o (ub.keep b o e n hb (by simp)) (OQ b o e hb)
 ·obtain⟨sl,e1⟩:=ub.slot b o e n hb (by simp);obtain⟨P4,e2⟩:=frame b _ e1 (zx rfl hb);exact⟨P4,e2⟩
 ·obtain⟨o1,e1⟩:=ub.there b o e (by simp);by_cases hb:b∈l
  ·obtain⟨P4,e2⟩:=frame b _ e1 hb;exact⟨_,e2⟩
  ·exact⟨o1,OX b o1 e1 hb⟩
 ·refine(I.hok b u e).stay (fun c v hc q=>?_) (fun _ q=>q) fun _ _ q=>q;rcases hc with z|z
  ·subst z;exact OX _ v q (Qm _ u e)
  ·exact OX c v q (Qm c _ z)
 ·obtain⟨o1,q1⟩:=(I.hok b u e).there;have z2:=OX b o1 q1 (Qm b u e);have q:h'.get? b=some o:=q;rw[z2] at q;cases q;exact Ti b _ q1 (Qm b u e)
 ·obtain⟨o1,e1⟩:=ub.there b o e (by simp);exact⟨o1,OX b o1 e1 (OQ b o e n),Ti b o1 e1 (OQ b o e n)⟩
end
section
variable{X:Cx}{C:al}{x:Str}{np Oe pos:Pos}{e:bj}{te:TE}{E:XK}
def MO(C:al)(E:XK)(te:TE):TS:=fun _ σ H=>te σ H fun _ H1=>E (.ref C) none H1
def qm(Z:Exc X.K C)(hg:Gl X x)(hm:X.mg x=some (.ref C))(hc:X.calm=true)(ha:PE X e te)(hp:zJ X E)(hd:NDb x:=by decide)(he:aK [e] X.env=[(false,eval e X.env)]:=by rfl):PS X (.Raise (some (.Call (.Name x np) [e] [] Oe)) none pos) (MO C E te):=by
 intro Ob s σ H D I h;obtain⟨bm,N,nm,q,bs,hdct,sn,sub,ab,col,dd,k0,k1,k2,k3,k5,mN,hC,hN,hni,T⟩:=Z.obj I.mod.kin;refine wpAny_Raise_call_subT (C:=C) (nm:=nm) (q:=q) (N:=N) (bs:=bs) (bm:=bm) (hdct:=hdct) (sn:=sn) (sub:=sub) (ab:=ab) (col:=col) (dd:=dd) (k0:=k0) (k1:=k1) (k2:=k2) (k3:=k3) (k5:=k5)
  fR (mN:=mN) (T.hasType fR.hasBase) (I.ok.hd hc) (by rw[he];rfl) hni (tP I hg hm ⟨rfl,?_⟩ hd)
 rw[he];refine fG ?_;show aZ _ _ (spliced ((false,eval e X.env)::[])) _ _ s;refine ei (thn (ha Ob s σ H _ I h) fun u PH ⟨v,H2,I2,r2,q2⟩=>?_);refine gb ⟨rfl,?_,I2.bk _ _ hC,hN.keeps I2.bk,T.keeps I2.bk,fun h' a mk=>hp Ob σ H2 PH a C _ h' I2 mk q2⟩;show 1<=aH;decide
end
section
variable{M:Model}{A:cq}{E:am->aw->Prop}{K:aa}{C D e:al}{oe:Obj}
def Dw{h:bA}{g:Array ky}{d:Drawn}{t:Nat}{os:OsState}{Q:Bool->aw->Prop}(ZC:Exc K C)(ZD:Exc K D)(X:K.In h)(sub:dz K C (.ref D)=some true)(he:h.get? e=some oe)(QA:oe.cls=.ref C)(hq:Q true ⟨h,g,d,t,os⟩):aZ M A (excMatches (.ref e) (.ref D)) Q E ⟨h,g,d,t,os⟩:=by
 have L0:i9 M h (typeOf (.ref e)) (.ref C):=QA▸(jT he).andThen .now;have L1:i9 M h (isSubtype (.ref C) (.ref D)) true:=jS X sub;obtain⟨bm,N,nm,q,bs,hdct,sn,sb,ab,col,dd,k0,k1,k2,k3,k5,mN,hD,hN,hni,T⟩:=ZD.obj X;have hcB:(bz D::bm).contains (.type "BaseException")=true:=by rw[List.contains_cons,T.hasType fR.hasBase,Bool.or_true]
 have f:=tc_notTuple;unfold excMatches
 repeat (first|with_reducible refine wpAny_loadPart_at hD ?_|(with_reducible refine wpAny_isSubtype_exc hD ?_;rw[hcB])|with_reducible refine L0.at ?_|with_reducible refine L1.at ?_|wp_step)
 first
  |exact hq
  | (rw[QA]
     refine L1.at ?_
     repeat wp_step
     exact hq)
end
def XO(X:Cx)(Ob:List (al×Obj))(σ:St)(E:XK):am->aw->Prop:=fun e s'=>∃H1 s1,Inv X Ob σ H1 s1/\CXo X.prog X.w X.stack H1 s1 E e s'
def PEx(X:Cx)(e:bj)(t:XK->TE):Prop:=∀(Ob:List (al×Obj))(s:aw)(σ:St)(H:Hp)(Q:VK)(E:XK),Inv X Ob σ H s->t E σ H Q->aZ (model X.prog X.w) X.A (eval e X.env) (EP X Ob σ Q) (XO X Ob σ E) s
def PSx(X:Cx)(st:bL)(t:XK->TS):Prop:=∀(Ob:List (al×Obj))(s:aw)(σ:St)(H:Hp)(D:Ends)(E:XK),Inv X Ob σ H s->t E D σ H->aZ (model X.prog X.w) X.A (exec st X.env) (SP X Ob D) (XO X Ob σ E) s
def PSxs(X:Cx)(st:List bL)(t:XK->TS):Prop:=∀(Ob:List (al×Obj))(s:aw)(σ:St)(H:Hp)(D:Ends)(E:XK),Inv X Ob σ H s->t E D σ H->aZ (model X.prog X.w) X.A (execs st X.env) (SP X Ob D) (XO X Ob σ E) s
section
variable{X:Cx}{k:Nat}{f C:al}{fd:bQ}{ps:List Str}{sp:Sp}{OI:List V}{ds:List am}{x m:Str}{p pos Og:Pos}{e o:bj}{es:List bj}{ta:TE}{t:TA}
def KH(F:FnOk X.prog X.w X.K X.mg X.base (CXo X.prog X.w) k f fd ps sp)(hr:Room k X.A)(hb:Binds X.K fd ps ds)(hd:Vals OI ds)(I:Inv X Ob σ H s)(r:Vals vs us)(h:sp (vs++OI) H Q E):aZ (model X.prog X.w) X.A (call (.ref f) us) (EP X Ob σ Q) (XO X Ob σ E) s:=by
 have r2:Vals (vs++OI) (us++ds):=r.append hd;have hl:(us++ds).length=ps.length:=by rw[<-r2.length];exact F.len _ _ _ _ h
 refine wpAny_call (hJ (F.run X.A X.stack s H ⟨us,[]⟩ (us++ds) (vs++OI) Q E hr I.env0 (hb s us I.kIn hl) r2 h) fun r s' hq=>?_);cases r with
 |error e=>exact⟨H,s,I,hq⟩
 |ok fl =>
  cases fl with
  |ret u=>exact I.after hq
  |next=>exact bH hq
  |brk=>exact bH hq
  |cont=>exact bH hq
def IJ(F:FnOk X.prog X.w X.K X.mg X.base (CXo X.prog X.w) k f fd ps sp)(hr:Room k X.A)(hg:Gl X x)(hm:X.mg x=some (.ref f))(hk:cz X.K (.ref f)=true)(hb:Binds X.K fd ps ds)(hd:Vals OI ds)(ha:PA X.nox (e::es) t)(OF:NDb x:=by decide)(he:SEb X e es:=by rfl)(OH:(cj pos (aK es X.env)).any (·.1)=false:=by rfl) :
  PEx X (.Call (.Name x p) (e::es) [] pos) (fun E=>AV sp OI E t):=by
 intro Ob s σ H Q E I h;refine dG (tP I hg hm ?_ OF);refine hV (h₀:=X.base) I.ok.mod.kin hk (bK (ha pos Ob s σ H _ (I.wish _) h) (fun us s1 ⟨vs,H1,I1,r,q⟩=>⟨I1.unwish.kIn,?_⟩) fun _ _ z=>bH z) he OH;exact KH F hr hb hd I1.unwish r q
end
section
variable{X:Cx}{e:bj}{te:XK->TE}{pos:Pos}
def hnd(X:Cx)(a:al):Cx:={ X with A:=X.A.mark (some (.ref a)),calm:=false,xe:=fun _ _=>False }
noncomputable def tTry(K:aa)(D:al)(i:Nat)(tb:XK->TS)(th:TS):TS:=fun Dn σ H=>tb (fun cls _ H'=>∃C,cls=.ref C/\Exc K C/\dz K C (.ref D)=some true /\
  ∀a,H' a=none->th { nx:=fun σ' H''=>Dn.nx (σ'.set i none) H'',rt:=Dn.rt,bk:=fun σ' H''=>Dn.bk (σ'.set i none) H'',ct:=fun σ' H''=>Dn.ct (σ'.set i none) H'' } (σ.set i (some (.ref a))) (upd H' a (GA C a))) Dn σ H
theorem Inv.hnd(I:Inv X Ob σ H s):Inv (L2.hnd X a) Ob σ H s :=
 ⟨⟨I.ok.mod,I.ok.kind,I.ok.glob,I.ok.blt,I.ok.above,I.ok.inj,I.ok.has,I.ok.cab,fun z=>Bool.noConfusion (show false=true from z),I.ok.frames,I.ok.stk,I.ok.exf,I.ok.bs,I.ok.bsz,I.ok.noex,I.ok.exfs,I.ok.funs,I.ok.frf⟩,I.os,I.bare,I.base,I.loc,I.cell,I.free,I.freeC,I.pin,I.hok,I.len⟩
def Inv.unhnd(ok:X.Ok)(I:Inv (L2.hnd X a) Ob σ H s):Inv X Ob σ H s :=
 ⟨ok,I.os,I.bare,I.base,I.loc,I.cell,I.free,I.freeC,I.pin,I.hok,I.len⟩
def zv{pos:Pos}(I:Inv X Ob σ H s)(hN:X.N.Nodup)(hi:X.N[i]?=some n)(hl:X.env.scope.names.lookup n=some .local)(h:∀s',Inv X Ob (σ.set i none) H s'->Q () s'):aZ M A (do kj X.env n .none;unbindBehindTheSuite X.env n pos) Q E s:=by
 obtain⟨m,hn,hm⟩:=id I.loc;refine wpAny_nameGoes_keeps hl hn (by rw[I.ok.kind];rfl) fun h' v Pi hs=>h _ ?_;obtain⟨oL,_,_,Rm,_⟩:=id hn;have hk:∀b o,b≠X.env.locals->s.heap.get? b=some o->h'.get? b=some o:=fun b o hb e=>(hs.2 b hb).trans e;have low:∀b o,X.sa0.heap.get? b=some o->b≠X.env.locals:=fun b o e=>a6 (aA (aP e) I.ok.above);refine⟨I.ok,I.os,I.bare,⟨fun b o e z hb hx=>hk b o (low b o e) (I.base.keep b o e z hb hx),fun b o e z hb hx=>?_,I.base.free,fun b o e hx=>?_,I.base.tups,I.base.frzs,I.base.tbls⟩,⟨_,Pi,fun j y v' e1 e2 e3=>?_⟩,fun y c e=>?_,I.free,I.freeC,fun p hp=>?_,fun b u e=>?_,by simpa using I.len⟩
 ·obtain⟨sl,e1⟩:=I.base.slot b o e z hb hx;exact⟨sl,hk b _ (low b o e) e1⟩
 ·obtain⟨o',e1⟩:=I.base.there b o e hx;exact⟨o',hk b o' (low b o e) e1⟩
 ·have hj:j≠i:=fun z=>by
   subst z;rw[iM] at e2;simp only[if_true] at e2;split at e2<;>cases e2
  rw[fL (fM hj)] at e2;obtain⟨u,r,l⟩:=hm j y v' e1 e2 e3;refine⟨u,r,?_⟩;rcases l with⟨kd,e⟩|⟨kd,c,e,z⟩
  ·refine .inl ⟨kd,?_⟩;have hy:y≠n:=fun z=>hj (zS hN e1 (z▸hi));simp only[if_neg hy];exact e
  ·exact .inr ⟨kd,c,e,z.sameBut hs (I.cne y c e)⟩
 ·obtain⟨w',z⟩:=I.cell y c e;exact⟨w',z.sameBut hs (I.cne y c e)⟩
 ·obtain⟨e,z,ne,nf,d⟩:=I.pin p hp;exact⟨hk _ _ ne e,z,ne,nf,d⟩
 ·refine(I.hok b u e).stay (fun c v hc q=>hk c v ?_ q) (fun _ q=>q) fun _ _ q=>q
  rintro rfl
  rcases hc with hc|hc
  ·rw[<-hc,I.free] at e;cases e
  ·rw[I.free] at hc;cases hc
end
def flown(un:Un (frs stk) [] H H' h0 h1)(hok:HOk P w H' h1)(fl:jY B stk a (.ref C) t h1)(Qp:∀b u o,H' b=some u->h1.get? b=some o->B.get? b=some o)(O5:∀b o,h0.get? b=some o->b∉frs stk->∃o',h1.get? b=some o'/\B.get? b=some o')(st:B.StaysIn h2)(up:h1.UpToSlots h2) :
  Un (frs stk) [] H H' h0 h2/\HOk P w H' h2:=by
 have frame:∀b o,h1.get? b=some o->b∈frs stk->∃sl,h2.get? b=some { o with slots:=sl }:=fun b o e hb=>by obtain⟨_,o3,e3,Qg⟩:=fl.2.2.1.mem (show b∈stk.filterMap (·.frame) from hb);rw[e] at e3;cases e3;exact up b o e Qg
 refine⟨⟨fun b o e n hb hx=>?_,fun b o e n hb hx=>?_,un.free,fun b o e hx=>?_,un.tups,un.frzs,un.tbls⟩,fun b u e=>?_⟩
 ·have e2:=un.keep b o e n hb hx;obtain⟨o2,e3,e4⟩:=O5 b o e hb;rw[e2] at e3;cases e3;exact st b _ e4
 ·obtain⟨sl,e1⟩:=un.slot b o e n hb hx;obtain⟨P4,e2⟩:=frame b _ e1 hb;exact⟨P4,e2⟩
 ·by_cases hb:b∈frs stk
  ·obtain⟨o1,e1⟩:=un.there b o e hx;obtain⟨P4,e2⟩:=frame b _ e1 hb;exact⟨_,e2⟩
  ·obtain⟨o2,e3,e4⟩:=O5 b o e hb;exact⟨o2,st b _ e4⟩
 ·refine(hok b u e).stay (fun c v hc q=>?_) (fun _ q=>q) fun _ _ q=>q;rcases hc with z|z
  ·subst z;exact st _ _ (Qp _ u v e q)
  ·exact st _ _ (Qp c _ v z q)
section
variable{X:Cx}{body:List bL}{x n:Str}{np hp pos:Pos}{Rw:bL}{bs:List bL}{tb:XK->TS}{th:TS}{D:al}{i:Nat}
def M8(hc:X.calm=true)(O6:X.stack=X.env::X.outer)(hf:X.env.frame=some X.env.locals)(T4:X.ex=[])(hb:PSxs X body tb)(hg:Gl X x)(hm:X.mg x=some (.ref D))(ZD:Exc X.K D)(hN:X.N.Nodup)(hi:X.N[i]?=some n)(hl:X.env.scope.names.lookup n=some .local)(hh:∀a,PSs (hnd X a) (Rw::bs) th)(hd:NDb x:=by decide) :
  PS X (.Try body [.ExceptHandler (some (.Name x np)) (some n) (Rw::bs) hp] [] [] pos) (tTry X.K D i tb th):=by
 intro Ob s σ H Dn I h;refine wpAny_Try_except (bK (hb Ob s σ H Dn _ I h) (fun fl s1 q1=>?_) fun e s1 q1=>?_)
 ·cases fl with
  |next=>exact eV q1
  |brk=>exact q1
  |cont=>exact q1
  |ret v=>exact q1
 ·obtain⟨H1,s2,J,a,C,t,B,H',rfl,Qt,P8,un,hok,fl,Qp,O5,C',eC,ZC,sub,hth⟩:=q1;cases eC;have T2:X.A.frames=some (X.env::X.outer):=by rw[<-O6];exact J.ok.frames
  have ha:s2.heap.get? a=none:=by
   cases q:s2.heap.get? a with
   |none=>rfl
   |some o =>
    exfalso;by_cases hb:a∈frs X.stack
    ·obtain⟨_,o3,e3,Qg⟩:=fl.2.2.1.mem (show a∈X.stack.filterMap (·.frame) from hb);obtain⟨oe,vs,e4,_,e5,_⟩:=fl.first;rw[e4] at e3;cases e3;exact Qg vs e5
    ·obtain⟨o',_,e⟩:=O5 a o q hb;rw[fl.2.1] at e;cases e
  have inv:∀{h2:bA}{tk:Nat},B.StaysIn h2->s1.heap.UpToSlots h2->Inv X Ob σ H' { s1 with heap:=h2,toks:=tk }:=fun{h2 tk} st up=>by obtain⟨u2,ok2⟩:=flown un hok fl Qp O5 st up;exact J.call' (s':={ s1 with heap:=h2,toks:=tk }) (ch:=[]) Qt u2 ok2 P8 (fun b z=>absurd z (by simp))
  have Rs:H' a=none:=by
   cases q:H' a with
   |none=>rfl
   |some u =>
    exfalso;obtain⟨oe,e4,_⟩:=fl.there;have:=Qp a u oe q e4;rw[fl.2.1] at this;cases this
  have fl1:jY B (X.env::X.outer) a (.ref C) t s1.heap:=by rw[<-O6];exact fl
  refine wpAny_looks_onW T2 hf fl1 fun h4 R3 up4=>?_;refine wpAny_landsW R3 fun h5 Ul up5=>?_;have I5:Inv X Ob σ H' { s1 with heap:=h5 }:=inv (tk:=s1.toks) Ul.1 (up4.trans up5);have I5h:Inv (hnd X a) Ob σ H' { s1 with heap:=h5 }:=I5.hnd;refine wpAny_handleBy_cons (codeAny_handlers_test (tP (X:=hnd X a) I5h hg hm ?_ hd)) (by intro z;cases z);obtain⟨oe,e4,Ur⟩:=Ul.there;refine Dw ZC ZD I5.kIn sub e4 Ur (codeAny_handlers_suite_as ?_);refine lands_againW Ul fun h6 fl6 up6=>?_;have I6:Inv X Ob σ H' { s1 with heap:=h6 }:=inv (tk:=s1.toks) fl6.1 ((up4.trans up5).trans up6);have SG:∀b o,s2.heap.get? b=some o->b≠a:=fun b o e z=>by rw[z,ha] at e;cases e
  have I7:Inv X Ob σ (upd H' a (GA C a)) { s1 with heap:=h6 }:=by
   refine⟨I6.ok,I6.os,I6.bare,⟨I6.base.keep,I6.base.slot,fun b o e z hx=>?_,I6.base.there,fun b xs e=>?_,fun b o u e=>?_,fun b ps e=>?_⟩,I6.loc,I6.cell,?_,fun y c e=>?_,fun p hp=>?_,fun b u e=>?_,I6.len⟩
   ·obtain⟨o',e'⟩:=J.base.there b o e hx;rw[lg (SG b o' e')];exact I6.base.free b o e z hx
   ·rw[lg (lI (I6.base.tups b xs e) Rs)];exact I6.base.tups b xs e
   ·rw[lg (lI (I6.base.frzs b o u e) Rs)];exact I6.base.frzs b o u e
   ·obtain⟨m1,e1⟩:=I6.base.tbls b ps e;exact⟨m1,by rw[lg (lI e1 Rs)];exact e1⟩
   ·obtain⟨m,⟨o,_,_,ho,_⟩,_⟩:=J.loc;rw[lg (SG _ o ho)];exact I6.free
   ·obtain⟨v,o,ho,_⟩:=J.cell y c e;rw[lg (SG _ o ho)];exact I6.freeC y c e
   ·obtain⟨e1,z1,r1⟩:=I6.pin p hp;refine⟨e1,?_,r1⟩;rw[lg (SG _ _ (J.pin p hp).1)];exact z1
   ·by_cases hb:b=a
    ·subst hb;rw[lr] at e;cases e;obtain⟨oe,vs,e7,c7,d7,_⟩:=fl6.first;exact LK ⟨oe,vs,e7,c7,d7⟩
    ·rw[lg hb] at e;exact(I6.hok b u e).stay (fun c v _ q=>q) (fun c q=>by rw[lg (lI q Rs)];exact q) fun c xs q=>by rw[lg (lI q Rs)];exact q
  refine uP (v:=.ref a) I7 hN hi (.inl hl) rfl (fun s8 I8=>?_) (.inr hl);refine bK (hh a Ob s8 _ _ _ I8.hnd (hth a Rs)) (fun fl9 s9 q9=>?_) fun _ _ z=>bH z;have ok:=I8.ok;cases fl9 with
  |next =>
   obtain⟨σ9,H9,I9,q9⟩:=q9;exact zv (I9.unhnd ok) hN hi hl fun Su QD=>⟨_,H9,QD,q9⟩
  |brk =>
   obtain⟨σ9,H9,I9,q9⟩:=q9;exact zv (I9.unhnd ok) hN hi hl fun Su QD=>⟨_,H9,QD,q9⟩
  |cont =>
   obtain⟨σ9,H9,I9,q9⟩:=q9;exact zv (I9.unhnd ok) hN hi hl fun Su QD=>⟨_,H9,QD,q9⟩
  |ret v =>
   obtain⟨y,σ9,H9,I9,r9,q9⟩:=q9;exact zv (I9.unhnd ok) hN hi hl fun Su QD=>⟨y,_,H9,QD,r9,q9⟩
def IE{st:bL}{t:XK->TS}(h:PSx X st t):PSxs X [st] t:=by
 intro Ob s σ H Dn E I hq;refine iO (thn (h Ob s σ H Dn E I hq) fun f s1 q=>?_);cases f with
 |next=>exact eV q
 |brk=>exact q
 |cont=>exact q
 |ret v=>exact q
def leS(a b:Str):Bool:=!fF b.cps.toList a.cps.toList
theorem wq:∀a:List Nat,fF a a=false
 |[]=>rfl
 |a::r=>by show(decide (a<a)||(a==a&&fF r r))=false;rw[wq r];simp
theorem uy:∀{a b c:List Nat},fF a b=true->fF b c=true->fF a c=true
 |[],_,[],h1,h2=>by
  cases ‹List Nat› with
  |nil=>exact h1
  |cons x r=>exact absurd (show fF (x::r) []=true from h2) (by intro z;cases z)
 |[],_,_::_,_,_=>rfl
 |a::r,[],_,h1,_=>by cases h1
 |a::r,b::t,[],_,h2=>by cases h2
 |a::r,b::t,c::u,h1,h2=>by
  have h1:(decide (a<b)||(a==b&&fF r t))=true:=h1;have h2:(decide (b<c)||(b==c&&fF t u))=true:=h2;show(decide (a<c)||(a==c&&fF r u))=true;simp only[bT,decide_eq_true_eq,bG,beq_iff_eq] at h1 h2 ⊢;rcases h1 with h1|⟨e1,g1⟩
  ·rcases h2 with h2|⟨e2,g2⟩
   ·exact .inl (by omega)
   ·exact .inl (by omega)
  ·rcases h2 with h2|⟨e2,g2⟩
   ·exact .inl (by omega)
   ·exact .inr ⟨e1.trans e2,uy g1 g2⟩
theorem xM:∀a b:List Nat,fF a b=false->fF b a=false->a=b
 |[],[],_,_=>rfl
 |[],_::_,h,_=>by cases h
 |_::_,[],_,h=>by cases h
 |a::r,b::t,h1,h2=>by
  have h1:(decide (a<b)||(a==b&&fF r t))=false:=h1;have h2:(decide (b<a)||(b==a&&fF t r))=false:=h2;simp only[Bool.or_eq_false_iff,decide_eq_false_iff_not,Bool.and_eq_false_iff,beq_eq_false_iff_ne] at h1 h2;have e:a=b:=by omega
  subst e;rw[xM r t (h1.2.resolve_left fun z=>z rfl) (h2.2.resolve_left fun z=>z rfl)]
def Hm(a b:Str):leS a b=true\/leS b a=true:=by
 unfold leS;cases h:fF b.cps.toList a.cps.toList with
 |false=>exact .inl rfl
 |true =>
  right;cases h2:fF a.cps.toList b.cps.toList with
  |false=>rfl
  |true =>
   have:=uy h h2;rw[wq] at this;cases this
def Je(h1:leS a b=true)(h2:leS b a=true):a=b:=by unfold leS at h1 h2;have e:=xM b.cps.toList a.cps.toList (by simpa using h1) (by simpa using h2);obtain⟨⟨x⟩⟩:=a;obtain⟨⟨y⟩⟩:=b;have e:y=x:=e;rw[e]
def BH(h1:leS a b=true)(h2:leS b c=true):leS a c=true:=by
 unfold leS at *;cases h:fF c.cps.toList a.cps.toList with
 |false=>rfl
 |true =>
  exfalso;have h1:fF b.cps.toList a.cps.toList=false:=by simpa using h1
  have h2:fF c.cps.toList b.cps.toList=false:=by simpa using h2
  cases h3:fF b.cps.toList c.cps.toList with
  |true =>
   have:=uy h3 h;rw[h1] at this;cases this
  |false =>
   have e:=xM _ _ h3 h2;rw[e,h] at h1;cases h1
def HW(x:Str):List Str->List Str
 |[]=>[x]
 |y::r=>if leS x y then x::y::r else y::HW x r
def srt:List Str->List Str
 |[]=>[]
 |x::r=>HW x (srt r)
theorem xP(x:Str):∀l,(HW x l).Perm (x::l)
 |[]=>.refl _
 |y::r=>by
  unfold HW;split
  ·exact .refl _
  ·exact((xP x r).cons y).trans (.swap x y r)
theorem lx:∀l,(srt l).Perm l
 |[]=>.refl _
 |x::r=>(xP x (srt r)).trans ((lx r).cons x)
theorem x9(x:Str):∀l,l.Pairwise (fun a b=>leS a b=true)->(HW x l).Pairwise (fun a b=>leS a b=true)
 |[],_=>by simp[HW]
 |y::r,h=>by
  obtain⟨h1,h2⟩:=cT.mp h;unfold HW;split
  ·rename_i SI;refine cT.mpr ⟨fun z hz=>?_,h⟩;rcases aj.mp hz with rfl|hz
   ·exact SI
   ·exact BH SI (h1 z hz)
  ·rename_i SI;refine cT.mpr ⟨fun z hz=>?_,x9 x r h2⟩;rcases aj.mp ((xP x r).mem_iff.mp hz) with rfl|hz
   ·exact(Hm z y).resolve_left SI
   ·exact h1 z hz
theorem pO:∀l,(srt l).Pairwise (fun a b=>leS a b=true)
 |[]=>.nil
 |x::r=>x9 x _ (pO r)
theorem pP:∀{l m:List Str},l.Perm m->l.Pairwise (fun a b=>leS a b=true)->m.Pairwise (fun a b=>leS a b=true)->l=m
 |[],m,p,_,_=>(List.nil_perm.mp p).symm
 |a::l,[],p,_,_=>absurd (List.perm_nil.mp p) (by simp)
 |a::l,b::m,p,h1,h2=>by
  obtain⟨a1,a2⟩:=cT.mp h1;obtain⟨b1,b2⟩:=cT.mp h2;have e:a=b:=by
   have ha:a∈b::m:=p.mem_iff.mp ag;have hb:b∈a::l:=p.mem_iff.mpr ag;rcases aj.mp ha with e|ha
   ·exact e
   ·rcases aj.mp hb with e|hb
    ·exact e.symm
    ·exact Je (a1 b hb) (b1 a ha)
  subst e;rw[pP (List.Perm.cons_inv p) a2 b2]
def mJ(p:l.Perm m):srt l=srt m:=pP ((lx l).trans (p.trans (lx m).symm)) (pO l) (pO m)
def lH(l:List Str):(srt l).length=l.length:=(lx l).length_eq
theorem tm:∀(p:Str)(l:List Str),risingS p l=true->(p::l).Pairwise (fun a b=>leS a b=true)
 |p,[],_=>List.pairwise_singleton _ _
 |p,x::r,h=>by
  have h:(!fF x.cps.toList p.cps.toList&&risingS x r)=true:=h;rw[bG] at h;have ih:=tm x r h.2;refine cT.mpr ⟨fun z hz=>?_,ih⟩;rcases aj.mp hz with rfl|hz
  ·exact h.1
  ·exact BH (show leS p x=true from h.1) ((cT.mp ih).1 z hz)
def wZ:∀(l:List Str),sortedS l=true->l.Pairwise (fun a b=>leS a b=true)
 |[],_=>.nil
 |x::r,h=>tm x r h
def JV(p:l.Perm m)(h:sortedS l=true):l=srt m:=pP (p.trans (lx m).symm) (wZ l h) (pO m)
theorem yZ:∀{ss:List Str}{us:List am},Vals (ss.map V.str) us->StrsAre us ss
 |[],_,.nil=>.nil
 |x::ss,_,.cons ⟨t,e⟩ r=>by subst e;exact .cons x t (yZ r)
theorem zj:∀{ss:List Str}{us:List am},StrsAre us ss->Vals (ss.map V.str) us
 |_,_,.nil=>.nil
 |_,_,.cons x t r=>.cons ⟨t,rfl⟩ (zj r)
theorem FS:∀(xs:List V)(us:List am),xs.length=us.length->(∀(j:Nat) x u,xs[j]?=some x->us[j]?=some u->RelV x u)->Vals xs us
 |[],[],_,_=>.nil
 |[],_::_,e,_=>by cases e
 |_::_,[],e,_=>by cases e
 |x::xs,u::us,e,h=>.cons (h 0 x u rfl rfl) (FS xs us (jA e) fun j y v e1 e2=>h (j+1) y v (by simpa using e1) (by simpa using e2))
def call_sortedL:CallR X (.builtin "sorted") (fun xs H Q=>∃p ss,xs=[.ref p]/\SqL X.K H p (ss.map V.str)/\ss.length<64/\∀l,H l=none->Q (.ref l) (upd H l (.lst ((srt ss).map V.str)))):=by
 intro Ob s σ H xs us Q I r h;obtain⟨p,ss,rfl,hq,hz,q⟩:=h;obtain⟨u,rfl,ru⟩:=tj r;cases ru;obtain⟨its,rv,pl,hz2⟩:=I.list hq;have hS:=yZ rv;have hl:its.length=ss.length:=by have:=rv.length;rw[af] at this;exact this.symm
 refine sorted_strs pl.isList hS (by omega) fun out ss' h1 h2 h3=>?_;have e:=JV h2 h3;subst e;obtain⟨ep,Pk⟩:=sortedAll_at s.heap its out;have hf:H (s.heap.objs.size+1)=none:=I.hok.fresh (hZ _);refine⟨.ref _,_,I.laid (t':=s.toks) (fun b o e=>sortedAll_old e) (hZ _) (o:=.lst ((srt ss).map V.str)) ?_,rfl,q _ hf⟩;refine⟨?_,out.toList,ep,zj h1,?_⟩
 ·rw[af,lH];exact aC (fk hz) (by decide)
 ·rw[Pk]
def qD(hc:X.calm=true):CallR X (.builtin "sorted") (fun xs H Q=>∃p kvs ss,xs=[.ref p]/\Rd H p (.dK kvs)/\kvs.map (·.1)=ss.map ar/\ss.length<64/\∀l,H l=none->Q (.ref l) (upd H l (.lst ((srt ss).map V.str)))):=by
 intro Ob s σ H xs us Q I r h;obtain⟨p,kvs,ss,rfl,hq,hk,hz,q⟩:=h;obtain⟨u,rfl,ru⟩:=tj r;cases ru;obtain⟨z,QX,vs,rel,dd⟩:=wT I.hok hq;obtain⟨ep,Pk⟩:=dd.dictAt;have Of:vs.length=ss.length:=by have e1:=rel.length;have e2:=congrArg b6 hk;rw[af,af] at e2;omega
 refine Calls.call_function_entry kind_sorted plain_sorted entry_sorted (args_sorted1 _) ?_;unfold Builtin.«sorted»;refine av (m:=checkCount "sorted" 1 1 _) (aS ?_);refine av (PySem.W.kdu_collect (A:=X.A.in1) (PySem.W.kdl_dict (knd:=mH X.prog X.w) (kvs:=vs) (ep:=ep) QX) (I.ok.hd hc) Pk (aC (by omega) (show 64<=aH by decide)) fun h' tk Oj hkp R9=>?_);have hl:Oj.toList.length=vs.length:=by rw[bS];exact R9.1
 have hS:StrsAre Oj.toList ss:=by
  refine yZ (FS _ _ (by rw[af,hl,Of]) fun j x u e1 e2=>?_);obtain⟨k,y,e3,e4⟩:=R9.2 j u (by rw[<-Array.getElem?_toList];exact e2);have e5:(vs.map (·.1))[j]?=some k:=by rw[bu,e3];rfl
  rw[<-rel.keys,hk,bu] at e5;rw[bu] at e1;cases e6:ss[j]? with
  |none=>rw[e6] at e1;cases e1
  |some z =>
   rw[e6] at e1 e5;have e1:V.str z=x:=aU e1;have e5:ar z=k:=aU e5;subst e1 e5;rcases mz (k:=ar z) (v:=u) e4 with⟨i,t,q1,_⟩|⟨y',t,q1,q2⟩
   ·cases q1
   ·cases q1;exact⟨t,q2⟩
 refine av (wpAny_newList ?_ (by rw[hl];exact aC (by omega) (show 64<=aH by decide)));have Rm:(h'.push (seqObj "list" Oj.toList.toArray 0)).get? h'.objs.size=some (seqObj "list" Oj.toList.toArray 0):=bC _ rfl;refine av (eS (wpAny_call_entry slot_list_sort ⟨_,Rm,rfl⟩ entry_list_sort (list_sort_treeK strKind_oneLt Rm hS.keysOf (fun Ql Qk oY e=>keyKind_strs (by rw[<-e];exact hS)) (by omega) fun Ps a1 a2=>⟨_,rfl,?_⟩) (args_list_sort _)));refine aS ⟨_,rfl,?_⟩;obtain⟨ss',h1,h2,h3⟩:=sorted_out_str hS a1 a2;have e:=JV h2 h3;subst e;have I1:Inv X Ob σ H { s with heap:=h',toks:=tk }:=I.kept hkp;obtain⟨e',Uf⟩:=sortedHeap_at (out:=(arrOf Ps).map (·.2)) Rm;have hf:H h'.objs.size=none:=I1.hok.fresh (ax _);refine⟨.ref _,_,I1.laid (t':=tk) (fun b o e=>?_) (ax _) (o:=.lst ((srt ss).map V.str)) ?_,rfl,q _ hf⟩
 ·have Ow:b<h'.objs.size:=aP e;refine(sortedHeap_old (a6 Ow) (by rw[size_push'];exact iT Ow)).trans ?_;exact aG _ e
 ·refine⟨?_,((arrOf Ps).map (·.2)).toList,e',zj h1,?_⟩
  ·rw[af,lH];exact aC (fk hz) (by decide)
  ·exact Uf
end
def Its(x:Str):It:=⟨fun i _=>i<x.cps.size,fun i H v H'=>H'=H/\∃c,x.cps[i]?=some c/\v=.str ⟨#[c]⟩,fun i _=>x.cps.size<=i⟩
def Bh(hh:A.handled=none)(it:al)(x:Str)(t:Tok):Walks P w A it [it] [it] x.cps.size (SignAt x) (fun i h=>h.IsStrIter it (iD x) x t i):=by
 unfold iD;split
 ·exact Walks.strAscii hh it x t
 ·exact Walks.strWide hh it x t
def Ic{P:aI}{w:aX}{K:aa}{tg:bj}(it:al)(x:Str)(t:Tok):Turn P w K tg (Its x) [it] it (fun i h=>i<=x.cps.size/\h.IsStrIter it (iD x) x t i) where
 mem:=by simp
 obj:=fun i h st b hb=>by
  have e:b=it:=by simpa using hb
  subst e;obtain⟨_,o,e,c,d⟩:=st;exact⟨o,e,fun v z=>by rw[d] at z;cases z⟩
 keep:=fun i h h' st k=>by obtain⟨z,o,e,c,d⟩:=st;exact⟨z,o,k it (by simp) o e,c,d⟩
 item:=by intro X hP hw hK hc i Ob s σ H E I hf st hg;subst hP hw hK;obtain⟨f0,f1,f2,f3,f4,f5⟩:=hf it (by simp);refine(Bh (I.ok.hd hc) it x t).item i s _ _ hg st.2 fun v h' tk hv Ps kk=>?_;obtain⟨c,u,e1,e2⟩:=hv;subst e2;have I1:Inv X Ob σ H { s with heap:=h',toks:=tk }:=I.turned (fun b o hb e=>kk b o (by simpa using hb) e) f0 f1 f3 f4 f5;obtain⟨o,e,cl,d⟩:=id Ps;refine⟨_,rfl,Fo (s:={ s with heap:=h',toks:=tk }) e cl d ?_ ⟨.str ⟨#[c]⟩,H,I1,⟨u,rfl⟩,⟨rfl,c,e1,rfl⟩,⟨hg,Ps⟩,fun b hb=>(hf b hb).1⟩⟩;unfold iD;split<;>decide
 done:=by intro X hP hw hK hc i Ob s σ H E I hf st hg;subst hP hw hK;obtain⟨f0,f1,f2,f3,f4,f5⟩:=hf it (by simp);have e:i=x.cps.size:=jt st.1 hg;subst e;exact(Bh (I.ok.hd hc) it x t).done s _ _ st.2 fun h' tk kk=>⟨rfl,I.turned (fun b o hb e=>kk b o (by simpa using hb) e) f0 f1 f3 f4 f5⟩
 self:=fun A i s Q E st h=>by
  obtain⟨_,st⟩:=st;unfold iD at st;split at st
  ·exact wpAny_pyIter_striter_ascii st h
  ·exact wpAny_pyIter_striter_wide st h
section
variable{X:Cx}{tg:bj}
def iStr(tl:TE):TI:=fun σ H R=>tl σ H fun v H1=>∃x,v=.str x/\R (Its x) H1
def JM{l:bj}{tl:TE}(hl:PE X l tl):PI X tg l (iStr tl):=by
 intro Ob s σ H R I h;refine thn (hl Ob s σ H _ I h) fun v s1 ⟨y,H1,I1,r1,q1⟩=>?_;obtain⟨x,e,q⟩:=q1;subst e;obtain⟨t,rfl⟩:=r1;refine wpAny_pyIter_strU ?_;refine⟨s1.heap.objs.size,[s1.heap.objs.size],_,_,H1,rfl,I1.kept (t':=s1.toks) fun b o e=>aG _ e,Ic _ x t,⟨ba _,_,bC _ rfl,rfl,rfl⟩,fun b hb=>?_,q⟩;have e:b=s1.heap.objs.size:=by simpa using hb
 subst e;exact I1.fpOk (ax _) (I1.hok.fresh (ax _))
end
section
variable{X:Cx}{Ob:List (al×Obj)}{σ:St}{H:Hp}{s:aw}{d:al}{kvs:List (Key×V)}{ob:Obj}
def Inv.redo(I:Inv X Ob σ H s)(hd:H d=some u)(n1:∀y,u≠.own y)(n2:∀xs,u≠.tup xs)(n3:∀o v,X.Ha0 d≠some (.frz o v))(n4:∀ps,u≠.tbl ps)(ok:ObjOk X.prog X.w (upd H d u') s.heap d u'):Inv X Ob σ (upd H d u') s:=by
 have ne:∀b v,H b=some v->v≠u->b≠d:=fun b v e hv z=>by subst z;rw[hd] at e;exact hv (aU e).symm
 have nn:∀b,H b=none->b≠d:=fun b e z=>by subst z;rw[hd] at e;cases e
 refine⟨I.ok,I.os,I.bare,⟨I.base.keep,I.base.slot,fun b o e z hx=>?_,I.base.there,fun b xs e=>?_,fun b o v e=>?_,fun b ps e=>?_⟩,I.loc,I.cell,?_,fun y c e=>?_,fun p hp=>?_,fun b v e=>?_,I.len⟩
 ·have:=I.base.free b o e z hx;rw[lg (nn b this)];exact this
 ·have:=I.base.tups b xs e;rw[lg (ne b _ this fun z=>n2 xs z.symm)];exact this
 ·have:=I.base.frzs b o v e;have hb:b≠d:=fun z=>by subst z;exact n3 o v e
  rw[lg hb];exact this
 ·obtain⟨m,e1⟩:=I.base.tbls b ps e;exact⟨m,by rw[lg (ne b _ e1 fun z=>n4 _ z.symm)];exact e1⟩
 ·rw[lg (nn _ I.free)];exact I.free
 ·rw[lg (nn _ (I.freeC y c e))];exact I.freeC y c e
 ·obtain⟨e1,z1,r1⟩:=I.pin p hp;exact⟨e1,by rw[lg (nn _ z1)];exact z1,r1⟩
 ·by_cases hb:b=d
  ·subst hb;rw[lr] at e;cases e;exact ok
  ·rw[lg hb] at e;exact(I.hok b v e).stay (fun c v _ q=>q) (fun c q=>by rw[lg (ne c _ q fun z=>n1 _ z.symm)];exact q) fun c xs q=>by rw[lg (ne c _ q fun z=>n2 _ z.symm)];exact q
def MD{H H':Hp}(x:ObjOk P w H h d (.dK kvs)):ObjOk P w H' h d (.dK kvs):=x
def Inv.freeze(I:Inv X Ob σ H s)(hd:H d=some (.dK kvs))(ho:s.heap.get? d=some ob):Inv X Ob σ (upd H d (.frz ob (.dK kvs))) s :=
 I.redo hd (by intro y z;cases z) (by intro y z;cases z) (fun o v z=>by rw[I.base.frzs d o v z] at hd;cases hd) (by intro y z;cases z) ⟨ho,MD (I.hok d _ hd)⟩
def Inv.thaw(I:Inv X Ob σ H s)(hd:H d=some (.frz ob (.dK kvs)))(n3:∀o v,X.Ha0 d≠some (.frz o v)):Inv X Ob σ (upd H d (.dK kvs)) s :=
 I.redo hd (by intro y z;cases z) (by intro y z;cases z) n3 (by intro y z;cases z) (MD (show ObjOk X.prog X.w H s.heap d (.frz ob (.dK kvs)) from I.hok d _ hd).2)
end
noncomputable def Itd(d:al)(ob:Obj)(kvs:List (Key×V)):It :=
 ⟨fun i H=>i<kvs.length/\H d=some (.frz ob (.dK kvs)),fun i H v H'=>H'=H/\∃kv,kvs[i]?=some kv/\v=kV kv.1,fun i H=>kvs.length<=i/\H d=some (.frz ob (.dK kvs))⟩
def JY(I:Inv X Ob σ H s)(hd:H d=some (.frz ob (.dK kvs)))(he:ob.data=.dict es0 ep) :
  ∃vs,KV kvs vs/\s.heap.DictAt (mH X.prog X.w) d vs ep:=by
 obtain⟨e,z,_,vs,rel,dd⟩:=(show ObjOk X.prog X.w H s.heap d (.frz ob (.dK kvs)) from I.hok d _ hd);obtain⟨SY,o,es,e1,e2,e3,e4⟩:=dd.dictAt;rw[e] at e1;cases e1;rw[he] at e3;cases e3;exact⟨vs,rel,ob,_,e,e2,he,e4⟩
def Bk{P:aI}{w:aX}{K:aa}{tg:bj}(d it:al)(ob:Obj)(kvs:List (Key×V))(es0:Array DictEntry)(ep:Nat)(he:ob.data=.dict es0 ep) :
  Turn P w K tg (Itd d ob kvs) [it] it (fun i h=>i<=kvs.length/\h.IsKeyIter it d i kvs.length ep) where
 mem:=by simp
 obj:=fun i h st b hb=>by
  have e:b=it:=by simpa using hb
  subst e;obtain⟨_,o,e,c,d⟩:=st;exact⟨o,e,fun v z=>by rw[d] at z;cases z⟩
 keep:=fun i h h' st k=>by obtain⟨z,o,e,c,d⟩:=st;exact⟨z,o,k it (by simp) o e,c,d⟩
 item:=by
  intro X hP hw hK hc i Ob s σ H E I hf st hg;subst hP hw hK;obtain⟨f0,f1,f2,f3,f4,f5⟩:=hf it (by simp);obtain⟨hi,hd⟩:=hg;obtain⟨vs,rel,at_⟩:=JY I hd he;have hl:=rel.length;have hiv:i<vs.length:=by omega
  have Q6:s.heap.IsKeyIter it d i vs.length ep:=by rw[<-hl];exact st.2
  refine wpAny_pyNext_dict_item (k:=vs[i].1) (v:=vs[i].2) Q6 at_ (by simp[hiv]) fun key h' hk it' sb=>?_;have I1:Inv X Ob σ H { s with heap:=h' }:=I.turned (t':=s.toks) (fun b o hb e=>(sb.2 b hb).trans e) f0 f1 f3 f4 f5;have Q5:kvs[i].1=vs[i].1:=by
   have e1:(kvs.map (·.1))[i]?=(vs.map (·.1))[i]?:=by rw[rel.keys]
   rw[bu,bu,br hi,br hiv] at e1;exact aU e1
  obtain⟨o,e,cl,dt⟩:=id it';refine⟨key,rfl,Fo (s:={ s with heap:=h' }) e cl dt (by decide) ⟨kV kvs[i].1,H,I1,?_,⟨rfl,kvs[i],by simp[hi],rfl⟩,⟨hi,by rw[hl];exact it'⟩,fun b hb=>(hf b hb).1⟩⟩;rw[Q5];have hk:AX vs[i].1 key=true:=hk;rcases mz hk with⟨z,t,q1,q2⟩|⟨z,t,q1,q2⟩
  ·rw[q1,q2];exact⟨t,rfl⟩
  ·rw[q1,q2];exact⟨t,rfl⟩
 done:=by
  intro X hP hw hK hc i Ob s σ H E I hf st hg;subst hP hw hK;obtain⟨f0,f1,f2,f3,f4,f5⟩:=hf it (by simp);obtain⟨hi,hd⟩:=hg;obtain⟨vs,rel,at_⟩:=JY I hd he;have hl:=rel.length;have Q6:s.heap.IsKeyIter it d i vs.length ep:=by rw[<-hl];exact st.2
  exact wpAny_pyNext_dict_end (I.ok.hd hc) Q6 at_ (by simp;omega) fun h' eb=>⟨rfl,I.turned (t':=s.toks) (fun b o hb e=>eb b o hb e) f0 f1 f3 f4 f5⟩
 self:=fun A i s Q E st h=>by exact wpAny_pyIter_keyiter st.2 h
section
variable{X:Cx}{tg:bj}
def Nm(x:Str):Prop:=x.length<=100/\∀c∈x.cps.toList,c<16^8
def vg:OpR X (b9 .LtE) (fun x y H Q=>∃i j,x=.str i/\y=.str j/\Q (.bl (!decide (j.cps.toList<i.cps.toList))) H):=by intro Ob s σ H x y v u Q I rx ry h;obtain⟨i,j,rfl,rfl,q⟩:=h;obtain⟨t,rfl⟩:=rx;obtain⟨t',rfl⟩:=ry;exact PySem.P.le_str ⟨.bl _,H,I,rfl,q⟩
def Ll:MtR X "str.join" (fun x vs H Q=>∃(z:Str)(p:al)(ys:List Str),x=.str z/\vs=[.ref p]/\SqL X.K H p (ys.map V.str)/\(ys.map (·.length)).sum+ys.length*z.length<=16777216/\Q (.str (cG z ys)) H):=by intro Ob s σ H x vs v us Q I rx rv h;obtain⟨z,p,ys,rfl,rfl,hq,hz,q⟩:=h;obtain⟨t,rfl⟩:=rx;obtain⟨u,rfl,ru⟩:=rv.one;cases ru;obtain⟨its,r,pl,hz2⟩:=I.list hq;exact join_list pl.isList (by simpa using yZ r) hz fun t' k=>⟨.str _,H,I.tok k,⟨t',rfl⟩,q⟩
def ED:CallR X (.builtin "all") (fun xs H Q=>∃(p:al)(bs:List Bool),xs=[.ref p]/\SqL X.K H p (bs.map V.bl)/\X.calm=true/\Q (.bl (bs.all id)) H):=by
 intro Ob s σ H xs us Q I r h;obtain⟨p,bs,rfl,hq,hc,q⟩:=h;obtain⟨u,rfl,ru⟩:=tj r;cases ru;obtain⟨its,rv,pl,hz2⟩:=I.list hq;have hl:its.length=bs.length:=by have:=rv.length;rw[af] at this;exact this.symm
 have Ot:p≠s.heap.objs.size:=by obtain⟨o,ho,_⟩:=pl.isList;exact a6 (aP ho)
 refine call_all_walk (jg pl.isList ?_);refine⟨s.heap.objs.size,_,_,its.toArray.size,_,_,fun i=>(bs[i]?).getD true,rfl,Walks.list (show X.A.in1.handled=none from I.ok.hd hc) _ p Ot its.toArray,⟨⟨_,bC _ rfl,rfl,rfl⟩,pl.isList.push _⟩,?_,fun h' tk hk=>?_⟩
 ·intro i v s' Q' E' hP hQ;have hP:its.toArray[i]?=some v:=hP;have hv:its[i]?=some v:=by simpa using hP
  have hi:i<its.length:=(aY.mp hv).1;obtain⟨u',hu',ru'⟩:=rv.get (i:=i) (x:=.bl bs[i]) (by simp[<-hl,hi]);rw[hv] at hu';cases hu';cases ru';refine dg ?_;have e:(bs[i]?).getD true=bs[i]:=by simp[<-hl,hi]
  rw[<-e];exact hQ
 ·have I1:Inv X Ob σ H { s with heap:=h',toks:=tk }:=I.kept fun b o e=>hk b o (fun z=>by
   have e1:b=s.heap.objs.size:=by simpa using z
   exact absurd (aP e) (by rw[e1];exact dE _)) (aG _ e)
  refine⟨.bl _,H,I1,rfl,?_⟩;have e:(gA its.toArray.size).all (fun i=>(bs[i]?).getD true)=bs.all id:=by
   rw[aV,hl,bM,cy,cy];constructor
   ·intro z b hb;obtain⟨i,hi,rfl⟩:=List.mem_iff_getElem.mp hb;have:=z i (jB.mpr hi);simpa[hi] using this
   ·intro z i hi;have hi:=jB.mp hi;simpa[hi] using z bs[i] (cR hi)
  rw[e];exact q
def LL:List V->List V->Bool
 |[],[]=>true
 |x::xs,y::ys=>eqV x y&&LL xs ys
 |_,_=>false
theorem Es:∀{xs ys:List V},xs.length=ys.length->LL xs ys=(gA xs.length).all fun i=>eqV ((xs[i]?).getD .non) ((ys[i]?).getD .non)
 |[],[],_=>rfl
 |[],_::_,h=>by cases h
 |_::_,[],h=>by cases h
 |x::xs,y::ys,h=>by show(eqV x y&&LL xs ys)=_;rw[Es (jA h),aq,List.range_succ_eq_map,iy,kc];rfl
def Fl(rx:Vals xs us)(ry:Vals ys ws)(hl:xs.length=ys.length)(fx:xs.all tG=true)(fy:ys.all tG=true) :
  ∀j (h1:j<us.toArray.size) (h2:j<ws.toArray.size),kK A s us.toArray[j] ws.toArray[j] (eqV ((xs[j]?).getD .non) ((ys[j]?).getD .non)):=by
 intro j h1 h2;have e1:=rx.length;have e2:=ry.length;have Uk:j<xs.length:=by rw[e1];simpa using h1
 have Uj:j<ys.length:=by rw[e2];simpa using h2
 obtain⟨u,hu,ru⟩:=rx.get (i:=j) (x:=xs[j]) (by simp[Uk]);obtain⟨w,hw,OP⟩:=ry.get (i:=j) (x:=ys[j]) (by simp[Uj]);have e3:us.toArray[j]=u:=by
  have:us[j]?=some us.toArray[j]:=by simp[show j<us.length by simpa using h1]
  rw[hu] at this;exact(aU this).symm
 have e4:ws.toArray[j]=w:=by
  have:ws[j]?=some ws.toArray[j]:=by simp[show j<ws.length by simpa using h2]
  rw[hw] at this;exact(aU this).symm
 rw[e3,e4];have e5:(xs[j]?).getD .non=xs[j]:=by simp[Uk]
 have e6:(ys[j]?).getD .non=ys[j]:=by simp[Uj]
 rw[e5,e6];exact J1 ru OP (cy.mp fx _ (cR Uk)) (cy.mp fy _ (cR Uj))
def gLst(K:aa)(n:Nat)(t:TGs):TG:=fun v σ H Q=>∃a xs,v=.ref a/\SqL K H a xs/\xs.length=n/\t xs σ H Q
def Nf(hc:X.calm=true)(h:PGs X es t)(hn:(cF es X.env).length=n:=by rfl)(O6:(cF es X.env).findIdx? (·.1)=none:=by rfl):PG X (.Tuple es k pos) (gLst X.K n t):=by
 intro Ob s σ H v u Q I r hw;obtain⟨a,xs,e1,hq,hl,hw⟩:=hw;subst e1;cases r;obtain⟨its,rv,ht,hz⟩:=I.list hq;rw[assign_Tuple];refine av (gE ?_);unfold unpack;have hsz:(cF es X.env).length=its.toArray.size:=by simp[hn,<-hl,rv.length]
 rw[hsz,O6];refine av (eS (PySem.W.kun_itemsOf (I.ok.hd hc) ht.isList fun h' hx=>?_));have I1:Inv X Ob σ H { s with heap:=h' }:=I.kept (t':=s.toks) fun b o e=>hx b o (a6 (aP e)) e;exact h Ob _ σ H xs _ Q I1 (by simpa using rv) hw
def PJ(X:Cx)(es:List bj)(t:St->Hp->(Hp->Prop)->Prop):Prop:=∀(Ob:List (al×Obj))(s:aw)(σ:St)(H:Hp)(Oj:Str)(n:Nat)(Q:Hp->Prop),Inv X Ob σ H s->Oj.length<=2000*n->n+es.length<=100->t σ H Q ->
 Joins (model X.prog X.w) X.A X.xe (kh es X.env) Oj (fun out s1=>out.length<=aH/\∃H',Inv X Ob σ H' s1/\Q H') s
def jNil:St->Hp->(Hp->Prop)->Prop:=fun _ H Q=>Q H
def jRep(te:TE)(t:St->Hp->(Hp->Prop)->Prop):St->Hp->(Hp->Prop)->Prop:=fun σ H Q=>te σ H fun v H1=>(∃x,v=.str x/\Nm x)/\t σ H1 Q
def Ap:PJ X [] jNil:=fun Ob s σ H Oj n Q I h1 h2 h=>⟨aC h1 (aC (eg 2000 (show n<=100 by simpa using h2)) (by decide)),H,I,h⟩
def me(a b:Str):(a++b).length=a.length+b.length:=strLen_append a b
def Ao{j pos}(hr:PJ X es t)(hl:c.length<=2000:=by decide):PJ X (.Constant (.str c) j pos::es) t:=by
 intro Ob s σ H Oj n Q I h1 h2 h;have h2:n+(es.length+1)<=100:=h2;refine iq ⟨c,s.toks,rfl,?_,hr Ob _ σ H (Oj++c) (n+1) Q (I.tok _) ?_ (by omega) h⟩
 ·rw[me];exact aC (show Oj.length+c.length<=2000*101 by omega) (by decide)
 ·rw[me];omega
def yA(he:PE X e te)(hr:PJ X es t):PJ X (.FormattedValue e 114 none pos::es) (jRep te t):=by
 intro Ob s σ H Oj n Q I h1 h2 h;have h2:n+(es.length+1)<=100:=h2;refine wpAny_FormattedValue_repr (thn (he Ob s σ H _ I h) fun v s1 ⟨y,H1,I1,r1,⟨x,e1,nm⟩,q1⟩=>?_);subst e1;obtain⟨tk,rfl⟩:=r1;have Of:(gM x).length<=1002:=aC (PySem.StrLaws.reprText_len x nm.2) (by have:=nm.1;omega);have hsz:(gM x).length<=aH:=aC Of (by decide);have fin:∀tk s2,Inv X Ob σ H1 s2->∃y t',gn (gM x) tk=.str y t'/\(Oj++y).length<=aH/\Joins (model X.prog X.w) X.A X.xe (kh es X.env) (Oj++y) (fun out s1=>out.length<=aH/\∃H',Inv X Ob σ H' s1/\Q H') s2:=fun tk s2 I2=>by
  refine⟨_,tk,rfl,?_,hr Ob s2 σ H1 _ (n+1) Q I2 ?_ (by omega) q1⟩
  ·rw[me];exact aC (show Oj.length+(gM x).length<=2000*101 by omega) (by decide)
  ·rw[me];omega
 refine wpAny_pyReprObj_str ?_ hsz;exact wpAny_formatField_str (fin _ _ (I1.tok _)) (fin _ _ ((I1.tok _).tok _)) hsz
def tFs(t:St->Hp->(Hp->Prop)->Prop):TE:=fun σ H Q=>t σ H fun H1=>∀x,Q (.str x) H1
def E9{Ql Qk:bj}{oY:List bj}{pos:Pos}{t:St->Hp->(Hp->Prop)->Prop}(h:PJ X (Ql::Qk::oY) t)(hl:(Ql::Qk::oY).length<=100:=by decide):PE X (.JoinedStr (Ql::Qk::oY) pos) (tFs t):=by
 intro Ob s σ H Q I hq;refine wpAny_JoinedStr ?_;have:=h Ob s σ H cS 0 (fun H1=>∀x,Q (.str x) H1) I (ba _) (by omega) hq;revert this;generalize kh (Ql::Qk::oY) X.env=parts;generalize cS=Oj;intro this;clear h hl hq I;induction parts generalizing Oj s with
 |nil =>
  obtain⟨z,H',I',q⟩:=this;exact⟨z,.str Oj,H',I'.tok _,⟨_,rfl⟩,q Oj⟩
 |cons p ps ih =>
  refine bK this (fun v s1 ⟨y,t,e,z,k⟩=>⟨y,t,e,z,ih _ _ k⟩) fun _ _ z=>z
end
def Fn(P:aI)(w:aX)(K:aa)(mg:Str->Option am)(base:bA)(x:Str)(k:Nat)(ps:List Str)(sp:Sp):Prop :=
 ∃f fd,FnOk P w K mg base (CXo P w) k f fd ps sp/\mg x=some (.ref f)/\cz K (.ref f)=true/\Binds K fd ps []
def Mt(P:aI)(w:aX)(K:aa)(mg:Str->Option am)(base:bA)(C:al)(m:Str)(k:Nat)(ps:List Str)(sp:Sp):Prop :=
 ∃f fd,FnOk P w K mg base (CXo P w) k f fd ps sp/\Meth K C m f/\Cls K C/\Binds K fd ps []
def MkB(P:aI)(w:aX)(K:aa)(mg:Str->Option am)(base:bA)(x:Str)(C:al)(k:Nat)(ps:List Str)(sp:Sp):Prop :=
 ∃f fd,FnOk P w K mg base (CXo P w) k f fd ps sp/\mg x=some (.ref C)/\Mk K C f/\Binds K fd ps []
section
variable{X:Cx}{k:Nat}{C:al}{ps:List Str}{sp:Sp}{E:XK}{x m:Str}{p pos Og:Pos}{e o:bj}{es:List bj}{ta:TE}{t:TA}
def vZ(F:Fn X.prog X.w X.K X.mg X.base x k ps sp)(hr:Room k X.A)(hg:Gl X x)(hx:nX (CXo X.prog X.w) X E)(ha:PA X (e::es) t)(OF:NDb x:=by decide)(he:SEb X e es:=by rfl)(OH:(cj pos (aK es X.env)).any (·.1)=false:=by rfl):PE X (.Call (.Name x p) (e::es) [] pos) (AV sp [] E t):=by
 obtain⟨f,fd,F,hm,hk,hb⟩:=F;exact K3 F hr hg hm hk hb .nil hx ha OF he OH
def Ng(F:Fn X.prog X.w X.K X.mg X.base x k ps sp)(hr:Room k X.A)(hg:Gl X x)(ha:PA X.nox (e::es) t)(OF:NDb x:=by decide)(he:SEb X e es:=by rfl)(OH:(cj pos (aK es X.env)).any (·.1)=false:=by rfl):PEx X (.Call (.Name x p) (e::es) [] pos) (fun E=>AV sp [] E t):=by
 obtain⟨f,fd,F,hm,hk,hb⟩:=F;exact IJ F hr hg hm hk hb .nil ha OF he OH
def rq(he:PE X o ta)(M:Mt X.prog X.w X.K X.mg X.base C m k ps sp)(hr:Room k X.A)(hx:nX (CXo X.prog X.w) X E)(ha:PA X (e::es) t)(O6:SEb X e es:=by rfl)(OH:(cj pos (aK es X.env)).any (·.1)=false:=by rfl)(ht:eval (.Call (.Attribute o m Og) (e::es) [] pos) X.env=(do
   let ov <-eval o X.env
   gy Og.atName
   let(f,first) <-holding [ov] (gh ov m pl)
   jj pos f first (cj pos (aK (e::es) X.env)) (dM pos (cE [] X.env))):=by rfl):PE X (.Call (.Attribute o m Og) (e::es) [] pos) (HJ C m sp [] E ta t):=by
 obtain⟨f,fd,F,hm,c,hb⟩:=M;exact K2 (pl:=pl) he c hm F hr hb .nil hx ha O6 OH ht
def Ni(he:PE X o ta)(M:Mt X.prog X.w X.K X.mg X.base C m k ps sp)(hr:Room k X.A)(hx:nX (CXo X.prog X.w) X E)(ht:eval (.Call (.Attribute o m Og) [] [] pos) X.env=(do
   let ov <-eval o X.env
   gy Og.atName
   let(f,first) <-holding [ov] (gh ov m pl)
   jj pos f first (cj pos (aK [] X.env)) (dM pos (cE [] X.env))):=by rfl):PE X (.Call (.Attribute o m Og) [] [] pos) (HJ C m sp [] E ta FV):=by
 obtain⟨f,fd,F,hm,c,hb⟩:=M;exact IK (pl:=pl) he c hm F hr hb .nil hx ht
def Nj(M:MkB X.prog X.w X.K X.mg X.base x C k ps sp)(hr:Room (k+1) X.A)(hg:Gl X x)(hx:nX (CXo X.prog X.w) X E)(OF:NDb x:=by decide):PE X (.Call (.Name x p) [] [] pos) (Md C sp [] E FV):=by obtain⟨f,fd,F,hm,mk,hb⟩:=M;exact IL mk F hr hg hm hb .nil hx OF
def sv:OpR X (dk .FloorDiv) (rI (fun _ j=>0<j/\j.natAbs.log2<9000) fun i j=>.int (i/j)):=opI fun i j _ _ _ _ _ hc q=>by have h1:(0:Int)<j:=hc.1;exact floordiv_int (by omega) (by rw[Int.fdiv_eq_ediv_of_nonneg i (by omega)];exact q) (.inl (PyProof.noPylong_of_log2 hc.2))
end
section
variable{P:aI}{w:aX}{K:aa}{mg:Str->Option am}{base:bA}
def Fun.okN{x qual:Str}{st:bL}{f:al}{fd:bQ}{N ps:List Str}{k:Nat}{sp:Sp}(F:Fun K x qual st f fd)(S:FnScope N ps (lh st))(len:∀vs H Q E,sp vs H Q E->vs.length=ps.length)(O8:∀(Ol:am)(A:cq)(outer:List Env)(s:aw)(H:Hp)(vs:List V)(Q:VK)(E:XK),Room k (A.deeper (eI qual (lh st) s.heap.objs.size f Ol))->sp vs H Q E ->
   ∃t,PSs (Ey (CXo P w) P w K mg base N qual (lh st) f Ol A outer s H E).nox (m7 st) t/\t { nx:=fun _ H'=>Q .non H',rt:=Q } (start N vs) H):FnOk P w K mg base (CXo P w) (k+1) f fd ps sp:=by
 obtain⟨oc,od,kV,O4,pm,an,Ol,ct,Qo,rfl,lk,O7⟩:=F.ex;refine MA lk O7 S len fun A outer s H vs Q E hr Qe=>?_;obtain⟨t,h,q⟩:=O8 Ol A outer s H vs Q E hr Qe;exact⟨t,h.nox,q⟩
def Fun.okX{x qual:Str}{st:bL}{f:al}{fd:bQ}{N ps:List Str}{k:Nat}{sp:Sp}(F:Fun K x qual st f fd)(S:FnScope N ps (lh st))(len:∀vs H Q E,sp vs H Q E->vs.length=ps.length)(O8:∀(Ol:am)(A:cq)(outer:List Env)(s:aw)(H:Hp)(vs:List V)(Q:VK)(E:XK),Room k (A.deeper (eI qual (lh st) s.heap.objs.size f Ol))->sp vs H Q E ->
   ∃t,PSs (Ey (CXo P w) P w K mg base N qual (lh st) f Ol A outer s H E) (m7 st) t/\t { nx:=fun _ H'=>Q .non H',rt:=Q } (start N vs) H):FnOk P w K mg base (CXo P w) (k+1) f fd ps sp:=by
 obtain⟨oc,od,kV,O4,pm,an,Ol,ct,Qo,rfl,lk,O7⟩:=F.ex;exact MA lk O7 S len fun A outer s H vs Q E hr Qe=>O8 Ol A outer s H vs Q E hr Qe
end
def CT(n:Nat)(R:Nat->List V->Hp->Prop)(h0:R 0 [] (upd H1 D (.lst [])))(hn:n<=aH)(hD:∀i ys H,R i ys H->H D=some (.lst ys))(T1:∀i ys H,i<n->R i ys H->J.go i H)(RM:∀i ys H x H',i<n->R i ys H->J.yld i H x H'->∀(Kt:VK)(Kf:Hp->Prop),(∀v H5,H5 D=some (.lst ys)->R (i+1) (ys++[v]) (upd H5 D (.lst (ys++[v])))->Kt v H5)->(∀H4,R (i+1) ys H4->Kf H4) ->
   tc (some x::cap) H' fun b H4=>if b=true then te (some x::cap) H4 Kt else Kf H4)(T6:∀ys H,ys.length<=n->R n ys H->J.stop n H/\Q (.ref D) H) :
  CompB J tc te cap D H1 Q:=by
 refine⟨fun i m ys H=>i<=n/\m=n-i/\ys.length<=i/\R i ys H,⟨n,ba _,by simp,ba _,h0⟩,?_⟩
 rintro i m ys H2 ⟨hi,rfl,hl,r⟩
 by_cases Ow:i<n
 ·refine .inr ⟨T1 i ys H2 Ow r,fun x H3 y=>RM i ys H2 x H3 Ow r y _ _ (fun v H5 e r'=>⟨e,by omega,n-(i+1),by omega,Ow,rfl,by rw[aE];simp;omega,r'⟩) fun H4 r'=>⟨n-(i+1),by omega,Ow,rfl,by omega,r'⟩⟩
 ·have e:i=n:=by omega
  subst e;obtain⟨h1,h2⟩:=T6 ys H2 hl r;exact .inl ⟨h1,hD i ys H2 r,h2⟩
def AQ:bP "len"=some (.builtin "len"):=by decide +kernel
def AR:bP "isinstance"=some (.builtin "isinstance"):=by decide +kernel
def vo:bP "sorted"=some (.builtin "sorted"):=by decide +kernel
def NY:bP "abs"=some (.builtin "abs"):=by decide +kernel
def FP:bP "all"=some (.builtin "all"):=by decide +kernel
def J5:bP "int"=some (.type "int"):=by decide +kernel
def EF:bP "tuple"=some (.type "tuple"):=by decide +kernel
def GM:bP "list"=some (.type "list"):=by decide +kernel
def J4:bP "str"=some (.type "str"):=by decide +kernel
def L5:bP "bool"=some (.type "bool"):=by decide +kernel
end L2
namespace Fra
def Cop(a b:Int):Prop:=aL a b=1
def Low(q:Int×Int):Prop:=0<q.2/\Cop q.1 q.2
def red(q:Int×Int):Int×Int:=(q.1/(aL q.1 q.2:Int),q.2/(aL q.1 q.2:Int))
def Cop.symm(h:Cop a b):Cop b a:=by unfold Cop at *;rw[Int.gcd_comm];exact h
def rf(d:a∣a')(h:Cop a' b):Cop a b:=Nat.Coprime.coprime_dvd_left (fD.mpr d) h
def zC(h1:Cop a c)(h2:Cop b c):Cop (a*b) c:=by unfold Cop aL at *;rw[ib];exact Nat.Coprime.mul_left h1 h2
def CS(h:Cop a b)(d:a∣b*c):a∣c:=by have d':=fD.mpr d;rw[ib] at d';exact fD.mp (Nat.Coprime.dvd_of_dvd_mul_left h d')
def GJ(h:Cop a b):Cop (a+k*b) b:=by
 unfold Cop at *;have g1:(aL (a+k*b) b:Int)∣a+k*b:=fK ..;have g2:(aL (a+k*b) b:Int)∣b:=cL ..;have g3:(aL (a+k*b) b:Int)∣a:=by
  have:=Int.dvd_sub g1 (Int.dvd_trans g2 (Int.dvd_mul_left k b));have e:a+k*b-k*b=a:=by omega
  rw[e] at this;exact this
 have g4:=Int.dvd_gcd g3 g2;rw[h] at g4;exact Nat.dvd_one.mp g4
def zm(hp:Low p)(hq:Low q)(h:p.1*q.2=q.1*p.2):p=q:=by obtain⟨a,b⟩:=p;obtain⟨c,d⟩:=q;obtain⟨h1,h2⟩:=hp;obtain⟨h3,h4⟩:=hq;simp only at h h1 h2 h3 h4;have d1:b∣d:=CS h2.symm ⟨c,by rw[h];exact bh _ _⟩;have d2:d∣b:=CS h4.symm ⟨a,by rw[<-h];exact bh _ _⟩;have e:b=d:=Int.dvd_antisymm (by omega) (by omega) d1 d2;subst e;have:a=c:=dQ (by omega) h;rw[this]
def tM(h:0<q.2):Low (red q)/\(red q).1*q.2=q.1*(red q).2:=by
 obtain⟨a,b⟩:=q;simp only at h;have hg:0<aL a b:=bZ _ (by omega);obtain⟨u,hu⟩:(aL a b:Int)∣a:=fK ..;obtain⟨v,hv⟩:(aL a b:Int)∣b:=cL ..;have eu:a/(aL a b:Int)=u:=jC (by omega) hu;have ev:b/(aL a b:Int)=v:=jC (by omega) hv;have hc:Cop u v:=by
  have e:aL ((aL a b:Int)*u) ((aL a b:Int)*v)=aL a b*aL u v:=by rw[i8];rfl
  rw[<-hu,<-hv] at e;unfold Cop;have:aL a b*aL u v=aL a b*1:=by omega
  exact ge hg this
 have hv0:0<v:=by
  by_cases z:0<v
  ·exact z
  ·have:(aL a b:Int)*v<=0:=eL (by omega) (by omega);omega
 unfold red;simp only;rw[eu,ev];refine⟨⟨hv0,hc⟩,?_⟩;show u*b=a*v;have e1:u*b=u*((aL a b:Int)*v):=by rw[<-hv]
 have e2:a*v=(aL a b:Int)*u*v:=by rw[<-hu]
 rw[e1,e2,bh (aL a b:Int) u,aN]
def M5(hp:Low p)(hq:0<q.2)(h:p.1*q.2=q.1*p.2):p=red q:=by
 obtain⟨r1,r2⟩:=tM hq;refine zm hp r1 ?_;have e:p.1*(red q).2*q.2=(red q).1*p.2*q.2:=by rw[eJ,h,eJ q.1,<-r2,eJ]
 exact dQ (by omega) e
def addK(p q:Int×Int):Int×Int :=
 let d:Int:=aL p.2 q.2;let t:=p.1*(q.2/d)+q.1*(p.2/d);let e:Int:=aL t d
 (t/e,p.2/d*(q.2/e))
def ng(p q:Int×Int):Int×Int:=red (p.1*q.2+q.1*p.2,p.2*q.2)
def L9(hp:Low p)(hq:Low q):addK p q=ng p q:=by
 obtain⟨n1,b1⟩:=p;obtain⟨n2,b2⟩:=q;obtain⟨h1,h2⟩:=hp;obtain⟨h3,h4⟩:=hq;simp only at h1 h2 h3 h4;unfold addK ng;simp only;have hd:0<aL b1 b2:=bZ _ (by omega);obtain⟨u,hu⟩:(aL b1 b2:Int)∣b1:=fK ..;obtain⟨v,hv⟩:(aL b1 b2:Int)∣b2:=cL ..;have huv:Cop u v:=by
  have e:aL ((aL b1 b2:Int)*u) ((aL b1 b2:Int)*v)=aL b1 b2*aL u v:=by rw[i8];rfl
  rw[<-hu,<-hv] at e;have:aL b1 b2*aL u v=aL b1 b2*1:=by omega
  exact ge hd this
 generalize hD:(aL b1 b2:Int)=d at *;have d0:0<d:=by omega
 subst hu;subst hv;rw[eE _ (by omega:d≠0),eE _ (by omega:d≠0)];have pos:∀{x:Int},0<d*x->0<x:=fun{x} hx=>by
  by_cases z:0<x
  ·exact z
  ·have:d*x<=0:=eL (by omega) (by omega);omega
 have u0:=pos h1;have v0:=pos h3;have Ux:Cop (n1*v+n2*u) u:=GJ (zC (rf (Int.dvd_refl _) (rf ⟨d,bh _ _⟩ h2.symm).symm) huv.symm);have Uw:Cop (n1*v+n2*u) v:=by rw[Int.add_comm];exact GJ (zC (rf ⟨d,bh _ _⟩ h4.symm).symm huv)
 generalize hT:n1*v+n2*u=t at *;have he:0<aL t d:=bZ _ (by omega);obtain⟨t',ht⟩:(aL t d:Int)∣t:=fK ..;obtain⟨e',hE⟩:(aL t d:Int)∣d:=cL ..;have cte:Cop t' e':=by
  have e:aL ((aL t d:Int)*t') ((aL t d:Int)*e')=aL t d*aL t' e':=by rw[i8];rfl
  rw[<-ht,<-hE] at e;have:aL t d*aL t' e'=aL t d*1:=by omega
  exact ge he this
 generalize hG:(aL t d:Int)=g at *;have g0:0<g:=by omega
 have e0:0<e':=by
  by_cases z:0<e'
  ·exact z
  ·have:g*e'<=0:=eL (by omega) (by omega);omega
 have q1:t/g=t':=by rw[ht];exact eE _ (by omega)
 have q2:d*v/g=e'*v:=by rw[hE,aN];exact eE _ (by omega)
 rw[q1,q2];refine M5 ⟨bE u0 (bE e0 v0),?_⟩ (bE h1 h3) ?_
 ·have d1:t'∣t:=⟨g,by rw[ht];exact bh _ _⟩;exact(zC (rf d1 Ux).symm (zC cte.symm (rf d1 Uw).symm)).symm
 ·show t'*(d*u*(d*v))=(n1*(d*v)+n2*(d*u))*(u*(e'*v));have e1:n1*(d*v)+n2*(d*u)=d*t:=by rw[<-hT,Int.mul_add,fm,fm n2]
  rw[e1];have e2:d*t*(u*(e'*v))=d*(g*t')*(u*(e'*v)):=by rw[<-ht]
  have e3:t'*(d*u*(d*v))=t'*(d*u*(g*e'*v)):=by rw[<-hE]
  rw[e2,e3];simp only[aN,fm,bh]
def EH(hp:Low p)(hq:Low q):Low (ng p q):=(tM (bE hp.1 hq.1)).1
end Fra
namespace L2
open PySem PySem.Spec PyProof.Rows
abbrev fzO(o:Obj):HO:=.frz o (.own 0)
def fz(H:Hp)(cs:List (al×Obj)):Hp:=fun b=>match cs.lookup b with
 |some o=>some (fzO o)
 |none=>H b
section
variable{H:Hp}{cs:List (al×Obj)}{b:al}{o:Obj}
end
section
variable{P:aI}{w:aX}{K:aa}{mg:Str->Option am}{base:bA}{A:cq}{outer:List Env}{s s':aw}{H H2:Hp}{cs:List (al×Obj)}
end
structure LamOk(scope:dq)(x:Str)(fr:List Str):Prop where
 kind:scope.kind=.function
 co:scope.isCoroutine=false
 gen:scope.isGenerator=false
 cell:∀y∈scope.names,y.2≠.cell
 par:scope.names.lookup x=some .local
 frs:∀y∈fr,scope.names.lookup y=some .free
 nd:(x::fr).Nodup
structure CloOk(scope:dq)(fr:List Str)(cl:List (Str×al))(cs:List (al×Obj))(Rf:List V):Prop where
 has:∀y,scope.names.lookup y=some .free->∃c,cl.lookup y=some c
 inj:∀y z c,cl.lookup y=some c->cl.lookup z=some c->y=z
 cel:∀y c,cl.lookup y=some c->∃o u,cs.lookup c=some o/\o.data=.cell u
 val:∀(i:Nat)(y:Str)(v:V),fr[i]?=some y->Rf[i]?=some v->∃c o u,cl.lookup y=some c/\cs.lookup c=some o/\o.data=.cell (some u)/\RelV v u
 len:Rf.length=fr.length
section
variable{P:aI}{w:aX}{K:aa}{mg:Str->Option am}{base:bA}{CX:CXT}{k:Nat}{f c':al}{qual x:Str}{params:jH}{body:bj}{scope:dq}{cl:List (Str×al)}{cs:List (al×Obj)}{pm ctv:am}{fr:List Str}{Rf:List V}{oc:Obj}
end
section
variable{X:Cx}{CX:CXT}{k i:Nat}{x:Str}{p pos:Pos}{e:bj}{es:List bj}{t:TA}{E:XK}
end
section
variable{X:Cx}{CX:CXT}{k:Nat}{f:al}{fd:bQ}{ps:List Str}{sp:Sp}{E:XK}
end
def MH(H:Hp)(P:al)(q:Str):Prop:=∃ps,H P=some (.tbl ps)/\TriplesOk ps.toList/\∀pos c,codeAmong pos ps.toList=some c->∃c' oc,c=.ref c'/\H c'=some (fzO oc)/\∃vs tq,oc.data=.fields vs/\vs[1]?=some (.str q tq)
section
variable{X:Cx}{params:jH}{body:bj}{scope:dq}{pos:Pos}{cd P:al}{q:Str}
structure LamTxt(K:aa)(mg:Str->Option am)(base:bA)(cd P:al):Prop where
 hd:∀h:bA,K.In h->PySem.W.CodeHd h cd P
 nP:P≠bi
 bm:∃bm o,mg "__builtins__"=some (.ref bm)/\bm≠i4/\bm≠bi/\bm≠P/\base.get? bm=some o/\o.cls=.type "module"/\o.dict=some i4/\o.data=.plain
end
end L2
set_option maxHeartbeats 4000000
namespace My
open PySem L2
abbrev Same:=L2.Same
def rm(h:H p=none):Same H (upd H p o):=fun b u e=>by rw[lg (lI e h)];exact e
def nbT(h:(!b)=true):b=false:=by cases b<;>first|rfl|cases h
def nbF(h:¬(!b)=true):b=true:=by cases b<;>first|rfl|exact absurd rfl h
structure Ent where
 nm:Str
 th:Int
 mr:Int
 ls:Int
 held:List (Str×Int×Int)
structure BA where
 dx:al
 dp:al
 dt:al
 dm:al
 dl:al
 dh:al
def bf(z:BA):List (Str×V):=[(("people":Str),V.ref z.dp),("things_of",.ref z.dt),("mark_of",.ref z.dm),("loss_of",.ref z.dl),("held_of",.ref z.dh)]
def nM{g f:Str}{v:V}{r:List (Str×V)}(h:¬f=g):cQ f ((g,v)::r)=cQ f r:=by
 rw[bO];have:(f==g)=false:=by simpa using h
 rw[this]
def xl{f:Str}{v:V}{r:List (Str×V)}:cQ f ((f,v)::r)=some v:=by rw[bO];simp
def vp(z:BA):(bf z).lookup ("people":Str)=some (V.ref z.dp):=xl
def xY(z:BA):(bf z).lookup ("things_of":Str)=some (V.ref z.dt):=by unfold bf;rw[nM (by decide +kernel)];exact xl
def CU(z:BA):(bf z).lookup ("mark_of":Str)=some (V.ref z.dm):=by unfold bf;rw[nM (by decide +kernel),nM (by decide +kernel)];exact xl
def CV(z:BA):(bf z).lookup ("loss_of":Str)=some (V.ref z.dl):=by unfold bf;rw[nM (by decide +kernel),nM (by decide +kernel),nM (by decide +kernel)];exact xl
def vT(z:BA):(bf z).lookup ("held_of":Str)=some (V.ref z.dh):=by unfold bf;rw[nM (by decide +kernel),nM (by decide +kernel),nM (by decide +kernel),nM (by decide +kernel)];exact xl
def rB(z:BA){m:Str}(h1:¬m="people":=by decide +kernel)(h2:¬m="things_of":=by decide +kernel)(h3:¬m="mark_of":=by decide +kernel)(h4:¬m="loss_of":=by decide +kernel)(h5:¬m="held_of":=by decide +kernel):(bf z).lookup m=none:=by unfold bf;rw[nM h1,nM h2,nM h3,nM h4,nM h5];rfl
def HeldAt(K:aa)(H:Hp)(p:al)(l:List (Str×Int×Int)):Prop :=
 ∃ts:List al,ts.length=l.length/\H p=some (.dK ((l.zip ts).map fun q=>(ar q.1.1,V.ref q.2)))/\∀q∈l.zip ts,SqT K H q.2 [.int q.1.2.1,.int q.1.2.2]
def PmAt(H:Hp)(d:al)(S:List (Key×V)):Prop:=∃T:List (Key×V),H d=some (.dK T)/\T.Perm S/\(S.map (·.1)).Nodup
theorem yY:∀{l:List (Key×V)},(l.map (·.1)).Nodup->(pN l k=some v↔(k,v)∈l)
 |[],_=>⟨fun h=>(by cases h),fun h=>(by cases h)⟩
 |x::r,h=>by
  obtain⟨h1,h2⟩:=az.mp h;have ih:=yY (k:=k) (v:=v) h2;unfold pN at ih ⊢;rw[bw];by_cases e:x.1=k
  ·rw[decide_eq_true e];constructor
   ·intro q;have q:x.2=v:=aU q;rw[<-q,<-e];exact ag
   ·intro q;rcases aj.mp q with q|q
    ·rw[<-q];rfl
    ·exact absurd (ak.mpr ⟨(k,v),q,rfl⟩) (by rw[<-e];exact h1)
  ·rw[decide_eq_false e];refine ih.trans ⟨fun q=>ah _ q,fun q=>?_⟩;rcases aj.mp q with q|q
   ·exact absurd (by rw[<-q]) e
   ·exact q
def DD(p:T.Perm S)(nd:(S.map (·.1)).Nodup)(k:Key):pN T k=pN S k:=by apply Option.ext;intro v;rw[yY ((p.map (·.1)).nodup_iff.mpr nd),yY nd,p.mem_iff]
def PmAt.keep(h:PmAt H d S)(k:∀o,H d=some o->H' d=some o):PmAt H' d S:=by obtain⟨T,e,p,n⟩:=h;exact⟨T,k _ e,p,n⟩
def PmAt.dget(h:PmAt H d S)(x:Str):DGet H d (kV (ar x)) (pN S (ar x)):=by obtain⟨T,e,p,n⟩:=h;rw[<-DD p n];exact DGet.k e
def PmAt.keys{H:Hp}{d:al}{α:Type}{L:List α}{key:α->Str}{v:α->V}(h:PmAt H d (L.map fun e=>((ar (key e):Key),v e))):∃(T:List (Key×V))(ss:List Str),H d=some (.dK T)/\T.map (·.1)=ss.map ar/\ss.Perm (L.map key):=by
 obtain⟨T,e,p,n⟩:=h;have q:=p.map (·.1);rw[aF] at q;refine⟨T,(T.map (·.1)).map fun k=>match k with|.inr s=>s|.inl _=>cS,e,?_,?_⟩
 ·rw[aF];refine((gY _).symm.trans (aR fun k hk=>?_));have:=q.mem_iff.mp hk;obtain⟨x,_,rfl⟩:=ak.mp this;rfl
 ·have:=q.map fun k:Key=>match k with|.inr s=>s|.inl _=>cS
  have e2:(L.map ((fun x=>x.1)∘fun e=>((ar (key e):Key),v e))).map (fun k:Key=>match k with|.inr s=>s|.inl _=>cS)=L.map key:=by rw[aF];rfl
  rw[e2] at this;exact this
structure BookAt(K:aa)(C:al)(H:Hp)(b:al)(z:BA)(Oc:List Str)(L:List (Ent×al)):Prop where
 ob:H b=some (.ins C z.dx (bf z))
 pp:H z.dp=some (.dK (Oc.map fun n=>(ar n,.bl true)))
 tt:H z.dt=some (.dK (L.map fun e=>(ar e.1.nm,.int e.1.th)))
 mm:H z.dm=some (.dK (L.map fun e=>(ar e.1.nm,.int e.1.mr)))
 ll:H z.dl=some (.dK (L.map fun e=>(ar e.1.nm,.int e.1.ls)))
 hh:PmAt H z.dh (L.map fun e=>(ar e.1.nm,.ref e.2))
 he:∀e∈L,HeldAt K H e.2 e.1.held
 nd:(b::z.dp::z.dt::z.dm::z.dl::z.dh::L.map (·.2)).Nodup
 p6:Oc.length<=6
 h8:L.length<=8
def BFp(b:al)(z:BA)(L:List (Ent×al)):List al:=b::z.dp::z.dt::z.dm::z.dl::z.dh::L.map (·.2)
def vC(h:SqT K H t xs)(k:∀c o,H c=some o->(∃xs,o=.tup xs\/∃ob,o=.frz ob (.tup xs))->H' c=some o):SqT K H' t xs:=by
 rcases h with(h|⟨ob,h⟩)|h
 ·exact .inl (.inl (k _ _ h ⟨xs,.inl rfl⟩))
 ·exact .inl (.inr ⟨ob,k _ _ h ⟨xs,.inr ⟨ob,rfl⟩⟩⟩)
 ·exact .inr h
def HeldAt.keep(h:HeldAt K H p l)(hp:∀o,H p=some o->H' p=some o)(k:∀c o,H c=some o->(∃xs,o=.tup xs\/∃ob,o=.frz ob (.tup xs))->H' c=some o):HeldAt K H' p l:=by obtain⟨ts,e1,e2,e3⟩:=h;exact⟨ts,e1,hp _ e2,fun q hq=>vC (e3 q hq) k⟩
theorem BookAt.keep(B:BookAt K C H b z Oc L)(k:∀c o,H c=some o->(c∈BFp b z L\/∃xs,o=.tup xs\/∃ob,o=.frz ob (.tup xs))->H' c=some o):BookAt K C H' b z Oc L:=by refine⟨k _ _ B.ob (.inl (by simp[BFp])),k _ _ B.pp (.inl (by simp[BFp])),k _ _ B.tt (.inl (by simp[BFp])),k _ _ B.mm (.inl (by simp[BFp])),k _ _ B.ll (.inl (by simp[BFp])),B.hh.keep (fun o h=>k _ _ h (.inl (by simp[BFp]))),fun e he=>?_,B.nd,B.p6,B.h8⟩;refine(B.he e he).keep (fun o h=>k _ _ h (.inl ?_)) fun c o h x=>k c o h (.inr x);unfold BFp;simp only[aj];right;right;right;right;right;right;exact ak.mpr ⟨e,he,rfl⟩
def BookAt.same(B:BookAt K C H b z Oc L)(s:Same H H'):BookAt K C H' b z Oc L:=B.keep fun c o h _=>s c o h
def oG(L:List (Ent×al))(n:Str):Bool:=(L.find? fun e=>decide (e.1.nm=n)).isSome
def nB(Oc:List Str)(n:Str):Bool:=(Oc.find? fun m=>decide (m=n)).isSome
def qW(l:List α)(key:α->Str)(v:α->V)(n:Str):pN (l.map fun e=>((ar (key e):Key),v e)) (ar n)=(l.find? fun e=>decide (key e=n)).map v:=by
 unfold pN;rw[eX,jb];have e:((fun kv:Key×V=>decide (kv.1=ar n))∘fun e=>((ar (key e):Key),v e))=fun e=>decide (key e=n):=by
  funext x
  show decide ((ar (key x):Key)=ar n)=decide (key x=n);rw[yC]
 rw[e];rfl
end My
namespace L2
open PySem PySem.Spec PyProof.Rows
def Odd(u:HO):Prop:=(∃ps,u=.tbl ps)\/∃ob x,u=.frz ob (.own x)
def TbS(H H':Hp):Prop:=(∀a ps,H a=some (.tbl ps)->∃QR,H' a=some (.tbl QR))/\∀P q,MH H P q->MH H' P q
def TbS.of(k:∀a o,H a=some o->Odd o->H' a=some o):TbS H H':=⟨fun a ps h=>⟨ps,k a _ h (.inl ⟨ps,rfl⟩)⟩,fun P q ⟨ps,h,t,g⟩=>⟨ps,k P _ h (.inl ⟨ps,rfl⟩),t,fun p c e=>by obtain⟨c',oc,a1,a2,a3⟩:=g p c e;exact⟨c',oc,a1,k c' _ a2 (.inr ⟨oc,0,rfl⟩),a3⟩⟩⟩
def TbS.same(k:Same H H'):TbS H H':=.of fun a o h _=>k a o h
theorem TbS.upd(h:H d=some u)(n:¬Odd u):TbS H (upd H d o):=.of fun a o' h' od=>by rw[lg (show a≠d from fun z=>by rw[z,h] at h';cases h';exact n od)];exact h'
def Fg:¬Odd (.dK kvs):=fun z=>by rcases z with⟨_,z⟩|⟨_,_,z⟩<;>cases z
def AD:¬Odd (.lst xs):=fun z=>by rcases z with⟨_,z⟩|⟨_,_,z⟩<;>cases z
def JR:¬Odd (.ins C dx fs):=fun z=>by rcases z with⟨_,z⟩|⟨_,_,z⟩<;>cases z
def NA:¬Odd (.frz ob (.dK kvs)):=fun z=>by rcases z with⟨_,z⟩|⟨_,_,z⟩<;>cases z
def EI:List Str:=["rules"]
def Tab(K:aa)(P:al)(q:Str):Prop:=∃x∈EI,∃c,PySem.W.tabIn K x=some (c,P)/\q=x++".<locals>.<lambda>"
inductive PV where
 |non|bl (b:Bool)|int (i:Int)|str (x:Str)|tup (l:List PV)|lst (l:List PV)|dct (l:List (Key×PV))|ref (n:Nat)|exc (c:al)|seq (l:List PV)|clo (a:al) (vs:List V) (l:List PV)
inductive Cell where
 |lst (l:List PV)|dct (l:List (Key×PV))|book (pp:List Str) (L:List My.Ent)|obj (C:al) (fs:List (Str×PV))|dfz (l:List (Key×PV))
structure Sto where
 nx:Nat
 cs:List (Nat×Cell)
structure Mp where
 ad:Nat->al
 fp:Nat->List al
 hid:List al
def oo:List (Nat×Cell)->Nat->Option Cell
 |[],_=>none
 |(k,c)::r,n=>if k=n then some c else oo r n
def ra(n:Nat)(c:Cell):List (Nat×Cell)->List (Nat×Cell)
 |[]=>[]
 |(k,d)::r=>if k=n then(n,c)::r else(k,d)::ra n c r
def xw(n:Nat):List (Nat×Cell)->List (Nat×Cell)
 |[]=>[]
 |(k,d)::r=>if k=n then r else(k,d)::xw n r
def Sto.get(s:Sto)(n:Nat):Option Cell:=oo s.cs n
def Sto.set(s:Sto)(n:Nat)(c:Cell):Sto:=⟨s.nx,ra n c s.cs⟩
def Sto.del(s:Sto)(n:Nat):Sto:=⟨s.nx,xw n s.cs⟩
def Sto.add(s:Sto)(c:Cell):Sto:=⟨s.nx+1,(s.nx,c)::s.cs⟩
theorem mY:∀{l:List (Nat×Cell)},oo l n=some c->(n,c)∈l
 |(k,d)::r,h=>by
  unfold oo at h;split at h
  ·rename_i e;cases h;subst e;exact ag
  ·exact ah _ (mY h)
theorem DR:∀{l:List (Nat×Cell)},(l.map (·.1)).Nodup->q∈ra n c l->q=(n,c)\/(q∈l/\q.1≠n)
 |(k,d)::r,nd,h=>by
  unfold ra at h;obtain⟨n1,n2⟩:=az.mp (show(k::r.map (·.1)).Nodup from nd);split at h
  ·rename_i e;rcases aj.mp h with h|h
   ·exact .inl h
   ·exact .inr ⟨ah _ h,fun z=>n1 (by rw[e,<-z];exact ak.mpr ⟨q,h,rfl⟩)⟩
  ·rename_i e;rcases aj.mp h with h|h
   ·subst h;exact .inr ⟨ag,e⟩
   ·rcases DR n2 h with h|⟨h,h'⟩
    ·exact .inl h
    ·exact .inr ⟨ah _ h,h'⟩
theorem p7:∀{l:List (Nat×Cell)},(ra n c l).map (·.1)=l.map (·.1)
 |[]=>rfl
 |(k,d)::r=>by
  unfold ra;split
  ·rename_i e;simp[e]
  ·simp[p7]
theorem uX:∀{l:List (Nat×Cell)},q∈xw n l->q∈l
 |(k,d)::r,h=>by
  unfold xw at h;split at h
  ·exact ah _ h
  ·rcases aj.mp h with h|h
   ·subst h;exact ag
   ·exact ah _ (uX h)
theorem GF:∀{l:List (Nat×Cell)},(l.map (·.1)).Nodup->((xw n l).map (·.1)).Nodup
 |[],_=>gW
 |(k,d)::r,nd=>by
  obtain⟨n1,n2⟩:=az.mp (show(k::r.map (·.1)).Nodup from nd);unfold xw;split
  ·exact n2
  ·refine az.mpr ⟨fun z=>n1 ?_,GF n2⟩;obtain⟨q,hq,e⟩:=ak.mp z;exact ak.mpr ⟨q,uX hq,e⟩
theorem GE:∀{l:List (Nat×Cell)},(l.map (·.1)).Nodup->q∈xw n l->q.1≠n
 |(k,d)::r,nd,h=>by
  obtain⟨n1,n2⟩:=az.mp (show(k::r.map (·.1)).Nodup from nd);unfold xw at h;split at h
  ·rename_i e;intro z;exact n1 (by rw[e,<-z];exact ak.mpr ⟨q,h,rfl⟩)
  ·rename_i e;rcases aj.mp h with h|h
   ·subst h;exact e
   ·exact GE n2 h
theorem mC(h:k≠n):∀{l:List (Nat×Cell)},oo (ra n c l) k=oo l k
 |[]=>rfl
 |(j,d)::r=>by
  unfold ra;split
  ·rename_i e;unfold oo;rw[if_neg (fun z=>h z.symm),if_neg (fun z=>h (z.symm.trans e))]
  ·unfold oo;split
   ·rfl
   ·exact mC h
theorem uB(h:k≠n):∀{l:List (Nat×Cell)},oo (xw n l) k=oo l k
 |[]=>rfl
 |(j,d)::r=>by
  unfold xw;split
  ·rename_i e
   conv=>rhs;unfold oo
   rw[if_neg (fun z=>h (z.symm.trans e))]
  ·unfold oo;split
   ·rfl
   ·exact uB h
def Pur(m:Mp)(s:Sto)(a:al):Prop:=a∉m.hid/\∀n∈s.cs.map (·.1),a∉m.fp n
def KL(K:aa)(a:al)(xs:List V):Prop:=∃(o:Obj)(its:Array am)(n:Nat),K.lookup a=some o/\o.cls=.type "list"/\o.dict=none/\o.data=.seq its n/\its.size<=aH/\Vals xs its.toList
def KT'(K:aa)(a:al)(xs:List V):Prop:=∃(o:Obj)(its:Array am)(n:Nat),K.lookup a=some o/\o.cls=.type "tuple"/\o.data=.seq its n/\its.size<=aH/\Vals xs its.toList
mutual
inductive Rep (K:aa) (H:Hp) (m:Mp) (s:Sto):V->PV->Prop
 |non:Rep K H m s .non .non
 |bl {b:Bool}:Rep K H m s (.bl b) (.bl b)
 |int {i:Int}:Rep K H m s (.int i) (.int i)
 |str {x:Str}:Rep K H m s (.str x) (.str x)
 |tup {a:al}{vs:List V}{l:List PV}:(Rd H a (.tup vs)/\Pur m s a\/KT' K a vs)->Reps K H m s vs l->Rep K H m s (.ref a) (.tup l)
 |lst {a:al}{vs:List V}{l:List PV}:H a=some (.lst vs)->Pur m s a->Reps K H m s vs l->Rep K H m s (.ref a) (.lst l)
 |seq {a:al}{vs:List V}{l:List PV}:((∃o,H a=some (.frz o (.lst vs)))/\Pur m s a\/KL K a vs)->Reps K H m s vs l->Rep K H m s (.ref a) (.seq l)
 |dct {a:al}{vs:List (Key×V)}{l:List (Key×PV)}:Rd H a (.dK vs)->Pur m s a->RepKs K H m s vs l->Rep K H m s (.ref a) (.dct l)
 |ref {n:Nat}:n<s.nx->Rep K H m s (.ref (m.ad n)) (.ref n)
 |exc {a c:al}:H a=some (GA c a)->Pur m s a->Rep K H m s (.ref a) (.exc c)
 |clo {a:al}{vs:List V}{l:List PV}:Reps K H m s vs l->Rep K H m s (.ref a) (.clo a vs l)
inductive Reps (K:aa) (H:Hp) (m:Mp) (s:Sto):List V->List PV->Prop
 |nil:Reps K H m s [] []
 |cons {v:V}{p:PV}{vs:List V}{l:List PV}:Rep K H m s v p->Reps K H m s vs l->Reps K H m s (v::vs) (p::l)
inductive RepKs (K:aa) (H:Hp) (m:Mp) (s:Sto):List (Key×V)->List (Key×PV)->Prop
 |nil:RepKs K H m s [] []
 |cons {k:Key}{v:V}{p:PV}{vs:List (Key×V)}{l:List (Key×PV)}:Rep K H m s v p->RepKs K H m s vs l->RepKs K H m s ((k,v)::vs) ((k,p)::l)
end
structure ExtR(H:Hp)(m:Mp)(s:Sto)(H':Hp)(m':Mp)(s':Sto):Prop where
 nx:s.nx<=s'.nx
 ad:∀n,n<s.nx->m'.ad n=m.ad n
 pu:∀a u,Rd H a u->Pur m s a->Rd H' a u/\Pur m' s' a
 el:∀a u,H a=some u->(∀kvs,u≠.dK kvs)->Pur m s a->H' a=some u
structure Ext0(H:Hp)(m:Mp)(s:Sto)(H':Hp)(m':Mp)(s':Sto):Prop extends ExtR H m s H' m' s' where
 df:∀n l,n<s.nx->oo s.cs n=some (.dfz l)->oo s'.cs n=some (.dfz l)/\∀o,H (m.ad n)=some o->H' (m.ad n)=some o
structure Ext(H:Hp)(m:Mp)(s:Sto)(H':Hp)(m':Mp)(s':Sto):Prop extends Ext0 H m s H' m' s' where
 hd:m'.hid=m.hid
 hk:∀a∈m.hid,∀o,H a=some o->(∀ps,o≠.tbl ps)->H' a=some o
def Ext.refl:Ext H m s H m s:=⟨⟨⟨ax _,fun _ _=>rfl,fun _ _ h p=>⟨h,p⟩,fun _ _ h _ _=>h⟩,fun _ _ _ h=>⟨h,fun _ h=>h⟩⟩,rfl,fun _ _ _ h _=>h⟩
theorem Ext0.trans(a:Ext0 H m s H1 m1 s1)(b:Ext0 H1 m1 s1 H2 m2 s2):Ext0 H m s H2 m2 s2 :=
 ⟨⟨aC a.nx b.nx,fun n h=>(b.ad n (aA h a.nx)).trans (a.ad n h),fun c u h p=>let⟨h1,p1⟩:=a.pu c u h p;b.pu c u h1 p1,fun c x h n p=>b.el c x (a.el c x h n p) n (a.pu c _ (.inl h) p).2⟩,fun n l hn h=>by obtain⟨h1,k1⟩:=a.df n l hn h;obtain⟨h2,k2⟩:=b.df n l (aA hn a.nx) h1;rw[a.ad n hn] at k2;exact⟨h2,fun o h=>k2 o (k1 o h)⟩⟩
theorem Ext.trans(a:Ext H m s H1 m1 s1)(b:Ext H1 m1 s1 H2 m2 s2):Ext H m s H2 m2 s2 :=
 ⟨a.toExt0.trans b.toExt0,b.hd.trans a.hd,fun c hc o h n=>b.hk c (by rw[a.hd];exact hc) o (a.hk c hc o h n) n⟩
def Rd.same(k:Same H H')(h:Rd H a u):Rd H' a u:=h.elim (fun h=>.inl (k _ _ h)) fun⟨o,h⟩=>.inr ⟨o,k _ _ h⟩
def Rd.ne(h:Rd H a u)(hb:H b=none):a≠b:=h.elim (fun h=>lI h hb) fun⟨_,h⟩=>lI h hb
theorem Ext.same(k:Same H H'):Ext H m s H' m s:=⟨⟨⟨ax _,fun _ _=>rfl,fun _ _ h p=>⟨h.same k,p⟩,fun _ _ h _ _=>k _ _ h⟩,fun _ _ _ h=>⟨h,fun o h=>k _ _ h⟩⟩,rfl,fun _ _ _ h _=>k _ _ h⟩
mutual
theorem Rep.ext0{K:aa}{H H':Hp}{m m':Mp}{s s':Sto}(e:ExtR H m s H' m' s'):∀{v:V}{p:PV},Rep K H m s v p->Rep K H' m' s' v p
 |_,_,.non=>.non
 |_,_,.bl=>.bl
 |_,_,.int=>.int
 |_,_,.str=>.str
 |_,_,.tup h r=>.tup (h.imp (fun z=>e.pu _ _ z.1 z.2) fun z=>z) (Reps.ext0 e r)
 |_,_,.lst h p r=>.lst (e.el _ _ h (by intro _ z;cases z) p) (e.pu _ _ (.inl h) p).2 (Reps.ext0 e r)
 |_,_,.seq h r=>.seq (h.imp (fun⟨⟨o,z⟩,p⟩=>⟨⟨o,e.el _ _ z (by intro _ z;cases z) p⟩,(e.pu _ _ (.inl z) p).2⟩) fun z=>z) (Reps.ext0 e r)
 |_,_,.dct h p r=>.dct (e.pu _ _ h p).1 (e.pu _ _ h p).2 (RepKs.ext0 e r)
 |_,_,.ref (n:=n) h=>by rw[<-e.ad _ h];exact .ref (aA h e.nx)
 |_,_,.exc h p=>.exc (e.el _ _ h (by intro _ z;cases z) p) (e.pu _ _ (.inl h) p).2
 |_,_,.clo r=>.clo (Reps.ext0 e r)
theorem Reps.ext0{K:aa}{H H':Hp}{m m':Mp}{s s':Sto}(e:ExtR H m s H' m' s'):∀{v:List V}{p:List PV},Reps K H m s v p->Reps K H' m' s' v p
 |_,_,.nil=>.nil
 |_,_,.cons a b=>.cons (Rep.ext0 e a) (Reps.ext0 e b)
theorem RepKs.ext0{K:aa}{H H':Hp}{m m':Mp}{s s':Sto}(e:ExtR H m s H' m' s'):∀{v:List (Key×V)}{p:List (Key×PV)},RepKs K H m s v p->RepKs K H' m' s' v p
 |_,_,.nil=>.nil
 |_,_,.cons a b=>.cons (Rep.ext0 e a) (RepKs.ext0 e b)
end
def Rep.ext{K:aa}{H H':Hp}{m m':Mp}{s s':Sto}(e:Ext H m s H' m' s'){v:V}{p:PV}(r:Rep K H m s v p):Rep K H' m' s' v p:=r.ext0 e.toExtR
def Reps.ext{K:aa}{H H':Hp}{m m':Mp}{s s':Sto}(e:Ext H m s H' m' s'){v:List V}{p:List PV}(r:Reps K H m s v p):Reps K H' m' s' v p:=r.ext0 e.toExtR
def RepKs.ext{K:aa}{H H':Hp}{m m':Mp}{s s':Sto}(e:Ext H m s H' m' s'){v:List (Key×V)}{p:List (Key×PV)}(r:RepKs K H m s v p):RepKs K H' m' s' v p:=r.ext0 e.toExtR
mutual
inductive Old (k:Nat):PV->Prop
 |non:Old k .non
 |bl {b:Bool}:Old k (.bl b)
 |int {i:Int}:Old k (.int i)
 |str {x:Str}:Old k (.str x)
 |tup {l:List PV}:Olds k l->Old k (.tup l)
 |lst {l:List PV}:Olds k l->Old k (.lst l)
 |seq {l:List PV}:Olds k l->Old k (.seq l)
 |dct {l:List (Key×PV)}:OldKs k l->Old k (.dct l)
 |ref {n:Nat}:n<k->Old k (.ref n)
 |exc {c:al}:Old k (.exc c)
 |clo {a:al}{vs:List V}{l:List PV}:Olds k l->Old k (.clo a vs l)
inductive Olds (k:Nat):List PV->Prop
 |nil:Olds k []
 |cons {p:PV}{l:List PV}:Old k p->Olds k l->Olds k (p::l)
inductive OldKs (k:Nat):List (Key×PV)->Prop
 |nil:OldKs k []
 |cons {q:Key}{p:PV}{l:List (Key×PV)}:Old k p->OldKs k l->OldKs k ((q,p)::l)
end
structure Sub(m:Mp)(s:Sto)(m':Mp)(s':Sto):Prop where
 pu:∀a,Pur m s a->Pur m' s' a
 ad:∀n,n<s'.nx->m'.ad n=m.ad n
mutual
theorem Rep.sub{K:aa}{H:Hp}{m m':Mp}{s s':Sto}(e:Sub m s m' s'):∀{v:V}{p:PV},Old s'.nx p->Rep K H m s v p->Rep K H m' s' v p
 |_,_,_,.non=>.non
 |_,_,_,.bl=>.bl
 |_,_,_,.int=>.int
 |_,_,_,.str=>.str
 |_,_,.tup o,.tup h r=>.tup (h.imp (fun z=>⟨z.1,e.pu _ z.2⟩) fun z=>z) (Reps.sub e o r)
 |_,_,.lst o,.lst h p r=>.lst h (e.pu _ p) (Reps.sub e o r)
 |_,_,.seq o,.seq h r=>.seq (h.imp (fun z=>⟨z.1,e.pu _ z.2⟩) fun z=>z) (Reps.sub e o r)
 |_,_,.dct o,.dct h p r=>.dct h (e.pu _ p) (RepKs.sub e o r)
 |_,_,.ref o,.ref _=>by rw[<-e.ad _ o];exact .ref o
 |_,_,_,.exc h p=>.exc h (e.pu _ p)
 |_,_,.clo o,.clo r=>.clo (Reps.sub e o r)
theorem Reps.sub{K:aa}{H:Hp}{m m':Mp}{s s':Sto}(e:Sub m s m' s'):∀{v:List V}{p:List PV},Olds s'.nx p->Reps K H m s v p->Reps K H m' s' v p
 |_,_,_,.nil=>.nil
 |_,_,.cons o q,.cons a b=>.cons (Rep.sub e o a) (Reps.sub e q b)
theorem RepKs.sub{K:aa}{H:Hp}{m m':Mp}{s s':Sto}(e:Sub m s m' s'):∀{v:List (Key×V)}{p:List (Key×PV)},OldKs s'.nx p->RepKs K H m s v p->RepKs K H m' s' v p
 |_,_,_,.nil=>.nil
 |_,_,.cons o q,.cons a b=>.cons (Rep.sub e o a) (RepKs.sub e q b)
end
mutual
theorem Rep.old{K:aa}{H:Hp}{m:Mp}{s:Sto}:∀{v:V}{p:PV},Rep K H m s v p->Old s.nx p
 |_,_,.non=>.non
 |_,_,.bl=>.bl
 |_,_,.int=>.int
 |_,_,.str=>.str
 |_,_,.tup _ r=>.tup (Reps.old r)
 |_,_,.lst _ _ r=>.lst (Reps.old r)
 |_,_,.seq _ r=>.seq (Reps.old r)
 |_,_,.dct _ _ r=>.dct (RepKs.old r)
 |_,_,.ref h=>.ref h
 |_,_,.exc _ _=>.exc
 |_,_,.clo r=>.clo r.old
theorem Reps.old{K:aa}{H:Hp}{m:Mp}{s:Sto}:∀{v:List V}{p:List PV},Reps K H m s v p->Olds s.nx p
 |_,_,.nil=>.nil
 |_,_,.cons a b=>.cons (Rep.old a) (Reps.old b)
theorem RepKs.old{K:aa}{H:Hp}{m:Mp}{s:Sto}:∀{v:List (Key×V)}{p:List (Key×PV)},RepKs K H m s v p->OldKs s.nx p
 |_,_,.nil=>.nil
 |_,_,.cons a b=>.cons (Rep.old a) (RepKs.old b)
end
def RepFs(K:aa)(H:Hp)(m:Mp)(s:Sto)(Rc:List (Str×V))(fs:List (Str×PV)):Prop:=Rc.map (·.1)=fs.map (·.1)/\Reps K H m s (Rc.map (·.2)) (fs.map (·.2))
noncomputable def CellOk(K:aa)(CB:al)(H:Hp)(m:Mp)(s:Sto)(n:Nat):Cell->Prop
 |.lst l=>m.fp n=[m.ad n]/\∃vs,H (m.ad n)=some (.lst vs)/\Reps K H m s vs l
 |.dct l=>m.fp n=[m.ad n]/\∃vs,H (m.ad n)=some (.dK vs)/\RepKs K H m s vs l
 |.dfz l=>m.fp n=[m.ad n]/\∃ob vs,H (m.ad n)=some (.frz ob (.dK vs))/\RepKs K H m s vs l
 |.book pp L=>∃z L',My.BookAt K CB H (m.ad n) z pp L'/\L'.map (·.1)=L/\m.fp n=My.BFp (m.ad n) z L'
 |.obj C fs=>m.fp n=[m.ad n]/\∃dx Rc,H (m.ad n)=some (.ins C dx Rc)/\RepFs K H m s Rc fs
structure SR(K:aa)(CB:al)(H:Hp)(m:Mp)(s:Sto):Prop where
 nd:(s.cs.map (·.1)).Nodup
 lt:∀n∈s.cs.map (·.1),n<s.nx
 ok:∀q∈s.cs,CellOk K CB H m s q.1 q.2
 dj:∀n∈s.cs.map (·.1),∀k∈s.cs.map (·.1),n≠k->∀a∈m.fp n,a∉m.fp k
 hx:∀n∈s.cs.map (·.1),∀a∈m.fp n,a∉m.hid
 hs:∀a∈m.hid,H a≠none/\∀xs o,H a≠some (.tup xs)/\H a≠some (.frz o (.tup xs))/\H a≠some (.frz o (.lst xs))/\∀x,H a≠some (.frz o (.own x))
 tb:∀P q,Tab K P q->P∈m.hid/\MH H P q
def SR.tbk{K:aa}{CB:al}{H H':Hp}{m:Mp}{s:Sto}(S:SR K CB H m s)(e:TbS H H'):∀P q,Tab K P q->P∈m.hid/\MH H' P q:=fun P q t=>⟨(S.tb P q t).1,e.2 P q (S.tb P q t).2⟩
def CellOk.kind{K:aa}{CB:al}{H:Hp}{m:Mp}{s:Sto}{n:Nat}{c:Cell}(h:CellOk K CB H m s n c){a:al}(ha:a∈m.fp n):∃o,H a=some o/\(∀xs,o≠.tup xs)/\(∀ob xs,o≠.frz ob (.tup xs)/\o≠.frz ob (.lst xs))/\¬Odd o:=by
 cases c with
 |lst l=>obtain⟨e,vs,h,_⟩:=h;rw[e,au] at ha;subst ha;exact⟨_,h,(by intro _ z;cases z),(fun _ _=>⟨(by intro z;cases z),(by intro z;cases z)⟩),AD⟩
 |dct l=>obtain⟨e,vs,h,_⟩:=h;rw[e,au] at ha;subst ha;exact⟨_,h,(by intro _ z;cases z),(fun _ _=>⟨(by intro z;cases z),(by intro z;cases z)⟩),Fg⟩
 |dfz l=>obtain⟨e,ob,vs,h,_⟩:=h;rw[e,au] at ha;subst ha;exact⟨_,h,(by intro _ z;cases z),(fun _ _=>⟨(by intro z;cases z),(by intro z;cases z)⟩),NA⟩
 |obj C fs=>obtain⟨e,dx,vs,h,_⟩:=h;rw[e,au] at ha;subst ha;exact⟨_,h,(by intro _ z;cases z),(fun _ _=>⟨(by intro z;cases z),(by intro z;cases z)⟩),JR⟩
 |book pp L =>
  obtain⟨z,L',B,_,e⟩:=h;rw[e] at ha;unfold My.BFp at ha;have d:∀{c:al}{kvs:List (Key×V)},H c=some (.dK kvs)->∃o,H c=some o/\(∀xs,o≠.tup xs)/\(∀ob xs,o≠.frz ob (.tup xs)/\o≠.frz ob (.lst xs))/\¬Odd o:=fun h=>⟨_,h,(by intro _ z;cases z),(fun _ _=>⟨(by intro z;cases z),(by intro z;cases z)⟩),Fg⟩;simp only[aj] at ha;rcases ha with rfl|rfl|rfl|rfl|rfl|rfl|ha
  ·exact⟨_,B.ob,(by intro _ z;cases z),(fun _ _=>⟨(by intro z;cases z),(by intro z;cases z)⟩),JR⟩
  ·exact d B.pp
  ·exact d B.tt
  ·exact d B.mm
  ·exact d B.ll
  ·obtain⟨T,e,_⟩:=B.hh;exact d e
  ·obtain⟨q,hq,rfl⟩:=ak.mp ha;obtain⟨ts,_,h2,_⟩:=B.he q hq;exact d h2
def SR.pure_none{K:aa}{CB:al}{H:Hp}{m:Mp}{s:Sto}(S:SR K CB H m s){a:al}(h:H a=none):Pur m s a:=⟨fun z=>(S.hs a z).1 h,fun n hn ha=>by obtain⟨q,hq,rfl⟩:=ak.mp hn;obtain⟨o,e,_⟩:=(S.ok q hq).kind ha;rw[h] at e;cases e⟩
def SR.pure_tup{K:aa}{CB:al}{H:Hp}{m:Mp}{s:Sto}(S:SR K CB H m s){a:al}{xs:List V}(h:H a=some (.tup xs)):Pur m s a:=⟨fun z=>((S.hs a z).2 xs default).1 h,fun n hn ha=>by obtain⟨q,hq,rfl⟩:=ak.mp hn;obtain⟨o,e,k,_⟩:=(S.ok q hq).kind ha;rw[h] at e;cases e;exact k _ rfl⟩
def SR.pure_frz{K:aa}{CB:al}{H:Hp}{m:Mp}{s:Sto}(S:SR K CB H m s){a:al}{ob:Obj}{xs:List V}(h:H a=some (.frz ob (.tup xs))\/H a=some (.frz ob (.lst xs))):Pur m s a:=⟨fun z=>h.elim (fun h=>((S.hs a z).2 xs ob).2.1 h) fun h=>((S.hs a z).2 xs ob).2.2.1 h,fun n hn ha=>by
 obtain⟨q,hq,rfl⟩:=ak.mp hn;obtain⟨o,e,_,k,_⟩:=(S.ok q hq).kind ha;rcases h with h|h<;>(rw[h] at e;cases e)
 ·exact(k _ _).1 rfl
 ·exact(k _ _).2 rfl⟩
def SqT.keepX{K:aa}{CB:al}{H H':Hp}{m m':Mp}{s s':Sto}(S:SR K CB H m s)(e:ExtR H m s H' m' s'){t:al}{xs:List V}(h:SqT K H t xs):SqT K H' t xs:=by
 rcases h with h|h
 ·exact .inl (e.pu _ _ h (h.elim (fun h=>S.pure_tup h) fun⟨_,h⟩=>S.pure_frz (.inl h))).1
 ·exact .inr h
def RepFs.ext{K:aa}{H H':Hp}{m m':Mp}{s s':Sto}(e:ExtR H m s H' m' s'){a:List (Str×V)}{b:List (Str×PV)}(h:RepFs K H m s a b):RepFs K H' m' s' a b:=⟨h.1,h.2.ext0 e⟩
theorem CellOk.keep{K:aa}{CB:al}{H H':Hp}{m m':Mp}{s s':Sto}{n:Nat}{c:Cell}(S:SR K CB H m s)(e:ExtR H m s H' m' s')(k:∀a∈m.fp n,∀o,H a=some o->H' a=some o)(ha:m'.ad n=m.ad n)(hf:m'.fp n=m.fp n)(h:CellOk K CB H m s n c):CellOk K CB H' m' s' n c:=by
 cases c with
 |lst l=>obtain⟨e1,vs,h,r⟩:=h;exact⟨by rw[ha,hf];exact e1,vs,by rw[ha];exact k _ (by rw[e1];simp) _ h,r.ext0 e⟩
 |dct l=>obtain⟨e1,vs,h,r⟩:=h;exact⟨by rw[ha,hf];exact e1,vs,by rw[ha];exact k _ (by rw[e1];simp) _ h,r.ext0 e⟩
 |dfz l=>obtain⟨e1,ob,vs,h,r⟩:=h;exact⟨by rw[ha,hf];exact e1,ob,vs,by rw[ha];exact k _ (by rw[e1];simp) _ h,r.ext0 e⟩
 |obj C fs=>obtain⟨e1,dx,vs,h,r⟩:=h;exact⟨by rw[ha,hf];exact e1,dx,vs,by rw[ha];exact k _ (by rw[e1];simp) _ h,RepFs.ext e r⟩
 |book pp L =>
  obtain⟨z,L',B,e1,e2⟩:=h;rw[e2] at k;have kb:∀a∈My.BFp (m.ad n) z L',∀o,H a=some o->H' a=some o:=k;refine⟨z,L',?_,e1,by rw[ha,hf];exact e2⟩;rw[ha];refine⟨kb _ (by simp[My.BFp]) _ B.ob,kb _ (by simp[My.BFp]) _ B.pp,kb _ (by simp[My.BFp]) _ B.tt,kb _ (by simp[My.BFp]) _ B.mm,kb _ (by simp[My.BFp]) _ B.ll,B.hh.keep (fun o h=>kb _ (by simp[My.BFp]) _ h),fun q hq=>?_,B.nd,B.p6,B.h8⟩;obtain⟨ts,h1,h2,h3⟩:=B.he q hq;refine⟨ts,h1,kb _ ?_ _ h2,fun y hy=>(h3 y hy).keepX S e⟩;unfold My.BFp;simp only[aj];right;right;right;right;right;right;exact ak.mpr ⟨q,hq,rfl⟩
theorem SR.same{K:aa}{CB:al}{H H':Hp}{m:Mp}{s:Sto}(S:SR K CB H m s)(k:Same H H'):SR K CB H' m s :=
 ⟨S.nd,S.lt,fun q hq=>(S.ok q hq).keep S (Ext.same k).toExtR (fun a _ o h=>k a o h) rfl rfl,S.dj,S.hx,fun a ha=>by
  obtain⟨h1,h2⟩:=S.hs a ha;cases e:H a with
  |none=>exact absurd e h1
  |some o =>
   rw[k a o e];rw[e] at h2;exact⟨by simp,h2⟩,S.tbk (.same k)⟩
theorem SR.get{K:aa}{CB:al}{H:Hp}{m:Mp}{s:Sto}(S:SR K CB H m s){n:Nat}{c:Cell}(h:s.get n=some c):CellOk K CB H m s n c:=S.ok _ (mY h)
def SR.getlt{K:aa}{CB:al}{H:Hp}{m:Mp}{s:Sto}(S:SR K CB H m s){n:Nat}{c:Cell}(h:s.get n=some c):n<s.nx:=S.lt _ (ak.mpr ⟨_,mY h,rfl⟩)
def Mp.fput(m:Mp)(n:Nat)(f':List al):Mp:=⟨m.ad,fun j=>if j=n then f' else m.fp j,m.hid⟩
def SR.hsk{K:aa}{CB:al}{H H':Hp}{m:Mp}{s:Sto}(S:SR K CB H m s)(k:∀a∈m.hid,∀o,H a=some o->(∀ps,o≠.tbl ps)->H' a=some o)(kt:TbS H H'):∀a∈m.hid,H' a≠none/\∀xs o,H' a≠some (.tup xs)/\H' a≠some (.frz o (.tup xs))/\H' a≠some (.frz o (.lst xs))/\∀x,H' a≠some (.frz o (.own x)):=fun a ha=>by
 obtain⟨h1,h2⟩:=S.hs a ha;cases e:H a with
 |none=>exact absurd e h1
 |some o =>
  by_cases t:∃ps,o=.tbl ps
  ·obtain⟨ps,t⟩:=t;rw[t] at e;obtain⟨QR,e'⟩:=kt.1 a ps e;rw[e'];exact⟨by simp,fun _ _=>⟨by simp,by simp,by simp,by simp⟩⟩
  rw[k a ha o e fun ps z=>t ⟨ps,z⟩];rw[e] at h2;exact⟨by simp,h2⟩
def SR.put'{K:aa}{CB:al}{H:Hp}{m:Mp}{s:Sto}(S:SR K CB H m s){n:Nat}{c c':Cell}(hn:s.get n=some c)(H':Hp)(f':List al)(k:∀a o,H a=some o->a∉m.fp n->H' a=some o)(OV:∀a∈f',a∈m.fp n\/H a=none)(hok:ExtR H m s H' (m.fput n f') (s.set n c')->CellOk K CB H' (m.fput n f') (s.set n c') n c') :
  SR K CB H' (m.fput n f') (s.set n c')/\ExtR H m s H' (m.fput n f') (s.set n c')/\((∀l,c≠.dfz l)->Ext H m s H' (m.fput n f') (s.set n c')):=by
 have Oo:n∈s.cs.map (·.1):=ak.mpr ⟨_,mY hn,rfl⟩;have hkd:∀a∈m.hid,∀o,H a=some o->(∀ps,o≠.tbl ps)->H' a=some o:=fun a ha o h _=>k a o h fun z=>S.hx n Oo a z ha;have htb:TbS H H':=.of fun a o h od=>k a o h fun z=>by obtain⟨o',e',_,_,no⟩:=(S.get hn).kind z;rw[h] at e';cases e';exact no od
 have hx:ExtR H m s H' (m.fput n f') (s.set n c'):=by
  refine⟨ax _,fun _ _=>rfl,fun a u h p=>?_,fun a u h _ p=>k _ _ h (p.2 n Oo)⟩;have Ot:∃o,H a=some o:=h.elim (fun h=>⟨_,h⟩) fun⟨o,h⟩=>⟨_,h⟩;refine⟨h.elim (fun h=>.inl (k _ _ h (p.2 n Oo))) fun⟨o,h⟩=>.inr ⟨o,k _ _ h (p.2 n Oo)⟩,p.1,fun j hj hm=>?_⟩;have hm:a∈(if j=n then f' else m.fp j):=hm;have Qx:j∈s.cs.map (·.1):=by rw[<-p7 (n:=n) (c:=c')];exact hj
  by_cases e:j=n
  ·simp only[e,if_pos] at hm;rcases OV a hm with z|z
   ·exact p.2 n Oo z
   ·obtain⟨o,ho⟩:=Ot;rw[z] at ho;cases ho
  ·simp only[if_neg e] at hm;exact p.2 j Qx hm
 refine⟨⟨?_,?_,fun q hq=>?_,fun j hj i hi Ot a ha hb=>?_,fun j hj a ha hb=>?_,S.hsk hkd htb,S.tbk htb⟩,hx,fun hnd=>⟨⟨hx,fun j l hj h=>?_⟩,rfl,hkd⟩⟩
 ·show((ra n c' s.cs).map (·.1)).Nodup;rw[p7];exact S.nd
 ·intro j hj;have Qx:j∈s.cs.map (·.1):=by rw[<-p7 (n:=n) (c:=c')];exact hj
  exact S.lt j Qx
 ·rcases DR S.nd hq with rfl|⟨hq,Ot⟩
  ·exact hok hx
  ·refine(S.ok q hq).keep S hx (fun a ha o h=>k a o h (S.dj _ (ak.mpr ⟨q,hq,rfl⟩) _ Oo Ot a ha)) rfl ?_;show(if q.1=n then f' else m.fp q.1)=_;rw[if_neg Ot]
 ·have ha:a∈(if j=n then f' else m.fp j):=ha;have hb:a∈(if i=n then f' else m.fp i):=hb;have Qx:j∈s.cs.map (·.1):=by rw[<-p7 (n:=n) (c:=c')];exact hj
  have Qy:i∈s.cs.map (·.1):=by rw[<-p7 (n:=n) (c:=c')];exact hi
  have OA:∀j∈s.cs.map (·.1),∀a∈m.fp j,H a≠none:=fun j hj a ha z=>by obtain⟨q,hq,rfl⟩:=ak.mp hj;obtain⟨o,e,_⟩:=(S.ok q hq).kind ha;rw[z] at e;cases e
  by_cases e1:j=n
  ·have e2:i≠n:=fun z=>Ot (e1.trans z.symm);simp only[e1,if_pos] at ha;simp only[if_neg e2] at hb;rcases OV a ha with z|z
   ·exact S.dj _ Oo _ Qy (fun z=>e2 z.symm) a z hb
   ·exact OA i Qy a hb z
  ·simp only[if_neg e1] at ha;by_cases e2:i=n
   ·simp only[e2,if_pos] at hb;rcases OV a hb with z|z
    ·exact S.dj _ Qx _ Oo e1 a ha z
    ·exact OA j Qx a ha z
   ·simp only[if_neg e2] at hb;exact S.dj _ Qx _ Qy Ot a ha hb
 ·have ha:a∈(if j=n then f' else m.fp j):=ha;have Qx:j∈s.cs.map (·.1):=by rw[<-p7 (n:=n) (c:=c')];exact hj
  by_cases e1:j=n
  ·rw[if_pos e1] at ha;rcases OV a ha with z|z
   ·exact S.hx n Oo a z hb
   ·exact(S.hs a hb).1 z
  ·rw[if_neg e1] at ha;exact S.hx j Qx a ha hb
 ·have RX:j≠n:=fun z=>by subst z;have h:s.get j=some (.dfz l):=h;rw[hn] at h;exact hnd l (aU h)
  refine⟨(mC RX).trans h,fun o ho=>?_⟩;obtain⟨e1,_⟩:=S.ok _ (mY h);exact k _ _ ho (S.dj j (ak.mpr ⟨_,mY h,rfl⟩) n Oo RX _ (by rw[e1];simp))
def SR.put{K:aa}{CB:al}{H:Hp}{m:Mp}{s:Sto}(S:SR K CB H m s){n:Nat}{c c':Cell}(hn:s.get n=some c)(hnd:∀l,c≠.dfz l)(H':Hp)(f':List al)(k:∀a o,H a=some o->a∉m.fp n->H' a=some o)(OV:∀a∈f',a∈m.fp n\/H a=none)(hok:ExtR H m s H' (m.fput n f') (s.set n c')->CellOk K CB H' (m.fput n f') (s.set n c') n c'):SR K CB H' (m.fput n f') (s.set n c')/\Ext H m s H' (m.fput n f') (s.set n c') :=
 let⟨a,_,b⟩:=S.put' hn H' f' k OV hok;⟨a,b hnd⟩
def Mp.add(m:Mp)(n:Nat)(p:al)(f:List al):Mp:=⟨fun j=>if j=n then p else m.ad j,fun j=>if j=n then f else m.fp j,m.hid⟩
theorem SR.add{K:aa}{CB:al}{H:Hp}{m:Mp}{s:Sto}(S:SR K CB H m s){c:Cell}(H':Hp)(p:al)(f:List al)(k:Same H H')(hf:∀a∈f,H a=none)(hok:Ext H m s H' (m.add s.nx p f) (s.add c)->CellOk K CB H' (m.add s.nx p f) (s.add c) s.nx c) :
  SR K CB H' (m.add s.nx p f) (s.add c)/\Ext H m s H' (m.add s.nx p f) (s.add c):=by
 have Ow:∀j∈s.cs.map (·.1),j≠s.nx:=fun j hj=>a6 (S.lt j hj);have OA:∀j∈s.cs.map (·.1),∀a∈m.fp j,H a≠none:=fun j hj a ha z=>by obtain⟨q,hq,rfl⟩:=ak.mp hj;obtain⟨o,e,_⟩:=(S.ok q hq).kind ha;rw[z] at e;cases e
 have hx:Ext H m s H' (m.add s.nx p f) (s.add c):=by
  refine⟨⟨⟨hZ _,fun j hj=>?_,fun a u h q=>⟨h.same k,q.1,fun j hj hm=>?_⟩,fun a u h _ _=>k _ _ h⟩,fun j l hj h=>⟨?_,fun o ho=>k _ _ ho⟩⟩,rfl,fun a _ o h _=>k a o h⟩
  rotate_left 2
  ·show oo ((s.nx,c)::s.cs) j=_;unfold oo;rw[if_neg (fun z=>a6 hj z.symm)];exact h
  ·show(if j=s.nx then p else m.ad j)=_;rw[if_neg (a6 hj)]
  ·have hm:a∈(if j=s.nx then f else m.fp j):=hm;rcases aj.mp (show j∈s.nx::s.cs.map (·.1) from hj) with e|hj
   ·rw[if_pos e] at hm;have:=hf a hm;rcases h with h|⟨o,h⟩<;>(rw[this] at h;cases h)
   ·rw[if_neg (Ow j hj)] at hm;exact q.2 j hj hm
 have Py:∀j∈s.cs.map (·.1),(m.add s.nx p f).fp j=m.fp j:=fun j hj=>by show(if j=s.nx then f else m.fp j)=_;rw[if_neg (Ow j hj)]
 have PN:(m.add s.nx p f).fp s.nx=f:=by show(if s.nx=s.nx then f else _)=_;rw[if_pos rfl]
 refine⟨⟨?_,?_,fun q hq=>?_,fun j hj i hi Ot a ha hb=>?_,fun j hj a ha hb=>?_,S.hsk hx.hk (.same k),S.tbk (.same k)⟩,hx⟩
 ·exact az.mpr ⟨fun z=>Ow _ z rfl,S.nd⟩
 ·intro j hj;rcases aj.mp (show j∈s.nx::s.cs.map (·.1) from hj) with e|hj
  ·rw[e];exact dw _
  ·exact iT (S.lt j hj)
 ·rcases aj.mp (show q∈(s.nx,c)::s.cs from hq) with rfl|hq
  ·exact hok hx
  ·have RO:q.1∈s.cs.map (·.1):=ak.mpr ⟨q,hq,rfl⟩;exact(S.ok q hq).keep S hx.toExtR (fun a ha o h=>k a o h) (hx.ad _ (S.lt _ RO)) (Py _ RO)
 ·rcases aj.mp (show j∈s.nx::s.cs.map (·.1) from hj) with e|hj<;>rcases aj.mp (show i∈s.nx::s.cs.map (·.1) from hi) with e'|hi
  ·exact Ot (e.trans e'.symm)
  ·rw[e,PN] at ha;rw[Py i hi] at hb;exact OA i hi a hb (hf a ha)
  ·rw[Py j hj] at ha;rw[e',PN] at hb;exact OA j hj a ha (hf a hb)
  ·rw[Py j hj] at ha;rw[Py i hi] at hb;exact S.dj j hj i hi Ot a ha hb
 ·rcases aj.mp (show j∈s.nx::s.cs.map (·.1) from hj) with e|hj
  ·rw[e,PN] at ha;exact(S.hs a hb).1 (hf a ha)
  ·rw[Py j hj] at ha;exact S.hx j hj a ha hb
theorem SR.del{K:aa}{CB:al}{H:Hp}{m:Mp}{s:Sto}(S:SR K CB H m s)(n:Nat)(hnd:∀l,s.get n≠some (.dfz l)):SR K CB H m (s.del n)/\Ext H m s H m (s.del n):=by
 have Oo:∀j∈(s.del n).cs.map (·.1),j∈s.cs.map (·.1):=fun j hj=>by obtain⟨q,hq,rfl⟩:=ak.mp hj;exact ak.mpr ⟨q,uX hq,rfl⟩
 have hx:Ext H m s H m (s.del n):=⟨⟨⟨ax _,fun _ _=>rfl,fun a u h p=>⟨h,p.1,fun j hj=>p.2 j (Oo j hj)⟩,fun _ _ h _ _=>h⟩,fun j l hj h=>⟨(uB (fun z=>hnd l (by rw[<-z];exact h))).trans h,fun o h=>h⟩⟩,rfl,fun _ _ _ h _=>h⟩;exact⟨⟨GF S.nd,fun j hj=>S.lt j (Oo j hj),fun q hq=>(S.ok q (uX hq)).keep S hx.toExtR (fun _ _ _ h=>h) rfl rfl,fun j hj i hi=>S.dj j (Oo j hj) i (Oo i hi),fun j hj=>S.hx j (Oo j hj),S.hs,S.tb⟩,hx⟩
inductive Out (α:Type) where
 |ok (a:α) (s:Sto)|ex (c:al) (s:Sto)|bad
def Out.bind{α β:Type}(o:Out α)(k:α->Sto->Out β):Out β:=match o with
 |.ok a s=>k a s
 |.ex c s=>.ex c s
 |.bad=>.bad
abbrev En:=List (Option PV)
abbrev XE:=En->Sto->Out PV
abbrev XT:=En->Sto->Out Bool
abbrev XA:=En->Sto->Out (List PV)
inductive SO where
 |nx (ρ:En) (s:Sto)|rt (v:PV) (s:Sto)|bk (ρ:En) (s:Sto)|ct (ρ:En) (s:Sto)|ex (c:al) (s:Sto)|bad
abbrev XS:=En->Sto->SO
def Post{α β:Type}(K:aa)(CB:al)(R:Hp->Mp->Sto->β->α->Prop)(E:XK)(o:Out α)(H:Hp)(m:Mp)(s:Sto)(Q:β->Hp->Prop):Prop:=match o with
 |.ok v s'=>∀u H' m',Ext H m s H' m' s'->SR K CB H' m' s'->R H' m' s' u v->Q u H'
 |.ex c s'=>∀H' m',Ext H m s H' m' s'->SR K CB H' m' s'->E (.ref c) none H'
 |.bad=>False
def Post.shift{α β:Type}{K:aa}{CB:al}{R:Hp->Mp->Sto->β->α->Prop}{E:XK}{o:Out α}{H H1:Hp}{m m1:Mp}{s s1:Sto}{Q:β->Hp->Prop}(e:Ext H m s H1 m1 s1)(h:Post K CB R E o H m s Q):Post K CB R E o H1 m1 s1 Q:=by
 cases o with
 |ok v s'=>exact fun u H' m' x S r=>h u H' m' (e.trans x) S r
 |ex c s'=>exact fun H' m' x S=>h H' m' (e.trans x) S
 |bad=>exact h
theorem Post.bind{α β α' β':Type}{K:aa}{CB:al}{R:Hp->Mp->Sto->β->α->Prop}{R':Hp->Mp->Sto->β'->α'->Prop}{E:XK}{o:Out α}{k:α->Sto->Out α'}{H:Hp}{m:Mp}{s:Sto}{Q:β'->Hp->Prop}{Q1:β->Hp->Prop}(h:Post K CB R' E (o.bind k) H m s Q)(f:∀v s1 u H1 m1,Ext H m s H1 m1 s1->SR K CB H1 m1 s1->R H1 m1 s1 u v->Post K CB R' E (k v s1) H1 m1 s1 Q->Q1 u H1):Post K CB R E o H m s Q1:=by
 cases o with
 |ok v s1=>exact fun u H1 m1 x S r=>f v s1 u H1 m1 x S r (Post.shift x h)
 |ex c s'=>exact h
 |bad=>exact h
def Post.here{α β:Type}{K:aa}{CB:al}{R:Hp->Mp->Sto->β->α->Prop}{E:XK}{v:α}{H:Hp}{m:Mp}{s:Sto}{Q:β->Hp->Prop}{u:β}(h:Post K CB R E (.ok v s) H m s Q)(S:SR K CB H m s)(r:R H m s u v):Q u H:=h u H m .refl S r
def Post.new{α β:Type}{K:aa}{CB:al}{R:Hp->Mp->Sto->β->α->Prop}{E:XK}{v:α}{H:Hp}{m:Mp}{s:Sto}{Q:β->Hp->Prop}{u:β}{p:al}{o:HO}(h:Post K CB R E (.ok v s) H m s Q)(S:SR K CB H m s)(hp:H p=none)(r:Ext H m s (upd H p o) m s->SR K CB (upd H p o) m s->R (upd H p o) m s u v):Q u (upd H p o):=by
 have k:Same H (upd H p o):=My.rm hp;exact h u _ m (.same k) (S.same k) (r (.same k) (S.same k))
structure ER(K:aa)(H:Hp)(m:Mp)(s:Sto)(σ:St)(ρ:En):Prop where
 len:ρ.length=σ.length
 at_:∀(i:Nat)(p:PV),ρ[i]?=some (some p)->∃u,σ[i]?=some (some u)/\Rep K H m s u p
theorem ER.ext{K:aa}{H H':Hp}{m m':Mp}{s s':Sto}{σ:St}{ρ:En}(h:ER K H m s σ ρ)(e:Ext H m s H' m' s'):ER K H' m' s' σ ρ :=
 ⟨h.len,fun i p q=>let⟨u,a,b⟩:=h.at_ i p q;⟨u,a,b.ext e⟩⟩
theorem ER.set{K:aa}{H:Hp}{m:Mp}{s:Sto}{σ:St}{ρ:En}{u:V}{p:PV}(h:ER K H m s σ ρ)(i:Nat)(r:Rep K H m s u p):ER K H m s (σ.set i (some u)) (ρ.set i (some p)):=by
 refine⟨by simp[h.len],fun j q e=>?_⟩;rw[iM] at e ⊢;by_cases c:i=j
 ·rw[if_pos c] at e ⊢;by_cases d:i<ρ.length
  ·rw[if_pos d] at e;rw[if_pos (by rw[<-h.len];exact d)];cases e;exact⟨u,rfl,r⟩
  ·rw[if_neg d] at e;cases e
 ·rw[if_neg c] at e ⊢;exact h.at_ j q e
def ER.cons{K:aa}{H:Hp}{m:Mp}{s:Sto}{σ:St}{ρ:En}{u:V}{p:PV}(h:ER K H m s σ ρ)(r:Rep K H m s u p):ER K H m s (some u::σ) (some p::ρ):=by
 refine⟨by simp[h.len],fun j q e=>?_⟩;cases j with
 |zero=>simp at e;subst e;exact⟨u,rfl,r⟩
 |succ j=>exact h.at_ j q (by simpa using e)
theorem ER.start{K:aa}{H:Hp}{m:Mp}{s:Sto}:∀{vs:List V}{ps:List PV},Reps K H m s vs ps->∀n,ER K H m s (vs.map some++aT n none) (ps.map some++aT n none)
 |_,_,.nil,n=>⟨by simp,fun i p e=>by
   have e:(aT n (none:Option PV))[i]?=some (some p):=by simpa using e
   rw[gu] at e;split at e<;>cases e⟩
 |_,_,.cons a b,n=>(ER.start b n).cons a
def my(ix:List Nat)(ρ:En):En:=ix.map fun i=>(ρ[i]?).getD none
theorem ER.capt{K:aa}{H:Hp}{m:Mp}{s:Sto}{σ:St}{ρ:En}(h:ER K H m s σ ρ)(ix:List Nat):ER K H m s (capt ix σ) (my ix ρ):=by
 refine⟨by simp[L2.capt,my],fun j q e=>?_⟩;unfold my at e;unfold L2.capt;rw[bu] at e ⊢;cases c:ix[j]? with
 |none=>rw[c] at e;cases e
 |some i =>
  rw[c] at e;have e:(ρ[i]?).getD none=some q:=aU e;cases d:ρ[i]? with
  |none=>rw[d] at e;cases e
  |some o =>
   rw[d] at e;have e:o=some q:=e;subst e;obtain⟨u,h1,h2⟩:=h.at_ i q d;refine⟨u,?_,h2⟩;show some ((σ[i]?).getD none)=_;rw[h1];rfl
def TDE(K:aa)(CB:al)(E:XK)(f:XE):TE:=fun σ H Q=>∃ρ s m,ER K H m s σ ρ/\SR K CB H m s/\Post K CB (Rep K) E (f ρ s) H m s Q
def TDT(K:aa)(CB:al)(E:XK)(f:XT):TT:=fun σ H Q=>∃ρ s m,ER K H m s σ ρ/\SR K CB H m s/\Post K CB (fun _ _ _ u v=>u=v) E (f ρ s) H m s Q
def TDA(K:aa)(CB:al)(E:XK)(f:XA):TA:=fun σ H Q=>∃ρ s m,ER K H m s σ ρ/\SR K CB H m s/\Post K CB (Reps K) E (f ρ s) H m s Q
def PostS(K:aa)(CB:al)(E:XK)(o:SO)(H:Hp)(m:Mp)(s:Sto)(D:Ends):Prop:=match o with
 |.nx ρ' s'=>∀σ' H' m',Ext H m s H' m' s'->SR K CB H' m' s'->ER K H' m' s' σ' ρ'->D.nx σ' H'
 |.rt v s'=>∀u H' m',Ext H m s H' m' s'->SR K CB H' m' s'->Rep K H' m' s' u v->D.rt u H'
 |.bk ρ' s'=>∀σ' H' m',Ext H m s H' m' s'->SR K CB H' m' s'->ER K H' m' s' σ' ρ'->D.bk σ' H'
 |.ct ρ' s'=>∀σ' H' m',Ext H m s H' m' s'->SR K CB H' m' s'->ER K H' m' s' σ' ρ'->D.ct σ' H'
 |.ex c s'=>∀H' m',Ext H m s H' m' s'->SR K CB H' m' s'->E (.ref c) none H'
 |.bad=>False
def TDS(K:aa)(CB:al)(E:XK)(g:XS):TS:=fun D σ H=>∃ρ s m,ER K H m s σ ρ/\SR K CB H m s/\PostS K CB E (g ρ s) H m s D
structure DE(X:Cx)(CB:al)(E:XK)(e:bj)(f:XE):Prop where
 pe:PE X e (TDE X.K CB E f)
structure DT(X:Cx)(CB:al)(E:XK)(e:bj)(f:XT):Prop where
 pt:PT X e (TDT X.K CB E f)
structure DW(X:Cx)(CB:al)(E:XK)(e:bj)(f:XT):Prop where
 pw:PW X e (TDT X.K CB E f)
structure DA(X:Cx)(CB:al)(E:XK)(es:List bj)(f:XA):Prop where
 pa:PA X es (TDA X.K CB E f)
structure DS(X:Cx)(CB:al)(E:XK)(st:bL)(g:XS):Prop where
 ps:PS X st (TDS X.K CB E g)
structure DSs(X:Cx)(CB:al)(E:XK)(st:List bL)(g:XS):Prop where
 pss:PSs X st (TDS X.K CB E g)
def PE.mono(h:PE X e t)(k:∀σ H Q,t' σ H Q->t σ H Q):PE X e t':=fun Ob s σ H Q I q=>h Ob s σ H Q I (k σ H Q q)
def PT.mono(h:PT X e t)(k:∀σ H Q,t' σ H Q->t σ H Q):PT X e t':=fun Ob s σ H Q I q=>h Ob s σ H Q I (k σ H Q q)
def PW.mono(h:PW X e t)(k:∀σ H Q,t' σ H Q->t σ H Q):PW X e t':=fun w Ob s σ H Q I q=>h w Ob s σ H Q I (k σ H Q q)
def PA.mono(h:PA X e t)(k:∀σ H Q,t' σ H Q->t σ H Q):PA X e t':=fun pos Ob s σ H Q I q=>h pos Ob s σ H Q I (k σ H Q q)
def PS.mono(h:PS X e t)(k:∀D σ H,t' D σ H->t D σ H):PS X e t':=fun Ob s σ H D I q=>h Ob s σ H D I (k D σ H q)
def PSs.mono(h:PSs X e t)(k:∀D σ H,t' D σ H->t D σ H):PSs X e t':=fun Ob s σ H D I q=>h Ob s σ H D I (k D σ H q)
def xVar(i:Nat)(ρ:En)(s:Sto):Out PV:=match ρ[i]? with
 |some (some p)=>.ok p s
 |_=>.bad
def xC(p:PV)(_:En)(s:Sto):Out PV:=.ok p s
def x1(f:XE)(F:PV->Sto->Out PV)(ρ:En)(s:Sto):Out PV:=(f ρ s).bind F
def x2(f g:XE)(F:PV->PV->Sto->Out PV)(ρ:En)(s:Sto):Out PV:=(f ρ s).bind fun v s1=>(g ρ s1).bind fun w s2=>F v w s2
def xNil(_:En)(s:Sto):Out (List PV):=.ok [] s
def xCons(f:XE)(g:XA)(ρ:En)(s:Sto):Out (List PV):=(f ρ s).bind fun v s1=>(g ρ s1).bind fun vs s2=>.ok (v::vs) s2
section
variable{X:Cx}{CB:al}{E:XK}{a b c e:bj}{es:List bj}{f g h:XE}{fa:XA}{p pos Og:Pos}{x:Str}
def Op2(K:aa)(CB:al)(E:XK)(r:R2)(F:PV->PV->Sto->Out PV):Prop:=∀H m s v w x y Q,SR K CB H m s->Rep K H m s x v->Rep K H m s y w->Post K CB (Rep K) E (F v w s) H m s Q->r x y H Q
def Op1(K:aa)(CB:al)(E:XK)(r:V->Hp->VK->Prop)(F:PV->Sto->Out PV):Prop:=∀H m s v x Q,SR K CB H m s->Rep K H m s x v->Post K CB (Rep K) E (F v s) H m s Q->r x H Q
def OpN(K:aa)(CB:al)(E:XK)(r:List V->Hp->VK->Prop)(F:List PV->Sto->Out PV):Prop:=∀H m s v x Q,SR K CB H m s->Reps K H m s x v->Post K CB (Rep K) E (F v s) H m s Q->r x H Q
def two{r:R2}{F:PV->PV->Sto->Out PV}(o:Op2 X.K CB E r F){σ:St}{H:Hp}{Q:VK}(q:TDE X.K CB E (x2 f g F) σ H Q):tOp r (TDE X.K CB E f) (TDE X.K CB E g) σ H Q:=by obtain⟨ρ,s,m,er,S,P⟩:=q;exact⟨ρ,s,m,er,S,P.bind fun v s1 u H1 m1 e1 S1 r1 P1=>⟨ρ,s1,m1,er.ext e1,S1,P1.bind fun w s2 u2 H2 m2 e2 S2 r2 P2=>o H2 m2 s2 v w u u2 Q S2 (r1.ext e2) r2 P2⟩⟩
def k7(i:Nat)(hN:X.N[i]?=some x:=by rfl)(hv:Vis X.env.scope x:=by first|exact eR rfl|exact gJ (eR rfl)|exact gJ (gJ rfl))(hd:NDb x:=by decide)(O7:(x==("__classdict__":Str))=false:=by decide):DE X CB E (.Name x pos) (xVar i):=⟨(FC hN hv hd O7).mono fun σ H Q ⟨ρ,s,m,er,S,P⟩=>by
 unfold xVar at P;split at P
 ·rename_i q hq;obtain⟨u,h1,h2⟩:=er.at_ i q hq;exact⟨u,h1,P.here S h2⟩
 ·exact P.elim⟩
def lc{i:Int}{j:Nat}:DE X CB E (.Constant (.int i) j pos) (xC (.int i)):=⟨pe_int.mono fun σ H Q ⟨ρ,s,m,er,S,P⟩=>P.here S .int⟩
def yw{i:Bool}{j:Nat}:DE X CB E (.Constant (.bool i) j pos) (xC (.bl i)):=⟨pe_bl.mono fun σ H Q ⟨ρ,s,m,er,S,P⟩=>P.here S .bl⟩
def lN{i:Str}{j:Nat}:DE X CB E (.Constant (.str i) j pos) (xC (.str i)):=⟨pe_str.mono fun σ H Q ⟨ρ,s,m,er,S,P⟩=>P.here S .str⟩
def Be(ho:OpR X (dk op) r)(o:Op2 X.K CB E r F)(ha:DE X CB E a f)(hb:DE X CB E b g):DE X CB E (.BinOp a op b pos) (x2 f g F):=⟨(tT ho ha.pe hb.pe).mono fun σ H Q q=>two o q⟩
def de_un(ho:UnR X (unaryOp op) r)(o:Op1 X.K CB E r F)(ha:DE X CB E a f):DE X CB E (.UnaryOp op a pos) (x1 f F):=⟨(Mo ho ha.pe).mono fun σ H Q ⟨ρ,s,m,er,S,P⟩ =>
 ⟨ρ,s,m,er,S,P.bind fun v s1 u H1 m1 e1 S1 r1 P1=>o H1 m1 s1 v u Q S1 r1 P1⟩⟩
def de_cmp(ho:OpR X (b9 op) r)(o:Op2 X.K CB E r F)(ha:DE X CB E a f)(hb:DE X CB E b g)(hm:cH op b=false):DE X CB E (.Compare a [op] [b] pos) (x2 f g F):=⟨(Gn ho ha.pe hb.pe hm).mono fun σ H Q q=>two o q⟩
def xTr(f:XE)(ρ:En)(s:Sto):Out Bool:=(f ρ s).bind fun v s1=>match v with
 |.bl b=>.ok b s1
 |_=>.bad
def TDT.tst{σ:St}{H:Hp}{Q:Bool->Hp->Prop}(q:TDT X.K CB E (xTr f) σ H Q):TDE X.K CB E f σ H fun x H1=>∃k,x=.bl k/\Q k H1:=by obtain⟨ρ,s,m,er,S,P⟩:=q;refine⟨ρ,s,m,er,S,P.bind fun v s1 u H1 m1 e1 S1 r1 P1=>?_⟩;cases r1<;>first|exact P1.elim|exact⟨_,rfl,P1.here S1 rfl⟩
def dt_cmp(ho:OpR X (b9 op) r)(o:Op2 X.K CB E r F)(ha:DE X CB E a f)(hb:DE X CB E b g)(hm:cH op b=false):DT X CB E (.Compare a [op] [b] pos) (xTr (x2 f g F)):=⟨(vH ho ha.pe hb.pe hm).mono fun σ H Q q=>two o (TDT.tst q)⟩
def qA(h:DE X CB E e f)(he:∀ON,isTrue e X.env ON=(do let v <-ON;gy e.pos;holding [v] (truthy v)):=by intro _;rfl):DT X CB E e (xTr f):=⟨(wz h.pe he).mono fun σ H Q q=>TDT.tst q⟩
noncomputable def xChain(f g h:XE)(F G:PV->PV->Sto->Out PV)(ρ:En)(s:Sto):Out PV:=(f ρ s).bind fun v s1=>(g ρ s1).bind fun w s2=>(F v w s2).bind fun z s3=>match z with
 |.bl true=>(h ρ s3).bind fun y s4=>G w y s4
 |.bl false=>.ok (.bl false) s3
 |_=>.bad
def xNot(f:XT)(ρ:En)(s:Sto):Out Bool:=(f ρ s).bind fun b s1=>.ok (!b) s1
def xAnd(f g:XT)(ρ:En)(s:Sto):Out Bool:=(f ρ s).bind fun b s1=>if b=true then g ρ s1 else .ok false s1
def xOr(f g:XT)(ρ:En)(s:Sto):Out Bool:=(f ρ s).bind fun b s1=>if b=true then .ok true s1 else g ρ s1
variable{t u:XT}{oY:List bj}
def tX(h:DT X CB E a t):DT X CB E (.UnaryOp .Not a pos) (xNot t):=⟨(Am h.pt).mono fun σ H Q ⟨ρ,s,m,er,S,P⟩ =>
 ⟨ρ,s,m,er,S,P.bind fun v s1 b H1 m1 e1 S1 r1 P1=>by cases r1;exact P1.here S1 rfl⟩⟩
def xt(h:DT X CB E a t):DW X CB E (.BoolOp .And [a] pos) t:=⟨KN h.pt⟩
def yE(h:DT X CB E a t):DW X CB E (.BoolOp .Or [a] pos) t:=⟨JK h.pt⟩
def AI(h:DT X CB E a t)(k:DW X CB E (.BoolOp .And (b::oY) pos) u):DW X CB E (.BoolOp .And (a::b::oY) pos) (xAnd t u):=⟨(M6 h.pt k.pw).mono fun σ H Q ⟨ρ,s,m,er,S,P⟩ =>
 ⟨ρ,s,m,er,S,P.bind fun v s1 b H1 m1 e1 S1 r1 P1=>by
  cases r1;refine tQ (fun c=>?_) fun c=>?_
  ·rw[if_pos c] at P1;exact⟨ρ,s1,m1,er.ext e1,S1,P1⟩
  ·rw[if_neg c] at P1;exact P1.here S1 rfl⟩⟩
def Ba(h:DT X CB E a t)(k:DW X CB E (.BoolOp .Or (b::oY) pos) u):DW X CB E (.BoolOp .Or (a::b::oY) pos) (xOr t u):=⟨(Mm h.pt k.pw).mono fun σ H Q ⟨ρ,s,m,er,S,P⟩ =>
 ⟨ρ,s,m,er,S,P.bind fun v s1 b H1 m1 e1 S1 r1 P1=>by
  cases r1;refine tQ (fun c=>?_) fun c=>?_
  ·rw[if_pos c] at P1;exact P1.here S1 rfl
  ·rw[if_neg c] at P1;exact⟨ρ,s1,m1,er.ext e1,S1,P1⟩⟩⟩
def DW.dt(h:DW X CB E a t):DT X CB E a t:=⟨h.pw.pt⟩
def xAndV(f g:XE)(ρ:En)(s:Sto):Out PV:=(f ρ s).bind fun v s1=>match v with
 |.bl true=>g ρ s1
 |.bl false=>.ok (.bl false) s1
 |_=>.bad
def xOrV(f g:XE)(ρ:En)(s:Sto):Out PV:=(f ρ s).bind fun v s1=>match v with
 |.bl true=>.ok (.bl true) s1
 |.bl false=>g ρ s1
 |_=>.bad
def xNotV(f:XE)(ρ:En)(s:Sto):Out PV:=(f ρ s).bind fun v s1=>match v with
 |.bl b=>.ok (.bl (!b)) s1
 |_=>.bad
def AL(h:DE X CB E a f):DE X CB E (.BoolOp op [a] pos) f:=⟨C6 h.pe⟩
def NT(h:DE X CB E a f):DE X CB E (.UnaryOp .Not a pos) (xNotV f):=⟨(Nh h.pe).mono fun σ H Q ⟨ρ,s,m,er,S,P⟩ =>
 ⟨ρ,s,m,er,S,P.bind fun v s1 b H1 m1 e1 S1 r1 P1=>by cases r1<;>first|exact P1.elim|exact⟨_,rfl,P1.here S1 .bl⟩⟩⟩
def wE(h:DE X CB E a f)(k:DE X CB E (.BoolOp .And (b::oY) pos) g):DE X CB E (.BoolOp .And (a::b::oY) pos) (xAndV f g):=⟨(FD h.pe k.pe).mono fun σ H Q ⟨ρ,s,m,er,S,P⟩ =>
 ⟨ρ,s,m,er,S,P.bind fun v s1 b H1 m1 e1 S1 r1 P1=>by
  cases r1 with
  |bl =>
   rename_i b;cases b
   ·exact⟨_,rfl,JU (P1.here S1 .bl)⟩
   ·exact⟨_,rfl,Lx ⟨ρ,s1,m1,er.ext e1,S1,P1⟩⟩
  |_=>exact P1.elim⟩⟩
def wF:DA X CB E [] xNil:=⟨pa_nil.mono fun σ H Q ⟨ρ,s,m,er,S,P⟩=>P.here S .nil⟩
def k8(ha:DE X CB E e f)(hr:DA X CB E es fa)(hs:SEb X e es:=by rfl):DA X CB E (e::es) (xCons f fa):=⟨(lG ha.pe hr.pa hs).mono fun σ H Q ⟨ρ,s,m,er,S,P⟩ =>
 ⟨ρ,s,m,er,S,P.bind fun v s1 u H1 m1 e1 S1 r1 P1=>⟨ρ,s1,m1,er.ext e1,S1,P1.bind fun w s2 u2 H2 m2 e2 S2 r2 P2=>P2.here S2 (.cons (r1.ext e2) r2)⟩⟩⟩
def k9(ha:DE X CB E e f)(hs:aK [e] X.env=(false,eval e X.env)::aK [] X.env:=by rfl):DA X CB E [e] (xCons f xNil):=k8 ha wF hs
theorem Reps.length{K:aa}{H:Hp}{m:Mp}{s:Sto}:∀{vs:List V}{l:List PV},Reps K H m s vs l->vs.length=l.length
 |_,_,.nil=>rfl
 |_,_,.cons _ b=>congrArg Nat.succ b.length
def sz5(h:n<=100000):n<=aH:=aC h (by decide)
def sz6(h:n<100000):n<aH:=aA h (by decide)
def xTup(fa:XA)(ρ:En)(s:Sto):Out PV:=(fa ρ s).bind fun vs s1=>if vs.length<=100000 then .ok (.tup vs) s1 else .bad
def xLst(fa:XA)(ρ:En)(s:Sto):Out PV:=(fa ρ s).bind fun vs s1=>if vs.length<=100000 then .ok (.lst vs) s1 else .bad
def xLstC(fa:XA)(ρ:En)(s:Sto):Out PV:=(fa ρ s).bind fun vs s1=>if vs.length<=100000 then .ok (.ref s1.nx) (s1.add (.lst vs)) else .bad
def nE{x1}(h:DA X CB E es fa):DE X CB E (.Tuple es x1 pos) (xTup fa):=⟨(Ar h.pa).mono fun σ H Q ⟨ρ,s,m,er,S,P⟩ =>
 ⟨ρ,s,m,er,S,P.bind fun v s1 u H1 m1 e1 S1 r1 P1=>by
  split at P1
  ·rename_i hl;exact⟨by rw[r1.length];exact sz5 hl,fun p hp=>P1.new S1 hp fun ex S'=>.tup (.inl ⟨.inl lr,S'.pure_tup lr⟩) (r1.ext ex)⟩
  ·exact P1.elim⟩⟩
def m8(h:DA X CB E es fa):DE X CB E (.List es pos) (xLst fa):=⟨(JN h.pa).mono fun σ H Q ⟨ρ,s,m,er,S,P⟩ =>
 ⟨ρ,s,m,er,S,P.bind fun v s1 u H1 m1 e1 S1 r1 P1=>by
  split at P1
  ·rename_i hl;exact⟨by rw[r1.length];exact sz5 hl,fun p hp=>P1.new S1 hp fun ex S'=>.lst lr (S1.pure_none hp) (r1.ext ex)⟩
  ·exact P1.elim⟩⟩
def SR.newL{K:aa}{H:Hp}{m:Mp}{s:Sto}{vs:List V}{l:List PV}{p:al}(S:SR K CB H m s)(hp:H p=none)(r:Reps K H m s vs l):SR K CB (upd H p (.lst vs)) (m.add s.nx p [p]) (s.add (.lst l))/\Ext H m s (upd H p (.lst vs)) (m.add s.nx p [p]) (s.add (.lst l)) :=
 S.add _ p [p] (My.rm hp) (fun a ha=>by rw[au.mp ha];exact hp) fun ex=>by
  have e1:(m.add s.nx p [p]).ad s.nx=p:=by show(if s.nx=s.nx then p else _)=_;rw[if_pos rfl]
  have e2:(m.add s.nx p [p]).fp s.nx=[p]:=by show(if s.nx=s.nx then [p] else _)=_;rw[if_pos rfl]
  exact⟨by rw[e1,e2],vs,by rw[e1];exact lr,r.ext ex⟩
def SR.newD{K:aa}{H H':Hp}{m:Mp}{s:Sto}{vs:List (Key×V)}{l:List (Key×PV)}{p:al}(S:SR K CB H m s)(hp:H p=none)(k:Same H H')(hd:H' p=some (.dK vs))(r:RepKs K H m s vs l):SR K CB H' (m.add s.nx p [p]) (s.add (.dct l))/\Ext H m s H' (m.add s.nx p [p]) (s.add (.dct l)) :=
 S.add _ p [p] k (fun a ha=>by rw[au.mp ha];exact hp) fun ex=>by
  have e1:(m.add s.nx p [p]).ad s.nx=p:=by show(if s.nx=s.nx then p else _)=_;rw[if_pos rfl]
  have e2:(m.add s.nx p [p]).fp s.nx=[p]:=by show(if s.nx=s.nx then [p] else _)=_;rw[if_pos rfl]
  exact⟨by rw[e1,e2],vs,by rw[e1];exact hd,r.ext ex⟩
def Mp.add_ad{m:Mp}{n:Nat}{p:al}{f:List al}:(m.add n p f).ad n=p:=by show(if n=n then p else _)=_;rw[if_pos rfl]
def Rep.new{K:aa}{H:Hp}{m:Mp}{s:Sto}{p:al}{f:List al}{c:Cell}:Rep K H (m.add s.nx p f) (s.add c) (.ref p) (.ref s.nx):=by have h:Rep K H (m.add s.nx p f) (s.add c) (.ref ((m.add s.nx p f).ad s.nx)) (.ref s.nx):=.ref (dw _);rw[Mp.add_ad] at h;exact h
def zA(h:DA X CB E es fa):DE X CB E (.List es pos) (xLstC fa):=⟨(JN h.pa).mono fun σ H Q ⟨ρ,s,m,er,S,P⟩ =>
 ⟨ρ,s,m,er,S,P.bind fun v s1 u H1 m1 e1 S1 r1 P1=>by
  split at P1
  ·rename_i hl;refine⟨by rw[r1.length];exact sz5 hl,fun p hp=>?_⟩;obtain⟨S2,e2⟩:=S1.newL hp r1;exact P1 _ _ _ e2 S2 .new
  ·exact P1.elim⟩⟩
end
def lsOf(s:Sto):PV->Option (List PV)
 |.lst l=>some l
 |.seq l=>some l
 |.ref n=>match s.get n with
  |some (.lst l)=>some l
  |_=>none
 |_=>none
def dcOf(s:Sto):PV->Option (List (Key×PV))
 |.dct l=>some l
 |.ref n=>match s.get n with
  |some (.dct l)=>some l
  |some (.dfz l)=>some l
  |_=>none
 |_=>none
def kyOf:PV->Option Key
 |.int i=>some (.inl i)
 |.str x=>some (.inr x)
 |_=>none
def toV:PV->Option V
 |.non=>some .non
 |.bl b=>some (.bl b)
 |.int i=>some (.int i)
 |.str x=>some (.str x)
 |_=>none
def toVs:List PV->Option (List V)
 |[]=>some []
 |p::l=>match toV p,toVs l with
  |some v,some vs=>some (v::vs)
  |_,_=>none
def pj(l:List (Key×PV))(k:Key):Option PV:=(l.find? fun kv=>decide (kv.1=k)).map (·.2)
def HV(l:List (Key×PV))(k:Key)(p:PV):List (Key×PV) :=
 if(l.any fun kv=>decide (kv.1=k))=true then l.map (fun kv=>if kv.1=k then(kv.1,p) else kv) else l++[(k,p)]
def rY(f:PV->Option iE):List PV->Option (List iE)
 |[]=>some []
 |p::l=>match f p,rY f l with
  |some d,some ds=>some (d::ds)
  |_,_=>none
noncomputable def PV.data(s:Sto):Nat->PV->Option iE
 |0,_=>none
 |_+1,.non=>some .none
 |_+1,.bl b=>some (.bool b)
 |_+1,.int i=>some (.int i)
 |_+1,.str x=>if a9 x=true then some (.str x) else none
 |k+1,.tup l=>(rY (PV.data s k) l).map .tuple
 |k+1,.lst l=>(rY (PV.data s k) l).map .list
 |k+1,.seq l=>(rY (PV.data s k) l).map .list
 |k+1,.ref n=>match s.get n with
  |some (.lst l)=>(rY (PV.data s k) l).map .list
  |_=>none
 |_+1,_=>none
section
variable{K:aa}{CB:al}{H:Hp}{m:Mp}{s:Sto}{x y:V}{v w:PV}
def Rep.ls(S:SR K CB H m s)(r:Rep K H m s x v)(e:lsOf s v=some l):∃a vs,x=.ref a/\SqL K H a vs/\Reps K H m s vs l:=by
 cases r with
 |lst h _ q=>cases e;exact⟨_,_,rfl,SqL.of h,q⟩
 |seq h q=>cases e;exact⟨_,_,rfl,h.elim (fun z=>.inl (.inr z.1)) .inr,q⟩
 |ref h =>
  rename_i n;have e:(match s.get n with|some (.lst l)=>some l|_=>none)=some l:=e;split at e<;>cases e
  rename_i hg;obtain⟨_,vs,h1,h2⟩:=S.get hg;exact⟨_,vs,rfl,SqL.of h1,h2⟩
 |_=>cases e
def Rep.tp(r:Rep K H m s x (.tup l)):∃a vs,x=.ref a/\SqT K H a vs/\Reps K H m s vs l:=by
 cases r with
 |tup h q=>exact⟨_,_,rfl,h.elim (fun z=>.inl z.1) .inr,q⟩
def Rep.dc(S:SR K CB H m s)(r:Rep K H m s x v)(e:dcOf s v=some l):∃a vs,x=.ref a/\Rd H a (.dK vs)/\RepKs K H m s vs l:=by
 cases r with
 |dct h _ q=>cases e;exact⟨_,_,rfl,h,q⟩
 |ref h =>
  rename_i n;have e:(match s.get n with|some (.dct l)=>some l|some (.dfz l)=>some l|_=>none)=some l:=e;split at e<;>cases e
  ·rename_i hg;obtain⟨_,vs,h1,h2⟩:=S.get hg;exact⟨_,vs,rfl,.inl h1,h2⟩
  ·rename_i hg;obtain⟨_,ob,vs,h1,h2⟩:=S.get hg;exact⟨_,vs,rfl,.inr ⟨ob,h1⟩,h2⟩
 |_=>cases e
theorem Rep.toV(r:Rep K H m s x v)(e:L2.toV v=some z):x=z:=by cases r<;>first|cases e;rfl|cases e
theorem Reps.toVs:∀{vs:List V}{l:List PV}{zs:List V},Reps K H m s vs l->L2.toVs l=some zs->vs=zs
 |_,_,_,.nil,e=>by cases e;rfl
 |_,_,_,.cons a b,e=>by
  unfold L2.toVs at e;split at e<;>cases e
  rename_i h1 h2;rw[a.toV h1,b.toVs h2]
def zL{v:PV}(e:L2.toV v=some z):tG z=true:=by cases v<;>first|cases e;rfl|cases e
theorem xE:∀{l:List PV}{zs:List V},L2.toVs l=some zs->zs.all tG=true
 |[],_,e=>by cases e;rfl
 |p::l,_,e=>by
  unfold L2.toVs at e;split at e<;>cases e
  rename_i h1 h2;rw[iy,zL h1,xE h2];rfl
theorem Reps.get:∀{vs:List V}{l:List PV}{i:Nat}{p:PV},Reps K H m s vs l->l[i]?=some p->∃u,vs[i]?=some u/\Rep K H m s u p
 |_,_,_,_,.nil,e=>by simp at e
 |_,_,0,_,.cons a _,e=>by simp at e;subst e;exact⟨_,rfl,a⟩
 |_,_,i+1,p,.cons _ b,e=>by obtain⟨u,h1,h2⟩:=b.get (i:=i) (p:=p) (by simpa using e);exact⟨u,by simpa using h1,h2⟩
theorem Reps.atI(r:Reps K H m s vs l)(e:L2.atI l i=some p):∃u,L2.atI vs i=some u/\Rep K H m s u p:=by
 unfold L2.atI at e ⊢;rw[r.length];cases c:ixN l.length i with
 |none=>rw[c] at e;cases e
 |some j=>rw[c] at e;exact r.get e
theorem Reps.append:∀{vs ws:List V}{l k:List PV},Reps K H m s vs l->Reps K H m s ws k->Reps K H m s (vs++ws) (l++k)
 |_,_,_,_,.nil,q=>q
 |_,_,_,_,.cons a b,q=>.cons a (b.append q)
theorem Reps.drop:∀{vs:List V}{l:List PV}(n:Nat),Reps K H m s vs l->Reps K H m s (vs.drop n) (l.drop n)
 |_,_,0,r=>r
 |_,_,_+1,.nil=>.nil
 |_,_,n+1,.cons _ b=>b.drop n
theorem Reps.take:∀{vs:List V}{l:List PV}(n:Nat),Reps K H m s vs l->Reps K H m s (vs.take n) (l.take n)
 |_,_,0,_=>.nil
 |_,_,_+1,.nil=>.nil
 |_,_,n+1,.cons a b=>.cons a (b.take n)
theorem Reps.set:∀{vs:List V}{l:List PV}{u:V}{p:PV}(i:Nat),Reps K H m s vs l->Rep K H m s u p->Reps K H m s (vs.set i u) (l.set i p)
 |_,_,_,_,_,.nil,_=>.nil
 |_,_,_,_,0,.cons _ b,r=>.cons r b
 |_,_,_,_,i+1,.cons a b,r=>.cons a (b.set i r)
theorem Reps.strs:∀{vs:List V}{ss:List Str},Reps K H m s vs (ss.map PV.str)->vs=ss.map V.str
 |_,[],.nil=>rfl
 |_,x::ss,.cons a b=>by cases a;rw[Reps.strs (ss:=ss) b];rfl
theorem Reps.ofStrs:∀(ss:List Str),Reps K H m s (ss.map V.str) (ss.map PV.str)
 |[]=>.nil
 |_::r=>.cons .str (Reps.ofStrs r)
theorem RepKs.keys:∀{vs:List (Key×V)}{l:List (Key×PV)},RepKs K H m s vs l->vs.map (·.1)=l.map (·.1)
 |_,_,.nil=>rfl
 |_,_,.cons _ b=>by simp[b.keys]
theorem RepKs.length(r:RepKs K H m s vs l):vs.length=l.length:=by have:=congrArg b6 r.keys;simpa using this
theorem RepKs.val:∀{vs:List (Key×V)}{l:List (Key×PV)}(k:Key),RepKs K H m s vs l->(∀p,pj l k=some p->∃u,pN vs k=some u/\Rep K H m s u p)/\(pj l k=none->pN vs k=none)
 |_,_,k,.nil=>⟨fun p e=>(by cases e),fun _=>rfl⟩
 |_,_,k,.cons (k:=q) (p:=p0) (v:=v0) a b=>by
  by_cases e:q=k
  ·refine⟨fun p h=>⟨v0,wG e,?_⟩,fun h=>?_⟩
   ·unfold pj at h;simp[e] at h;subst h;exact a
   ·unfold pj at h;simp[e] at h
  ·rw[wH e];have h2:∀{l:List (Key×PV)},pj ((q,p0)::l) k=pj l k:=fun{l}=>by unfold pj;simp[e]
   rw[h2];exact b.val k
theorem RepKs.any(r:RepKs K H m s vs l)(k:Key):(vs.any fun kv=>decide (kv.1=k))=l.any fun kv=>decide (kv.1=k):=by
 have h:∀{β:Type}(l:List (Key×β)),(l.any fun kv=>decide (kv.1=k))=(l.map (·.1)).any fun j=>decide (j=k):=fun l=>by rw[gC];rfl
 rw[h,h,r.keys]
theorem RepKs.mapput:∀{vs:List (Key×V)}{l:List (Key×PV)}{u:V}{p:PV}(k:Key),RepKs K H m s vs l->Rep K H m s u p->RepKs K H m s (vs.map fun kv=>if kv.1=k then(kv.1,u) else kv) (l.map fun kv=>if kv.1=k then(kv.1,p) else kv)
 |_,_,_,_,_,.nil,_=>.nil
 |_,_,u,p,k,.cons (k:=q) a b,r=>by
  rw[ap,ap];by_cases e:q=k
  ·rw[if_pos e,if_pos e];exact .cons r (b.mapput k r)
  ·rw[if_neg e,if_neg e];exact .cons a (b.mapput k r)
theorem RepKs.append:∀{vs ws:List (Key×V)}{l k:List (Key×PV)},RepKs K H m s vs l->RepKs K H m s ws k->RepKs K H m s (vs++ws) (l++k)
 |_,_,_,_,.nil,q=>q
 |_,_,_,_,.cons a b,q=>.cons a (b.append q)
def RepKs.put(k:Key)(q:RepKs K H m s vs l)(r:Rep K H m s u p):RepKs K H m s (rO vs k u) (HV l k p):=by
 unfold rO HV;rw[q.any];split
 ·exact q.mapput k r
 ·exact q.append (.cons r .nil)
def uV(r:Rep K H m s x v)(e:kyOf v=some k):x=kV k:=by cases r<;>first|cases e;rfl|cases e
end
section
variable{X:Cx}{CB:al}{E:XK}
theorem Reps.readss{sh:aw}{H:Hp}{m:Mp}{s:Sto}{k:Nat}(ih:∀{v:V}{p:PV}{u:am}{d:iE},Rep X.K H m s v p->RelV v u->PV.data s k p=some d->(∃as,Reads sh.heap u d as)/\d.canLay0=true/\d.depth<=k) :
  ∀{v:List V}{p:List PV}{u:List am}{d:List iE},Reps X.K H m s v p->Vals v u->rY (PV.data s k) p=some d->(∃as,ReadsAll sh.heap u.toArray.toList d as)/\eO d=true/\PyData.depthAll d<=k
 |_,_,_,_,.nil,.nil,e=>by unfold rY at e;cases e;exact⟨⟨_,.nil⟩,rfl,ba _⟩
 |_,_,_,_,.cons a b,.cons r rs,e=>by
  unfold rY at e;split at e<;>cases e
  rename_i h1 h2;obtain⟨⟨as,r1⟩,r2,r3⟩:=ih a r h1;obtain⟨⟨bs,q1⟩,q2,q3⟩:=Reps.readss ih b rs h2;refine⟨⟨_,.cons r1 (by simpa using q1)⟩,by unfold eO;rw[r2,q2];rfl,?_⟩;unfold PyData.depthAll;omega
theorem Rep.reads(I:Inv X Ob σ H sh)(S:SR X.K CB H m s):∀(k:Nat){v:V}{p:PV}{u:am}{d:iE},Rep X.K H m s v p->RelV v u->PV.data s k p=some d ->
  (∃as,Reads sh.heap u d as)/\d.canLay0=true/\d.depth<=k
 |0,_,p,_,_,_,_,e=>by cases p<;>(unfold PV.data at e;cases e)
 |k+1,_,_,_,_,.non,ru,e=>by cases ru;unfold PV.data at e;cases e;exact⟨⟨_,.none⟩,rfl,ba _⟩
 |k+1,_,_,_,_,.bl,ru,e=>by cases ru;unfold PV.data at e;cases e;exact⟨⟨_,.bool _⟩,rfl,ba _⟩
 |k+1,_,_,_,_,.int,ru,e=>by obtain⟨t,rfl⟩:=ru;unfold PV.data at e;cases e;exact⟨⟨_,.int _ _⟩,rfl,ba _⟩
 |k+1,_,_,_,_,.str,ru,e=>by
  obtain⟨t,rfl⟩:=ru;unfold PV.data at e;split at e<;>cases e
  rename_i h;exact⟨⟨_,.str _ _⟩,h,ba _⟩
 |k+1,_,_,_,_,.tup (l:=l) h q,ru,e=>by
  cases ru;unfold PV.data at e;cases c:rY (PV.data s k) l with
  |none=>rw[c] at e;cases e
  |some ds =>
   rw[c] at e;cases e;obtain⟨its,rv,⟨o,g1,g2,n,g3⟩,_⟩:=I.tuple (h.elim (fun z=>(.inl z.1:SqT X.K H _ _)) .inr);obtain⟨⟨as,r1⟩,r2,r3⟩:=Reps.readss (Rep.reads I S k) q rv c;exact⟨⟨_,.tuple g1 g2 g3 r1⟩,by unfold de;exact r2,by unfold iA;omega⟩
 |k+1,_,_,_,_,.lst (l:=l) h _ q,ru,e=>by
  cases ru;unfold PV.data at e;cases c:rY (PV.data s k) l with
  |none=>rw[c] at e;cases e
  |some ds =>
   rw[c] at e;cases e;obtain⟨its,rv,⟨o,n,g1,g2,_,g3⟩,_⟩:=I.list (SqL.of h);obtain⟨⟨as,r1⟩,r2,r3⟩:=Reps.readss (Rep.reads I S k) q rv c;exact⟨⟨_,.list g1 g2 g3 r1⟩,by unfold de;exact r2,by unfold iA;omega⟩
 |k+1,_,_,_,_,.seq (l:=l) h q,ru,e=>by
  cases ru;unfold PV.data at e;cases c:rY (PV.data s k) l with
  |none=>rw[c] at e;cases e
  |some ds =>
   rw[c] at e;cases e;obtain⟨its,rv,⟨o,n,g1,g2,_,g3⟩,_⟩:=I.list (h.elim (fun z=>(.inl (.inr z.1):SqL X.K H _ _)) .inr);obtain⟨⟨as,r1⟩,r2,r3⟩:=Reps.readss (Rep.reads I S k) q rv c;exact⟨⟨_,.list g1 g2 g3 r1⟩,by unfold de;exact r2,by unfold iA;omega⟩
 |k+1,_,_,_,_,.dct _ _ _,_,e=>by unfold PV.data at e;cases e
 |k+1,_,_,_,_,.exc _ _,_,e=>by unfold PV.data at e;cases e
 |k+1,_,_,_,_,.clo _,_,e=>by unfold PV.data at e;cases e
 |k+1,_,_,_,_,.ref _,ru,e=>by
  cases ru;unfold PV.data at e;split at e<;>first|cases e|skip
  rename_i l hg;cases c:rY (PV.data s k) l with
  |none=>rw[c] at e;cases e
  |some ds =>
   rw[c] at e;cases e;obtain⟨_,vs,h1,q⟩:=S.get hg;obtain⟨its,rv,⟨o,n,g1,g2,_,g3⟩,_⟩:=I.list (SqL.of h1);obtain⟨⟨as,r1⟩,r2,r3⟩:=Reps.readss (Rep.reads I S k) q rv c;exact⟨⟨_,.list g1 g2 g3 r1⟩,by unfold de;exact r2,by unfold iA;omega⟩
def Bt(k:Nat)(n:Int):Prop:=n.natAbs<2^k
def Bt.mono(h:Bt k n)(hl:k<=l):Bt l n:=aA h (bD (by decide) hl)
def Bt.mul(h:Bt k n)(g:Bt l m):Bt (k+l) (n*m):=by
 unfold Bt at *;rw[ib,Nat.pow_add];by_cases z:m.natAbs=0
 ·rw[z,Nat.mul_zero];exact Nat.mul_pos (eG k) (eG l)
 ·exact aA (Nat.mul_lt_mul_of_pos_right h (Nat.pos_of_ne_zero z)) (eg _ (fk g))
def Bt.neg(h:Bt k n):Bt k (-n):=by unfold Bt at *;rw[ia];exact h
def Bt.div(h:Bt k n):Bt k (n/d):=aM (Int.natAbs_ediv_le_natAbs n d) h
def Bt.dvd(h:Bt k n)(hn:n≠0)(hd:d∣n):Bt k d:=aM (Nat.le_of_dvd (by omega) (fD.mpr hd)) h
def Bt.log(h:Bt 9000 n)(h0:0<n):n.natAbs.log2<9000:=(kN (by omega)).mpr h
def EG(h:Bt 20000 i):jz i<=2^20:=by
 unfold jz;split
 ·exact ba _
 ·rename_i z;have z:i≠0:=by simpa using z
  have:=(kN (by omega:i.natAbs≠0)).mpr h;omega
def op_mulB:OpR X (dk .Mult) (rI (fun i j=>Bt 20000 i/\Bt 20000 j) fun i j=>.int (i*j)):=opI fun _ _ _ _ _ _ _ hc q=>mul_int q (.of_bits (EG hc.1) (EG hc.2))
def Ke(K:aa):R2:=fun x y H Q=>∃l b xs zs,x=.ref l/\y=.ref b/\SqL K H l xs/\SqL K H b zs/\xs.length+zs.length<=aH/\∀p,H p=none->Q (.ref p) (upd H p (.lst (xs++zs)))
def K8:OpR X (dk .Add) (Ke X.K):=by
 intro Ob s σ H x y v u Q I rx ry h;obtain⟨l,b,xs,zs,rfl,rfl,hH,hB,hz,q⟩:=h;cases rx;cases ry;obtain⟨its,r,ht,_⟩:=I.list hH;obtain⟨PM,r2,ht2,_⟩:=I.list hB;have l1:=r.length;have l2:=r2.length;obtain⟨⟨cls,dd,data,sl⟩,n,ho,hc,_,hd⟩:=ht;obtain⟨⟨cls2,dd2,data2,P4⟩,n2,ho2,hc2,_,hd2⟩:=ht2;simp only at hc hd hc2 hd2;subst hc hd hc2 hd2;refine concat_meets ⟨_,ho,rfl⟩ ⟨_,ho2,rfl⟩ noFill_list_add seq_list_add PySem.F.slot_list_add PySem.F.entry_list_add (PySem.F.args_list_add_2 _ _) (list_addW l b its.toArray PM.toArray n n2 dd dd2 sl P4 (by rw[aV,aV];omega)) ⟨ho,ho2,?_⟩;have ea:its.toArray++PM.toArray=(its++PM).toArray:=by simp
 rw[ea];exact⟨.ref _,_,I.lnew (t':=s.toks) (r.append r2) (by rw[aE];omega),rfl,q _ I.fresh⟩
def N6:R2:=fun x y H Q=>∃a v,x=.ref a/\DGet H a y (some v)/\Q v H
def Lw(hu:X.A.units+1<fE):IxR X N6:=by
 intro value slice Ob s σ H x y v u Q I rx ry h hs;obtain⟨a,z,rfl,g,q⟩:=h;obtain rfl:v=bz a:=rx;have hT:=yh I g;unfold iX;refine av ?_;rw[getitemInPython_of_ne hT.not_modules];refine av (wpAny_specialOf hT ja.lookup ?_);have fin:aZ (model X.prog X.w) X.A (subscripted slice false (.ref a) u) (fun r Oh=>aZ (model X.prog X.w) X.A (letTemporaryGo value (.ref a) r >>= fun _=>pure r) (EP X Ob σ Q) X.xe Oh) X.xe s:=by rw[hs];exact wpAny_operating (bK (BV hu I g ry fun w' s3 I3 OP=>(⟨z,H,I3,OP,q⟩:EP X Ob σ Q w' s3)) (fun r Oh Rt=>av (wpAny_letTemporaryGo (aS Rt))) fun _ _ x=>x)
 first
  |exact aS (av fin)
  |exact av (aS (av fin))
  |exact av fin
def KJ:R2:=fun y x H Q=>∃a o,x=.ref a/\DGet H a y o/\Q (.bl (!o.isSome)) H
def As(hu:X.A.units+1<fE):OpR X (b9 .NotIn) KJ:=by intro Ob s σ H y x v u Q I ry rx h;obtain⟨a,o,rfl,g,q⟩:=h;obtain rfl:u=bz a:=rx;exact LY hu I g ry fun s3 I3=>⟨.bl (!o.isSome),H,I3,rfl,q⟩
def HF:CallR X (.builtin "len") (fun xs H Q=>∃a kvs,xs=[V.ref a]/\Rd H a (.dK kvs)/\Q (.int kvs.length) H):=by intro Ob s σ H xs us Q I r h;obtain⟨a,kvs,rfl,ha,q⟩:=h;obtain⟨u,rfl,ru⟩:=tj r;cases ru;exact MC I ha fun t s' I'=>⟨.int kvs.length,H,I',⟨t,rfl⟩,q⟩
noncomputable def N7(K:aa)(CB:al)(neg:Bool):R2:=fun x y H Q=>∃m s v w d e,SR K CB H m s/\Rep K H m s x v/\Rep K H m s y w/\PV.data s 12 v=some d/\PV.data s 12 w=some e/\Q (.bl (if neg then !bV d e else bV d e)) H
def Nv{CB:al}(hu:X.A.units+12<fE):OpR X (b9 .Eq) (N7 X.K CB false):=by intro Ob s σ H x y v u Q I rx ry h;obtain⟨m,t,p,q,d,e,S,r1,r2,e1,e2,k⟩:=h;obtain⟨⟨as,a1⟩,a2,a3⟩:=r1.reads I S 12 rx e1;obtain⟨⟨bs,b1⟩,b2,b3⟩:=r2.reads I S 12 ry e2;exact SeqAt.rcAt_reads a1 b1 a2 b2 (by omega) _ _ _ _ ⟨.bl _,H,I,rfl,k⟩
def Nr{CB:al}(hu:X.A.units+12<fE):OpR X (b9 .NotEq) (N7 X.K CB true):=by intro Ob s σ H x y v u Q I rx ry h;obtain⟨m,t,p,q,d,e,S,r1,r2,e1,e2,k⟩:=h;obtain⟨⟨as,a1⟩,a2,a3⟩:=r1.reads I S 12 rx e1;obtain⟨⟨bs,b1⟩,b2,b3⟩:=r2.reads I S 12 ry e2;exact SeqAt.rcNeAt_reads a1 b1 a2 b2 (by omega) _ _ _ _ ⟨.bl _,H,I,rfl,k⟩
end
def wO(i j:Int):Prop:=(Bt 20000 i/\Bt 20000 j)\/CMul i j
def Fs(j:Int):Prop:=0<j/\Bt 9000 j
noncomputable instance (i j:Int):Decidable (wO i j):=cZ _
noncomputable instance (j:Int):Decidable (Fs j):=cZ _
noncomputable def fAdd(v w:PV)(s:Sto):Out PV:=match v,w with
 |.int i,.int j=>.ok (.int (i+j)) s
 |.str x,.str y=>if x.length+y.length<=100000 then .ok (.str (x++y)) s else .bad
 |v,w=>match lsOf s v,lsOf s w with
  |some l,some k=>if l.length+k.length<=100000 then .ok (.lst (l++k)) s else .bad
  |_,_=>.bad
def fSub(v w:PV)(s:Sto):Out PV:=match v,w with
 |.int i,.int j=>.ok (.int (i-j)) s
 |_,_=>.bad
noncomputable def fMul(v w:PV)(s:Sto):Out PV:=match v,w with
 |.int i,.int j=>if wO i j then .ok (.int (i*j)) s else .bad
 |.lst l,.int k=>if -(2^63)<=k/\k<2^63/\l.length*k.toNat<=100000 then .ok (.lst (aT k.toNat l).flatten) s else .bad
 |_,_=>.bad
def fDiv(v w:PV)(s:Sto):Out PV:=match v,w with
 |.int i,.int j=>if Fs j then .ok (.int (i/j)) s else .bad
 |_,_=>.bad
def fMod(v w:PV)(s:Sto):Out PV:=match v,w with
 |.int i,.int j=>if 0<j then .ok (.int (i%j)) s else .bad
 |_,_=>.bad
def fPow(v w:PV)(s:Sto):Out PV:=match v,w with
 |.int i,.int j=>if 0<=j/\j<=1000000/\i.natAbs<2^64 then .ok (.int (i^j.toNat)) s else .bad
 |_,_=>.bad
def fCmp(p:Int->Int->Bool)(v w:PV)(s:Sto):Out PV:=match v,w with
 |.int i,.int j=>.ok (.bl (p i j)) s
 |_,_=>.bad
abbrev fLt:=fCmp fun i j=>decide (i<j)
abbrev fGt:=fCmp fun i j=>decide (j<i)
abbrev fGe:=fCmp fun i j=>decide (j<=i)
def fEqN(neg:Bool)(v w:PV)(s:Sto):Out PV:=match PV.data s 12 v,PV.data s 12 w with
 |some d,some e=>.ok (.bl (if neg then !bV d e else bV d e)) s
 |_,_=>.bad
abbrev fEq:=fEqN false
abbrev fNe:=fEqN true
def PV.isNon:PV->Bool
 |.non=>true
 |_=>false
def fIs(v w:PV)(s:Sto):Out PV:=match w with
 |.non=>.ok (.bl v.isNon) s
 |_=>.bad
def fIsnt(v w:PV)(s:Sto):Out PV:=match w with
 |.non=>.ok (.bl (!v.isNon)) s
 |_=>.bad
def JA(neg b:Bool):Bool:=if neg then !b else b
noncomputable def og(neg:Bool)(v w:PV)(s:Sto):Out PV:=match dcOf s w with
 |some l=>match kyOf v with
  |some k=>.ok (.bl (JA neg (pj l k).isSome)) s
  |none=>.bad
 |none=>match toV v with
  |none=>.bad
  |some x=>match w with
   |.tup l=>match toVs l with
    |some zs=>.ok (.bl (JA neg (inV x zs))) s
    |none=>.bad
   |w=>match lsOf s w with
    |some l=>match toVs l with
     |some zs=>.ok (.bl (JA neg (inV x zs))) s
     |none=>.bad
    |none=>.bad
abbrev pS:=og true
noncomputable def fIx(v w:PV)(s:Sto):Out PV:=match v with
 |.tup l=>match w with
  |.int i=>match atI l i with
   |some p=>.ok p s
   |none=>.bad
  |_=>.bad
 |.str x=>match w with
  |.int i=>match atI x.cps.toList i with
   |some c=>if x.length<=100000 then .ok (.str ⟨#[c]⟩) s else .bad
   |none=>.bad
  |_=>.bad
 |v=>match lsOf s v with
  |some l=>match w with
   |.int i=>match atI l i with
    |some p=>.ok p s
    |none=>.bad
   |_=>.bad
  |none=>match dcOf s v with
   |some l=>match kyOf w with
    |some k=>match pj l k with
     |some p=>.ok p s
     |none=>.bad
    |none=>.bad
   |none=>.bad
def fNeg(v:PV)(s:Sto):Out PV:=match v with
 |.int i=>.ok (.int (-i)) s
 |_=>.bad
section
variable{X:Cx}{CB:al}{E:XK}
def o_add:Op2 X.K CB E (fun x y H Q=>rI0 (fun i j=>V.int (i+j)) x y H Q\/(∃i j,x=V.str i/\y=V.str j/\i.length+j.length<=aH/\Q (V.str (i++j)) H)\/Ke X.K x y H Q) fAdd:=by
 intro H m s v w x y Q S rx ry P;unfold fAdd at P;split at P
 ·cases rx;cases ry;exact .inl ⟨_,_,rfl,rfl,P.here S .int⟩
 ·cases rx;cases ry;split at P
  ·rename_i h;exact .inr (.inl ⟨_,_,rfl,rfl,sz5 h,P.here S .str⟩)
  ·exact P.elim
 ·split at P
  ·rename_i l k h1 h2;split at P
   ·rename_i h;obtain⟨a,vs,rfl,q1,r1⟩:=rx.ls S h1;obtain⟨b,ws,rfl,q2,r2⟩:=ry.ls S h2;exact .inr (.inr ⟨a,b,vs,ws,rfl,rfl,q1,q2,by rw[r1.length,r2.length];exact sz5 h,fun p hp=>P.new S hp fun ex S'=>.lst lr (S.pure_none hp) ((r1.append r2).ext ex)⟩)
   ·exact P.elim
  ·exact P.elim
def K9:OpR X (dk .Add) (fun x y H Q=>rI0 (fun i j=>V.int (i+j)) x y H Q\/(∃i j,x=V.str i/\y=V.str j/\i.length+j.length<=aH/\Q (V.str (i++j)) H)\/Ke X.K x y H Q):=op_add.or (op_add_str.or K8)
def o_sub:Op2 X.K CB E (rI0 fun i j=>V.int (i-j)) fSub:=by
 intro H m s v w x y Q S rx ry P;unfold fSub at P;split at P
 ·cases rx;cases ry;exact⟨_,_,rfl,rfl,P.here S .int⟩
 ·exact P.elim
theorem Reps.rep{K:aa}{H:Hp}{m:Mp}{s:Sto}{vs:List V}{l:List PV}(r:Reps K H m s vs l):∀n,Reps K H m s (aT n vs).flatten (aT n l).flatten
 |0=>.nil
 |n+1=>by rw[cN,cN,cn,cn];exact r.append (r.rep n)
def o_mul:Op2 X.K CB E (fun x y H Q=>(rI (fun i j=>Bt 20000 i/\Bt 20000 j) (fun i j=>V.int (i*j)) x y H Q\/rI CMul (fun i j=>V.int (i*j)) x y H Q)\/N2 x y H Q) fMul:=by
 intro H m s v w x y Q S rx ry P;unfold fMul at P;split at P
 ·cases rx;cases ry;split at P
  ·rename_i h;rcases h with h|h
   ·exact .inl (.inl ⟨_,_,rfl,rfl,h,P.here S .int⟩)
   ·exact .inl (.inr ⟨_,_,rfl,rfl,h,P.here S .int⟩)
  ·exact P.elim
 ·split at P
  ·rename_i h;cases rx with
   |lst h1 _ r1 =>
    cases ry;exact .inr ⟨_,_,_,rfl,rfl,h1,h.1,h.2.1,by rw[r1.length];exact sz5 h.2.2,fun p hp=>P.new S hp fun ex S'=>.lst lr (S.pure_none hp) ((r1.rep _).ext ex)⟩
  ·exact P.elim
 ·exact P.elim
def K6:OpR X (dk .Mult) (fun x y H Q=>(rI (fun i j=>Bt 20000 i/\Bt 20000 j) (fun i j=>V.int (i*j)) x y H Q\/rI CMul (fun i j=>V.int (i*j)) x y H Q)\/N2 x y H Q):=(op_mulB.or Nt).or Np
def o_div:Op2 X.K CB E (rI (fun _ j=>0<j/\j.natAbs.log2<9000) fun i j=>V.int (i/j)) fDiv:=by
 intro H m s v w x y Q S rx ry P;unfold fDiv at P;split at P
 ·cases rx;cases ry;split at P
  ·rename_i h;exact⟨_,_,rfl,rfl,⟨h.1,h.2.log h.1⟩,P.here S .int⟩
  ·exact P.elim
 ·exact P.elim
def o_mod:Op2 X.K CB E (rI (fun _ j=>0<j) fun i j=>V.int (i%j)) fMod:=by
 intro H m s v w x y Q S rx ry P;unfold fMod at P;split at P
 ·cases rx;cases ry;split at P
  ·rename_i h;exact⟨_,_,rfl,rfl,h,P.here S .int⟩
  ·exact P.elim
 ·exact P.elim
def o_pow:Op2 X.K CB E (rI CPow fun i j=>V.int (i^j.toNat)) fPow:=by
 intro H m s v w x y Q S rx ry P;unfold fPow at P;split at P
 ·cases rx;cases ry;split at P
  ·rename_i h;exact⟨_,_,rfl,rfl,h,P.here S .int⟩
  ·exact P.elim
 ·exact P.elim
def Kh:Op2 X.K CB E (rI0 fun i j=>V.bl (p i j)) (fCmp p):=by
 intro H m s v w x y Q S rx ry P;unfold fCmp at P;split at P
 ·cases rx;cases ry;exact⟨_,_,rfl,rfl,P.here S .bl⟩
 ·exact P.elim
def Mu:Op2 X.K CB E (N7 X.K CB neg) (fEqN neg):=by
 intro H m s v w x y Q S rx ry P;unfold fEqN at P;split at P
 ·rename_i d e h1 h2;exact⟨m,s,v,w,d,e,S,rx,ry,h1,h2,P.here S .bl⟩
 ·exact P.elim
def rDin(neg:Bool):R2:=fun y x H Q=>∃a o,x=.ref a/\DGet H a y o/\Q (.bl (JA neg o.isSome)) H
def o_in:Op2 X.K CB E (fun x y H Q=>rDin neg x y H Q\/rIn X.K neg x y H Q) (og neg):=by
 intro H m s v w x y Q S rx ry P;unfold og at P;split at P
 ·rename_i l hl;split at P
  ·rename_i k hk;obtain⟨a,vs,rfl,q,r⟩:=ry.dc S hl;refine .inl ⟨a,pN vs k,rfl,.inl ⟨vs,k,q,uV rx hk,rfl⟩,?_⟩;obtain⟨r1,r2⟩:=r.val k;cases c:pj l k with
   |none=>rw[r2 c];rw[c] at P;exact P.here S .bl
   |some p=>obtain⟨u,e,_⟩:=r1 p c;rw[e];rw[c] at P;exact P.here S .bl
  ·exact P.elim
 ·split at P
  ·exact P.elim
  ·rename_i z hz;have ez:=rx.toV hz;subst ez;split at P
   ·split at P
    ·rename_i l zs RI;obtain⟨a,vs,rfl,q,r⟩:=ry.tp;have e:=r.toVs RI;subst e;exact .inr ⟨a,vs,rfl,.inr q,zL hz,xE RI,P.here S .bl⟩
    ·exact P.elim
   ·split at P
    ·rename_i l hl;split at P
     ·rename_i zs RI;obtain⟨a,vs,rfl,q,r⟩:=ry.ls S hl;have e:=r.toVs RI;subst e;exact .inr ⟨a,vs,rfl,.inl q,zL hz,xE RI,P.here S .bl⟩
     ·exact P.elim
    ·exact P.elim
def G9(hu:X.A.units+1<fE):OpR X (b9 .NotIn) (fun x y H Q=>rDin true x y H Q\/rIn X.K true x y H Q):=(As hu).or Cn
def o_ix:Op2 X.K CB E (fun x y H Q=>(N3 X.K x y H Q\/N4 x y H Q)\/(N5 X.K x y H Q\/N6 x y H Q)) fIx:=by
 intro H m s v w x y Q S rx ry P;unfold fIx at P;split at P
 ·split at P
  ·split at P
   ·rename_i p hp;cases ry;obtain⟨a,vs,rfl,q,r⟩:=rx.tp;obtain⟨u,e,ru⟩:=r.atI hp;exact .inl (.inl ⟨a,vs,_,u,rfl,rfl,q,e,P.here S ru⟩)
   ·exact P.elim
  ·exact P.elim
 ·split at P
  ·split at P
   ·rename_i c hc;split at P
    ·rename_i hl;cases rx;cases ry;exact .inl (.inr ⟨_,_,c,rfl,rfl,sz5 hl,hc,P.here S .str⟩)
    ·exact P.elim
   ·exact P.elim
  ·exact P.elim
 ·split at P
  ·rename_i l hl;split at P
   ·split at P
    ·rename_i p hp;cases ry;obtain⟨a,vs,rfl,q,r⟩:=rx.ls S hl;obtain⟨u,e,ru⟩:=r.atI hp;exact .inr (.inl ⟨a,vs,_,u,rfl,rfl,q,e,P.here S ru⟩)
    ·exact P.elim
   ·exact P.elim
  ·split at P
   ·rename_i l hl;split at P
    ·rename_i k hk;split at P
     ·rename_i p hp;obtain⟨a,vs,rfl,q,r⟩:=rx.dc S hl;obtain⟨u,e,ru⟩:=(r.val k).1 p hp;exact .inr (.inr ⟨a,u,rfl,.inl ⟨vs,k,q,uV ry hk,e.symm⟩,P.here S ru⟩)
     ·exact P.elim
    ·exact P.elim
   ·exact P.elim
def ix_U(hu:X.A.units+1<fE):IxR X (fun x y H Q=>(N3 X.K x y H Q\/N4 x y H Q)\/(N5 X.K x y H Q\/N6 x y H Q)):=(ix_tup.or NI).or (ix_list.or (Lw hu))
def o_neg:Op1 X.K CB E (rU fun i=>V.int (-i)) fNeg:=by
 intro H m s v x Q S rx P;unfold fNeg at P;split at P
 ·cases rx;exact⟨_,rfl,P.here S .int⟩
 ·exact P.elim
variable{a b c e:bj}{es:List bj}{f g h:XE}{fa:XA}{p pos Og Oe:Pos}{x:Str}
def mq(ha:DE X CB E a f)(hb:DE X CB E b g):DE X CB E (.BinOp a .Add b pos) (x2 f g fAdd):=Be K9 o_add ha hb
def yG(ha:DE X CB E a f)(hb:DE X CB E b g):DE X CB E (.BinOp a .Sub b pos) (x2 f g fSub):=Be No o_sub ha hb
def nF(ha:DE X CB E a f)(hb:DE X CB E b g):DE X CB E (.BinOp a .Mult b pos) (x2 f g fMul):=Be K6 o_mul ha hb
def AM(ha:DE X CB E a f)(hb:DE X CB E b g):DE X CB E (.BinOp a .FloorDiv b pos) (x2 f g fDiv):=Be sv o_div ha hb
def yH(ha:DE X CB E a f)(hb:DE X CB E b g):DE X CB E (.BinOp a .Mod b pos) (x2 f g fMod):=Be JQ o_mod ha hb
def vS(ha:DE X CB E a f)(hb:DE X CB E b g):DE X CB E (.BinOp a .Pow b pos) (x2 f g fPow):=Be Nq o_pow ha hb
def J2(ha:DE X CB E a f):DE X CB E (.UnaryOp .USub a pos) (x1 f fNeg):=de_un JC o_neg ha
def hu12(hr:Room k A):A.units+12<fE:=aM (kY (by decide:12<=64) _) hr.units
def lF(ha:DE X CB E a f)(hb:DE X CB E b g)(hr:Room jr X.A:=by assumption)(hs:GR b:=by exact fun _ _=>rfl):DE X CB E (.Subscript a b pos) (x2 f g fIx):=⟨(sf (ix_U (nV hr)) ha.pe hb.pe hs).mono fun σ H Q q=>two o_ix q⟩
structure CmpR(X:Cx)(CB:al)(E:XK)(op:CmpOp)(F:PV->PV->Sto->Out PV):Prop where
 ex:∃r,OpR X (b9 op) r/\Op2 X.K CB E r F
def J3:CmpR X CB E .Lt fLt:=⟨_,Mq,Kh⟩
def N9:CmpR X CB E .Gt fGt:=⟨_,Mr,Kh⟩
def c_ge:CmpR X CB E .GtE fGe:=⟨_,Kg,Kh⟩
def tK(hr:Room jr X.A:=by assumption):CmpR X CB E .Eq fEq:=⟨_,Nv (hu12 hr),Mu⟩
def EE(hr:Room jr X.A:=by assumption):CmpR X CB E .NotEq fNe:=⟨_,Nr (hu12 hr),Mu⟩
def GL(hr:Room jr X.A:=by assumption):CmpR X CB E .NotIn pS:=⟨_,G9 (nV hr),o_in⟩
def yv(r:CmpR X CB E op F)(ha:DE X CB E a f)(hb:DE X CB E b g)(hm:cH op b=false:=by first|exact vJ _|with_unfolding_all rfl):DE X CB E (.Compare a [op] [b] pos) (x2 f g F):=let⟨_,r1,r2⟩:=r.ex;L2.de_cmp r1 r2 ha hb hm
def mG(r:CmpR X CB E op F)(ha:DE X CB E a f)(hb:DE X CB E b g)(hm:cH op b=false:=by first|exact vJ _|with_unfolding_all rfl):DT X CB E (.Compare a [op] [b] pos) (xTr (x2 f g F)):=let⟨_,r1,r2⟩:=r.ex;L2.dt_cmp r1 r2 ha hb hm
abbrev XO':=En->Sto->Out (Option Int)
def TDO(K:aa)(CB:al)(E:XK)(f:XO'):TO:=fun σ H Q=>∃ρ s m,ER K H m s σ ρ/\SR K CB H m s/\Post K CB (fun _ _ _ u v=>u=v) E (f ρ s) H m s Q
structure DO(X:Cx)(CB:al)(E:XK)(e:Option bj)(f:XO'):Prop where
 po:PO X e (TDO X.K CB E f)
def xNoP(_:En)(s:Sto):Out (Option Int):=.ok none s
def xPart(f:XE)(ρ:En)(s:Sto):Out (Option Int):=(f ρ s).bind fun v s1=>match v with
 |.int i=>.ok (some i) s1
 |_=>.bad
def PO.mono{e:Option bj}{t t':TO}(h:PO X e t)(k:∀σ H Q,t' σ H Q->t σ H Q):PO X e t':=fun Ob s σ H Q I q=>h Ob s σ H Q I (k σ H Q q)
def xu:DO X CB E none xNoP:=⟨po_none.mono fun σ H Q ⟨ρ,s,m,er,S,P⟩=>P.here S rfl⟩
def tR(h:DE X CB E e f):DO X CB E (some e) (xPart f):=⟨(KW h.pe).mono fun σ H Q ⟨ρ,s,m,er,S,P⟩=>⟨ρ,s,m,er,S,P.bind fun v s1 u H1 m1 e1 S1 r1 P1=>by cases r1<;>first|exact P1.elim|exact⟨_,rfl,P1.here S1 rfl⟩⟩⟩
def yj(l:List PV)(lo hi:Option Int):List PV:=(l.drop (HT.sIx l.length 0 lo)).take (HT.sIx l.length l.length hi-HT.sIx l.length 0 lo)
noncomputable def fSl(v:PV)(lo hi:Option Int)(s:Sto):Out PV:=match v with
 |.tup l=>if HT.sIx l.length 0 lo=0/\HT.sIx l.length l.length hi=l.length then .bad else .ok (.tup (yj l lo hi)) s
 |v=>match lsOf s v with
  |some l=>.ok (.lst (yj l lo hi)) s
  |none=>.bad
def xSl(f:XE)(lo hi:XO')(ρ:En)(s:Sto):Out PV:=(f ρ s).bind fun v s1=>(lo ρ s1).bind fun l s2=>(hi ρ s2).bind fun u s3=>fSl v l u s3
def Reps.cut{K:aa}{H:Hp}{m:Mp}{s:Sto}{vs:List V}{l:List PV}(r:Reps K H m s vs l)(lo hi:Option Int):Reps K H m s (GI vs lo hi) (yj l lo hi):=by unfold GI yj;rw[r.length];exact(r.drop _).take _
def Ft{lo hi:Option bj}{fl fh:XO'}{p2:Pos}(ha:DE X CB E a f)(hl:DO X CB E lo fl)(hh:DO X CB E hi fh):DE X CB E (.Subscript a (.Slice lo hi none p2) pos) (xSl f fl fh) :=
 ⟨(D7 (sl_list.or MT) ha.pe hl.po hh.po).mono fun σ H Q ⟨ρ,s,m,er,S,P⟩=>⟨ρ,s,m,er,S,P.bind fun v s1 u H1 m1 e1 S1 r1 P1=>⟨ρ,s1,m1,er.ext e1,S1,P1.bind fun l s2 l' H2 m2 e2 S2 r2 P2=>by
  cases r2;refine⟨ρ,s2,m2,(er.ext e1).ext e2,S2,P2.bind fun k s3 k' H3 m3 e3 S3 r3 P3=>?_⟩;cases r3;have r1:=(r1.ext e2).ext e3;unfold fSl at P3;split at P3
  ·split at P3
   ·exact P3.elim
   ·rename_i hn;obtain⟨a,vs,rfl,q,r⟩:=r1.tp;exact .inr ⟨a,vs,rfl,q,by rw[r.length];exact hn,fun p hp=>P3.new S3 hp fun ex S'=>.tup (.inl ⟨.inl lr,S'.pure_tup lr⟩) ((r.cut _ _).ext ex)⟩
  ·split at P3
   ·rename_i l hl;obtain⟨a,vs,rfl,q,r⟩:=r1.ls S3 hl;exact .inl ⟨a,vs,rfl,q,fun p hp=>P3.new S3 hp fun ex S'=>.lst lr (S3.pure_none hp) ((r.cut _ _).ext ex)⟩
   ·exact P3.elim⟩⟩⟩
def xB(fa:XA)(F:List PV->Sto->Out PV)(ρ:En)(s:Sto):Out PV:=(fa ρ s).bind F
def nOf(o:OpN X.K CB E r F)(q:TDE X.K CB E (xB fa F) σ H Q):tCB r (TDA X.K CB E fa) σ H Q:=by obtain⟨ρ,s,m,er,S,P⟩:=q;exact⟨ρ,s,m,er,S,P.bind fun v s1 u H1 m1 e1 S1 r1 P1=>o H1 m1 s1 v u Q S1 r1 P1⟩
structure BltR(X:Cx)(CB:al)(E:XK)(fv:am)(F:List PV->Sto->Out PV):Prop where
 ex:∃r,CallR X fv r/\OpN X.K CB E r F
def lT{id:String}{F:List PV->Sto->Out PV}(r:BltR X CB E (.builtin id) F)(ha:DA X CB E (e::es) fa)(hg:Gl X x:=by rfl)(hm:X.mg x=none:=by first|exact T.b_len|exact T.b_str|exact T.b_sorted|exact T.b_tuple|exact T.b_int|exact T.b_list|exact T.b_abs|exact T.b_all|exact T.b_any|exact T.b_max|exact T.b_bool|exact T.b_dict)(hv:bP x=some (.builtin id):=by first|exact AQ|exact vo|exact NY|exact FP|exact bt_any|exact bt_max)(hn:x≠"__name__":=by decide)(OF:NDb x:=by decide)(hs:SEb X e es:=by rfl)(OH:(cj pos (aK es X.env)).any (·.1)=false:=by rfl):DE X CB E (.Call (.Name x p) (e::es) [] pos) (xB fa F) :=
 let⟨_,r1,r2⟩:=r.ex;⟨(om r1 hg hm hv ha.pa hn OF hs OH).mono fun σ H Q q=>nOf r2 q⟩
def mw(r:BltR X CB E (.type T) F)(ha:DA X CB E (e::es) fa)(hg:Gl X x:=by rfl)(hm:X.mg x=none:=by first|exact T.b_len|exact T.b_str|exact T.b_sorted|exact T.b_tuple|exact T.b_int|exact T.b_list|exact T.b_abs|exact T.b_all|exact T.b_any|exact T.b_max|exact T.b_bool|exact T.b_dict)(hv:bP x=some (.type T):=by first|exact J4|exact EF|exact J5|exact GM|exact bt_dict)(hn:x≠"__name__":=by decide)(OF:NDb x:=by decide)(hs:SEb X e es:=by rfl)(OH:(cj pos (aK es X.env)).any (·.1)=false:=by rfl):DE X CB E (.Call (.Name x p) (e::es) [] pos) (xB fa F) :=
 let⟨_,r1,r2⟩:=r.ex;⟨(G7 r1 hg hm hv ha.pa hn OF hs OH).mono fun σ H Q q=>nOf r2 q⟩
noncomputable def fLen(vs:List PV)(s:Sto):Out PV:=match vs with
 |[.tup l]=>.ok (.int l.length) s
 |[.str x]=>if x.length<=100000 then .ok (.int x.length) s else .bad
 |[v]=>match lsOf s v with
  |some l=>.ok (.int l.length) s
  |none=>match dcOf s v with
   |some l=>.ok (.int l.length) s
   |none=>.bad
 |_=>.bad
def b_len:BltR X CB E (.builtin "len") fLen:=⟨_,call_len_seq.or (call_len_str.or HF),by
 intro H m s v x Q S rx P;unfold fLen at P;split at P
 ·cases rx with
  |cons r n =>
   cases n;obtain⟨a,vs,rfl,q,r⟩:=r.tp;rw[<-r.length] at P;exact .inl ⟨a,vs,rfl,.inr q,P.here S .int⟩
 ·cases rx with
  |cons r n =>
   cases n;cases r;split at P
   ·rename_i h;exact .inr (.inl ⟨_,rfl,sz5 h,P.here S .int⟩)
   ·exact P.elim
 ·cases rx with
  |cons r n =>
   cases n;split at P
   ·rename_i l hl;obtain⟨a,vs,rfl,q,r⟩:=r.ls S hl;rw[<-r.length] at P;exact .inl ⟨a,vs,rfl,.inl q,P.here S .int⟩
   ·split at P
    ·rename_i l hl;obtain⟨a,vs,rfl,q,r⟩:=r.dc S hl;rw[<-r.length] at P;exact .inr (.inr ⟨a,vs,rfl,q,P.here S .int⟩)
    ·exact P.elim
 ·exact P.elim⟩
def fAbs(vs:List PV)(s:Sto):Out PV:=match vs with
 |[.int i]=>.ok (.int (if i<0 then -i else i)) s
 |_=>.bad
def b_abs:BltR X CB E (.builtin "abs") fAbs:=⟨_,Jw,by
 intro H m s v x Q S rx P;unfold fAbs at P;split at P
 ·cases rx with
  |cons r n=>cases n;cases r;exact⟨_,rfl,P.here S .int⟩
 ·exact P.elim⟩
def fInt(vs:List PV)(s:Sto):Out PV:=match vs with
 |[.int i]=>.ok (.int i) s
 |[.bl b]=>.ok (.int (if b=true then 1 else 0)) s
 |_=>.bad
def b_int:BltR X CB E (.type "int") fInt:=⟨_,HH,by
 intro H m s v x Q S rx P;unfold fInt at P;split at P
 ·cases rx with
  |cons r n=>cases n;cases r;exact .inl ⟨_,rfl,P.here S .int⟩
 ·cases rx with
  |cons r n=>cases n;cases r;exact .inr ⟨_,rfl,P.here S .int⟩
 ·exact P.elim⟩
def fTuple(vs:List PV)(s:Sto):Out PV:=match vs with
 |[v]=>match lsOf s v with
  |some l=>.ok (.tup l) s
  |none=>.bad
 |_=>.bad
def b_tuple:BltR X CB E (.type "tuple") fTuple:=⟨_,AN,by
 intro H m s v x Q S rx P;unfold fTuple at P;split at P
 ·cases rx with
  |cons r n =>
   cases n;split at P
   ·rename_i l hl;obtain⟨a,vs,rfl,q,r⟩:=r.ls S hl;exact⟨a,vs,rfl,.inl ⟨q,fun p hp=>P.new S hp fun ex S'=>.tup (.inl ⟨.inl lr,S'.pure_tup lr⟩) (r.ext ex)⟩⟩
   ·exact P.elim
 ·exact P.elim⟩
def fList(vs:List PV)(s:Sto):Out PV:=match vs with
 |[.tup l]=>.ok (.lst l) s
 |[v]=>match lsOf s v with
  |some l=>.ok (.lst l) s
  |none=>.bad
 |_=>.bad
def tS:List PV->Option (List Str)
 |[]=>some []
 |.str x::l=>(tS l).map (x::·)
 |_=>none
theorem xF:∀{l:List PV}{ss:List Str},tS l=some ss->l=ss.map PV.str
 |[],_,e=>by cases e;rfl
 |p::l,ss,e=>by
  unfold tS at e;split at e
  ·rename_i h;cases h
  ·rename_i x l' h;cases h;cases c:tS l with
   |none=>rw[c] at e;cases e
   |some t=>rw[c] at e;cases e;rw[xF c];rfl
  ·cases e
def qX(ss:List Str):tS (ss.map PV.str)=some ss:=by
 induction ss with
 |nil=>rfl
 |cons x r ih=>rw[ap];unfold tS;rw[ih];rfl
def keysOf:List (Key×PV)->Option (List Str)
 |[]=>some []
 |(.inr x,_)::l=>(keysOf l).map (x::·)
 |_=>none
theorem BI:∀{l:List (Key×PV)}{ss:List Str},keysOf l=some ss->l.map (·.1)=ss.map ar
 |[],_,e=>by cases e;rfl
 |p::l,ss,e=>by
  unfold keysOf at e;split at e
  ·rename_i h;cases h
  ·rename_i x _ l' h;cases h;cases c:keysOf l with
   |none=>rw[c] at e;cases e
   |some t=>rw[c] at e;cases e;rw[ap,BI c];rfl
  ·cases e
noncomputable def lC(vs:List PV)(s:Sto):Out PV:=match vs with
 |[v]=>match lsOf s v with
  |some l=>match tS l with
   |some ss=>if ss.length<64 then .ok (.lst ((srt ss).map PV.str)) s else .bad
   |none=>.bad
  |none=>match dcOf s v with
   |some l=>match keysOf l with
    |some ss=>if ss.length<64 then .ok (.lst ((srt ss).map PV.str)) s else .bad
    |none=>.bad
   |none=>.bad
 |_=>.bad
def b_sorted(hc:X.calm=true):BltR X CB E (.builtin "sorted") lC:=⟨_,call_sortedL.or (qD hc),by
 intro H m s v x Q S rx P;unfold lC at P;split at P
 ·cases rx with
  |cons r n =>
   cases n;split at P
   ·rename_i l hl;split at P
    ·rename_i ss hs;split at P
     ·rename_i QN;obtain⟨a,vs,rfl,q,r⟩:=r.ls S hl;have e:=xF hs;subst e;rw[r.strs] at q;exact .inl ⟨a,ss,rfl,q,QN,fun p hp=>P.new S hp fun ex S'=>.lst lr (S.pure_none hp) (.ofStrs _)⟩
     ·exact P.elim
    ·exact P.elim
   ·split at P
    ·rename_i l hl;split at P
     ·rename_i ss hs;split at P
      ·rename_i QN;obtain⟨a,vs,rfl,q,r⟩:=r.dc S hl;exact .inr ⟨a,vs,ss,rfl,q,r.keys.trans (BI hs),QN,fun p hp=>P.new S hp fun ex S'=>.lst lr (S.pure_none hp) (.ofStrs _)⟩
      ·exact P.elim
     ·exact P.elim
    ·exact P.elim
 ·exact P.elim⟩
def MF:List PV->Option (List Bool)
 |[]=>some []
 |.bl x::l=>(MF l).map (x::·)
 |_=>none
def fAll(vs:List PV)(s:Sto):Out PV:=match vs with
 |[v]=>match lsOf s v with
  |some l=>match MF l with
   |some bs=>.ok (.bl (bs.all id)) s
   |none=>.bad
  |none=>.bad
 |_=>.bad
noncomputable def xJoin(f:XE)(fa:XA)(ρ:En)(s:Sto):Out PV:=(f ρ s).bind fun v s1=>match v with
 |.str z=>(fa ρ s1).bind fun vs s2=>match vs with
  |[w]=>match lsOf s2 w with
   |some l=>match tS l with
    |some ys=>if(ys.map (·.length)).sum+ys.length*z.length<=16777216 then .ok (.str (cG z ys)) s2 else .bad
    |none=>.bad
   |none=>.bad
  |_=>.bad
 |_=>.bad
def sd(ho:DE X CB E a f)(ha:DA X CB E (e::es) fa)(OL:du a "join" X.env (eval a X.env)=eval a X.env:=by rfl)(O2:((cj Oe (aK (e::es) X.env)).all (fun x=>!x.1)&&(dM Oe (cE [] X.env)).all (fun x=>x.1.isSome)
   && decide ((e::es).length+([]:List dS).length+(if([]:List dS).isEmpty then 0 else 1)<30))=true:=by rfl)(OK:(Og.endLine==Oe.line)=true:=by rfl)(hs:SEb X e es:=by rfl)(Ox:(cj Oe (aK es X.env)).any (·.1)=false:=by rfl) :
  DE X CB E (.Call (.Attribute a "join" Og) (e::es) [] Oe) (xJoin f fa) :=
 ⟨(HL gp PySem.F.slot_str_join PySem.F.type_str_join Ll ho.pe ha.pa OL O2 OK hs Ox).mono fun σ H Q ⟨ρ,s,m,er,S,P⟩=>⟨ρ,s,m,er,S,P.bind fun v s1 u H1 m1 e1 S1 r1 P1=>by
  split at P1
  ·cases r1;refine⟨rfl,ρ,s1,m1,er.ext e1,S1,P1.bind fun vs s2 us H2 m2 e2 S2 r2 P2=>?_⟩;split at P2
   ·cases r2 with
    |cons r n =>
     cases n;split at P2
     ·rename_i l hl;split at P2
      ·rename_i ys hy;split at P2
       ·rename_i hz;obtain⟨b,vs,rfl,q,r⟩:=r.ls S2 hl;have e:=xF hy;subst e;rw[r.strs] at q;exact⟨_,b,ys,rfl,rfl,q,hz,P2.here S2 .str⟩
       ·exact P2.elim
      ·exact P2.elim
     ·exact P2.elim
   ·exact P2.elim
  ·exact P1.elim⟩⟩
noncomputable def xAppend(f:XE)(fa:XA)(ρ:En)(s:Sto):Out PV:=(f ρ s).bind fun v s1=>match v with
 |.ref n=>match s1.get n with
  |some (.lst _)=>(fa ρ s1).bind fun vs s2=>match vs with
   |[w]=>match s2.get n with
    |some (.lst l)=>if l.length<100000 then .ok .non (s2.set n (.lst (l++[w]))) else .bad
    |_=>.bad
   |_=>.bad
  |_=>.bad
 |_=>.bad
def SR.putL{K:aa}{H:Hp}{m:Mp}{s:Sto}{n:Nat}{l l':List PV}{P0:List V}(S:SR K CB H m s)(hn:s.get n=some (.lst l))(r:Reps K H m s P0 l') :
  SR K CB (upd H (m.ad n) (.lst P0)) (m.fput n [m.ad n]) (s.set n (.lst l'))/\Ext H m s (upd H (m.ad n) (.lst P0)) (m.fput n [m.ad n]) (s.set n (.lst l')):=by
 obtain⟨e1,vs,h1,_⟩:=S.get hn;refine S.put hn (by intro _ z;cases z) _ _ (fun a o h ha=>?_) (fun a ha=>.inl (by rw[e1];exact ha)) fun ex=>⟨by show(if n=n then [m.ad n] else m.fp n)=_;rw[if_pos rfl];rfl,P0,lr,r.ext0 ex⟩;rw[e1,au] at ha;rw[lg ha];exact h
def SR.putD{K:aa}{H:Hp}{m:Mp}{s:Sto}{n:Nat}{l l':List (Key×PV)}{P0:List (Key×V)}(S:SR K CB H m s)(hn:s.get n=some (.dct l))(r:RepKs K H m s P0 l') :
  SR K CB (upd H (m.ad n) (.dK P0)) (m.fput n [m.ad n]) (s.set n (.dct l'))/\Ext H m s (upd H (m.ad n) (.dK P0)) (m.fput n [m.ad n]) (s.set n (.dct l')):=by
 obtain⟨e1,vs,h1,_⟩:=S.get hn;refine S.put hn (by intro _ z;cases z) _ _ (fun a o h ha=>?_) (fun a ha=>.inl (by rw[e1];exact ha)) fun ex=>⟨by show(if n=n then [m.ad n] else m.fp n)=_;rw[if_pos rfl];rfl,P0,lr,r.ext0 ex⟩;rw[e1,au] at ha;rw[lg ha];exact h
def vn(ho:DE X CB E a f)(ha:DA X CB E (e::es) fa)(OL:du a "append" X.env (eval a X.env)=eval a X.env:=by rfl)(O2:((cj Oe (aK (e::es) X.env)).all (fun x=>!x.1)&&(dM Oe (cE [] X.env)).all (fun x=>x.1.isSome)
   && decide ((e::es).length+([]:List dS).length+(if([]:List dS).isEmpty then 0 else 1)<30))=true:=by rfl)(OK:(Og.endLine==Oe.line)=true:=by rfl)(hs:SEb X e es:=by rfl)(Ox:(cj Oe (aK es X.env)).any (·.1)=false:=by rfl) :
  DE X CB E (.Call (.Attribute a "append" Og) (e::es) [] Oe) (xAppend f fa) :=
 ⟨(HL PySem.F.plainAttrs_list kA PySem.F.type_list_append BE ho.pe ha.pa OL O2 OK hs Ox).mono fun σ H Q ⟨ρ,s,m,er,S,P⟩=>⟨ρ,s,m,er,S,P.bind fun v s1 u H1 m1 e1 S1 r1 P1=>by
  split at P1
  ·split at P1
   ·rename_i n _ _ hg;obtain⟨_,So,h0,_⟩:=S1.get hg;cases r1 with
    |ref hn =>
    refine⟨.inl ⟨rfl,So,SqL.of h0⟩,ρ,s1,m1,er.ext e1,S1,P1.bind fun vs s2 us H2 m2 e2 S2 r2 P2=>?_⟩;split at P2
    ·cases r2 with
     |cons r n' =>
      cases n';split at P2
      ·rename_i l Rp;split at P2
       ·rename_i hl;obtain⟨f1,vs1,h1,q1⟩:=S2.get Rp;obtain⟨S3,e3⟩:=S2.putL Rp (q1.append (.cons r .nil));rw[<-e2.ad _ hn];exact⟨_,vs1,_,rfl,rfl,h1,by rw[q1.length];exact sz6 hl,P2 _ _ _ e3 S3 .non⟩
       ·exact P2.elim
      ·exact P2.elim
    ·exact P2.elim
   ·exact P1.elim
  ·exact P1.elim⟩⟩
noncomputable def xGet(f g h:XE)(ρ:En)(s:Sto):Out PV:=(f ρ s).bind fun v s1=>match dcOf s1 v with
 |some _=>(g ρ s1).bind fun w s2=>(h ρ s2).bind fun z s3=>match dcOf s3 v with
  |some l=>match kyOf w with
   |some k=>.ok ((pj l k).getD z) s3
   |none=>.bad
  |none=>.bad
 |none=>.bad
def NU(ho:DE X CB E a f)(he:DE X CB E b g)(hf:DE X CB E c h)(hr:Room jr X.A:=by assumption)(mm:M2 X a "get" Og b c Oe:=by exact⟨rfl,rfl,rfl,rfl⟩):DE X CB E (.Call (.Attribute a "get" Og) [b,c] [] Oe) (xGet f g h) :=
 ⟨(zR (nV hr) ho.pe he.pe hf.pe mm).mono fun σ H Q ⟨ρ,s,m,er,S,P⟩=>⟨ρ,s,m,er,S,P.bind fun v s1 u H1 m1 e1 S1 r1 P1=>by
  split at P1
  ·rename_i l0 RT;obtain⟨a,So,rfl,q0,_⟩:=r1.dc S1 RT;refine⟨a,rfl,.inl ⟨So,q0⟩,ρ,s1,m1,er.ext e1,S1,P1.bind fun w s2 u2 H2 m2 e2 S2 r2 P2=>⟨ρ,s2,m2,(er.ext e1).ext e2,S2,P2.bind fun z s3 u3 H3 m3 e3 S3 r3 P3=>?_⟩⟩;split at P3
   ·rename_i l hl;split at P3
    ·rename_i k hk;obtain⟨a',vs,ea,q,r⟩:=((r1.ext e2).ext e3).dc S3 hl;cases ea;refine⟨pN vs k,.inl ⟨vs,k,q,uV (r2.ext e3) hk,rfl⟩,?_⟩;obtain⟨v1,v2⟩:=r.val k;cases cc:pj l k with
     |none=>rw[v2 cc];rw[cc] at P3;exact P3.here S3 r3
     |some p=>obtain⟨u,e,ru⟩:=v1 p cc;rw[e];rw[cc] at P3;exact P3.here S3 ru
    ·exact P3.elim
   ·exact P3.elim
  ·exact P1.elim⟩⟩
def xNewD(_:En)(s:Sto):Out PV:=.ok (.ref s.nx) (s.add (.dct []))
def GG:DE X CB E (.Dict [] [] pos) xNewD:=⟨pe_dnewK.mono fun σ H Q ⟨ρ,s,m,er,S,P⟩ p hp=>by obtain⟨S2,e2⟩:=S.newD hp (My.rm hp) lr .nil;exact P _ _ _ e2 S2 .new⟩
end
def Out.so{α:Type}(o:Out α)(k:α->Sto->SO):SO:=match o with
 |.ok a s=>k a s
 |.ex c s=>.ex c s
 |.bad=>.bad
def SO.noex:SO->SO
 |.ex _ _=>.bad
 |o=>o
def PostS.shift{K:aa}{CB:al}{E:XK}{o:SO}{H H1:Hp}{m m1:Mp}{s s1:Sto}{D:Ends}(e:Ext H m s H1 m1 s1)(h:PostS K CB E o H m s D):PostS K CB E o H1 m1 s1 D:=by
 cases o with
 |nx=>exact fun σ' H' m' x=>h σ' H' m' (e.trans x)
 |rt=>exact fun σ' H' m' x=>h σ' H' m' (e.trans x)
 |bk=>exact fun σ' H' m' x=>h σ' H' m' (e.trans x)
 |ct=>exact fun σ' H' m' x=>h σ' H' m' (e.trans x)
 |ex=>exact fun H' m' x=>h H' m' (e.trans x)
 |bad=>exact h
theorem Post.so{α β:Type}{K:aa}{CB:al}{R:Hp->Mp->Sto->β->α->Prop}{E:XK}{o:Out α}{k:α->Sto->SO}{H:Hp}{m:Mp}{s:Sto}{D:Ends}{Q1:β->Hp->Prop}(h:PostS K CB E (o.so k) H m s D)(f:∀v s1 u H1 m1,Ext H m s H1 m1 s1->SR K CB H1 m1 s1->R H1 m1 s1 u v->PostS K CB E (k v s1) H1 m1 s1 D->Q1 u H1):Post K CB R E o H m s Q1:=by
 cases o with
 |ok v s1=>exact fun u H1 m1 x S r=>f v s1 u H1 m1 x S r (PostS.shift x h)
 |ex c s'=>exact h
 |bad=>exact h
def PostS.next{K:aa}{CB:al}{E:XK}{ρ:En}{H:Hp}{m:Mp}{s:Sto}{D:Ends}{σ:St}(h:PostS K CB E (.nx ρ s) H m s D)(S:SR K CB H m s)(er:ER K H m s σ ρ):D.nx σ H:=h σ H m .refl S er
theorem PostS.noex{K:aa}{CB:al}{E:XK}{o:SO}{H:Hp}{m:Mp}{s:Sto}{D:Ends}(h:PostS K CB E o.noex H m s D):PostS K CB E0 o H m s D:=by cases o<;>first|exact h|exact bH h
def xSet(i:Nat)(f:XE)(ρ:En)(s:Sto):SO:=(f ρ s).so fun v s1=>.nx (ρ.set i (some v)) s1
def xRet(f:XE)(ρ:En)(s:Sto):SO:=(f ρ s).so fun v s1=>.rt v s1
def xRetN(_:En)(s:Sto):SO:=.rt .non s
def xDo(f:XE)(ρ:En)(s:Sto):SO:=(f ρ s).so fun _ s1=>.nx ρ s1
def xIf(t:XT)(g h:XS)(ρ:En)(s:Sto):SO:=(t ρ s).so fun b s1=>if b=true then g ρ s1 else h ρ s1
def xEnd(ρ:En)(s:Sto):SO:=.nx ρ s
def xSeq(g h:XS)(ρ:En)(s:Sto):SO:=match g ρ s with
 |.nx ρ' s'=>h ρ' s'
 |o=>o
section
variable{X:Cx}{CB:al}{E:XK}{a b c e:bj}{es:List bj}{f g h:XE}{fa:XA}{t:XT}{p pos Oy Og Oe:Pos}{x:Str}{st:bL}{oY PF Pe:List bL}{u v:XS}
theorem PS.nox{t:TS}(h:PS X.nox st t):PS X st t:=fun Ob s σ H D I hw=>bK (h Ob s σ H D (I.wish _) hw) (fun _ _ q=>q.unwish) fun _ _ z=>bH z
def lL(i:Nat)(he:DE X CB E e f)(hN:X.N.Nodup:=by exact ‹FnScope _ _ _›.nd)(hi:X.N[i]?=some x:=by rfl)(hx:Loc X.env.scope x:=by first|exact eR rfl|exact gJ rfl)(hs:fO e (some (.Name x Oy)) pos.line X.env=pure false:=by rfl)(hf:X.fn x=true\/X.env.scope.names.lookup x=some .local:=by first|exact .inl rfl|exact .inr rfl|assumption):DS X CB E (.Assign [.Name x Oy] e pos) (xSet i f) :=
 ⟨(su hN hi hx he.pe hs hf).mono fun D σ H ⟨ρ,s,m,er,S,P⟩=>⟨ρ,s,m,er,S,Post.so P fun v s1 u H1 m1 e1 S1 r1 P1=>P1.next S1 ((er.ext e1).set i r1)⟩⟩
def lP(he:DE X CB E e f):DS X CB E (.Return (some e) pos) (xRet f) :=
 ⟨(qz he.pe).mono fun D σ H ⟨ρ,s,m,er,S,P⟩=>⟨ρ,s,m,er,S,Post.so P fun v s1 u H1 m1 e1 S1 r1 P1=>P1 u H1 m1 .refl S1 r1⟩⟩
def pT(he:DE X CB E e f)(hs:fO e none pos.line X.env=pure false:=by rfl):DS X CB E (.Expr e pos) (xDo f) :=
 ⟨(nL he.pe hs).mono fun D σ H ⟨ρ,s,m,er,S,P⟩=>⟨ρ,s,m,er,S,Post.so P fun v s1 u H1 m1 e1 S1 r1 P1=>P1.next S1 (er.ext e1)⟩⟩
def nI(hc:DT X CB E c t)(ha:DSs X CB E PF u)(hb:DSs X CB E Pe v):DS X CB E (.If c PF Pe pos) (xIf t u v) :=
 ⟨(wL hc.pt ha.pss hb.pss).mono fun D σ H ⟨ρ,s,m,er,S,P⟩=>⟨ρ,s,m,er,S,Post.so P fun v s1 u H1 m1 e1 S1 r1 P1=>by
  cases r1;refine tQ (fun c=>?_) fun c=>?_
  ·rw[if_pos c] at P1;exact⟨ρ,s1,m1,er.ext e1,S1,P1⟩
  ·rw[if_neg c] at P1;exact⟨ρ,s1,m1,er.ext e1,S1,P1⟩⟩⟩
def ma:DSs X CB E [] xEnd:=⟨pss_nil.mono fun D σ H ⟨ρ,s,m,er,S,P⟩=>P.next S er⟩
def lv(h:DS X CB E st u):DSs X CB E [st] u:=⟨lQ h.ps⟩
def lf(h:DS X CB E st u)(k:DSs X CB E oY v):DSs X CB E (st::oY) (xSeq u v) :=
 ⟨(lM h.ps k.pss).mono fun D σ H ⟨ρ,s,m,er,S,P⟩=>⟨ρ,s,m,er,S,by
  unfold xSeq at P;cases c:u ρ s with
  |nx ρ' s'=>rw[c] at P;exact fun σ' H' m' x S' er'=>⟨ρ',s',m',er',S',PostS.shift x P⟩
  |rt=>rw[c] at P;exact P
  |bk=>rw[c] at P;exact P
  |ct=>rw[c] at P;exact P
  |ex=>rw[c] at P;exact P
  |bad=>rw[c] at P;exact P⟩⟩
abbrev XG:=PV->En->Sto->Option En
abbrev XGs:=List PV->En->Sto->Option En
def TDG(K:aa)(CB:al)(h:XG):TG:=fun v σ H Q=>∃ρ s m q ρ',ER K H m s σ ρ/\SR K CB H m s/\Rep K H m s v q/\h q ρ s=some ρ'/\∀σ',ER K H m s σ' ρ'->Q σ' H
def TDGs(K:aa)(CB:al)(h:XGs):TGs:=fun v σ H Q=>∃ρ s m q ρ',ER K H m s σ ρ/\SR K CB H m s/\Reps K H m s v q/\h q ρ s=some ρ'/\∀σ',ER K H m s σ' ρ'->Q σ' H
structure DG(X:Cx)(CB:al)(tg:bj)(h:XG):Prop where
 pg:PG X tg (TDG X.K CB h)
structure DGs(X:Cx)(CB:al)(tg:List bj)(h:XGs):Prop where
 pgs:PGs X tg (TDGs X.K CB h)
def PG.mono{tg:bj}{t t':TG}(h:PG X tg t)(k:∀v σ H Q,t' v σ H Q->t v σ H Q):PG X tg t':=fun Ob s σ H v u Q I r q=>h Ob s σ H v u Q I r (k v σ H Q q)
def PGs.mono{tg:List bj}{t t':TGs}(h:PGs X tg t)(k:∀v σ H Q,t' v σ H Q->t v σ H Q):PGs X tg t':=fun Ob s σ H v u Q I r q=>h Ob s σ H v u Q I r (k v σ H Q q)
def PG.or{tg:bj}{t t':TG}(h:PG X tg t)(h':PG X tg t'):PG X tg (fun v σ H Q=>t v σ H Q\/t' v σ H Q):=fun Ob s σ H v u Q I r q=>q.elim (h Ob s σ H v u Q I r) (h' Ob s σ H v u Q I r)
def yName(i:Nat)(q:PV)(ρ:En)(_:Sto):Option En:=some (ρ.set i (some q))
def yNil(q:List PV)(ρ:En)(_:Sto):Option En:=match q with
 |[]=>some ρ
 |_=>none
def yCons(h:XG)(k:XGs)(q:List PV)(ρ:En)(s:Sto):Option En:=match q with
 |p::r=>(h p ρ s).bind fun ρ'=>k r ρ' s
 |[]=>none
noncomputable def yTup(n:Nat)(k:XGs)(q:PV)(ρ:En)(s:Sto):Option En:=match q with
 |.tup l=>if l.length=n then k l ρ s else none
 |q=>match lsOf s q with
  |some l=>if l.length=n then k l ρ s else none
  |none=>none
def lS(i:Nat)(hN:X.N.Nodup:=by exact ‹FnScope _ _ _›.nd)(hi:X.N[i]?=some x:=by rfl)(hx:Loc X.env.scope x:=by first|exact eR rfl|exact gJ rfl)(hf:X.fn x=true\/X.env.scope.names.lookup x=some .local:=by first|exact .inl rfl|exact .inr rfl|assumption):DG X CB (.Name x pos) (yName i) :=
 ⟨(Gj hN hi hx hf).mono fun v σ H Q ⟨ρ,s,m,q,ρ',er,S,r,e,k⟩=>by cases e;exact k _ (er.set i r)⟩
def vR:DGs X CB [] yNil:=⟨pgs_nil.mono fun v σ H Q ⟨ρ,s,m,q,ρ',er,S,r,e,k⟩=>by
 unfold yNil at e;split at e<;>cases e
 cases r;exact⟨rfl,k _ er⟩⟩
def mR{h:XG}{k:XGs}(h1:DG X CB e h)(h2:DGs X CB es k)(hs:(cF (e::es) X.env).map (·.2)=assign e X.env::(cF es X.env).map (·.2):=by rfl):DGs X CB (e::es) (yCons h k) :=
 ⟨(II h1.pg h2.pgs hs).mono fun v σ H Q ⟨ρ,s,m,q,ρ',er,S,r,e,kk⟩=>by
  unfold yCons at e;split at e
  ·rename_i p r';cases r with
   |cons a b =>
    cases c:h p ρ s with
    |none=>rw[c] at e;cases e
    |some ρ1 =>
     rw[c] at e;exact⟨_,_,rfl,ρ,s,m,p,ρ1,er,S,a,c,fun σ1 er1=>⟨ρ1,s,m,r',ρ',er1,S,b,e,kk⟩⟩
  ·cases e⟩
def yF{k:XGs}{n k0:Nat}(h:DGs X CB es k)(hc:X.calm=true:=by rfl)(hn:(cF es X.env).length=n:=by rfl)(O6:(cF es X.env).findIdx? (·.1)=none:=by rfl):DG X CB (.Tuple es k0 pos) (yTup n k) :=
 ⟨((Nc hc h.pgs hn O6).or (Nf hc h.pgs hn O6)).mono fun v σ H Q ⟨ρ,s,m,q,ρ',er,S,r,e,kk⟩=>by
  unfold yTup at e;split at e
  ·split at e
   ·rename_i hl;obtain⟨a,vs,rfl,q1,r1⟩:=r.tp;exact .inl ⟨a,vs,rfl,q1,r1.length.trans hl,ρ,s,m,_,ρ',er,S,r1,e,kk⟩
   ·cases e
  ·split at e
   ·rename_i l RT;split at e
    ·rename_i hl;obtain⟨a,vs,rfl,q1,r1⟩:=r.ls S RT;exact .inr ⟨a,vs,rfl,q1,r1.length.trans hl,ρ,s,m,_,ρ',er,S,r1,e,kk⟩
    ·cases e
   ·cases e⟩
def xAsg(f:XE)(h:XG)(ρ:En)(s:Sto):SO:=(f ρ s).so fun v s1=>match h v ρ s1 with
 |some ρ'=>.nx ρ' s1
 |none=>.bad
def AK{h:XG}{tg:bj}(he:DE X CB E e f)(hg:DG X CB tg h)(hs:gG [tg] e pos.line X.env=pure false:=by rfl)(hw:gH [tg] e X.env=pure none:=by rfl)(h1:(cF [tg] X.env).map (·.2)=[assign tg X.env]:=by rfl):DS X CB E (.Assign [tg] e pos) (xAsg f h) :=
 ⟨(JL he.pe hg.pg hs hw h1).mono fun D σ H ⟨ρ,s,m,er,S,P⟩=>⟨ρ,s,m,er,S,Post.so P fun v s1 u H1 m1 e1 S1 r1 P1=>by
  split at P1
  ·rename_i ρ' hρ;exact⟨ρ,s1,m1,v,ρ',er.ext e1,S1,r1,hρ,fun σ' er'=>P1.next S1 er'⟩
  ·exact P1.elim⟩⟩
def xPar(i j:Nat)(fa:XA)(ρ:En)(s:Sto):SO:=(fa ρ s).so fun vs s1=>match vs with
 |[v,w]=>.nx ((ρ.set i (some v)).set j (some w)) s1
 |_=>.bad
def NP{kt k2 pt2}(hc:X.calm=true)(hN:X.N.Nodup)(hi:X.N[i]?=some x)(hj:X.N[j]?=some y)(SS:i≠j)(hx:X.env.scope.names.lookup x=some .local)(hy:X.env.scope.names.lookup y=some .local)(ha:DA X CB E [a,b] fa)(hw:gH [.Tuple [.Name x px,.Name y py] kt pt] (.Tuple [a,b] k2 pt2) X.env=pure (some [x,y]))(hs:gG [.Tuple [.Name x px,.Name y py] kt pt] (.Tuple [a,b] k2 pt2) pos.line X.env=pure false:=by rfl):DS X CB E (.Assign [.Tuple [.Name x px,.Name y py] kt pt] (.Tuple [a,b] k2 pt2) pos) (xPar i j fa) :=
 ⟨(M9 hc hN hi hj SS hx hy ha.pa hw hs).mono fun D σ H ⟨ρ,s,m,er,S,P⟩=>⟨ρ,s,m,er,S,Post.so P fun v s1 u H1 m1 e1 S1 r1 P1=>by
  split at P1
  ·cases r1 with
   |cons a b =>
    cases b with
    |cons b c=>cases c;exact⟨_,_,rfl,P1.next S1 (((er.ext e1).set i a).set j b)⟩
  ·exact P1.elim⟩⟩
noncomputable def nN(o i v:PV)(s:Sto):Option Sto:=match o with
 |.ref n=>match s.get n with
  |some (.lst l)=>match i with
   |.int k=>match ixN l.length k with
    |some j=>some (s.set n (.lst (l.set j v)))
    |none=>none
   |_=>none
  |some (.dct l)=>match kyOf i with
   |some k=>if l.length<100000 then some (s.set n (.dct (HV l k v))) else none
   |none=>none
  |_=>none
 |_=>none
def xPut(fo fi fv:XE)(ρ:En)(s:Sto):SO:=(fv ρ s).so fun v s1=>(fo ρ s1).so fun o s2=>(fi ρ s2).so fun i s3=>match nN o i v s3 with
 |some s4=>.nx ρ s4
 |none=>.bad
def Mj:V->V->V->Hp->(Hp->Prop)->Prop:=fun o i v H Q=>∃a H',o=.ref a/\DPut H a i v H'/\Q H'
def Ip(hu:X.A.units+1<fE):PSet X Mj:=by intro Ob s σ H o i v ov iv u Q I ro ri rv h;obtain⟨a,H',rfl,g,q⟩:=h;obtain rfl:ov=bz a:=ro;exact BU hu I g ri rv fun s4 I4=>⟨H',I4,q⟩
def PSet.or{t t':MI}(h:PSet X t)(h':PSet X t'):PSet X (fun o i v H Q=>t o i v H Q\/t' o i v H Q):=fun Ob s σ H o i v ov iv u Q I r1 r2 r3 q=>q.elim (h Ob s σ H o i v ov iv u Q I r1 r2 r3) (h' Ob s σ H o i v ov iv u Q I r1 r2 r3)
def M7{K:aa}{H:Hp}{m:Mp}{s s':Sto}{o i v:PV}{xo xi xv:V}(S:SR K CB H m s)(ro:Rep K H m s xo o)(ri:Rep K H m s xi i)(rv:Rep K H m s xv v)(e:nN o i v s=some s'){Q:Hp->Prop}(hq:∀H' m',Ext H m s H' m' s'->SR K CB H' m' s'->Q H'):Mi xo xi xv H Q\/Mj xo xi xv H Q:=by
 unfold nN at e;split at e
 ·split at e
  ·rename_i l hg;split at e
   ·split at e
    ·rename_i j hj;cases e;cases ro;cases ri;obtain⟨_,vs,h1,q1⟩:=S.get hg;obtain⟨S2,e2⟩:=S.putL hg (q1.set j rv);exact .inl ⟨_,vs,_,j,rfl,rfl,h1,by rw[q1.length];exact hj,hq _ _ e2 S2⟩
    ·cases e
   ·cases e
  ·rename_i l hg;split at e
   ·rename_i k hk;split at e
    ·rename_i hl;cases e;cases ro;obtain⟨_,vs,h1,q1⟩:=S.get hg;obtain⟨S2,e2⟩:=S.putD hg (q1.put k rv);exact .inr ⟨_,_,rfl,.inl ⟨vs,k,h1,uV ri hk,by rw[q1.length];exact sz6 hl,rfl⟩,hq _ _ e2 S2⟩
    ·cases e
   ·cases e
  ·cases e
 ·cases e
def AJ{O0:Pos}(ho:DE X CB E a f)(hi:DE X CB E b g)(hv:DE X CB E e h){jr:Nat}(hr:Room jr X.A:=by assumption)(hs:gG [gU a b O0] e pos.line X.env=pure false:=by rfl)(hw:gH [gU a b O0] e X.env=pure none:=by rfl)(h1:(cF [gU a b O0] X.env).map (·.2)=[assign (gU a b O0) X.env]:=by rfl)(ha:∀v,assign (.Subscript a b O0) X.env v=(do
   let ov <-holding [v] (eval a X.env);let iv <-holding [v,ov] (eval b X.env)
   gy O0
   holding [v,ov,iv] (setItem ov iv v)
   release [v,ov,iv] []):=by intro _;rfl):DS X CB E (.Assign [.Subscript a b O0] e pos) (xPut f g h) :=
 ⟨(JL hv.pe (Nd ho.pe hi.pe (set_list.or (Ip (nV hr))) ha) hs hw h1).mono fun D σ H ⟨ρ,s,m,er,S,P⟩=>⟨ρ,s,m,er,S,Post.so P fun v s1 u H1 m1 e1 S1 r1 P1 =>
  ⟨ρ,s1,m1,er.ext e1,S1,Post.so P1 fun o s2 uo H2 m2 e2 S2 r2 P2=>⟨ρ,s2,m2,(er.ext e1).ext e2,S2,Post.so P2 fun i s3 ui H3 m3 e3 S3 r3 P3=>by
   split at P3
   ·rename_i s4 h4;exact M7 S3 (r2.ext e3) r3 ((r1.ext e2).ext e3) h4 fun H' m' x S'=>P3 σ H' m' x S' ((((er.ext e1).ext e2).ext e3).ext x)
   ·exact P3.elim⟩⟩⟩⟩
def qU(K:aa)(CB:al)(J:It)(l:List PV)(H0:Hp)(m0:Mp)(s0:Sto):Prop:=∀i H m s,Ext0 H0 m0 s0 H m s->SR K CB H m s ->
 (∀q,l[i]?=some q->J.go i H/\∀x H',J.yld i H x H'->Ext H m s H' m s/\SR K CB H' m s/\Rep K H' m s x q)/\(l.length<=i->J.stop i H)
noncomputable def TDI(K:aa)(CB:al)(E:XK)(f:XA):TI:=fun σ H R=>∃ρ s m,ER K H m s σ ρ/\SR K CB H m s/\match f ρ s with
 |.ok l s'=>∀J H' m',Ext H m s H' m' s'->SR K CB H' m' s'->qU K CB J l H' m' s'->R J H'
 |.ex c s'=>∀H' m',Ext H m s H' m' s'->SR K CB H' m' s'->E (.ref c) none H'
 |.bad=>False
structure DI(X:Cx)(CB:al)(E:XK)(tg e:bj)(f:XA):Prop where
 pi:PI X tg e (TDI X.K CB E f)
def PI.mono{tg:bj}{t t':TI}(h:PI X tg e t)(k:∀σ H R,t' σ H R->t σ H R):PI X tg e t':=fun Ob s σ H R I q=>h Ob s σ H R I (k σ H R q)
end
section
variable{X:Cx}{CB:al}{E:XK}{a b c e tg:bj}{es:List bj}{f g h:XE}{fa fi:XA}{t:XT}{p pos Oy Og Oe:Pos}{x:Str}{st:bL}{oY PF Pe:List bL}{u v:XS}
def xIter(f:XE)(ρ:En)(s:Sto):Out (List PV):=(f ρ s).bind fun v s1=>match v with
 |.lst l=>.ok l s1
 |.seq l=>.ok l s1
 |.tup l=>.ok l s1
 |_=>.bad
def Mx{K:aa}{H0:Hp}{m0:Mp}{s0:Sto}{b:al}{q:PV}{l:List PV}(r:Rep K H0 m0 s0 (.ref b) q)(hl:∀s,lsOf s q=some l):qU K CB (Itl K b) l H0 m0 s0:=by intro i H m s ex S;obtain⟨b',vs,e,hq,rs⟩:=(r.ext0 ex.toExtR).ls S (hl s);cases e;refine⟨fun q' PZ=>?_,fun hi=>⟨vs,hq,by rw[rs.length];exact hi⟩⟩;obtain⟨u,hu,ru⟩:=rs.get PZ;refine⟨⟨vs,u,hq,hu⟩,fun x H' ⟨e1,e2⟩=>?_⟩;subst e1;have e3:=e2 vs hq;rw[hu] at e3;cases e3;exact⟨.refl,S,ru⟩
def iterT{K:aa}{H0:Hp}{m0:Mp}{s0:Sto}{b:al}{l:List PV}(r:Rep K H0 m0 s0 (.ref b) (.tup l)):qU K CB (Itt K b) l H0 m0 s0:=by intro i H m s ex S;obtain⟨b',vs,e,hq,rs⟩:=(r.ext0 ex.toExtR).tp;cases e;refine⟨fun q' PZ=>?_,fun hi=>⟨vs,hq,by rw[rs.length];exact hi⟩⟩;obtain⟨u,hu,ru⟩:=rs.get PZ;refine⟨⟨vs,u,hq,hu⟩,fun x H' ⟨e1,e2⟩=>?_⟩;subst e1;have e3:=e2 vs hq;rw[hu] at e3;cases e3;exact⟨.refl,S,ru⟩
def iLT(K:aa)(tl:TE):TI:=fun σ H R=>tl σ H fun x H1=>(∃a,x=.ref a/\(∃xs,SqL K H1 a xs)/\R (Itl K a) H1)\/(∃a,x=.ref a/\(∃xs,SqT K H1 a xs)/\R (Itt K a) H1)
def pi_lt(hl:PE X e tl):PI X tg e (iLT X.K tl):=by
 intro Ob s σ H R I h;refine thn (hl Ob s σ H _ I h) fun v s1 ⟨x,H1,I1,r1,q1⟩=>?_;rcases q1 with⟨a,e,⟨xs,hq⟩,q⟩|⟨a,e,⟨xs,hq⟩,q⟩
 ·subst e;cases r1;obtain⟨its,rv,p,hz⟩:=I1.list hq;refine jg p.isList ?_;refine⟨s1.heap.objs.size,[s1.heap.objs.size],_,_,H1,rfl,I1.kept (t':=s1.toks) fun b o e=>aG _ e,Bj a _,⟨_,bC _ rfl,rfl,rfl⟩,fun b hb=>?_,q⟩;have e:b=s1.heap.objs.size:=by simpa using hb
  subst e;exact I1.fpOk (ax _) (I1.hok.fresh (ax _))
 ·subst e;cases r1;obtain⟨its,rv,p,hz⟩:=I1.tuple hq;refine wpAny_pyIter_tuple (show s1.heap.IsTuple a its.toArray from p) ?_;refine⟨s1.heap.objs.size,[s1.heap.objs.size],_,_,H1,rfl,I1.kept (t':=s1.toks) fun b o e=>aG _ e,EL a _,⟨_,bC _ rfl,rfl,rfl⟩,fun b hb=>?_,q⟩;have e:b=s1.heap.objs.size:=by simpa using hb
  subst e;exact I1.fpOk (ax _) (I1.hok.fresh (ax _))
theorem TDI.bind(q:TDI X.K CB E (fun ρ s=>(f ρ s).bind F) σ H R)(k:∀v s1 u H1 m1,SR X.K CB H1 m1 s1->Rep X.K H1 m1 s1 u v->(match F v s1 with
  |.ok l s'=>∀J H' m',Ext H1 m1 s1 H' m' s'->SR X.K CB H' m' s'->qU X.K CB J l H' m' s'->R J H'
  |.ex c s'=>∀H' m',Ext H1 m1 s1 H' m' s'->SR X.K CB H' m' s'->E (.ref c) none H'
  |.bad=>False)->Q u H1):TDE X.K CB E f σ H Q:=by
 obtain⟨ρ,s,m,er,S,P⟩:=q;refine⟨ρ,s,m,er,S,?_⟩;cases c:f ρ s with
 |ok v s1 =>
  simp only[c,Out.bind] at P;refine fun u H1 m1 e1 S1 r1=>k v s1 u H1 m1 S1 r1 ?_;cases d:F v s1 with
  |ok l s'=>rw[d] at P;exact fun J H' m' x=>P J H' m' (e1.trans x)
  |ex c' s'=>rw[d] at P;exact fun H' m' x=>P H' m' (e1.trans x)
  |bad=>rw[d] at P;exact P
 |ex c' s'=>simp only[c,Out.bind] at P;exact P
 |bad=>simp only[c,Out.bind] at P
def oO(hl:DE X CB E e f):DI X CB E tg e (xIter f):=⟨(pi_lt hl.pe).mono fun σ H R q=>TDI.bind q fun v s1 u H1 m1 S1 r1 P=>by
 cases r1 with
 |lst h1 h2 h3=>exact .inl ⟨_,rfl,⟨_,SqL.of h1⟩,P _ _ _ .refl S1 (Mx (.lst h1 h2 h3) fun _=>rfl)⟩
 |seq h1 h3=>exact .inl ⟨_,rfl,⟨_,h1.elim (fun z=>.inl (.inr z.1)) .inr⟩,P _ _ _ .refl S1 (Mx (.seq h1 h3) fun _=>rfl)⟩
 |tup h1 h3=>exact .inr ⟨_,rfl,⟨_,h1.elim (fun z=>.inl z.1) .inr⟩,P _ _ _ .refl S1 (iterT (.tup h1 h3))⟩
 |_=>exact P.elim⟩
def strP(x:Str):List PV:=x.cps.toList.map fun c=>PV.str ⟨#[c]⟩
def xIterS(f:XE)(ρ:En)(s:Sto):Out (List PV):=(f ρ s).bind fun v s1=>match v with
 |.str x=>.ok (strP x) s1
 |_=>.bad
def vG(lo:Int)(n:Nat):List PV:=(gA n).map fun(k:Nat)=>PV.int (lo+k)
def xRng1(fa:XA)(ρ:En)(s:Sto):Out (List PV):=(fa ρ s).bind fun vs s1=>match vs with
 |[.int j]=>if -(2^62)<=j/\j<2^62 then .ok (vG 0 j.toNat) s1 else .bad
 |_=>.bad
def iterR{K:aa}{lo:Int}{n:Nat}{H0:Hp}{m0:Mp}{s0:Sto}:qU K CB (Itr lo n) (vG lo n) H0 m0 s0:=by
 intro i H m s ex S;refine⟨fun q hq=>?_,fun hi=>?_⟩
 ·unfold vG at hq;rw[bu] at hq;by_cases hi:i<n
  ·rw[kP hi] at hq;cases hq;exact⟨hi,fun x H' ⟨e1,e2⟩=>by subst e1 e2;exact⟨.refl,S,.int⟩⟩
  ·rw[kC (by simpa using hi)] at hq;cases hq
 ·unfold vG at hi;rw[af,List.length_range] at hi;exact hi
def TDI.bindA(q:TDI X.K CB E (fun ρ s=>(fa ρ s).bind F) σ H R)(k:∀v s1 u H1 m1,SR X.K CB H1 m1 s1->Reps X.K H1 m1 s1 u v->(match F v s1 with
  |.ok l s'=>∀J H' m',Ext H1 m1 s1 H' m' s'->SR X.K CB H' m' s'->qU X.K CB J l H' m' s'->R J H'
  |.ex c s'=>∀H' m',Ext H1 m1 s1 H' m' s'->SR X.K CB H' m' s'->E (.ref c) none H'
  |.bad=>False)->Q u H1):TDA X.K CB E fa σ H Q:=by
 obtain⟨ρ,s,m,er,S,P⟩:=q;refine⟨ρ,s,m,er,S,?_⟩;cases c:fa ρ s with
 |ok v s1 =>
  simp only[c,Out.bind] at P;refine fun u H1 m1 e1 S1 r1=>k v s1 u H1 m1 S1 r1 ?_;cases d:F v s1 with
  |ok l s'=>rw[d] at P;exact fun J H' m' x=>P J H' m' (e1.trans x)
  |ex c' s'=>rw[d] at P;exact fun H' m' x=>P H' m' (e1.trans x)
  |bad=>rw[d] at P;exact P
 |ex c' s'=>simp only[c,Out.bind] at P;exact P
 |bad=>simp only[c,Out.bind] at P
def qT(ha:DA X CB E [a] fa)(hg:Gl X "range":=by rfl)(hm:X.mg "range"=none:=by exact T.b_range)(hs:aK [a] X.env=[(false,eval a X.env)]:=by rfl):DI X CB E tg (.Call (.Name "range" p) [a] [] pos) (xRng1 fa) :=
 ⟨(G6 hg hm ha.pa hs).mono fun σ H R q=>TDI.bindA q fun v s1 u H1 m1 S1 r1 P=>by
  split at P
  ·rename_i l s' hF;split at hF
   ·split at hF<;>cases hF
    rename_i hj;cases r1 with
    |cons r n=>cases n;cases r;exact⟨_,rfl,hj.1,hj.2,P _ _ _ .refl S1 iterR⟩
   ·cases hF
  ·rename_i hF;split at hF
   ·split at hF<;>cases hF
   ·cases hF
  ·exact P.elim⟩
def BJ:Key->PV
 |.inl i=>.int i
 |.inr x=>.str x
def xIterD(f:XE)(ρ:En)(s:Sto):Out (List PV):=(f ρ s).bind fun v s1=>match v with
 |.dct l=>.ok (l.map fun kv=>BJ kv.1) s1
 |_=>.bad
noncomputable def iDict(tl:TE):TI:=fun σ H R=>tl σ H fun x H1=>∃d kvs,x=.ref d/\((H1 d=some (.dK kvs)/\∀ob,R (Itd d ob kvs) (upd H1 d (.frz ob (.dK kvs))))\/∃ob,H1 d=some (.frz ob (.dK kvs))/\R (Itd d ob kvs) H1)
def Gh(hl:PE X e tl):PI X tg e (iDict tl):=by
 intro Ob s σ H R I h;refine thn (hl Ob s σ H _ I h) fun v s1 ⟨x,H1,I1,r1,q1⟩=>?_;obtain⟨d,kvs,e,q1⟩:=q1;subst e;cases r1;have hd:Rd H1 d (.dK kvs):=q1.elim (fun z=>.inl z.1) fun⟨ob,z,_⟩=>.inr ⟨ob,z⟩;obtain⟨z,QX,vs,rel,dd⟩:=wT I1.hok hd;obtain⟨ep,at_⟩:=dd.dictAt;obtain⟨ob,es,ho,T4,R6,hrest⟩:=id at_;refine wpAny_pyIter_dict QX at_ ?_;have hl:=rel.length;have I2:Inv X Ob σ H1 { s1 with heap:=s1.heap.push { cls:=.type "dict_keyiterator",data:=.fields #[.ref d,.int 0 0,.int vs.length 0,.int ep 0] } }:=I1.kept (t':=s1.toks) fun b o e=>aG _ e;have Ot:s1.heap.objs.size≠d:=fun z=>by have:=aP ho;rw[z] at this;exact dE _ this
 have Pg:(0<=kvs.length/\(s1.heap.push { cls:=.type "dict_keyiterator",data:=.fields #[.ref d,.int 0 0,.int vs.length 0,.int ep 0] }).IsKeyIter s1.heap.objs.size d 0 kvs.length ep):=by refine⟨ba _,{ cls:=.type "dict_keyiterator",data:=.fields #[.ref d,.int 0 0,.int vs.length 0,.int ep 0] },bC _ rfl,rfl,?_⟩;rw[hl];rfl
 rcases q1 with⟨R7,q⟩|⟨Ri,R7,q⟩
 ·refine⟨s1.heap.objs.size,[s1.heap.objs.size],_,Itd d ob kvs,_,rfl,I2.freeze R7 (aG _ ho),Bk d _ ob kvs es ep R6,Pg,fun b hb=>?_,q ob⟩;have e:b=s1.heap.objs.size:=by simpa using hb
  subst e;refine I1.fpOk (ax _) ?_;rw[lg Ot];exact I1.hok.fresh (ax _)
 ·have e0:Ri=ob:=by obtain⟨e1,_⟩:=(show ObjOk X.prog X.w H1 s1.heap d (.frz Ri (.dK kvs)) from I1.hok d _ R7);rw[ho] at e1;exact(aU e1).symm
  subst e0;refine⟨s1.heap.objs.size,[s1.heap.objs.size],_,Itd d Ri kvs,_,rfl,I2,Bk d _ Ri kvs es ep R6,Pg,fun b hb=>?_,q⟩;have e:b=s1.heap.objs.size:=by simpa using hb
  subst e;exact I1.fpOk (ax _) (I1.hok.fresh (ax _))
def NH{K:aa}{H:Hp}{m:Mp}{s:Sto}(k:Key):Rep K H m s (kV k) (BJ k):=by
 cases k with
 |inl i=>exact .int
 |inr x=>exact .str
theorem RepKs.get:∀{K:aa}{H:Hp}{m:Mp}{s:Sto}{vs:List (Key×V)}{l:List (Key×PV)}{i:Nat}{q:Key×PV},RepKs K H m s vs l->l[i]?=some q->∃w,vs[i]?=some w/\w.1=q.1
 |_,_,_,_,_,_,_,_,.nil,e=>by simp at e
 |_,_,_,_,_,_,0,_,.cons _ _,e=>by simp at e;subst e;exact⟨_,rfl,rfl⟩
 |_,_,_,_,_,_,i+1,q,.cons _ b,e=>by obtain⟨w,h1,h2⟩:=b.get (i:=i) (q:=q) (by simpa using e);exact⟨w,by simpa using h1,h2⟩
def Ki{K:aa}{H0:Hp}{m0:Mp}{s0:Sto}{d:al}{ob:Obj}{kvs:List (Key×V)}{l:List (Key×PV)}(hd:∀H m s,Ext0 H0 m0 s0 H m s->SR K CB H m s->H d=some (.frz ob (.dK kvs)))(r:RepKs K H0 m0 s0 kvs l):qU K CB (Itd d ob kvs) (l.map fun kv=>BJ kv.1) H0 m0 s0:=by
 intro i H m s ex S;have h:=hd H m s ex S;refine⟨fun q hq=>?_,fun hi=>⟨by rw[r.length];simpa using hi,h⟩⟩;rw[bu] at hq;cases c:l[i]? with
 |none=>rw[c] at hq;cases hq
 |some kv =>
  rw[c] at hq;cases hq;obtain⟨w,h1,h2⟩:=r.get c;refine⟨⟨(aY.mp h1).1,h⟩,fun x H' ⟨e1,kv',e2,e3⟩=>?_⟩;subst e1 e3;rw[h1] at e2;cases e2;rw[h2];exact⟨.refl,S,NH _⟩
def Ext.freeze{K:aa}{H:Hp}{m:Mp}{s:Sto}{d:al}{ob:Obj}{kvs:List (Key×V)}(S:SR K CB H m s)(hd:H d=some (.dK kvs))(hp:Pur m s d):Ext H m s (upd H d (.frz ob (.dK kvs))) m s:=by
 refine⟨⟨⟨ax _,fun _ _=>rfl,fun a u h p=>⟨?_,p⟩,fun a u h n p=>?_⟩,fun j l hj h=>⟨h,fun o ho=>?_⟩⟩,rfl,fun a ha o h _=>?_⟩
 ·by_cases e:a=d
  ·subst e;rcases h with h|⟨o,h⟩
   ·rw[hd] at h;cases h;exact .inr ⟨ob,lr⟩
   ·rw[hd] at h;cases h
  ·exact h.elim (fun h=>.inl (by rw[lg e];exact h)) fun⟨o,h⟩=>.inr ⟨o,by rw[lg e];exact h⟩
 ·rw[lg (C8 h hd (n _))];exact h
 ·obtain⟨e1,_⟩:=S.ok _ (mY h);rw[lg (show m.ad j≠d from fun z=>hp.2 j (ak.mpr ⟨_,mY h,rfl⟩) (by rw[e1,z];simp))];exact ho
 ·rw[lg (show a≠d from fun z=>hp.1 (by rw[<-z];exact ha))];exact h
def SR.freezeP{K:aa}{H:Hp}{m:Mp}{s:Sto}{d:al}{ob:Obj}{kvs:List (Key×V)}(S:SR K CB H m s)(hd:H d=some (.dK kvs))(hp:Pur m s d):SR K CB (upd H d (.frz ob (.dK kvs))) m s:=by refine⟨S.nd,S.lt,fun q hq=>(S.ok q hq).keep S (Ext.freeze S hd hp).toExtR (fun a ha o h=>?_) rfl rfl,S.dj,S.hx,S.hsk (Ext.freeze S hd hp).hk (.upd hd Fg),S.tbk (.upd hd Fg)⟩;have:a≠d:=fun z=>hp.2 q.1 (ak.mpr ⟨q,hq,rfl⟩) (z▸ha);rw[lg this];exact h
def GB(hl:DE X CB E e f):DI X CB E tg e (xIterD f):=⟨(Gh hl.pe).mono fun σ H R q=>TDI.bind q fun v s1 u H1 m1 S1 r1 P=>by
 cases r1 with
 |dct h1 h2 h3 =>
  rename_i d vs l;rcases h1 with h1|⟨ob,h1⟩
  ·refine⟨d,vs,rfl,.inl ⟨h1,fun ob=>P _ _ m1 (.freeze S1 h1 h2) (S1.freezeP h1 h2) (Ki (fun H m s ex S=>ex.el _ _ lr (by intro _ z;cases z) h2) (h3.ext (.freeze S1 h1 h2)))⟩⟩
  ·exact⟨d,vs,rfl,.inr ⟨ob,h1,P _ _ m1 .refl S1 (Ki (fun H m s ex S=>ex.el _ _ h1 (by intro _ z;cases z) h2) h3)⟩⟩
 |_=>exact P.elim⟩
def mL(body:PV->XS):List PV->XS
 |[],ρ,s=>.nx ρ s
 |q::l,ρ,s=>match body q ρ s with
  |.nx ρ' s'=>mL body l ρ' s'
  |.ct ρ' s'=>mL body l ρ' s'
  |.bk ρ' s'=>.nx ρ' s'
  |o=>o
def lV(y:XG)(u:XS)(q:PV)(ρ:En)(s:Sto):SO:=match y q ρ s with
 |some ρ'=>u ρ' s
 |none=>.bad
def xFor(fi:XA)(y:XG)(body:XS)(ρ:En)(s:Sto):SO:=((fi ρ s).so fun l s1=>mL (lV y body) l ρ s1).noex
def Jn(S1:SR X.K CB H1 m1 s1)(er:ER X.K H1 m1 s1 σ ρ)(it:qU X.K CB J l H1 m1 s1)(P:PostS X.K CB E0 (mL (lV y u) l ρ s1) H1 m1 s1 D) :
  ∃W:Nat->Nat->St->Hp->Prop,(∃m,W 0 m σ H1)/\∀i m σ H,W i m σ H ->
   (J.stop i H/\D.nx σ H)\/(J.go i H/\∃N:St->Hp->Prop,(∀σ' H',N σ' H'->∃m',m'<m/\W (i+1) m' σ' H')/\∀x H',J.yld i H x H'->(TDG X.K CB y) x σ H' fun σ2 H2=>(TDS X.K CB E0 u) { D with nx:=N,ct:=N,bk:=D.nx } σ2 H2):=by
 refine⟨fun i k σ' H'=>∃ρ' s' m',ER X.K H' m' s' σ' ρ'/\SR X.K CB H' m' s'/\Ext H1 m1 s1 H' m' s'/\i<=l.length/\k=l.length-i/\PostS X.K CB E0 (mL (lV y u) (l.drop i) ρ' s') H' m' s' D,⟨l.length,ρ,s1,m1,er,S1,.refl,ba _,rfl,P⟩,?_⟩
 rintro i k σ' H' ⟨ρ',s',m',er',S',SX,Qy,rfl,P'⟩
 obtain⟨QV,QU⟩:=it i H' m' s' SX.toExt0 S';by_cases Ow:i<l.length
 ·right;have hq:l[i]?=some l[i]:=br Ow;obtain⟨go,yl⟩:=QV _ hq;rw[d6 Ow] at P';refine⟨go,fun σ2 H2=>∃ρ2 s2 m2,ER X.K H2 m2 s2 σ2 ρ2/\SR X.K CB H2 m2 s2/\Ext H1 m1 s1 H2 m2 s2/\PostS X.K CB E0 (mL (lV y u) (l.drop (i+1)) ρ2 s2) H2 m2 s2 D,fun σ2 H2 ⟨ρ2,s2,m2,a1,a2,a3,a4⟩=>⟨l.length-(i+1),by omega,ρ2,s2,m2,a1,a2,a3,Ow,rfl,a4⟩,fun x H2 hy=>?_⟩;obtain⟨e2,S2,r2⟩:=yl x H2 hy;unfold mL at P';have hbo:lV y u l[i] ρ' s'=match y l[i] ρ' s' with|some ρ'=>u ρ' s'|none=>.bad:=rfl
  rw[hbo] at P';cases hyq:y l[i] ρ' s' with
  |none=>rw[hyq] at P';exact P'.elim
  |some ρ2 =>
   rw[hyq] at P';have P':=PostS.shift e2 P';dsimp only at P';refine⟨ρ',s',m',l[i],ρ2,er'.ext e2,S2,r2,hyq,fun σ2 Uo=>⟨ρ2,s',m',Uo,S2,?_⟩⟩;cases cb:u ρ2 s' with
   |nx ρ3 s3=>rw[cb] at P';exact fun σ3 H3 m3 e3 S3 Qh=>⟨ρ3,s3,m3,Qh,S3,(SX.trans e2).trans e3,PostS.shift e3 P'⟩
   |ct ρ3 s3=>rw[cb] at P';exact fun σ3 H3 m3 e3 S3 Qh=>⟨ρ3,s3,m3,Qh,S3,(SX.trans e2).trans e3,PostS.shift e3 P'⟩
   |bk ρ3 s3=>rw[cb] at P';exact P'
   |rt v3 s3=>rw[cb] at P';exact P'
   |ex c3 s3=>rw[cb] at P';exact P'
   |bad=>rw[cb] at P';exact P'
 ·left;have Pa:l.length<=i:=dZ Ow;rw[cO Pa] at P';exact⟨QU Pa,P'.next S' er'⟩
def ot(hi:DI X.nox CB E0 tg e fi)(hg:DG X.nox CB tg y)(hb:DSs X.nox CB E0 PF u)(hc:X.calm=true:=by rfl)(hs:∀x,cr e X.env x=pure x:=by intro _;rfl):DS X CB E (.For tg e PF [] pos) (xFor fi y u) :=
 ⟨PS.nox ((Na (X:=X.nox) iF hc hi.pi hg.pg hb.pss hs).mono fun D σ H ⟨ρ,s,m,er,S,P⟩=>by
  have P:=PostS.noex P;refine⟨ρ,s,m,er,S,?_⟩;cases c:fi ρ s with
  |bad=>rw[c] at P;exact P
  |ex c' s'=>rw[c] at P;exact P
  |ok l s1 =>
   rw[c] at P;intro J H1 m1 e1 S1 it;exact Jn (X:=X.nox) S1 (er.ext e1) it (PostS.shift e1 P))⟩
noncomputable def mE(c:XT)(b:XS):Nat->XS
 |0,_,_=>.bad
 |n+1,ρ,s=>(c ρ s).so fun t s1=>if t=true then(match b ρ s1 with
  |.nx ρ' s'=>mE c b n ρ' s'
  |.ct ρ' s'=>mE c b n ρ' s'
  |.bk ρ' s'=>.nx ρ' s'
  |o=>o) else .nx ρ s1
open Classical in
def vx(c:XT)(b:XS)(ρ:En)(s:Sto):SO:=if h:∃n,mE c b n ρ s≠.bad then(mE c b h.choose ρ s).noex else .bad
def zV{c:bj}(hc:DT X.nox CB E0 c t)(hb:DSs X.nox CB E0 PF u):DS X CB E (.While c PF [] pos) (vx t u) :=
 ⟨PS.nox ((D4 (X:=X.nox) iF hc.pt hb.pss).mono fun D σ H ⟨ρ,s,m,er,S,P⟩=>by
  unfold vx at P;split at P
  ·rename_i h;have P:=PostS.noex P;refine⟨fun n σ' H'=>∃ρ' s' m',ER X.K H' m' s' σ' ρ'/\SR X.K CB H' m' s'/\PostS X.K CB E0 (mE t u n ρ' s') H' m' s' D,⟨_,ρ,s,m,er,S,P⟩,?_⟩
   rintro n σ' H' ⟨ρ',s',m',er',S',P'⟩
   cases n with
   |zero=>exact P'.elim
   |succ n =>
    refine⟨ρ',s',m',er',S',Post.so P' fun b s1 b' H1 m1 e1 S1 r1 P1=>?_⟩;cases r1;refine tQ (fun cb=>?_) fun cb=>?_
    ·rw[if_pos cb] at P1;refine⟨fun σ2 H2=>∃ρ2 s2 m2,ER X.K H2 m2 s2 σ2 ρ2/\SR X.K CB H2 m2 s2/\PostS X.K CB E0 (mE t u n ρ2 s2) H2 m2 s2 D,fun σ2 H2 q=>⟨n,dw _,q⟩,ρ',s1,m1,er'.ext e1,S1,?_⟩;cases cu:u ρ' s1 with
     |nx ρ3 s3=>rw[cu] at P1;exact fun σ3 H3 m3 e3 S3 Qh=>⟨ρ3,s3,m3,Qh,S3,PostS.shift e3 P1⟩
     |ct ρ3 s3=>rw[cu] at P1;exact fun σ3 H3 m3 e3 S3 Qh=>⟨ρ3,s3,m3,Qh,S3,PostS.shift e3 P1⟩
     |bk ρ3 s3=>rw[cu] at P1;exact P1
     |rt v3 s3=>rw[cu] at P1;exact P1
     |ex c3 s3=>rw[cu] at P1;exact P1
     |bad=>rw[cu] at P1;exact P1
    ·rw[if_neg cb] at P1;exact P1.next S1 (er'.ext e1)
  ·exact P.elim)⟩
theorem ud{c:XT}{b:XS}:∀{n:Nat}{ρ:En}{s:Sto},mE c b n ρ s≠.bad->mE c b (n+1) ρ s=mE c b n ρ s
 |0,_,_,h=>absurd rfl h
 |n+1,ρ,s,h=>by
  unfold mE at h ⊢;cases hc:c ρ s with
  |ok t s1 =>
   rw[hc] at h;simp only[Out.so] at h ⊢;by_cases ht:t=true
   ·rw[if_pos ht] at h ⊢;rw[if_pos ht];cases hb:b ρ s1 with
    |nx ρ' s'=>rw[hb] at h;exact ud h
    |ct ρ' s'=>rw[hb] at h;exact ud h
    |_=>rfl
   ·rw[if_neg ht,if_neg ht]
  |ex=>rfl
  |bad=>rfl
def Bg{c:XT}{b:XS}{n k:Nat}{ρ:En}{s:Sto}(h:mE c b n ρ s≠.bad):mE c b (n+k) ρ s=mE c b n ρ s:=by
 induction k with
 |zero=>rfl
 |succ k ih=>rw[<-Nat.add_assoc,ud (by rw[ih];exact h),ih]
def Bf{c:XT}{b:XS}{n:Nat}{ρ:En}{s:Sto}{o:SO}(h:mE c b n ρ s=o)(ho:o≠.bad):vx c b ρ s=o.noex:=by have hx:∃n,mE c b n ρ s≠.bad:=⟨n,by rw[h];exact ho⟩;unfold vx;rw[dif_pos hx];have h1:=Bg (k:=n) hx.choose_spec;have h2:=Bg (k:=hx.choose) (show mE c b n ρ s≠.bad by rw[h];exact ho);rw[Nat.add_comm] at h2;rw[<-h1,h2,h]
end
noncomputable def nc(c:XT)(e:XE)(cap:En):List PV->Sto->Out (List PV)
 |[],s=>.ok [] s
 |q::l,s=>match c (some q::cap) s with
  |.ok true s1=>match e (some q::cap) s1 with
   |.ok v s2=>match nc c e cap l s2 with
    |.ok vs s3=>.ok (v::vs) s3
    |_=>.bad
   |_=>.bad
  |.ok false s1=>nc c e cap l s1
  |_=>.bad
def pU:nc c e cap (q::l) s=match c (some q::cap) s with
  |.ok true s1=>match e (some q::cap) s1 with
   |.ok v s2=>match nc c e cap l s2 with
    |.ok vs s3=>.ok (v::vs) s3
    |_=>.bad
   |_=>.bad
  |.ok false s1=>nc c e cap l s1
  |_=>.bad:=rfl
theorem wW:∀{l:List PV}{s s':Sto}{k:al},nc c e cap l s≠.ex k s'
 |[],_,_,_,h=>by cases h
 |q::l,s,s',k,h=>by
  unfold nc at h;split at h
  ·split at h
   ·split at h<;>cases h
   ·cases h
  ·exact wW h
  ·cases h
def qV(_:En)(s:Sto):Out Bool:=.ok true s
def nH(fi:XA)(ix:List Nat)(c:XT)(e:XE)(ρ:En)(s:Sto):Out PV:=(fi ρ s).bind fun l s1=>if l.length<=100000 then(nc c e (my ix ρ) l s1).bind fun vs s2=>.ok (.lst vs) s2 else .bad
structure DIfs(X:Cx)(CB:al)(Ov:List bj)(t:XT):Prop where
 pifs:GS X Ov (TDT X.K CB E0 t)
section
variable{X:Cx}{CB:al}{E:XK}{a b c e Oz iter tg:bj}{es Ov:List bj}{f g h:XE}{fa fi:XA}{t:XT}{p px pos Oy Og Oe:Pos}{x:Str}{st:bL}{oY PF Pe:List bL}{u v:XS}{scope:dq}{fr:List Str}{ix:List Nat}
def uW:DIfs X CB [] qV:=⟨fun Ob s σ H Q I ⟨ρ,s',m,er,S,P⟩=>wM Ob s σ H Q I (P.here S rfl)⟩
def wU(h:DT X CB E0 c t):DIfs X CB [c] t:=⟨IG h.pt⟩
def Mp.hide(m:Mp)(d:al):Mp:=⟨m.ad,m.fp,d::m.hid⟩
def Mp.bare(m:Mp)(l:List al):Mp:=⟨m.ad,m.fp,l⟩
theorem Ext0.hide(hd:H d=none):Ext0 H m s (upd H d o) (m.hide d) s :=
 ⟨⟨ax _,fun _ _=>rfl,fun a u h p=>⟨h.same (My.rm hd),fun z=>(aj.mp z).elim (h.ne hd) p.1,p.2⟩,fun a u h _ _=>My.rm hd _ _ h⟩,fun j l _ h=>⟨h,fun o ho=>My.rm hd _ _ ho⟩⟩
theorem SR.hide{K:aa}{H:Hp}{m:Mp}{s:Sto}{d:al}{xs:List V}(S:SR K CB H m s)(hd:H d=none):SR K CB (upd H d (.lst xs)) (m.hide d) s:=by
 have k:=My.rm (o:=.lst xs) hd;have S1:=S.same k;have e0:Ext0 H m s (upd H d (.lst xs)) (m.hide d) s:=Ext0.hide hd;have Ot:∀n∈s.cs.map (·.1),∀a∈m.fp n,a≠d:=fun n hn a ha z=>by obtain⟨q,hq,rfl⟩:=ak.mp hn;obtain⟨o,e,_⟩:=(S.ok q hq).kind ha;rw[z,hd] at e;cases e
 refine⟨S.nd,S.lt,fun q hq=>?_,S.dj,fun n hn a ha hb=>(aj.mp hb).elim (Ot n hn a ha) (S.hx n hn a ha),fun a ha=>?_,fun P q t=>⟨ah _ (S1.tb P q t).1,(S1.tb P q t).2⟩⟩
 ·have:=S.ok q hq;cases c:q.2 with
  |lst l=>rw[c] at this;obtain⟨a1,vs,a2,a3⟩:=this;exact⟨a1,vs,k _ _ a2,a3.ext0 e0.toExtR⟩
  |dct l=>rw[c] at this;obtain⟨a1,vs,a2,a3⟩:=this;exact⟨a1,vs,k _ _ a2,a3.ext0 e0.toExtR⟩
  |dfz l=>rw[c] at this;obtain⟨a1,ob,vs,a2,a3⟩:=this;exact⟨a1,ob,vs,k _ _ a2,a3.ext0 e0.toExtR⟩
  |obj C fs=>rw[c] at this;obtain⟨a1,dx,vs,a2,a3,a4⟩:=this;exact⟨a1,dx,vs,k _ _ a2,a3,a4.ext0 e0.toExtR⟩
  |book pp L =>
   have:=S1.ok q hq;rw[c] at this;exact this
 ·rcases aj.mp ha with rfl|ha
  ·rw[lr];exact⟨by simp,fun _ _=>⟨by simp,by simp,by simp,by simp⟩⟩
  ·exact S1.hs a ha
def Ext0.redo{K:aa}{H:Hp}{m:Mp}{s:Sto}{d:al}{o u0:HO}(S:SR K CB H m s)(hd:d∈m.hid)(hu:H d=some u0)(Qf:¬Odd u0):Ext0 H m s (upd H d o) m s:=by
 have ne:∀a,Pur m s a->a≠d:=fun a p z=>p.1 (z▸hd);refine⟨⟨ax _,fun _ _=>rfl,fun a u h p=>⟨?_,p⟩,fun a u h _ p=>by rw[lg (ne a p)];exact h⟩,fun j l _ h=>⟨h,fun o ho=>?_⟩⟩
 rotate_left
 ·obtain⟨e1,_⟩:=S.ok _ (mY h);rw[lg (show m.ad j≠d from fun z=>S.hx j (ak.mpr ⟨_,mY h,rfl⟩) (m.ad j) (by rw[e1];simp) (by rw[z];exact hd))];exact ho
 exact h.elim (fun h=>.inl (by rw[lg (ne a p)];exact h)) fun⟨o,h⟩=>.inr ⟨o,by rw[lg (ne a p)];exact h⟩
theorem SR.redo{K:aa}{H:Hp}{m:Mp}{s:Sto}{d:al}{xs ys:List V}(S:SR K CB H m s)(hd:d∈m.hid)(hl:H d=some (.lst xs)):SR K CB (upd H d (.lst ys)) m s:=by
 have e0:Ext0 H m s (upd H d (.lst ys)) m s:=Ext0.redo S hd hl AD;have nt:∀(t:al)(us:List V),SqT K H t us->SqT K (upd H d (.lst ys)) t us:=fun t us h=>by
  rcases h with h|h
  ·refine .inl (e0.pu _ _ h ?_).1;exact h.elim (fun h=>S.pure_tup h) fun⟨_,h⟩=>S.pure_frz (.inl h)
  ·exact .inr h
 refine⟨S.nd,S.lt,fun q hq=>?_,S.dj,S.hx,fun a ha=>?_,S.tbk (.upd hl AD)⟩
 ·have hn:q.1∈s.cs.map (·.1):=ak.mpr ⟨q,hq,rfl⟩;have kp:∀a∈m.fp q.1,∀o,H a=some o->upd H d (.lst ys) a=some o:=fun a ha o h=>by rw[lg (show a≠d from fun z=>S.hx _ hn a ha (by rw[z];exact hd))];exact h
  have:=S.ok q hq;cases c:q.2 with
  |lst l=>rw[c] at this;obtain⟨a1,vs,a2,a3⟩:=this;exact⟨a1,vs,kp _ (by rw[a1];simp) _ a2,a3.ext0 e0.toExtR⟩
  |dct l=>rw[c] at this;obtain⟨a1,vs,a2,a3⟩:=this;exact⟨a1,vs,kp _ (by rw[a1];simp) _ a2,a3.ext0 e0.toExtR⟩
  |dfz l=>rw[c] at this;obtain⟨a1,ob,vs,a2,a3⟩:=this;exact⟨a1,ob,vs,kp _ (by rw[a1];simp) _ a2,a3.ext0 e0.toExtR⟩
  |obj C fs=>rw[c] at this;obtain⟨a1,dx,vs,a2,a3,a4⟩:=this;exact⟨a1,dx,vs,kp _ (by rw[a1];simp) _ a2,a3,a4.ext0 e0.toExtR⟩
  |book pp L =>
   rw[c] at this;obtain⟨z,L',B,e1,e2⟩:=this;rw[e2] at kp;have kb:∀a∈My.BFp (m.ad q.1) z L',∀o,H a=some o->upd H d (.lst ys) a=some o:=kp;refine⟨z,L',⟨kb _ (by simp[My.BFp]) _ B.ob,kb _ (by simp[My.BFp]) _ B.pp,kb _ (by simp[My.BFp]) _ B.tt,kb _ (by simp[My.BFp]) _ B.mm,kb _ (by simp[My.BFp]) _ B.ll,B.hh.keep (fun o h=>kb _ (by simp[My.BFp]) _ h),fun q' PZ=>?_,B.nd,B.p6,B.h8⟩,e1,e2⟩;obtain⟨ts,h1,h2,h3⟩:=B.he q' PZ;refine⟨ts,h1,kb _ ?_ _ h2,fun y hy=>nt _ _ (h3 y hy)⟩;unfold My.BFp;simp only[aj];right;right;right;right;right;right;exact ak.mpr ⟨q',PZ,rfl⟩
 ·by_cases e:a=d
  ·subst e;rw[lr];exact⟨by simp,fun _ _=>⟨by simp,by simp,by simp,by simp⟩⟩
  ·rw[lg e];exact S.hs a ha
def Ext0.show(hm:m.hid=d::l):Ext0 H m s H (m.bare l) s :=
 ⟨⟨ax _,fun _ _=>rfl,fun a u h p=>⟨h,fun z=>p.1 (by rw[hm];exact ah _ z),p.2⟩,fun a u h _ _=>h⟩,fun j l _ h=>⟨h,fun o h=>h⟩⟩
theorem SR.show{K:aa}{H:Hp}{m:Mp}{s:Sto}{d:al}{l:List al}{u0:HO}(S:SR K CB H m s)(hm:m.hid=d::l)(hu:H d=some u0)(Qf:¬Odd u0):SR K CB H (m.bare l) s:=by
 have e0:Ext0 H m s H (m.bare l) s:=Ext0.show hm;refine⟨S.nd,S.lt,fun q hq=>?_,S.dj,fun n hn a ha hb=>S.hx n hn a ha (by rw[hm];exact ah _ hb),fun a ha=>S.hs a (by rw[hm];exact ah _ ha),fun P q t=>⟨?_,(S.tb P q t).2⟩⟩
 rotate_left
 ·obtain⟨h1,ps,h2,_⟩:=S.tb P q t;rw[hm] at h1;rcases aj.mp h1 with z|z
  ·rw[z,hu] at h2;cases h2;exact absurd (.inl ⟨_,rfl⟩) Qf
  ·exact z
 have:=S.ok q hq;cases c:q.2 with
 |lst l=>rw[c] at this;obtain⟨a1,vs,a2,a3⟩:=this;exact⟨a1,vs,a2,a3.ext0 e0.toExtR⟩
 |dct l=>rw[c] at this;obtain⟨a1,vs,a2,a3⟩:=this;exact⟨a1,vs,a2,a3.ext0 e0.toExtR⟩
 |dfz l=>rw[c] at this;obtain⟨a1,ob,vs,a2,a3⟩:=this;exact⟨a1,ob,vs,a2,a3.ext0 e0.toExtR⟩
 |obj C fs=>rw[c] at this;obtain⟨a1,dx,vs,a2,a3,a4⟩:=this;exact⟨a1,dx,vs,a2,a3,a4.ext0 e0.toExtR⟩
 |book pp L=>rw[c] at this;exact this
theorem ER.ext0{K:aa}{H H':Hp}{m m':Mp}{s s':Sto}{σ:St}{ρ:En}(h:ER K H m s σ ρ)(e:ExtR H m s H' m' s'):ER K H' m' s' σ ρ :=
 ⟨h.len,fun i p q=>let⟨u,a,b⟩:=h.at_ i p q;⟨u,a,b.ext0 e⟩⟩
structure Cmp(K:aa)(CB:al)(D:al)(H1:Hp)(m1:Mp)(s1:Sto)(cap:St)(ρ:En)(ys:List V)(done:List PV)(H2:Hp)(m2:Mp)(s2:Sto):Prop where
 hid:m2.hid=D::m1.hid
 at_:H2 D=some (.lst ys)
 sr:SR K CB H2 m2 s2
 er:ER K H2 m2 s2 cap ρ
 rs:Reps K H2 m2 s2 ys done
 ex:Ext H1 m1 s1 H2 (m2.bare m1.hid) s2
 e0:Ext0 H1 m1 s1 H2 m2 s2
def Cmp.start{K:aa}{D:al}{H1:Hp}{m1:Mp}{s1:Sto}{cap:St}{ρ:En}(S:SR K CB H1 m1 s1)(er:ER K H1 m1 s1 cap ρ)(hD:H1 D=none):Cmp K CB D H1 m1 s1 cap ρ [] [] (upd H1 D (.lst [])) (m1.hide D) s1 :=
 ⟨rfl,lr,S.hide hD,er.ext0 (Ext0.hide hD).toExtR,.nil,Ext.same (My.rm hD),Ext0.hide hD⟩
def Ext.into{K:aa}{D:al}{H1 H2 H5:Hp}{m1 m2 m5:Mp}{s1 s2 s5:Sto}(hid:m2.hid=D::m1.hid)(S2:SR K CB H2 m2 s2)(hD:H1 D=none)(a:Ext H1 m1 s1 H2 (m2.bare m1.hid) s2)(b:Ext H2 m2 s2 H5 m5 s5):Ext H1 m1 s1 H5 (m5.bare m1.hid) s5:=by
 have pr:∀c u,Rd H1 c u->Pur m1 s1 c->Rd H2 c u/\Pur m2 s2 c:=fun c u h p=>by obtain⟨h1,p1⟩:=a.pu c u h p;refine⟨h1,fun z=>?_,p1.2⟩;rw[hid] at z;exact(aj.mp z).elim (h.ne hD) p.1
 refine⟨⟨⟨aC a.nx b.nx,fun n h=>(b.ad n (aA h a.nx)).trans (a.ad n h),fun c u h p=>?_,fun c u h n p=>?_⟩,fun j l hj h=>?_⟩,rfl,fun c hc o h n=>?_⟩
 ·obtain⟨h1,p1⟩:=pr c u h p;obtain⟨h2,p2⟩:=b.pu c u h1 p1;exact⟨h2,p.1,p2.2⟩
 ·obtain⟨_,p1⟩:=pr c _ (.inl h) p;exact b.el c u (a.el c u h n p) n p1
 ·obtain⟨h1,k1⟩:=a.df j l hj h;obtain⟨h2,k2⟩:=b.df j l (aA hj a.nx) h1;have e:m2.ad j=m1.ad j:=a.ad j hj;rw[e] at k2;exact⟨h2,fun o h=>k2 o (k1 o h)⟩
 ·exact b.hk c (by rw[hid];exact ah _ hc) o (a.hk c hc o h n) n
def Cmp.step{K:aa}{D:al}{H1 H2 H5:Hp}{m1 m2 m5:Mp}{s1 s2 s5:Sto}{cap:St}{ρ:En}{ys:List V}{done:List PV}(C:Cmp K CB D H1 m1 s1 cap ρ ys done H2 m2 s2)(hD:H1 D=none)(b:Ext H2 m2 s2 H5 m5 s5)(S5:SR K CB H5 m5 s5):Cmp K CB D H1 m1 s1 cap ρ ys done H5 m5 s5 :=
 ⟨b.hd.trans C.hid,b.hk D (by rw[C.hid];exact ag) _ C.at_ (by intro _ z;cases z),S5,C.er.ext b,C.rs.ext b,Ext.into C.hid C.sr hD C.ex b,C.e0.trans b.toExt0⟩
def Cmp.push{K:aa}{D:al}{H1 H2:Hp}{m1 m2:Mp}{s1 s2:Sto}{cap:St}{ρ:En}{ys:List V}{done:List PV}{v:V}{q:PV}(C:Cmp K CB D H1 m1 s1 cap ρ ys done H2 m2 s2)(hD:H1 D=none)(r:Rep K H2 m2 s2 v q):Cmp K CB D H1 m1 s1 cap ρ (ys++[v]) (done++[q]) (upd H2 D (.lst (ys++[v]))) m2 s2:=by
 have hm:D∈m2.hid:=by rw[C.hid];exact ag
 have e0:Ext0 H2 m2 s2 (upd H2 D (.lst (ys++[v]))) m2 s2:=Ext0.redo C.sr hm C.at_ AD;refine⟨C.hid,lr,C.sr.redo hm C.at_,C.er.ext0 e0.toExtR,(C.rs.append (.cons r .nil)).ext0 e0.toExtR,⟨⟨⟨C.ex.nx,C.ex.ad,fun c u h p=>?_,fun c u h n p=>?_⟩,fun j l hj h=>⟨(C.ex.df j l hj h).1,fun o ho=>?_⟩⟩,rfl,fun c hc o h n=>?_⟩,C.e0.trans e0⟩
 ·obtain⟨h1,p1⟩:=C.ex.pu c u h p;have ne:=h.ne hD;exact⟨h1.elim (fun h=>.inl (by rw[lg ne];exact h)) fun⟨o,h⟩=>.inr ⟨o,by rw[lg ne];exact h⟩,p1⟩
 ·rw[lg (lI h hD)];exact C.ex.el c u h n p
 ·rw[lg (lI ho hD)];exact(C.ex.df j l hj h).2 o ho
 ·rw[lg (lI h hD)];exact C.ex.hk c hc o h n
theorem Cmp.done{K:aa}{D:al}{H1 H2:Hp}{m1 m2:Mp}{s1 s2:Sto}{cap:St}{ρ:En}{ys:List V}{done:List PV}(C:Cmp K CB D H1 m1 s1 cap ρ ys done H2 m2 s2):SR K CB H2 (m2.bare m1.hid) s2/\(D∉m1.hid->Rep K H2 (m2.bare m1.hid) s2 (.ref D) (.lst done)):=by refine⟨C.sr.show C.hid C.at_ AD,fun hn=>.lst C.at_ ⟨hn,fun n hh z=>C.sr.hx n hh D z (by rw[C.hid];exact ag)⟩ (C.rs.ext0 (Ext0.show C.hid).toExtR)⟩
def EA{σ:St}{H1:Hp}{m1:Mp}{s1:Sto}{ρ:En}{J:It}{l:List PV}{D:al}{Q:VK}{t:XT}(S1:SR X.K CB H1 m1 s1)(er:ER X.K H1 m1 s1 σ ρ)(it:qU X.K CB J l H1 m1 s1)(hD:H1 D=none)(Of:l.length<=100000)(P:Post X.K CB (Rep X.K) E ((nc t f (my ix ρ) l s1).bind fun vs s2=>.ok (.lst vs) s2) H1 m1 s1 Q):CompB J (TDT X.K CB E0 t) (TDE X.K CB E0 f) (capt ix σ) D H1 Q:=by
 refine⟨fun i k ys H2=>∃done m2 s2,Cmp X.K CB D H1 m1 s1 (capt ix σ) (my ix ρ) ys done H2 m2 s2/\i<=l.length/\ys.length<=i/\k=l.length-i/\(nc t f (my ix ρ) l s1).bind (fun vs s2=>.ok (PV.lst vs) s2)=(nc t f (my ix ρ) (l.drop i) s2).bind fun vs s2=>.ok (.lst (done++vs)) s2,⟨l.length,[],m1.hide D,s1,Cmp.start S1 (er.capt ix) hD,ba _,ba _,rfl,?_⟩,?_⟩
 ·simp
 rintro i k ys H2 ⟨done,m2,s2,C,hi,hy,rfl,eq⟩
 obtain⟨QV,QU⟩:=it i H2 m2 s2 C.e0 C.sr;by_cases Ow:i<l.length
 ·right;have hq:l[i]?=some l[i]:=br Ow;obtain⟨go,yl⟩:=QV _ hq;refine⟨go,fun x H3 QW=>?_⟩;obtain⟨e3,S3,r3⟩:=yl x H3 QW;have C3:=C.step hD e3 S3;rw[d6 Ow] at eq;rw[eq] at P;rw[pU] at P eq;refine⟨some l[i]::my ix ρ,s2,m2,C3.er.cons r3,S3,?_⟩;cases ct:t (some l[i]::my ix ρ) s2 with
  |bad=>rw[ct] at P;exact P.elim
  |ex c3 s3=>rw[ct] at P;exact P.elim
  |ok bt s3 =>
   rw[ct] at P eq;intro b4 H4 m4 e4 S4 hb;subst hb;have C4:=C3.step hD e4 S4;cases b4 with
   |false =>
    exact JU ⟨l.length-(i+1),by omega,done,m4,s3,C4,Ow,by omega,rfl,eq⟩
   |true =>
    refine Lx ⟨some l[i]::my ix ρ,s3,m4,C4.er.cons (r3.ext e4),S4,?_⟩;dsimp only at P eq;cases cf:f (some l[i]::my ix ρ) s3 with
    |bad=>rw[cf] at P;exact P.elim
    |ex c5 s5=>rw[cf] at P;exact P.elim
    |ok v s5 =>
     rw[cf] at eq;intro w H5 m5 e5 S5 r5;have C5:=C4.step hD e5 S5;refine⟨C5.at_,aM (aC hy (aC hi Of)) (by decide),l.length-(i+1),by omega,done++[v],m5,s5,C5.push hD r5,Ow,by simp;omega,rfl,?_⟩;rw[eq];dsimp only;cases hh:nc t f (my ix ρ) (l.drop (i+1)) s5 with
     |ok vs s6=>simp[Out.bind]
     |ex c6 s6=>exact absurd hh wW
     |bad=>rfl
 ·left;have Pa:l.length<=i:=dZ Ow;rw[cO Pa] at eq;rw[eq] at P;unfold nc at P;obtain⟨Sk,rd⟩:=C.done;refine⟨QU Pa,C.at_,P (.ref D) H2 (m2.bare m1.hid) C.ex Sk ?_⟩;rw[bJ];exact rd fun z=>(S1.hs D z).1 hD
def zD{t:XT}(q:TDE X.K CB E (nH fi ix t f) σ H Q):HK (TDI X.K CB E fi) ix (TDT X.K CB E0 t) (TDE X.K CB E0 f) σ H Q:=by
 obtain⟨ρ,s,m,er,S,P⟩:=q;refine⟨ρ,s,m,er,S,?_⟩;unfold nH at P;cases c:fi ρ s with
 |bad=>rw[c] at P;exact P
 |ex c' s'=>rw[c] at P;exact P
 |ok l s1 =>
  rw[c] at P;dsimp only[Out.bind] at P;split at P
  ·rename_i Of;intro J H1 m1 e1 S1 it D hD;exact EA S1 (er.ext e1) it hD Of (Post.shift e1 P)
  ·exact P.elim
def se(hi:DI X CB E (.Name x px) iter fi)(he:∀cl C Oh Oi fp,DE (blk X scope cl C (x::fr) Oh Oi fp) CB E0 Oz f)(ht:∀cl C Oh Oi fp,DIfs (blk X scope cl C (x::fr) Oh Oi fp) CB Ov t:=by exact fun _ _ _ _ _=>uW)(hc:X.calm=true:=by rfl)(S:CompOk X.N X.env.scope scope x fr ix:=by exact ME ‹FnScope _ _ _›)(hs:∀v,cr iter X.env v=pure v:=by intro _;rfl):DE X CB E (.ListComp Oz [⟨.Name x px,iter,Ov,0⟩] scope pos) (nH fi ix t f) :=
 ⟨(xg hc S hi.pi (fun cl C Oh Oi fp=>(ht cl C Oh Oi fp).pifs) (fun cl C Oh Oi fp=>(he cl C Oh Oi fp).pe) hs).mono fun σ H Q q=>zD q⟩
def wg(hi:DI X CB E (.Name x px) iter fi)(he:∀cl C Oh Oi fp,DE (blk X scope cl C (x::fr) Oh Oi fp) CB E0 Oz f)(ht:∀cl C Oh Oi fp,DIfs (blk X scope cl C (x::fr) Oh Oi fp) CB Ov t:=by exact fun _ _ _ _ _=>uW)(hN:X.N.Nodup:=by exact ‹FnScope _ _ _›.nd)(RY:X.N[i]?=some y:=by rfl)(Ro:X.env.scope.names.lookup y=some .local:=by rfl)(hc:X.calm=true:=by rfl)(S:CompOk X.N X.env.scope scope x fr ix:=by exact ME ‹FnScope _ _ _›)(RL:fO (.ListComp Oz [⟨.Name x px,iter,Ov,0⟩] scope pos) (some (.Name y py)) spos.line X.env=pure true:=by rfl)(hs:∀v,cr iter X.env v=pure v:=by intro _;rfl):DS X CB E (.Assign [.Name y py] (.ListComp Oz [⟨.Name x px,iter,Ov,0⟩] scope pos) spos) (xSet i (nH fi ix t f)) :=
 ⟨(zf hN RY Ro hc S hi.pi (fun cl C Oh Oi fp=>(ht cl C Oh Oi fp).pifs) (fun cl C Oh Oi fp=>(he cl C Oh Oi fp).pe) RL hs).mono fun D σ H ⟨ρ,s,m,er,S,P⟩ =>
  zD ⟨ρ,s,m,er,S,Post.so P fun v s1 u H1 m1 e1 S1 r1 P1=>P1.next S1 ((er.ext e1).set i r1)⟩⟩
end
abbrev XF:=List PV->Sto->Out PV
def spD(K:aa)(CB:al)(n:Nat)(D:XF):Sp:=fun vs H Q E=>vs.length=n/\∃ps s m,Reps K H m s vs ps/\SR K CB H m s/\Post K CB (Rep K) E (D ps s) H m s Q
def xCall(n:Nat)(D:XF)(fa:XA)(ρ:En)(s:Sto):Out PV:=(fa ρ s).bind fun vs s1=>if vs.length=n then D vs s1 else .bad
def fnD(N:Nat)(g:XS)(vs:List PV)(s:Sto):Out PV:=match g (vs.map some++aT (N-vs.length) none) s with
 |.nx _ s'=>.ok .non s'
 |.rt v s'=>.ok v s'
 |.ex c s'=>.ex c s'
 |_=>.bad
section
variable{X:Cx}{CB:al}{E:XK}{a b c e Oz iter tg:bj}{es Ov:List bj}{f g h:XE}{fa fi:XA}{t:XT}{p px py pos Oy Og Oe:Pos}{x y:Str}{st:bL}{oY PF Pe:List bL}{u v:XS}{scope:dq}{fr:List Str}{ix:List Nat}{n k:Nat}{D:XF}{ps:List Str}
def lO(F:Fn X.prog X.w X.K X.mg X.base x k ps (spD X.K CB n D))(ha:DA X CB E (e::es) fa)(hr:Room jr X.A:=by assumption)(hk:k<=jr:=by first|decide|omega)(hg:Gl X x:=by rfl)(hx:nX (CXo X.prog X.w) X E:=by first|exact n9|exact tU)(OF:NDb x:=by decide)(he:SEb X e es:=by rfl)(OH:(cj pos (aK es X.env)).any (·.1)=false:=by rfl):DE X CB E (.Call (.Name x p) (e::es) [] pos) (xCall n D fa) :=
 ⟨(vZ F (hr.mono hk) hg hx ha.pa OF he OH).mono fun σ H Q ⟨ρ,s,m,er,S,P⟩=>⟨ρ,s,m,er,S,P.bind fun v s1 u H1 m1 e1 S1 r1 P1=>by
  split at P1
  ·rename_i hl;rw[bJ];exact⟨by rw[r1.length];exact hl,v,s1,m1,r1,S1,P1⟩
  ·exact P1.elim⟩⟩
noncomputable def xBM(n:Nat)(D:XF)(f:XE)(fa:XA)(ρ:En)(s:Sto):Out PV:=(f ρ s).bind fun o s1=>match o with
 |.ref k=>match s1.get k with
  |some (.book _ _)=>(fa ρ s1).bind fun vs s2=>if vs.length+1=n then D (.ref k::vs) s2 else .bad
  |_=>.bad
 |_=>.bad
def oP(ho:DE X CB E a f)(M:Mt X.prog X.w X.K X.mg X.base CB m k ps (spD X.K CB n D))(ha:DA X CB E (e::es) fa)(Qf:∀z,(My.bf z).lookup m=none:=by exact fun z=>My.rB z)(hr:Room jr X.A:=by assumption)(hk:k<=jr:=by first|decide|omega)(hx:nX (CXo X.prog X.w) X E:=by first|exact n9|exact tU)(O6:SEb X e es:=by rfl)(OH:(cj pos (aK es X.env)).any (·.1)=false:=by rfl)(ht:eval (.Call (.Attribute a m Og) (e::es) [] pos) X.env=(do
   let ov <-eval a X.env
   gy Og.atName
   let(f,first) <-holding [ov] (gh ov m pl)
   jj pos f first (cj pos (aK (e::es) X.env)) (dM pos (cE [] X.env))):=by rfl):DE X CB E (.Call (.Attribute a m Og) (e::es) [] pos) (xBM n D f fa) :=
 ⟨(rq (pl:=pl) ho.pe M (hr.mono hk) hx ha.pa O6 OH ht).mono fun σ H Q ⟨ρ,s,m,er,S,P⟩=>⟨ρ,s,m,er,S,P.bind fun v s1 u H1 m1 e1 S1 r1 P1=>by
  split at P1
  ·split at P1
   ·rename_i hg;obtain⟨z,L',B,_,_⟩:=S1.get hg;cases r1 with
    |ref hn =>
    refine⟨_,_,_,rfl,B.ob,Qf z,ρ,s1,m1,er.ext e1,S1,P1.bind fun vs s2 us H2 m2 e2 S2 r2 P2=>?_⟩;split at P2
    ·rename_i hl;rw[bJ];refine⟨by rw[aq,r2.length];exact hl,_,s2,m2,.cons ?_ r2,S2,P2⟩;exact(Rep.ref hn).ext e2
    ·exact P2.elim
   ·exact P1.elim
  ·exact P1.elim⟩⟩
def wD(ho:DE X CB E a f)(M:Mt X.prog X.w X.K X.mg X.base CB m k ps (spD X.K CB n D))(Qf:∀z,(My.bf z).lookup m=none:=by exact fun z=>My.rB z)(hr:Room jr X.A:=by assumption)(hk:k<=jr:=by first|decide|omega)(hx:nX (CXo X.prog X.w) X E:=by first|exact n9|exact tU)(ht:eval (.Call (.Attribute a m Og) [] [] pos) X.env=(do
   let ov <-eval a X.env
   gy Og.atName
   let(f,first) <-holding [ov] (gh ov m pl)
   jj pos f first (cj pos (aK [] X.env)) (dM pos (cE [] X.env))):=by rfl):DE X CB E (.Call (.Attribute a m Og) [] [] pos) (xBM n D f xNil) :=
 ⟨(Ni (pl:=pl) ho.pe M (hr.mono hk) hx ht).mono fun σ H Q ⟨ρ,s,m,er,S,P⟩=>⟨ρ,s,m,er,S,P.bind fun v s1 u H1 m1 e1 S1 r1 P1=>by
  split at P1
  ·split at P1
   ·rename_i hg;obtain⟨z,L',B,_,_⟩:=S1.get hg;cases r1 with
    |ref hn =>
    refine⟨_,_,_,rfl,B.ob,Qf z,?_⟩;simp only[xNil,Out.bind] at P1;split at P1
    ·rename_i hl;exact⟨hl,_,s1,m1,.cons (.ref hn) .nil,S1,P1⟩
    ·exact P1.elim
   ·exact P1.elim
  ·exact P1.elim⟩⟩
def xBook(_:En)(s:Sto):Out PV:=.ok (.ref s.nx) (s.add (.book [] []))
noncomputable def JI(K:aa)(C:al):Sp:=fun vs H Q _=>∃(p dx:al),vs=[.ref p]/\H p=some (.ins C dx [])/\∀z H',(∀c∈[z.dp,z.dt,z.dm,z.dl,z.dh],H c=none)->My.BookAt K C H' p z [] []->(∀c o,H c=some o->c≠p->H' c=some o)->Q .non H'
def CQ(M:MkB X.prog X.w X.K X.mg X.base x CB k ps (JI X.K CB))(hr:Room jr X.A:=by assumption)(hk:k+1<=jr:=by first|decide|omega)(hg:Gl X x:=by rfl)(hx:nX (CXo X.prog X.w) X E:=by first|exact n9|exact tU)(OF:NDb x:=by decide):DE X CB E (.Call (.Name x p) [] [] pos) xBook :=
 ⟨(Nj M (hr.mono hk) hg hx OF).mono fun σ H Q ⟨ρ,s,m,er,S,P⟩ b dx hb hdx Ot=>by
  refine⟨b,dx,rfl,lr,fun z H' hz B kp=>⟨rfl,?_⟩⟩;have hk:Same H H':=fun c o h=>by have h1:c≠b:=lI h hb;have h2:c≠dx:=lI h hdx;exact kp c o (by rw[lg h1,lg h2];exact h) h1
  have hzn:∀c∈[z.dp,z.dt,z.dm,z.dl,z.dh],H c=none:=fun c hc=>by
   have h:=hz c hc;have n1:c≠b:=fun e=>by rw[e,lr] at h;cases h
   have n2:c≠dx:=fun e=>by rw[lg n1,e,lr] at h;cases h
   rw[lg n1,lg n2] at h;exact h
  obtain⟨S2,e2⟩:=S.add (c:=.book [] []) H' b (My.BFp b z []) hk (fun a ha=>by
   unfold My.BFp at ha;rcases aj.mp ha with rfl|ha
   ·exact hb
   ·exact hzn a (by simpa using ha)) fun ex=>by
    refine⟨z,[],?_,rfl,?_⟩
    ·rw[Mp.add_ad];exact B
    ·rw[Mp.add_ad];show(if s.nx=s.nx then _ else _)=_;rw[if_pos rfl]
  exact P _ _ _ e2 S2 .new⟩
def mZ{P:aI}{w:aX}{K:aa}{mg:Str->Option am}{base:bA}{qual:Str}{fa:al}{fd:bQ}{N:List Str}(F:Fun K x qual st fa fd)(S:FnScope N ps (lh st))(hps:ps.length=n)(hb:∀(Ol:am)(A:cq)(outer:List Env)(s:aw)(H:Hp)(E:XK),Room k (A.deeper (eI qual (lh st) s.heap.objs.size fa Ol))->FnScope N ps (lh st)->DSs (Ey (CXo P w) P w K mg base N qual (lh st) fa Ol A outer s H E) CB E (m7 st) u) :
  FnOk P w K mg base (CXo P w) (k+1) fa fd ps (spD K CB n (fnD N.length u)):=by
 refine F.okX S (fun vs H Q E h=>by rw[hps];exact h.1) (fun Ol A outer s H vs Q E hr h=>?_);obtain⟨hl,QR,s',m,r,S',P'⟩:=h;refine⟨_,(hb Ol A outer s H E hr S).pss,QR.map some++aT (N.length-QR.length) none,s',m,?_,S',?_⟩
 ·unfold start;rw[r.length];exact ER.start r _
 ·unfold fnD at P';cases cc:u (QR.map some++aT (N.length-QR.length) none) s' with
  |nx ρ1 s1=>rw[cc] at P';exact fun σ' H' m' x S1 er=>P' .non H' m' x S1 .non
  |rt v1 s1=>rw[cc] at P';exact fun u' H' m' x S1 r1=>P' u' H' m' x S1 r1
  |ex c1 s1=>rw[cc] at P';exact P'
  |bk=>rw[cc] at P';exact P'.elim
  |ct=>rw[cc] at P';exact P'.elim
  |bad=>rw[cc] at P';exact P'.elim
open Classical in
def Sto.only(s:Sto)(n:Nat):Sto:=⟨s.nx,s.cs.filter fun q=>decide (q.1<n)⟩
def xOnly(f:XE)(ρ:En)(s:Sto):Out PV:=(f ρ s).bind fun v s1=>.ok v (s1.only s.nx)
def frz1(v:PV)(s:Sto):Out PV:=match v with
 |.ref n=>match s.get n with
  |some (.lst l)=>.ok (.lst l) (s.del n)
  |some (.dct l)=>.ok (.dct l) (s.del n)
  |_=>.bad
 |_=>.bad
def xFrz(f:XE)(ρ:En)(s:Sto):Out PV:=(f ρ s).bind frz1
def SR.frz{K:aa}{H:Hp}{m:Mp}{s s':Sto}{x:V}{v w:PV}(S:SR K CB H m s)(r:Rep K H m s x v)(e:frz1 v s=.ok w s'):SR K CB H m s'/\Ext H m s H m s'/\Rep K H m s' x w:=by
 unfold frz1 at e;split at e
 ·rename_i n;have pu:∀c,s.get n=some c->m.fp n=[m.ad n]->Pur m (s.del n) (m.ad n):=fun c hg e1=>by have Oo:n∈s.cs.map (·.1):=ak.mpr ⟨_,mY hg,rfl⟩;refine⟨S.hx n Oo _ (by rw[e1];simp),fun j hj z=>?_⟩;obtain⟨q,hq,rfl⟩:=ak.mp hj;have Ot:=GE S.nd hq;exact S.dj n Oo q.1 (ak.mpr ⟨q,uX hq,rfl⟩) (fun z=>Ot z.symm) _ (by rw[e1];simp) z
  split at e
  ·rename_i l hg;cases e;cases r;obtain⟨e1,vs,h1,h2⟩:=S.get hg;have hnd:∀l,s.get n≠some (.dfz l):=fun l z=>by rw[hg] at z;cases z
   exact⟨(S.del n hnd).1,(S.del n hnd).2,.lst h1 (pu _ hg e1) (h2.ext (S.del n hnd).2)⟩
  ·rename_i l hg;cases e;cases r;obtain⟨e1,vs,h1,h2⟩:=S.get hg;have hnd:∀l,s.get n≠some (.dfz l):=fun l z=>by rw[hg] at z;cases z
   exact⟨(S.del n hnd).1,(S.del n hnd).2,.dct (.inl h1) (pu _ hg e1) (h2.ext (S.del n hnd).2)⟩
  ·cases e
 ·cases e
def FO(h:DE X CB E e f):DE X CB E e (xFrz f):=⟨h.pe.mono fun σ H Q ⟨ρ,s,m,er,S,P⟩=>⟨ρ,s,m,er,S,P.bind fun v s1 u H1 m1 e1 S1 r1 P1=>by
 cases cc:frz1 v s1 with
 |ok w s2 =>
  rw[cc] at P1;obtain⟨S2,e2,r2⟩:=S1.frz r1 cc;exact P1 u H1 m1 e2 S2 r2
 |ex c' s' =>
  exfalso;unfold frz1 at cc;split at cc
  ·split at cc<;>cases cc
  ·cases cc
 |bad=>rw[cc] at P1;exact P1.elim⟩⟩
def K1(h:PE X e tt):PE X e (fun σ H Q=>∃d RF,H d=some (.dK RF)/\tt σ H (fun v H'=>∃ob kvs,H' d=some (.frz ob (.dK kvs))/\Q v (upd H' d (.dK kvs)))):=by
 intro Ob s σ H Q I ⟨d,RF,hd,q⟩;have n3:∀o v,X.Ha0 d≠some (.frz o v):=fun o v z=>by rw[I.base.frzs d o v z] at hd;cases hd
 refine thn (h Ob s σ H _ I q) fun u s1 ⟨v,H1,I1,r1,ob,kvs,e1,q1⟩=>?_;exact⟨v,_,I1.thaw e1 n3,r1,q1⟩
def SR.freezeC{K:aa}{H:Hp}{m:Mp}{s:Sto}{n:Nat}{l:List (Key×PV)}(S:SR K CB H m s)(hg:s.get n=some (.dct l)):∃vs,H (m.ad n)=some (.dK vs)/\∀ob,∃m',m'.ad=m.ad/\SR K CB (upd H (m.ad n) (.frz ob (.dK vs))) m' (s.set n (.dfz l))/\Ext H m s (upd H (m.ad n) (.frz ob (.dK vs))) m' (s.set n (.dfz l))/\RepKs K (upd H (m.ad n) (.frz ob (.dK vs))) m' (s.set n (.dfz l)) vs l:=by
 obtain⟨e1,vs,h1,r1⟩:=S.get hg;refine⟨vs,h1,fun ob=>⟨m.fput n [m.ad n],rfl,?_⟩⟩;have:=S.put (c':=.dfz l) hg (by intro _ z;cases z) (upd H (m.ad n) (.frz ob (.dK vs))) [m.ad n] (fun a o h ha=>by rw[e1,au] at ha;rw[lg ha];exact h) (fun a ha=>.inl (by rw[e1];exact ha)) fun ex=>⟨by show(if n=n then [m.ad n] else m.fp n)=_;rw[if_pos rfl];rfl,ob,vs,lr,r1.ext0 ex⟩
 exact⟨this.1,this.2,r1.ext this.2⟩
theorem ExtR.trans(a:ExtR H m s H1 m1 s1)(b:ExtR H1 m1 s1 H2 m2 s2):ExtR H m s H2 m2 s2 :=
 ⟨aC a.nx b.nx,fun n h=>(b.ad n (aA h a.nx)).trans (a.ad n h),fun c u h p=>let⟨h1,p1⟩:=a.pu c u h p;b.pu c u h1 p1,fun c x h n p=>b.el c x (a.el c x h n p) n (a.pu c _ (.inl h) p).2⟩
def SR.thawC{K:aa}{H H1:Hp}{m m1:Mp}{s s1:Sto}{n:Nat}{l:List (Key×PV)}(h0:∀l,s.get n≠some (.dfz l))(hn:n<s.nx)(e:Ext H m s H1 m1 s1)(S:SR K CB H1 m1 s1)(hg:s1.get n=some (.dfz l)) :
  ∃ob vs,H1 (m.ad n)=some (.frz ob (.dK vs))/\∃m2,SR K CB (upd H1 (m.ad n) (.dK vs)) m2 (s1.set n (.dct l))/\Ext H m s (upd H1 (m.ad n) (.dK vs)) m2 (s1.set n (.dct l))/\ExtR H1 m1 s1 (upd H1 (m.ad n) (.dK vs)) m2 (s1.set n (.dct l)):=by
 have ea:m1.ad n=m.ad n:=e.ad n hn;have Oo:n∈s1.cs.map (·.1):=ak.mpr ⟨_,mY hg,rfl⟩;obtain⟨e1,ob,vs,h1,r1⟩:=S.get hg;rw[ea] at e1 h1;refine⟨ob,vs,h1,m1.fput n [m.ad n],?_⟩;obtain⟨S2,x2,_⟩:=S.put' (c':=.dct l) hg (upd H1 (m.ad n) (.dK vs)) [m.ad n] (fun a o h ha=>by rw[e1,au] at ha;rw[lg ha];exact h) (fun a ha=>.inl (by rw[e1];exact ha)) fun ex=>⟨by show(if n=n then [m.ad n] else m1.fp n)=[m1.ad n];rw[if_pos rfl,ea],vs,by show upd H1 (m.ad n) (.dK vs) (m1.ad n)=_;rw[ea];exact lr,r1.ext0 ex⟩
 refine⟨S2,⟨⟨e.toExtR.trans x2,fun j l' hj h=>?_⟩,e.hd,fun a ha o h n0=>?_⟩,x2⟩
 ·have RX:j≠n:=fun z=>h0 l' (by rw[<-z];exact h);obtain⟨g1,g2⟩:=e.df j l' hj h;refine⟨(mC RX).trans g1,fun o ho=>?_⟩;obtain⟨e3,_⟩:=S.ok _ (mY g1);have Ot:m.ad j≠m.ad n:=fun z=>S.dj j (ak.mpr ⟨_,mY g1,rfl⟩) n Oo RX (m1.ad j) (by rw[e3];simp) (by rw[e1,e.ad j hj,z];simp);rw[lg Ot];exact g2 o ho
 ·have ha':a∈m1.hid:=by rw[e.hd];exact ha
  have Ot:a≠m.ad n:=fun z=>S.hx n Oo a (by rw[e1,z];simp) ha';rw[lg Ot];exact e.hk a ha o h n0
def thw(n:Nat)(s:Sto):Option Sto:=match s.get n with
 |some (.dfz l)=>some (s.set n (.dct l))
 |_=>none
noncomputable def z8(j:Nat)(ix:List Nat)(c:XT)(e:XE)(ρ:En)(s:Sto):Out PV:=match ρ[j]? with
 |some (some (.ref n))=>match s.get n with
  |some (.dct l)=>if l.length<=100000 then(nc c e (my ix ρ) (l.map fun kv=>BJ kv.1) (s.set n (.dfz l))).bind fun vs s2=>match thw n s2 with
    |some s3=>.ok (.lst vs) s3
    |none=>.bad
   else .bad
  |_=>.bad
 |_=>.bad
def qY{s:Sto}{n:Nat}{c c':Cell}(h:s.get n=some c):(s.set n c').get n=some c':=by
 have:∀{l:List (Nat×Cell)},oo l n=some c->oo (ra n c' l) n=some c':=by
  intro l;induction l with
  |nil=>intro h;cases h
  |cons q r ih =>
   intro h;obtain⟨k,d⟩:=q;unfold ra;split
   ·unfold oo;rw[if_pos rfl]
   ·rename_i hk;unfold oo at h ⊢;rw[if_neg hk] at h ⊢;exact ih h
 exact this h
def iterC{K:aa}{H1:Hp}{m1:Mp}{s1:Sto}{n:Nat}{ob:Obj}{vs:List (Key×V)}{l:List (Key×PV)}(S1:SR K CB H1 m1 s1)(hg:s1.get n=some (.dfz l)){d:al}(ea:m1.ad n=d)(h1:H1 d=some (.frz ob (.dK vs)))(r:RepKs K H1 m1 s1 vs l):qU K CB (Itd d ob vs) (l.map fun kv=>BJ kv.1) H1 m1 s1 :=
 Ki (fun H m s ex S=>by have:=(ex.df n l (S1.getlt hg) hg).2;rw[ea] at this;exact this _ h1) r
def Jq(j:Nat)(he:∀cl C Oh Oi fp,DE (blk X scope cl C (x::fr) Oh Oi fp) CB E0 Oz f)(ht:∀cl C Oh Oi fp,DIfs (blk X scope cl C (x::fr) Oh Oi fp) CB Ov t:=by exact fun _ _ _ _ _=>uW)(hc:X.calm=true:=by rfl)(hN:X.N[j]?=some y:=by rfl)(hv:Vis X.env.scope y:=by first|exact eR rfl|exact gJ (eR rfl))(S:CompOk X.N X.env.scope scope x fr ix:=by exact ME ‹FnScope _ _ _›)(hs:∀v,cr (.Name y py) X.env v=pure v:=by intro _;rfl)(hd:NDb y:=by decide)(O7:(y==("__classdict__":Str))=false:=by decide):DE X CB E (.ListComp Oz [⟨.Name x px,.Name y py,Ov,0⟩] scope pos) (z8 j ix t f) :=
 ⟨(K1 (xg hc S (Gh (FC hN hv hd O7)) (fun cl C Oh Oi fp=>(ht cl C Oh Oi fp).pifs) (fun cl C Oh Oi fp=>(he cl C Oh Oi fp).pe) hs)).mono fun σ H Q ⟨ρ,s,m,er,S,P⟩=>by
  unfold z8 at P;split at P
  ·rename_i n hρ;split at P
   ·rename_i l hg;split at P
    ·rename_i Of;obtain⟨u,hu,ru⟩:=er.at_ j _ hρ;cases ru with
     |ref hn =>
     obtain⟨vs,h1,hf⟩:=S.freezeC hg;refine⟨m.ad n,vs,h1,_,hu,m.ad n,vs,rfl,.inl ⟨h1,fun ob D hD=>?_⟩⟩;obtain⟨m1,ea,S1,e1,r1⟩:=hf ob;have SU:(s.set n (.dfz l)).get n=some (.dfz l):=qY hg;have ea':m1.ad n=m.ad n:=by rw[ea]
     refine EA (E:=E0) (t:=t) (f:=f) S1 (er.ext e1) (iterC S1 SU ea' lr r1) hD (by simpa using Of) ?_;cases cc:nc t f (my ix ρ) (l.map fun kv=>BJ kv.1) (s.set n (.dfz l)) with
     |bad=>rw[cc] at P;exact P.elim
     |ex c' s'=>exact absurd cc wW
     |ok vs2 s2 =>
      rw[cc] at P;intro u2 H2 m2 e2 S2 r2;simp only[Out.bind] at P;unfold thw at P;split at P
      ·rename_i s3 h3;split at h3<;>cases h3
       rename_i l2 Rp;obtain⟨Ri,P0,q1,m3,S3,e3,x3⟩:=SR.thawC (fun l' z=>by rw[hg] at z;cases z) hn (e1.trans e2) S2 Rp;exact⟨Ri,P0,q1,P u2 _ m3 e3 S3 (r2.ext0 x3)⟩
      ·exact P.elim
    ·exact P.elim
   ·exact P.elim
  ·exact P.elim⟩
end
def erH(H:Hp)(d:al):Hp:=fun b=>if b=d then none else H b
def tW(h:a≠d):erH H d a=H a:=by unfold erH;rw[if_neg h]
def Er:erH H d d=none:=by unfold erH;rw[if_pos rfl]
section
variable{X:Cx}{CB:al}{E:XK}{a b c e Oz iter tg:bj}{es Ov:List bj}{f g h:XE}{fa fi:XA}{t:XT}{p px py pos Oy Og Oe:Pos}{x y:Str}{st:bL}{oY PF Pe:List bL}{u v:XS}{n k:Nat}{D:XF}{ps:List Str}
def SR.hideD{K:aa}{H:Hp}{m:Mp}{s:Sto}{d:al}{xs:List (Key×V)}(S:SR K CB H m s)(hd:H d=none):SR K CB (upd H d (.dK xs)) (m.hide d) s:=by
 have k:=My.rm (o:=.dK xs) hd;have S1:=S.same k;have e0:Ext0 H m s (upd H d (.dK xs)) (m.hide d) s:=Ext0.hide hd;have Ot:∀n∈s.cs.map (·.1),∀a∈m.fp n,a≠d:=fun n hn a ha z=>by obtain⟨q,hq,rfl⟩:=ak.mp hn;obtain⟨o,e,_⟩:=(S.ok q hq).kind ha;rw[z,hd] at e;cases e
 refine⟨S.nd,S.lt,fun q hq=>(S.ok q hq).keep S e0.toExtR (fun a _ o h=>k a o h) rfl rfl,S.dj,fun n hn a ha hb=>(aj.mp hb).elim (Ot n hn a ha) (S.hx n hn a ha),fun a ha=>?_,fun P q t=>⟨ah _ (S1.tb P q t).1,(S1.tb P q t).2⟩⟩;rcases aj.mp ha with rfl|ha
 ·rw[lr];exact⟨by simp,fun _ _=>⟨by simp,by simp,by simp,by simp⟩⟩
 ·exact S1.hs a ha
def Ly{K:aa}{H H2:Hp}{m m2:Mp}{s s2:Sto}{d:al}{xs:List (Key×V)}(S:SR K CB H m s)(hd:H d=none)(e:Ext (upd H d (.dK xs)) (m.hide d) s H2 m2 s2)(S2:SR K CB H2 m2 s2) :
  SR K CB (erH H2 d) (m2.bare m.hid) s2/\Ext H m s (erH H2 d) (m2.bare m.hid) s2/\ExtR H2 m2 s2 (erH H2 d) (m2.bare m.hid) s2/\H2 d=some (.dK xs):=by
 have hh:m2.hid=d::m.hid:=e.hd;have Oo:d∈m2.hid:=by rw[hh];exact ag
 have hD:H2 d=some (.dK xs):=e.hk d ag _ lr (by intro _ z;cases z);have tbE:TbS H2 (erH H2 d):=.of fun a o h od=>by rw[tW (show a≠d from fun z=>by rw[z,hD] at h;cases h;exact Fg od)];exact h
 have x2:ExtR H2 m2 s2 (erH H2 d) (m2.bare m.hid) s2:=by have ne:∀a,Pur m2 s2 a->a≠d:=fun a p z=>p.1 (by rw[z];exact Oo);refine⟨ax _,fun _ _=>rfl,fun a u h p=>⟨?_,fun z=>p.1 (by rw[hh];exact ah _ z),p.2⟩,fun a u h _ p=>by rw[tW (ne a p)];exact h⟩;exact h.elim (fun h=>.inl (by rw[tW (ne a p)];exact h)) fun⟨o,h⟩=>.inr ⟨o,by rw[tW (ne a p)];exact h⟩
 have fne:∀n∈s2.cs.map (·.1),∀a∈m2.fp n,a≠d:=fun n hn a ha z=>S2.hx n hn a ha (by rw[z];exact Oo);have dn:d∉m.hid:=fun z=>(S.hs d z).1 hd;have h2:∀a∈m.hid,a≠d:=fun a ha z=>dn (by rw[<-z];exact ha);refine⟨⟨S2.nd,S2.lt,fun q hq=>(S2.ok q hq).keep S2 x2 (fun a ha o h=>by rw[tW (fne q.1 (ak.mpr ⟨q,hq,rfl⟩) a ha)];exact h) rfl rfl,S2.dj,fun n hn a ha hb=>S2.hx n hn a ha (by rw[hh];exact ah _ hb),fun a ha=>?_,fun P q t=>⟨?_,tbE.2 P q (S2.tb P q t).2⟩⟩,?_,x2,hD⟩
 ·rw[tW (h2 a ha)];exact S2.hs a (by rw[hh];exact ah _ ha)
 ·obtain⟨h1,ps,h3,_⟩:=S2.tb P q t;rw[hh] at h1;rcases aj.mp h1 with z|z
  ·rw[z,hD] at h3;cases h3
  ·exact z
 ·have e1:=(Ext0.hide (m:=m) (s:=s) (o:=.dK xs) hd).trans e.toExt0;refine⟨⟨e1.toExtR.trans x2,fun j l hj h=>⟨(e1.df j l hj h).1,fun o ho=>?_⟩⟩,rfl,fun a ha o h n0=>?_⟩
  ·rw[tW (lI ho hd)];exact(e1.df j l hj h).2 o ho
  ·rw[tW (h2 a ha)];exact e.hk a (ah _ ha) o (My.rm hd _ _ h) n0
noncomputable def xDisp(f g:XE)(ρ:En)(s:Sto):Out PV:=match f ρ s with
 |.ok v s1=>match g ρ s1 with
  |.ok w s2=>match kyOf v with
   |some k=>.ok (.ref s2.nx) (s2.add (.dct [(k,w)]))
   |none=>.bad
  |_=>.bad
 |_=>.bad
def LV(hk:DE X CB E a f)(hv:DE X CB E b g):DE X CB E (.Dict [some a] [b] pos) (xDisp f g) :=
 ⟨(Gk (D5 hk.pe hv.pe Ge) rfl rfl (by simp) (by simp)).mono fun σ H Q ⟨ρ,s,m,er,S,P⟩ p0 hp=>by
  have e0:Ext0 H m s (upd H p0 (.dK [])) (m.hide p0) s:=Ext0.hide hp;have hm:SR X.K CB (upd H p0 (.dK [])) (m.hide p0) s:=S.hideD hp;refine⟨ρ,s,m.hide p0,er.ext0 e0.toExtR,hm,?_⟩;unfold xDisp at P;cases c1:f ρ s with
  |bad=>rw[c1] at P;exact P.elim
  |ex c' s'=>rw[c1] at P;exact P.elim
  |ok v s1 =>
   rw[c1] at P;intro u1 H1 m1 e1 S1 r1;refine⟨ρ,s1,m1,(er.ext0 e0.toExtR).ext e1,S1,?_⟩;dsimp only at P;cases c2:g ρ s1 with
   |bad=>rw[c2] at P;exact P.elim
   |ex c' s'=>rw[c2] at P;exact P.elim
   |ok w s2 =>
    rw[c2] at P;intro u2 H2 m2 e2 S2 r2;dsimp only at P;split at P
    ·rename_i k hk;obtain⟨S3,e3,x3,hD⟩:=Ly S hp (e1.trans e2) S2;have ek:u1=kV k:=uV r1 hk;refine⟨hD,[(k,u2)],by rw[ek];rfl,by simp,?_⟩;have SQ:Same (erH H2 p0) (upd H2 p0 (.dK [(k,u2)])):=fun c o h=>by
      have Ot:c≠p0:=fun z=>by rw[z,Er] at h;cases h
      rw[lg Ot];rw[tW Ot] at h;exact h
     obtain⟨S4,e4⟩:=S3.newD (l:=[(k,w)]) Er SQ lr (.cons (r2.ext0 x3) .nil);exact P _ _ _ (e3.trans e4) S4 .new
    ·exact P.elim⟩
def xIfe(t:XT)(f g:XE)(ρ:En)(s:Sto):Out PV:=(t ρ s).bind fun b s1=>if b=true then f ρ s1 else g ρ s1
def FN(hc:DT X CB E c t)(ha:DE X CB E a f)(hb:DE X CB E b g):DE X CB E (.IfExp c a b pos) (xIfe t f g) :=
 ⟨(IM hc.pt ha.pe hb.pe).mono fun σ H Q ⟨ρ,s,m,er,S,P⟩=>⟨ρ,s,m,er,S,P.bind fun v s1 b H1 m1 e1 S1 r1 P1=>by
  cases r1;refine tQ (fun c=>?_) fun c=>?_
  ·rw[if_pos c] at P1;exact⟨ρ,s1,m1,er.ext e1,S1,P1⟩
  ·rw[if_neg c] at P1;exact⟨ρ,s1,m1,er.ext e1,S1,P1⟩⟩⟩
inductive Ty5 where
 |int|bool|str|tuple|list
def Ty5.nm:Ty5->String
 |.int=>"int"|.bool=>"bool"|.str=>"str"|.tuple=>"tuple"|.list=>"list"
inductive Ty7 where
 |int|bool|str|tuple|list|non|dict
def Ty7.nm:Ty7->String
 |.int=>"int"|.bool=>"bool"|.str=>"str"|.tuple=>"tuple"|.list=>"list"|.non=>"NoneType"|.dict=>"dict"
def Ee:Ty7->Ty5->Bool
 |.int,.int=>true|.bool,.bool=>true|.bool,.int=>true|.str,.str=>true|.tuple,.tuple=>true|.list,.list=>true
 |_,_=>false
def Lv(K:aa):∀(t:Ty7)(u:Ty5),i5 K (.type t.nm) (.type u.nm)=some (Ee t u)
 |.int,.int=>by kernel_rfl
 |.int,.bool=>by kernel_rfl
 |.int,.str=>by kernel_rfl
 |.int,.tuple=>by kernel_rfl
 |.int,.list=>by kernel_rfl
 |.bool,.int=>by kernel_rfl
 |.bool,.bool=>by kernel_rfl
 |.bool,.str=>by kernel_rfl
 |.bool,.tuple=>by kernel_rfl
 |.bool,.list=>by kernel_rfl
 |.str,.int=>by kernel_rfl
 |.str,.bool=>by kernel_rfl
 |.str,.str=>by kernel_rfl
 |.str,.tuple=>by kernel_rfl
 |.str,.list=>by kernel_rfl
 |.tuple,.int=>by kernel_rfl
 |.tuple,.bool=>by kernel_rfl
 |.tuple,.str=>by kernel_rfl
 |.tuple,.tuple=>by kernel_rfl
 |.tuple,.list=>by kernel_rfl
 |.list,.int=>by kernel_rfl
 |.list,.bool=>by kernel_rfl
 |.list,.str=>by kernel_rfl
 |.list,.tuple=>by kernel_rfl
 |.list,.list=>by kernel_rfl
 |.non,.int=>by kernel_rfl
 |.non,.bool=>by kernel_rfl
 |.non,.str=>by kernel_rfl
 |.non,.tuple=>by kernel_rfl
 |.non,.list=>by kernel_rfl
 |.dict,.int=>by kernel_rfl
 |.dict,.bool=>by kernel_rfl
 |.dict,.str=>by kernel_rfl
 |.dict,.tuple=>by kernel_rfl
 |.dict,.list=>by kernel_rfl
noncomputable def FU(s:Sto):PV->Option Ty7
 |.int _=>some .int
 |.bl _=>some .bool
 |.str _=>some .str
 |.non=>some .non
 |.tup _=>some .tuple
 |v=>match lsOf s v with
  |some _=>some .list
  |none=>none
def xIsiT(T:Ty5)(f:XE)(ρ:En)(s:Sto):Out PV:=(f ρ s).bind fun v s1=>match FU s1 v with
 |some k=>.ok (.bl (Ee k T)) s1
 |none=>.bad
def qw(T5:Ty5)(ha:DE X CB E a f)(hx:x=(T5.nm:String):=by rfl)(hgi:Gl X "isinstance":=by rfl)(hmi:X.mg "isinstance"=none:=by exact T.b_isinstance)(hg:Gl X x:=by rfl)(hm:X.mg x=none:=by first|exact T.b_str|exact T.b_tuple|exact T.b_int|exact T.b_list|exact T.b_bool)(hv:bP x=some (.type T5.nm):=by first|exact J4|exact EF|exact J5|exact GM|exact L5)(hn:x≠"__name__":=by decide)(hd:NDb x:=by decide)(hs:aK [a,.Name x px] X.env=(false,eval a X.env)::aK [.Name x px] X.env:=by rfl)(OH:(cj pos (aK [.Name x px] X.env)).any (·.1)=false:=by rfl):DE X CB E (.Call (.Name "isinstance" p) [a,.Name x px] [] pos) (xIsiT T5 f) :=
 ⟨(om Jv hgi hmi AR (lG ha.pe (lG (K4 (v:=.ty T5.nm) hg hm hv rfl hn hd) pa_nil) hs) (by decide) (by decide) hs OH).mono fun σ H Q ⟨ρ,s,m,er,S,P⟩=>⟨ρ,s,m,er,S,P.bind fun v s1 u H1 m1 e1 S1 r1 P1=>by
  split at P1
  ·rename_i k hk;refine⟨u,.ty T5.nm,.type k.nm,Ee k T5,rfl,.inr ⟨_,rfl⟩,?_,Lv _ k T5,P1.here S1 .bl⟩;cases r1 with
   |non=>cases hk;exact .inl .non
   |bl=>cases hk;exact .inl (.bl _)
   |int=>cases hk;exact .inl (.int _)
   |str=>cases hk;exact .inl (.str _)
   |tup h1 h2=>cases hk;exact .inr (.inr (.inr ⟨_,_,rfl,rfl,h1.elim (fun z=>.inl z.1) .inr⟩))
   |lst h1 h2 h3=>cases hk;exact .inr (.inr (.inl ⟨_,_,rfl,rfl,SqL.of h1⟩))
   |seq h1 h3=>cases hk;exact .inr (.inr (.inl ⟨_,_,rfl,rfl,h1.elim (fun z=>.inl (.inr z.1)) .inr⟩))
   |dct h1 h2 h3=>cases hk
   |exc h1 h2=>cases hk
   |clo h1=>cases hk
   |ref h1 =>
    rename_i n;have hk:(match lsOf s1 (.ref n) with|some _=>some Ty7.list|none=>none)=some k:=hk;split at hk<;>cases hk
    rename_i l hl;obtain⟨b,vs,eb,q,_⟩:=(Rep.ref h1).ls S1 hl;cases eb;exact .inr (.inr (.inl ⟨_,vs,rfl,rfl,q⟩))
  ·exact P1.elim⟩⟩
noncomputable def sg:List (Key×PV)->Sto->Option (List (Key×PV)×Sto)
 |[],s=>some ([],s)
 |(k,v)::r,s=>match frz1 v s with
  |.ok w s1=>match sg r s1 with
   |some (r',s2)=>some ((k,w)::r',s2)
   |none=>none
  |_=>none
def Mz(v:PV)(s:Sto):Out PV:=match frz1 v s with
 |.ok (.dct l) s1=>match sg l s1 with
  |some (l',s2)=>.ok (.dct l') s2
  |none=>.bad
 |_=>.bad
def J8(f:XE)(ρ:En)(s:Sto):Out PV:=(f ρ s).bind Mz
theorem El{K:aa}{H:Hp}{m:Mp}:∀{l l':List (Key×PV)}{vs:List (Key×V)}{s s':Sto},SR K CB H m s->RepKs K H m s vs l->sg l s=some (l',s')->SR K CB H m s'/\Ext H m s H m s'/\RepKs K H m s' vs l'
 |[],_,_,_,_,S,r,e=>by cases e;cases r;exact⟨S,.refl,.nil⟩
 |(k,v)::l,l',_,s,s',S,.cons r1 r2,e=>by
  unfold sg at e;split at e
  ·rename_i w s1 h1;split at e
   ·rename_i r' s2 h2;cases e;obtain⟨S1,x1,q1⟩:=S.frz r1 h1;obtain⟨S2,x2,q2⟩:=El S1 (r2.ext x1) h2;exact⟨S2,x1.trans x2,.cons (q1.ext x2) q2⟩
   ·cases e
  ·cases e
def LU(h:DE X CB E e f):DE X CB E e (J8 f):=⟨h.pe.mono fun σ H Q ⟨ρ,s,m,er,S,P⟩=>⟨ρ,s,m,er,S,P.bind fun v s1 u H1 m1 e1 S1 r1 P1=>by
 unfold Mz at P1;split at P1
 ·rename_i l s2 h2;obtain⟨S2,x2,r2⟩:=S1.frz r1 h2;split at P1
  ·rename_i l' s3 h3;cases r2 with
   |dct g1 g2 g3 =>
    obtain⟨S3,x3,r3⟩:=El S2 g3 h3;exact P1 _ H1 m1 (x2.trans x3) S3 (.dct g1 (x3.pu _ _ g1 g2).2 r3)
  ·exact P1.elim
 ·exact P1.elim⟩⟩
end
section
variable{prog:aI}{w:aX}{A:cq}{R:ku->aw->Prop}{I:al}{fp wr:List al}{G:Array ky->Array ky->Prop}{n:Nat}{P:Nat->am->Prop}{St:Nat->aw->Prop}
end
section
variable{prog:aI}{w:aX}{A:cq}{E:am->aw->Prop}{s:aw}
end
section
variable{X:Cx}{x y:Str}{p q pos Tr:Pos}{e:bj}{te:TE}
end
section
variable{X:Cx}{e st:bj}{te:TE}{ts:TO}{pos p2:Pos}
end
section
variable{X:Cx}{CB:al}{E:XK}{a b c e st:bj}{es:List bj}{f g h:XE}{fa:XA}{t:XT}{p q p2 pos Tr:Pos}{x y:Str}
end
section
variable{X:Cx}{Oz iter tg:bj}{Ov:List bj}{pos:Pos}{scope:dq}{wi:TI}{tc:TT}{te:TE}{gt:TG}{xs fr:List Str}{ix:List Nat}
def IP(hc:X.calm=true)(S:CompOkG X.N X.env.scope scope xs fr ix)(hi:PI X tg iter wi)(hg:∀cl C Oh Oi fp,PG (blk X scope cl C (xs++fr) Oh Oi fp) tg gt)(ht:∀cl C Oh Oi fp,GS (blk X scope cl C (xs++fr) Oh Oi fp) Ov tc)(he:∀cl C Oh Oi fp,PE (blk X scope cl C (xs++fr) Oh Oi fp) Oz te)(hs:∀v,cr iter X.env v=pure v:=by intro _;rfl):PE X (.ListComp Oz [⟨tg,iter,Ov,0⟩] scope pos) (JF wi ix gt xs.length tc te):=by
 intro Ob s σ H Q I h;have Oq:∀y∈scope.names,y.2=.free->∃c,X.env.cells.lookup y.1=some c:=fun y hy hf=>I.ok.has y.1 (.inl (S.free y hy hf));rw[eval_ListComp];refine gF (use:=none) rfl hs (rR Oq) S.kind S.nm (thn (hi Ob s σ H _ I h) fun v s1 h1=>thn h1 fun RH s2 h2=>?_);obtain⟨it,fp,tn,J,H2,e,I2,T,Pg,f2,q2⟩:=h2;subst e;refine zE (PR:=fun Oj C r s'=>compPost (model X.prog X.w) X.A X.xe none (EP X Ob σ Q) Oj C r s') hc S hg ht he Oq I2 T Pg f2 q2 fun D C H' s' I' Sc ⟨b1,b2,b3,b4⟩ QI q'=>?_;obtain⟨m',Pi⟩:=QI;refine⟨m',Pi,fun h' RN=>⟨.ref D,H',?_,rfl,q'⟩⟩;exact I'.turned (t':=s'.toks) (it:=C) (fun b o hb e=>RN.extBut b o hb e) Sc b1 (.inr b2) b3 b4
end
def C7(q:PV)(s:Sto):Option (PV×PV):=match q with
 |.tup [p1,p2]=>some (p1,p2)
 |_=>none
def y2:XG:=yTup 2 (yCons (yName 0) (yCons (yName 1) yNil))
def y2_of(h:C7 q s=some (p1,p2)):y2 q (none::none::cap) s=some (some p1::some p2::cap):=by
 unfold C7 at h;split at h
 ·cases h;rfl
 ·cases h
noncomputable def pc(c:XT)(e:XE)(cap:En):List PV->Sto->Out (List PV)
 |[],s=>.ok [] s
 |q::l,s=>match C7 q s with
  |none=>.bad
  |some p=>match c (some p.1::some p.2::cap) s with
   |.ok true s1=>match e (some p.1::some p.2::cap) s1 with
    |.ok v s2=>match pc c e cap l s2 with
     |.ok vs s3=>.ok (v::vs) s3
     |_=>.bad
    |_=>.bad
   |.ok false s1=>pc c e cap l s1
   |_=>.bad
def yk:pc c e cap (q::l) s=match C7 q s with
  |none=>.bad
  |some p=>match c (some p.1::some p.2::cap) s with
   |.ok true s1=>match e (some p.1::some p.2::cap) s1 with
    |.ok v s2=>match pc c e cap l s2 with
     |.ok vs s3=>.ok (v::vs) s3
     |_=>.bad
    |_=>.bad
   |.ok false s1=>pc c e cap l s1
   |_=>.bad:=rfl
theorem BX:∀{l:List PV}{s s':Sto}{k:al},pc c e cap l s≠.ex k s'
 |[],_,_,_,h=>by cases h
 |q::l,s,s',k,h=>by
  unfold pc at h;split at h
  ·cases h
  ·split at h
   ·split at h
    ·split at h<;>cases h
    ·cases h
   ·exact BX h
   ·cases h
def yy(fi:XA)(ix:List Nat)(c:XT)(e:XE)(ρ:En)(s:Sto):Out PV:=(fi ρ s).bind fun l s1=>if l.length<=100000 then(pc c e (my ix ρ) l s1).bind fun vs s2=>.ok (.lst vs) s2 else .bad
section
variable{X:Cx}{CB:al}{E:XK}{Oz iter tg:bj}{Ov:List bj}{f:XE}{fi:XA}{t:XT}{pos:Pos}{scope:dq}{xs fr:List Str}{ix:List Nat}
def ER.weak2{K:aa}{H:Hp}{m:Mp}{s:Sto}{σ:St}{p1 p2:PV}{cap:En}(h:ER K H m s σ (some p1::some p2::cap)):ER K H m s σ (none::none::cap) :=
 ⟨h.len,fun i p q=>by
  match i,q with
  |0,q=>cases q
  |1,q=>cases q
  |i+2,q=>exact h.at_ (i+2) p q⟩
def ER.none2{K:aa}{H:Hp}{m:Mp}{s:Sto}{σ:St}{cap:En}(h:ER K H m s σ cap):ER K H m s (aT 2 none++σ) (none::none::cap) :=
 ⟨by have:=h.len;simp at this ⊢;omega,fun i p q=>by
  match i,q with
  |0,q=>cases q
  |1,q=>cases q
  |i+2,q=>exact h.at_ i p q⟩
def Cmp.env{K:aa}{D:al}{H1 H2:Hp}{m1 m2:Mp}{s1 s2:Sto}{cap Sj:St}{ρ ρ':En}{ys:List V}{done:List PV}(C:Cmp K CB D H1 m1 s1 cap ρ ys done H2 m2 s2)(er:ER K H2 m2 s2 Sj ρ'):Cmp K CB D H1 m1 s1 Sj ρ' ys done H2 m2 s2:=⟨C.hid,C.at_,C.sr,er,C.rs,C.ex,C.e0⟩
def HD{σ:St}{H1:Hp}{m1:Mp}{s1:Sto}{ρ:En}{J:It}{l:List PV}{D:al}{Q:VK}{t:XT}(S1:SR X.K CB H1 m1 s1)(er:ER X.K H1 m1 s1 σ ρ)(it:qU X.K CB J l H1 m1 s1)(hD:H1 D=none)(Of:l.length<=100000)(P:Post X.K CB (Rep X.K) E ((pc t f (my ix ρ) l s1).bind fun vs s2=>.ok (.lst vs) s2) H1 m1 s1 Q):Dg J (TDG X.K CB y2) 2 (TDT X.K CB E0 t) (TDE X.K CB E0 f) (capt ix σ) D H1 Q:=by
 refine⟨fun i k ys σ2 H2=>∃done m2 s2,Cmp X.K CB D H1 m1 s1 σ2 (none::none::my ix ρ) ys done H2 m2 s2/\i<=l.length/\ys.length<=i/\k=l.length-i/\(pc t f (my ix ρ) l s1).bind (fun vs s2=>.ok (PV.lst vs) s2)=(pc t f (my ix ρ) (l.drop i) s2).bind fun vs s2=>.ok (.lst (done++vs)) s2,⟨l.length,[],m1.hide D,s1,(Cmp.start S1 (er.capt ix) hD).env ((er.capt ix).none2.ext0 (Ext0.hide hD).toExtR),ba _,ba _,rfl,?_⟩,?_⟩
 ·simp
 rintro i k ys σ2 H2 ⟨done,m2,s2,C,hi,hy,rfl,eq⟩
 obtain⟨QV,QU⟩:=it i H2 m2 s2 C.e0 C.sr;by_cases Ow:i<l.length
 ·right;have hq:l[i]?=some l[i]:=br Ow;obtain⟨go,yl⟩:=QV _ hq;refine⟨go,fun x H3 QW=>?_⟩;obtain⟨e3,S3,r3⟩:=yl x H3 QW;have C3:=C.step hD e3 S3;rw[d6 Ow] at eq;rw[eq] at P;rw[yk] at P eq;cases hp:C7 l[i] s2 with
  |none=>rw[hp] at P;exact P.elim
  |some pq =>
   obtain⟨p1,p2⟩:=pq;rw[hp] at P eq;dsimp only at P eq;refine⟨_,s2,m2,l[i],_,C3.er,S3,r3,y2_of hp,fun σ3 Qh=>?_⟩;have C3:=C3.env Qh;refine⟨_,s2,m2,Qh,S3,?_⟩;cases ct:t (some p1::some p2::my ix ρ) s2 with
   |bad=>rw[ct] at P;exact P.elim
   |ex c3 s3=>rw[ct] at P;exact P.elim
   |ok bt s3 =>
    rw[ct] at P eq;intro b4 H4 m4 e4 S4 hb;subst hb;have C4:=C3.step hD e4 S4;cases b4 with
    |false =>
     exact JU ⟨l.length-(i+1),by omega,done,m4,s3,C4.env C4.er.weak2,Ow,by omega,rfl,eq⟩
    |true =>
     refine Lx ⟨_,s3,m4,C4.er,S4,?_⟩;dsimp only at P eq;cases cf:f (some p1::some p2::my ix ρ) s3 with
     |bad=>rw[cf] at P;exact P.elim
     |ex c5 s5=>rw[cf] at P;exact P.elim
     |ok v s5 =>
      rw[cf] at eq;intro w H5 m5 e5 S5 r5;have C5:=C4.step hD e5 S5;refine⟨C5.at_,aM (aC hy (aC hi Of)) (by decide),l.length-(i+1),by omega,done++[v],m5,s5,(C5.push hD r5).env (C5.push hD r5).er.weak2,Ow,by simp;omega,rfl,?_⟩;rw[eq];dsimp only;cases hh:pc t f (my ix ρ) (l.drop (i+1)) s5 with
      |ok vs s6=>simp[Out.bind]
      |ex c6 s6=>exact absurd hh BX
      |bad=>rfl
 ·left;have Pa:l.length<=i:=dZ Ow;rw[cO Pa] at eq;rw[eq] at P;unfold pc at P;obtain⟨Sk,rd⟩:=C.done;refine⟨QU Pa,C.at_,P (.ref D) H2 (m2.bare m1.hid) C.ex Sk ?_⟩;rw[bJ];exact rd fun z=>(S1.hs D z).1 hD
def Dz{t:XT}(q:TDE X.K CB E (yy fi ix t f) σ H Q):JF (TDI X.K CB E fi) ix (TDG X.K CB y2) 2 (TDT X.K CB E0 t) (TDE X.K CB E0 f) σ H Q:=by
 obtain⟨ρ,s,m,er,S,P⟩:=q;refine⟨ρ,s,m,er,S,?_⟩;unfold yy at P;cases c:fi ρ s with
 |bad=>rw[c] at P;exact P
 |ex c' s'=>rw[c] at P;exact P
 |ok l s1 =>
  rw[c] at P;dsimp only[Out.bind] at P;split at P
  ·rename_i Of;intro J H1 m1 e1 S1 it D hD;exact HD S1 (er.ext e1) it hD Of (Post.shift e1 P)
  ·exact P.elim
variable{PD Pp:Str}{q1 q2 q3:Pos}{kt:Nat}
def LN(hN:([PD,Pp]++fr).Nodup)(h1:scope.names.lookup PD=some .local)(h2:scope.names.lookup Pp=some .local):DG (blk X scope cl C ([PD,Pp]++fr) Oh Oi fp) CB (.Tuple [.Name PD q1,.Name Pp q2] kt q3) y2 :=
 yF (mR (lS 0 hN rfl (.inl (di h1)) (.inr (di h1))) (mR (lS 1 hN rfl (.inl (di h2)) (.inr (di h2))) vR))
def Jr(hi:DI X CB E (.Tuple [.Name PD q1,.Name Pp q2] kt q3) iter fi)(he:∀cl C Oh Oi fp,DE (blk X scope cl C ([PD,Pp]++fr) Oh Oi fp) CB E0 Oz f)(ht:∀cl C Oh Oi fp,DIfs (blk X scope cl C ([PD,Pp]++fr) Oh Oi fp) CB Ov t:=by exact fun _ _ _ _ _=>uW)(hc:X.calm=true:=by rfl)(S:CompOkG X.N X.env.scope scope [PD,Pp] fr ix:=by exact cokG ‹FnScope _ _ _›)(h1:scope.names.lookup PD=some .local:=by rfl)(h2:scope.names.lookup Pp=some .local:=by rfl)(hs:∀v,cr iter X.env v=pure v:=by intro _;rfl):DE X CB E (.ListComp Oz [⟨.Tuple [.Name PD q1,.Name Pp q2] kt q3,iter,Ov,0⟩] scope pos) (yy fi ix t f) :=
 ⟨(IP hc S hi.pi (fun cl C Oh Oi fp=>(LN (CB:=CB) S.nd h1 h2).pg) (fun cl C Oh Oi fp=>(ht cl C Oh Oi fp).pifs) (fun cl C Oh Oi fp=>(he cl C Oh Oi fp).pe) hs).mono fun σ H Q q=>Dz q⟩
end
def NOw(u:HO):Prop:=∀o x,u≠.frz o (.own x)
section
variable{K:aa}{CB:al}{H H':Hp}{m:Mp}{s:Sto}
mutual
theorem Rep.now(k:∀a u,H a=some u->NOw u->H' a=some u):∀{v:V}{p:PV},Rep K H m s v p->Rep K H' m s v p
 |_,_,.non=>.non
 |_,_,.bl=>.bl
 |_,_,.int=>.int
 |_,_,.str=>.str
 |_,_,.tup h r=>.tup (h.imp (fun z=>⟨z.1.imp (fun h=>k _ _ h (by intro _ _ z;cases z)) fun⟨o,h⟩=>⟨o,k _ _ h (by intro _ _ z;cases z)⟩,z.2⟩) fun z=>z) (Reps.now k r)
 |_,_,.lst h p r=>.lst (k _ _ h (by intro _ _ z;cases z)) p (Reps.now k r)
 |_,_,.seq h r=>.seq (h.imp (fun⟨⟨o,z⟩,p⟩=>⟨⟨o,k _ _ z (by intro _ _ z;cases z)⟩,p⟩) fun z=>z) (Reps.now k r)
 |_,_,.dct h p r=>.dct (h.imp (fun h=>k _ _ h (by intro _ _ z;cases z)) fun⟨o,h⟩=>⟨o,k _ _ h (by intro _ _ z;cases z)⟩) p (RepKs.now k r)
 |_,_,.ref h=>.ref h
 |_,_,.exc h p=>.exc (k _ _ h (by intro _ _ z;cases z)) p
 |_,_,.clo r=>.clo (Reps.now k r)
theorem Reps.now(k:∀a u,H a=some u->NOw u->H' a=some u):∀{v:List V}{p:List PV},Reps K H m s v p->Reps K H' m s v p
 |_,_,.nil=>.nil
 |_,_,.cons a b=>.cons (Rep.now k a) (Reps.now k b)
theorem RepKs.now(k:∀a u,H a=some u->NOw u->H' a=some u):∀{v:List (Key×V)}{p:List (Key×PV)},RepKs K H m s v p->RepKs K H' m s v p
 |_,_,.nil=>.nil
 |_,_,.cons a b=>.cons (Rep.now k a) (RepKs.now k b)
end
variable{cs:List (al×Obj)}
end
def Fro(H H':Hp):Prop:=∀a o u,H a=some (.frz o u)->H' a=some (.frz o u)
structure CloC(P:aI)(w:aX)(K:aa)(mg:Str->Option am)(base:bA)(k:Nat)(CB f:al)(vs:List V)(H:Hp)(dr:List PV->PV->Sto->Out PV):Prop where
 ex:∃of fd0 fd ps sp,H f=some (fzO of)/\of.data=.func fd0/\FnOk P w K mg base (CXo P w) k f fd ps sp/\Binds K fd ps [] /\
  ∀H' m s v p l Q,Fro H H'->SR K CB H' m s->Reps K H' m s vs l->Rep K H' m s v p->Post K CB (Rep K) E0 (dr l p s) H' m s Q->sp [v] H' Q E0
open Classical in
section
variable{X:Cx}{CB:al}{E:XK}{k i:Nat}{x:Str}{p pos:Pos}{e:bj}{g:XE}{f:al}{vs:List V}{dr:List PV->PV->Sto->Out PV}
end
open Classical in
section
variable{X:Cx}{CB:al}{E:XK}{k kb:Nat}{fn y q:Str}{p pos lpos:Pos}{g:XE}{params:jH}{body:bj}{scope:dq}{fr:List Str}{ix:List Nat}{cd P:al}{D:al->List V->(List PV->PV->Sto->Out PV)->XF}{pn:Str}
end
noncomputable def yx(fi:XA)(ix:List Nat)(c:XT)(e:XE)(ρ:En)(s:Sto):Out PV:=(fi ρ s).bind fun l s1=>if l.length<=100000 then(nc c e (my ix ρ) l s1).bind fun vs s2=>.ok (.ref s2.nx) (s2.add (.lst vs)) else .bad
section
variable{X:Cx}{CB:al}{E:XK}{a b c e Oz iter tg:bj}{es Ov:List bj}{f g h:XE}{fa fi:XA}{t:XT}{p px pos Oy Og Oe:Pos}{x:Str}{st:bL}{oY PF Pe:List bL}{u v:XS}{scope:dq}{fr:List Str}{ix:List Nat}
def Cmp.cell{K:aa}{D:al}{H1 H2:Hp}{m1 m2:Mp}{s1 s2:Sto}{cap:St}{ρ:En}{ys:List V}{done:List PV}(C:Cmp K CB D H1 m1 s1 cap ρ ys done H2 m2 s2)(hD:H1 D=none)(hn:D∉m1.hid) :
  SR K CB H2 ((m2.bare m1.hid).add s2.nx D [D]) (s2.add (.lst done))/\Ext H1 m1 s1 H2 ((m2.bare m1.hid).add s2.nx D [D]) (s2.add (.lst done)):=by
 have S:=C.sr;have Oo:D∈m2.hid:=by rw[C.hid];exact ag
 have Ow:∀j∈s2.cs.map (·.1),j≠s2.nx:=fun j hj=>a6 (S.lt j hj);have Py:∀j∈s2.cs.map (·.1),((m2.bare m1.hid).add s2.nx D [D]).fp j=m2.fp j:=fun j hj=>if_neg (Ow j hj);have PN:((m2.bare m1.hid).add s2.nx D [D]).fp s2.nx=[D]:=if_pos rfl;have had:((m2.bare m1.hid).add s2.nx D [D]).ad s2.nx=D:=if_pos rfl;have nD:∀j∈s2.cs.map (·.1),D∉m2.fp j:=fun j hj z=>S.hx j hj D z Oo;have hk:∀{j:Nat},j∈(s2.add (.lst done)).cs.map (·.1)->j=s2.nx\/j∈s2.cs.map (·.1):=fun{j} hj=>aj.mp (show j∈s2.nx::s2.cs.map (·.1) from hj);have QY:∀a,a∈m1.hid->a∈m2.hid:=fun a ha=>by rw[C.hid];exact ah _ ha
 have pur:∀a,a≠D->a∉m1.hid->(∀n∈s2.cs.map (·.1),a∉m2.fp n)->Pur ((m2.bare m1.hid).add s2.nx D [D]) (s2.add (.lst done)) a:=fun a h1 h2 h3=>⟨h2,fun j hj ha=>by
  rcases hk hj with rfl|hj
  ·rw[PN,au] at ha;exact h1 ha
  ·rw[Py j hj] at ha;exact h3 j hj ha⟩
 have x:ExtR H2 m2 s2 H2 ((m2.bare m1.hid).add s2.nx D [D]) (s2.add (.lst done)):=⟨hZ _,fun j hj=>if_neg (a6 hj),fun a u h p=>⟨h,pur a (fun z=>p.1 (z▸Oo)) (fun z=>p.1 (QY a z)) p.2⟩,fun a u h _ _=>h⟩;have e1:s1.nx<=s2.nx:=C.ex.nx;refine⟨⟨?_,?_,fun q hq=>?_,fun j hj i hi Ot a ha hb=>?_,fun j hj a ha hb=>?_,fun a ha=>S.hs a (QY a ha),fun P q t=>⟨?_,(S.tb P q t).2⟩⟩,⟨⟨⟨Nat.le_succ_of_le e1,fun n hn=>?_,fun a u h p=>?_,C.ex.el⟩,fun n l hn h=>?_⟩,rfl,C.ex.hk⟩⟩
 ·exact az.mpr ⟨fun z=>Ow _ z rfl,S.nd⟩
 ·intro j hj;rcases hk hj with rfl|hj
  ·exact dw _
  ·exact iT (S.lt j hj)
 ·rcases aj.mp (show q∈(s2.nx,Cell.lst done)::s2.cs from hq) with rfl|hq
  ·exact⟨by rw[PN,had],ys,by rw[had];exact C.at_,C.rs.ext0 x⟩
  ·have RO:q.1∈s2.cs.map (·.1):=ak.mpr ⟨q,hq,rfl⟩;exact(S.ok q hq).keep S x (fun a _ o h=>h) (x.ad _ (S.lt _ RO)) (Py _ RO)
 ·rcases hk hj with e|hj<;>rcases hk hi with e'|hi
  ·exact Ot (e.trans e'.symm)
  ·rw[e,PN,au] at ha;rw[Py i hi,ha] at hb;exact nD i hi hb
  ·rw[e',PN,au] at hb;rw[Py j hj,hb] at ha;exact nD j hj ha
  ·rw[Py j hj] at ha;rw[Py i hi] at hb;exact S.dj j hj i hi Ot a ha hb
 ·have hb:a∈m1.hid:=hb;rcases hk hj with e|hj
  ·rw[e,PN,au] at ha;rw[ha] at hb;exact hn hb
  ·rw[Py j hj] at ha;exact S.hx j hj a ha (QY a hb)
 ·obtain⟨h1,ps,h2,_⟩:=S.tb P q t;rw[C.hid] at h1;rcases aj.mp h1 with z|z
  ·rw[z,C.at_] at h2;cases h2
  ·exact z
 ·have:n≠s2.nx:=a6 (aA hn e1);exact(if_neg this).trans (C.ex.ad n hn)
 ·obtain⟨h1,p1⟩:=C.ex.pu a u h p;exact⟨h1,pur a (h.ne hD) p1.1 p1.2⟩
 ·obtain⟨h1,h2⟩:=C.ex.df n l hn h;refine⟨?_,h2⟩;show oo ((s2.nx,Cell.lst done)::s2.cs) n=_;unfold oo;rw[if_neg (fun z=>a6 (aA hn e1) z.symm)];exact h1
def HC{t:XT}(S1:SR X.K CB H1 m1 s1)(er:ER X.K H1 m1 s1 σ ρ)(it:qU X.K CB J l H1 m1 s1)(hD:H1 D=none)(Of:l.length<=100000)(P:Post X.K CB (Rep X.K) E ((nc t f (my ix ρ) l s1).bind fun vs s2=>.ok (.ref s2.nx) (s2.add (.lst vs))) H1 m1 s1 Q):CompB J (TDT X.K CB E0 t) (TDE X.K CB E0 f) (capt ix σ) D H1 Q:=by
 refine⟨fun i k ys H2=>∃done m2 s2,Cmp X.K CB D H1 m1 s1 (capt ix σ) (my ix ρ) ys done H2 m2 s2/\i<=l.length/\ys.length<=i/\k=l.length-i/\(nc t f (my ix ρ) l s1).bind (fun vs s2=>.ok (PV.ref s2.nx) (s2.add (.lst vs)))=(nc t f (my ix ρ) (l.drop i) s2).bind fun vs s2=>.ok (.ref s2.nx) (s2.add (.lst (done++vs))),⟨l.length,[],m1.hide D,s1,Cmp.start S1 (er.capt ix) hD,ba _,ba _,rfl,?_⟩,?_⟩
 ·simp
 rintro i k ys H2 ⟨done,m2,s2,C,hi,hy,rfl,eq⟩
 obtain⟨QV,QU⟩:=it i H2 m2 s2 C.e0 C.sr;by_cases Ow:i<l.length
 ·right;have hq:l[i]?=some l[i]:=br Ow;obtain⟨go,yl⟩:=QV _ hq;refine⟨go,fun x H3 QW=>?_⟩;obtain⟨e3,S3,r3⟩:=yl x H3 QW;have C3:=C.step hD e3 S3;rw[d6 Ow] at eq;rw[eq] at P;rw[pU] at P eq;refine⟨some l[i]::my ix ρ,s2,m2,C3.er.cons r3,S3,?_⟩;cases ct:t (some l[i]::my ix ρ) s2 with
  |bad=>rw[ct] at P;exact P.elim
  |ex c3 s3=>rw[ct] at P;exact P.elim
  |ok bt s3 =>
   rw[ct] at P eq;intro b4 H4 m4 e4 S4 hb;subst hb;have C4:=C3.step hD e4 S4;cases b4 with
   |false =>
    exact JU ⟨l.length-(i+1),by omega,done,m4,s3,C4,Ow,by omega,rfl,eq⟩
   |true =>
    refine Lx ⟨some l[i]::my ix ρ,s3,m4,C4.er.cons (r3.ext e4),S4,?_⟩;dsimp only at P eq;cases cf:f (some l[i]::my ix ρ) s3 with
    |bad=>rw[cf] at P;exact P.elim
    |ex c5 s5=>rw[cf] at P;exact P.elim
    |ok v s5 =>
     rw[cf] at eq;intro w H5 m5 e5 S5 r5;have C5:=C4.step hD e5 S5;refine⟨C5.at_,aM (aC hy (aC hi Of)) (by decide),l.length-(i+1),by omega,done++[v],m5,s5,C5.push hD r5,Ow,by simp;omega,rfl,?_⟩;rw[eq];dsimp only;cases hh:nc t f (my ix ρ) (l.drop (i+1)) s5 with
     |ok vs s6=>simp[Out.bind]
     |ex c6 s6=>exact absurd hh wW
     |bad=>rfl
 ·left;have Pa:l.length<=i:=dZ Ow;rw[cO Pa] at eq;rw[eq] at P;unfold nc at P;obtain⟨Sk,Pp⟩:=C.cell hD fun z=>(S1.hs D z).1 hD;have P:Post X.K CB (Rep X.K) E (.ok (.ref s2.nx) (s2.add (.lst (done++[])))) H1 m1 s1 Q:=P;rw[bJ] at P;refine⟨QU Pa,C.at_,?_⟩;have P:=P (.ref D) H2 ((m2.bare m1.hid).add s2.nx D [D]) Pp Sk;have e0:((m2.bare m1.hid).add s2.nx D [D]).ad s2.nx=D:=if_pos rfl;refine P ?_;have r:=Rep.ref (K:=X.K) (H:=H2) (m:=(m2.bare m1.hid).add s2.nx D [D]) (s:=s2.add (.lst done)) (n:=s2.nx) (dw _);rw[e0] at r;exact r
def Dy{t:XT}(q:TDE X.K CB E (yx fi ix t f) σ H Q):HK (TDI X.K CB E fi) ix (TDT X.K CB E0 t) (TDE X.K CB E0 f) σ H Q:=by
 obtain⟨ρ,s,m,er,S,P⟩:=q;refine⟨ρ,s,m,er,S,?_⟩;unfold yx at P;cases c:fi ρ s with
 |bad=>rw[c] at P;exact P
 |ex c' s'=>rw[c] at P;exact P
 |ok l s1 =>
  rw[c] at P;dsimp only[Out.bind] at P;split at P
  ·rename_i Of;intro J H1 m1 e1 S1 it D hD;exact HC S1 (er.ext e1) it hD Of (Post.shift e1 P)
  ·exact P.elim
def Dx(hi:DI X CB E (.Name x px) iter fi)(he:∀cl C Oh Oi fp,DE (blk X scope cl C (x::fr) Oh Oi fp) CB E0 Oz f)(ht:∀cl C Oh Oi fp,DIfs (blk X scope cl C (x::fr) Oh Oi fp) CB Ov t:=by exact fun _ _ _ _ _=>uW)(hN:X.N.Nodup:=by exact ‹FnScope _ _ _›.nd)(RY:X.N[i]?=some y:=by rfl)(Ro:X.env.scope.names.lookup y=some .local:=by rfl)(hc:X.calm=true:=by rfl)(S:CompOk X.N X.env.scope scope x fr ix:=by exact ME ‹FnScope _ _ _›)(RL:fO (.ListComp Oz [⟨.Name x px,iter,Ov,0⟩] scope pos) (some (.Name y py)) spos.line X.env=pure true:=by rfl)(hs:∀v,cr iter X.env v=pure v:=by intro _;rfl):DS X CB E (.Assign [.Name y py] (.ListComp Oz [⟨.Name x px,iter,Ov,0⟩] scope pos) spos) (xSet i (yx fi ix t f)) :=
 ⟨(zf hN RY Ro hc S hi.pi (fun cl C Oh Oi fp=>(ht cl C Oh Oi fp).pifs) (fun cl C Oh Oi fp=>(he cl C Oh Oi fp).pe) RL hs).mono fun D σ H ⟨ρ,s,m,er,S,P⟩ =>
  Dy ⟨ρ,s,m,er,S,Post.so P fun v s1 u H1 m1 e1 S1 r1 P1=>P1.next S1 ((er.ext e1).set i r1)⟩⟩
end
structure DEx(X:Cx)(CB:al)(e:bj)(f:XE):Prop where
 pex:PEx X e (fun E=>TDE X.K CB E f)
structure DSx(X:Cx)(CB:al)(st:bL)(u:XS):Prop where
 psx:PSx X st (fun E=>TDS X.K CB E u)
def z9(n:Nat)(D:XF)(fa:XA)(ρ:En)(s:Sto):Out PV:=match fa ρ s with
 |.ok vs s1=>if vs.length=n then D vs s1 else .bad
 |_=>.bad
section
variable{X:Cx}{CB:al}{E:XK}{a b c e:bj}{es:List bj}{f g h:XE}{fa:XA}{t:XT}{p pos Oy Og Oe np hp:Pos}{x y:Str}{st Rw:bL}{bs PF:List bL}{u v:XS}{n k:Nat}{D:XF}{ps:List Str}
def PEx.mono{t t':XK->TE}(h:PEx X e t)(k:∀E σ H Q,t' E σ H Q->t E σ H Q):PEx X e t':=fun Ob s σ H Q E I q=>h Ob s σ H Q E I (k E σ H Q q)
def PSx.mono{t t':XK->TS}(h:PSx X st t)(k:∀E D σ H,t' E D σ H->t E D σ H):PSx X st t':=fun Ob s σ H D E I q=>h Ob s σ H D E I (k E D σ H q)
def NQ(F:Fn X.prog X.w X.K X.mg X.base x k ps (spD X.K CB n D))(ha:DA X.nox CB E0 (e::es) fa){jr:Nat}(hr:Room jr X.A:=by assumption)(hk:k<=jr:=by first|decide|omega)(hg:Gl X x:=by rfl)(OF:NDb x:=by decide)(he:SEb X e es:=by rfl)(OH:(cj pos (aK es X.env)).any (·.1)=false:=by rfl):DEx X CB (.Call (.Name x p) (e::es) [] pos) (z9 n D fa) :=
 ⟨(Ng F (hr.mono hk) hg ha.pa OF he OH).mono fun E σ H Q ⟨ρ,s,m,er,S,P⟩=>⟨ρ,s,m,er,S,by
  unfold z9 at P;cases cc:fa ρ s with
  |bad=>rw[cc] at P;exact P
  |ex c s1=>rw[cc] at P;exact P.elim
  |ok vs s1 =>
   rw[cc] at P;dsimp only at P;split at P
   ·rename_i hl;intro us H1 m1 e1 S1 r1;rw[bJ];exact⟨by rw[r1.length];exact hl,vs,s1,m1,r1,S1,Post.shift e1 P⟩
   ·exact P.elim⟩⟩
open Classical in
noncomputable def Mb(i:Nat)(cl:List al)(u h:XS)(ρ:En)(s:Sto):SO:=match u ρ s with
 |.ex c s1=>if c∈cl then(match h (ρ.set i (some (.exc c))) s1 with
  |.nx ρ' s'=>.nx (ρ'.set i none) s'
  |.rt v s'=>.rt v s'
  |_=>.bad) else .bad
 |o=>o
def ER.put{K:aa}{H:Hp}{m:Mp}{s:Sto}{σ:St}{ρ:En}(h:ER K H m s σ ρ)(i:Nat):ER K H m s (σ.set i none) (ρ.set i none) :=
 ⟨by rw[jd,jd];exact h.len,fun j p q=>by
  by_cases z:i=j
  ·subst z;rw[iM] at q;split at q
   ·split at q<;>cases q
   ·exact absurd rfl ‹_›
  ·rw[fL z] at q ⊢;exact h.at_ j p q⟩
def NO(hc:X.calm=true)(O6:X.stack=X.env::X.outer)(hf:X.env.frame=some X.env.locals)(T4:X.ex=[])(hb:DSx X CB st u)(hg:Gl X x)(hm:X.mg x=some (.ref D0))(ZD:Exc X.K D0)(QM:∀c∈cl,Exc X.K c/\dz X.K c (.ref D0)=some true)(hN:X.N.Nodup)(hi:X.N[i]?=some nm)(hl:X.env.scope.names.lookup nm=some .local)(hh:∀a,DSs (hnd X a) CB E0 (Rw::bs) v)(hd:NDb x:=by decide) :
  DS X CB E (.Try [st] [.ExceptHandler (some (.Name x np)) (some nm) (Rw::bs) hp] [] [] pos) (Mb i cl u v) :=
 ⟨(M8 (th:=TDS X.K CB E0 v) hc O6 hf T4 (IE hb.psx) hg hm ZD hN hi hl (fun a=>(hh a).pss) hd).mono fun D σ H ⟨ρ,s,m,er,S,P⟩=>by
  refine⟨ρ,s,m,er,S,?_⟩;unfold Mb at P;cases cc:u ρ s with
  |nx=>rw[cc] at P;exact P
  |rt=>rw[cc] at P;exact P
  |bk=>rw[cc] at P;exact P
  |ct=>rw[cc] at P;exact P
  |bad=>rw[cc] at P;exact P
  |ex c s1 =>
   rw[cc] at P;dsimp only at P;split at P
   ·rename_i Oo;intro H' m' e1 S1;refine⟨c,rfl,(QM c Oo).1,(QM c Oo).2,fun ad hn=>?_⟩;have k:=My.rm (o:=GA c ad) hn;have e2:Ext H' m' s1 (upd H' ad (GA c ad)) m' s1:=.same k;have r2:Rep X.K (upd H' ad (GA c ad)) m' s1 (.ref ad) (.exc c):=.exc lr (S1.pure_none hn);refine⟨ρ.set i (some (.exc c)),s1,m',((er.ext e1).ext e2).set i r2,S1.same k,?_⟩;have P:=PostS.shift (e1.trans e2) P;cases ch:v (ρ.set i (some (.exc c))) s1 with
    |nx ρ' s'=>rw[ch] at P;exact fun σ' H2 m2 x2 S2 Uo=>P _ H2 m2 x2 S2 (Uo.put i)
    |rt w s'=>rw[ch] at P;exact P
    |bk=>rw[ch] at P;exact P.elim
    |ct=>rw[ch] at P;exact P.elim
    |ex=>rw[ch] at P;exact P.elim
    |bad=>rw[ch] at P;exact P.elim
   ·exact P.elim⟩
open Classical in
end
section
variable{X:Cx}{CB:al}{E:XK}{a b e:bj}{f g:XE}{pos p1 p2 p3:Pos}
def lJ(i:Int):Str:=ac (toString i)
def HE:CallR X (.type "str") (fun xs H Q=>(∃i,xs=[.int i]/\i.natAbs.log2<1920/\Q (.str (lJ i)) H)\/∃x,xs=[.str x]/\Q (.str x) H):=by
 intro Ob s σ H xs us Q I r h;rcases h with⟨i,rfl,hz,q⟩|⟨x,rfl,q⟩
 ·obtain⟨u,rfl,t,rfl⟩:=tj r;exact PySem.P.str_of_int hz ⟨.str _,H,I.tok _,⟨_,rfl⟩,q⟩
 ·obtain⟨u,rfl,t,rfl⟩:=tj r;exact PySem.P.str_of_str ⟨.str _,H,I,⟨_,rfl⟩,q⟩
def PJx(X:Cx)(es:List bj)(t:St->Hp->Str->(Str->Hp->Prop)->Prop):Prop:=∀(Ob:List (al×Obj))(s:aw)(σ:St)(H:Hp)(Oj:Str)(Q:Str->Hp->Prop),Inv X Ob σ H s->t σ H Oj Q ->
 Joins (model X.prog X.w) X.A X.xe (kh es X.env) Oj (fun out s1=>out.length<=aH/\∃H',Inv X Ob σ H' s1/\Q out H') s
def KZ:PJx X [] (fun _ H Oj Q=>Oj.length<=aH/\Q Oj H):=fun Ob s σ H Oj Q I h=>⟨h.1,H,I,h.2⟩
def KY{j pos}(hr:PJx X es t):PJx X (.Constant (.str c) j pos::es) (fun σ H Oj Q=>(Oj++c).length<=aH/\t σ H (Oj++c) Q):=fun Ob s σ H Oj Q I h =>
 iq ⟨c,s.toks,rfl,h.1,hr Ob _ σ H (Oj++c) Q (I.tok _) h.2⟩
def Gg{e:bj}{pos:Pos}(he:PE X e te)(hr:PJx X es t):PJx X (.FormattedValue e (-1) none pos::es) (fun σ H Oj Q=>te σ H fun v H1=>∃i,v=.int i/\i.natAbs.log2<1920/\(Oj++lJ i).length<=aH/\t σ H1 (Oj++lJ i) Q):=by intro Ob s σ H Oj Q I h;refine wpAny_FormattedValue_plain (thn (he Ob s σ H _ I h) fun v s1 ⟨y,H1,I1,r1,i,e1,hz,hl,q1⟩=>?_);subst e1;obtain⟨tk,rfl⟩:=r1;exact wpAny_formatField_int hz ⟨lJ i,_,rfl,hl,hr Ob _ σ H1 _ Q ((I1.tok _).tok _) q1⟩
def Nk{Ql Qk:bj}{oY:List bj}{pos:Pos}{t:St->Hp->Str->(Str->Hp->Prop)->Prop}(h:PJx X (Ql::Qk::oY) t):PE X (.JoinedStr (Ql::Qk::oY) pos) (fun σ H Q=>t σ H cS fun x H1=>Q (.str x) H1):=by
 intro Ob s σ H Q I hq;refine wpAny_JoinedStr ?_;have:=h Ob s σ H cS (fun x H1=>Q (.str x) H1) I hq;revert this;generalize kh (Ql::Qk::oY) X.env=parts;generalize cS=Oj;intro this;clear h hq I;induction parts generalizing Oj s with
 |nil =>
  obtain⟨z,H',I',q⟩:=this;exact⟨z,.str Oj,H',I'.tok _,⟨_,rfl⟩,q⟩
 |cons p ps ih =>
  refine bK this (fun v s1 ⟨y,t,e,z,k⟩=>⟨y,t,e,z,ih _ _ k⟩) fun _ _ z=>z
def nC(vs:List PV)(s:Sto):Out PV:=match vs with
 |[.int i]=>if i.natAbs.log2<1920 then .ok (.str (lJ i)) s else .bad
 |[.str x]=>.ok (.str x) s
 |_=>.bad
def b_str:BltR X CB E (.type "str") nC:=⟨_,HE,by
 intro H m s v x Q S rx P;unfold nC at P;split at P
 ·split at P
  ·rename_i hz;cases rx with
   |cons r n=>cases n;cases r;exact .inl ⟨_,rfl,hz,P.here S .str⟩
  ·exact P.elim
 ·cases rx with
  |cons r n=>cases n;cases r;exact .inr ⟨_,rfl,P.here S .str⟩
 ·exact P.elim⟩
noncomputable def Mc(f:XE)(c:Str)(g:XE)(ρ:En)(s:Sto):Out PV:=(f ρ s).bind fun v s1=>match v with
 |.int i=>if i.natAbs.log2<1920/\c.length<=100 then(g ρ s1).bind fun w s2=>match w with
  |.int j=>if j.natAbs.log2<1920 then .ok (.str (lJ i++c++lJ j)) s2 else .bad
  |_=>.bad
  else .bad
 |_=>.bad
def xU(x:Str):cS++x=x:=by obtain⟨c⟩:=x;show(⟨#[]++c⟩:Str)=⟨c⟩;rw[Array.empty_append]
def rc(h:i.natAbs.log2<1920):(lJ i).length<=1921:=by have e:=int_text_length_le (k:=1920) (by decide) h;unfold lJ;rw[PySem.ofString_length];exact e
def NV{c:Str}{j}(ha:DE X CB E a f)(hb:DE X CB E b g):DE X CB E (.JoinedStr [.FormattedValue a (-1) none p1,.Constant (.str c) j p2,.FormattedValue b (-1) none p3] pos) (Mc f c g) :=
 ⟨(Nk (Gg ha.pe (KY (Gg hb.pe KZ)))).mono fun σ H Q ⟨ρ,s,m,er,S,P⟩=>⟨ρ,s,m,er,S,by
  refine P.bind fun v s1 u H1 m1 e1 S1 r1 P1=>?_;split at P1
  ·rename_i i;split at P1
   ·rename_i hc;cases r1;have n1:=rc hc.1;have sz:(10000:Nat)<=aH:=by decide
    refine⟨i,rfl,hc.1,by rw[xU];omega,by rw[xU,me];have:=hc.2;omega,ρ,s1,m1,er.ext e1,S1,P1.bind fun w s2 u2 H2 m2 e2 S2 r2 P2=>?_⟩;split at P2
    ·rename_i j;split at P2
     ·rename_i hj;cases r2;have n2:=rc hj;have nn:(lJ i++c++lJ j).length<=aH:=by rw[me,me];have:=hc.2;omega
      rw[xU];exact⟨j,rfl,hj,nn,nn,P2.here S2 .str⟩
     ·exact P2.elim
    ·exact P2.elim
   ·exact P1.elim
  ·exact P1.elim⟩⟩
def AZ(v w:PV)(s:Sto):Out PV:=match v,w with
 |.tup (x::l),.tup (y::k)=>if l.length+k.length<=1000 then .ok (.tup ((x::l)++(y::k))) s else .bad
 |_,_=>.bad
def Nz:Op2 X.K CB E (Ml X.K) AZ:=by
 intro H m s v w x y Q S rx ry P;unfold AZ at P;split at P
 ·split at P
  ·rename_i x0 l y0 k hz;obtain⟨a1,xs,rfl,q1,r1⟩:=rx.tp;obtain⟨a2,ys,rfl,q2,r2⟩:=ry.tp;have l1:=r1.length;have l2:=r2.length;rw[aq] at l1 l2;have sz:(1002:Nat)<=aH:=by decide
   refine⟨a1,a2,xs,ys,rfl,rfl,q1,q2,fun z=>?_,by omega,fun z=>?_,fun z p hp=>?_⟩
   ·rw[z] at l1;cases l1
   ·rw[z] at l2;cases l2
   ·exact P.new S hp fun ex S'=>.tup (.inl ⟨.inl lr,S'.pure_tup lr⟩) ((r1.append r2).ext ex)
  ·exact P.elim
 ·exact P.elim
def LW(ha:DE X CB E a f)(hb:DE X CB E b g):DE X CB E (.BinOp a .Add b pos) (x2 f g AZ):=Be K7 Nz ha hb
end
open PySem.Builtin.Str
section
variable{X:Cx}{CB:al}{E:XK}{a b c e:bj}{es:List bj}{f g h:XE}{fa:XA}{t:XT}{p pos Oy Og Oe np hp:Pos}{x y:Str}{st Rw:bL}{bs PF:List bL}{u v:XS}{n k:Nat}{D:XF}{ps:List Str}
def Jb:MtR X "str.split" (fun x vs H Q=>∃(z c:Str),x=.str z/\vs=[.str c]/\(c.length==0)=false/\z.length+2<=aH/\∀l,H l=none->Q (.ref l) (upd H l (.lst ((eM z c).map V.str)))):=by
 intro Ob s σ H x vs v us Q I rx rv h;obtain⟨x,y,rfl,rfl,hy,hsz,q⟩:=h;obtain⟨t,rfl⟩:=rx;obtain⟨u0,rfl,u,rfl⟩:=rv.one;have hn:(partsBetween x (occurrences x y 0 x.length (x.length+1)) y.length).length<=aH:=by have e1:=StrLaws.occ_length_le x y 0 x.length (x.length+1);rw[length_partsBetween];omega
 have fin:∀(l:List (Str×Tok))(k:Nat),l.map (·.1)=eM x y->l.length<=aH->EP X Ob σ Q (.ref s.heap.objs.size) { s with heap:=s.heap.push { cls:=.type "list",data:=.seq (strValues l).toArray },toks:=k }:=fun l k e hz=>by have hl:=strsAre_of_values l;rw[e] at hl;refine⟨.ref _,_,I.laid (t':=k) (fun b o h=>aG _ h) (ax _) (o:=.lst ((eM x y).map V.str)) ?_,rfl,q _ (I.hok.fresh (ax _))⟩;refine⟨?_,strValues l,0,zj hl,bC _ rfl⟩;rw[af,<-e,af];exact hz
 have s1:(1:Nat)<=aH:=by decide
 cases h1:(decide (x.length<y.length)||decide (strKind x<strKind y))
 ·cases hf:(occurrences x y 0 x.length (x.length+1)).isEmpty
  ·refine hU gd (g6 _ _ _) i6 (iS _ _) (meets_str_split_sep x y t u h1 hy hf (by omega) hn) ?_;show wants (EP X Ob σ Q) X.xe _ { s with toks:=_,heap:=s.heap.push { cls:=.type "list",data:=.seq (strsFrom s.toks (partsBetween x (occurrences x y 0 x.length (x.length+1)) y.length)).toArray } };rw[strsFrom_eq];exact fin (numbered s.toks _) _ ((numbered_texts _ _).trans ((if_neg (ne_true_of_eq_false h1)).trans (if_neg (ne_true_of_eq_false hf))).symm) (by have e:=congrArg b6 (numbered_texts s.toks (partsBetween x (occurrences x y 0 x.length (x.length+1)) y.length));rw[af] at e;omega)
  ·exact hU gd (g6 _ _ _) i6 (iS _ _) (meets_str_split_not_found x y t u h1 hy hf)
    (fin [(x,t)] s.toks ((if_neg (ne_true_of_eq_false h1)).trans (if_pos hf)).symm s1)
 ·exact hU gd (g6 _ _ _) i6 (iS _ _) (meets_str_split_cannot_occur x y t u h1)
   (fin [(x,t)] s.toks (if_pos h1).symm s1)
def Hh:MtR X "str.startswith" (fun x vs H Q=>∃(z c:Str),x=.str z/\vs=[.str c]/\Q (.bl (fc z c)) H):=by intro Ob s σ H x vs v us Q I rx rv h;obtain⟨x,y,rfl,rfl,q⟩:=h;obtain⟨t,rfl⟩:=rx;obtain⟨u0,rfl,u,rfl⟩:=rv.one;exact SC.startswith ⟨.bl _,H,I,rfl,q⟩
def HG:CallR X (.type "int") (fun xs H Q=>∃(x:Str)(n:Int),xs=[.str x]/\jh x=some n/\x.length<=640/\Q (.int n) H):=by intro Ob s σ H xs us Q I r h;obtain⟨x,n,rfl,hn,hl,q⟩:=h;obtain⟨u,rfl,t,rfl⟩:=tj r;exact PySem.W.KIN.call_text hn hl ⟨.int n,H,I.tok _,⟨_,rfl⟩,q⟩
noncomputable def qx(f:XE)(fa:XA)(ρ:En)(s:Sto):Out PV:=(f ρ s).bind fun v s1=>match v with
 |.str z=>(fa ρ s1).bind fun vs s2=>match vs with
  |[.str c]=>if c.length=1/\z.length<=4000000 then .ok (.lst ((eM z c).map PV.str)) s2 else .bad
  |_=>.bad
 |_=>.bad
def zW(ho:DE X CB E a f)(ha:DA X CB E (e::es) fa)(OL:du a "split" X.env (eval a X.env)=eval a X.env:=by rfl)(O2:((cj Oe (aK (e::es) X.env)).all (fun x=>!x.1)&&(dM Oe (cE [] X.env)).all (fun x=>x.1.isSome)
   && decide ((e::es).length+([]:List dS).length+(if([]:List dS).isEmpty then 0 else 1)<30))=true:=by rfl)(OK:(Og.endLine==Oe.line)=true:=by rfl)(hs:SEb X e es:=by rfl)(Ox:(cj Oe (aK es X.env)).any (·.1)=false:=by rfl) :
  DE X CB E (.Call (.Attribute a "split" Og) (e::es) [] Oe) (qx f fa) :=
 ⟨(HL gp gd PySem.F.type_str_split Jb ho.pe ha.pa OL O2 OK hs Ox).mono fun σ H Q ⟨ρ,s,m,er,S,P⟩=>⟨ρ,s,m,er,S,P.bind fun v s1 u H1 m1 e1 S1 r1 P1=>by
  split at P1
  ·cases r1;refine⟨rfl,ρ,s1,m1,er.ext e1,S1,P1.bind fun vs s2 us H2 m2 e2 S2 r2 P2=>?_⟩;split at P2
   ·cases r2 with
    |cons r n =>
     cases n;cases r;split at P2
     ·rename_i hz;have sz:(4000002:Nat)<=aH:=by decide
      exact⟨_,_,rfl,rfl,by rw[hz.1];rfl,by omega,fun p hp=>P2.new S2 hp fun ex S'=>.lst lr (S2.pure_none hp) (.ofStrs _)⟩
     ·exact P2.elim
   ·exact P2.elim
  ·exact P1.elim⟩⟩
noncomputable def vy(f:XE)(fa:XA)(ρ:En)(s:Sto):Out PV:=(f ρ s).bind fun v s1=>match v with
 |.str z=>(fa ρ s1).bind fun vs s2=>match vs with
  |[.str c]=>.ok (.bl (fc z c)) s2
  |_=>.bad
 |_=>.bad
def HB(ho:DE X CB E a f)(ha:DA X CB E (e::es) fa)(OL:du a "startswith" X.env (eval a X.env)=eval a X.env:=by rfl)(O2:((cj Oe (aK (e::es) X.env)).all (fun x=>!x.1)&&(dM Oe (cE [] X.env)).all (fun x=>x.1.isSome)
   && decide ((e::es).length+([]:List dS).length+(if([]:List dS).isEmpty then 0 else 1)<30))=true:=by rfl)(OK:(Og.endLine==Oe.line)=true:=by rfl)(hs:SEb X e es:=by rfl)(Ox:(cj Oe (aK es X.env)).any (·.1)=false:=by rfl) :
  DE X CB E (.Call (.Attribute a "startswith" Og) (e::es) [] Oe) (vy f fa) :=
 ⟨(HL gp PySem.F.slot_str_startswith PySem.F.type_str_startswith Hh ho.pe ha.pa OL O2 OK hs Ox).mono fun σ H Q ⟨ρ,s,m,er,S,P⟩=>⟨ρ,s,m,er,S,P.bind fun v s1 u H1 m1 e1 S1 r1 P1=>by
  split at P1
  ·cases r1;refine⟨rfl,ρ,s1,m1,er.ext e1,S1,P1.bind fun vs s2 us H2 m2 e2 S2 r2 P2=>?_⟩;split at P2
   ·cases r2 with
    |cons r n =>
     cases n;cases r;exact⟨_,_,rfl,rfl,P2.here S2 .bl⟩
   ·exact P2.elim
  ·exact P1.elim⟩⟩
def Db(vs:List PV)(s:Sto):Out PV:=match vs with
 |[.str x]=>match jh x with
  |some n=>if x.length<=640 then .ok (.int n) s else .bad
  |none=>.bad
 |_=>.bad
def NZ:BltR X CB E (.type "int") Db:=⟨_,HG,by
 intro H m s v x Q S rx P;unfold Db at P;split at P
 ·split at P
  ·rename_i hn;split at P
   ·rename_i hz;cases rx with
    |cons r n=>cases n;cases r;exact⟨_,_,rfl,hn,hz,P.here S .int⟩
   ·exact P.elim
  ·exact P.elim
 ·exact P.elim⟩
def FR:XS:=fun _ _=>.bad
def wC:DS X CB E st FR:=⟨fun Ob s σ H D I ⟨_,_,_,_,_,P⟩=>P.elim⟩
def KS(he:PEx X e te):PSx X (.Return (some e) pos) (fun E=>tRet (te E)):=by intro Ob s σ H D E I h;exact wpAny_Return_some (thn (he Ob s σ H _ E I h) fun v s1 ⟨x,H1,I1,r1,q1⟩=>⟨x,σ,H1,I1,r1,q1⟩)
def LM(he:DEx X CB e f):DSx X CB (.Return (some e) pos) (xRet f) :=
 ⟨(KS he.pex).mono fun E D σ H ⟨ρ,s,m,er,S,P⟩=>⟨ρ,s,m,er,S,Post.so P fun v s1 u H1 m1 e1 S1 r1 P1=>P1 u H1 m1 .refl S1 r1⟩⟩
end
theorem GH:∀{A B X Y:List Nat},c∉A->c∉B->A++c::X=B++c::Y->A=B/\X=Y
 |[],[],_,_,_,_,h=>⟨rfl,(gL h).2⟩
 |[],b::B,_,_,_,hb,h=>absurd ((gL h).1▸ag) hb
 |a::A,[],_,_,ha,_,h=>absurd ((gL h).1▸ag) ha
 |a::A,b::B,_,_,ha,hb,h=>by obtain⟨e1,e2⟩:=gL h;obtain⟨e3,e4⟩:=GH (fun z=>ha (ah _ z)) (fun z=>hb (ah _ z)) e2;exact⟨by rw[e1,e3],e4⟩
def CC{x y:Str}(h:x.cps.toList=y.cps.toList):x=y:=by obtain⟨⟨l⟩⟩:=x;obtain⟨⟨k⟩⟩:=y;cases h;rfl
def GP(x y:Str):(x++y).cps.toList=x.cps.toList++y.cps.toList:=by show(x.cps++y.cps).toList=_;rw[Array.toList_append]
def qR(c:Nat)(a b:Str)(r:List Str):(b8 ⟨#[c]⟩ (a::b::r)).cps.toList=a.cps.toList++c::(b8 ⟨#[c]⟩ (b::r)).cps.toList:=by show(a++⟨#[c]⟩++b8 ⟨#[c]⟩ (b::r)).cps.toList=_;rw[GP,GP,aO];rfl
theorem Ef{c:Nat}:∀{l k:List Str},l≠[]->k≠[]->(∀p∈l,c∉p.cps.toList)->(∀p∈k,c∉p.cps.toList)->b8 ⟨#[c]⟩ l=b8 ⟨#[c]⟩ k->l=k
 |[],_,h,_,_,_,_=>absurd rfl h
 |_,[],_,h,_,_,_=>absurd rfl h
 |[a],[b],_,_,_,_,h=>by rw[show a=b from h]
 |[a],b::d::k,_,_,ha,_,h=>by
  have e:=congrArg (fun z:Str=>z.cps.toList) h;have e:(b8 ⟨#[c]⟩ [a]).cps.toList=(b8 ⟨#[c]⟩ (b::d::k)).cps.toList:=e;rw[qR] at e;have:c∈a.cps.toList:=by have e:a.cps.toList=_:=e;rw[e];exact aB _ ag
  exact absurd this (ha a ag)
 |a::d::l,[b],_,_,_,hb,h=>by
  have e:=congrArg (fun z:Str=>z.cps.toList) h;have e:(b8 ⟨#[c]⟩ (a::d::l)).cps.toList=(b8 ⟨#[c]⟩ [b]).cps.toList:=e;rw[qR] at e;have:c∈b.cps.toList:=by have e:_=b.cps.toList:=e;rw[<-e];exact aB _ ag
  exact absurd this (hb b ag)
 |a::d::l,b::f::k,_,_,ha,hb,h=>by have e:=congrArg (fun z:Str=>z.cps.toList) h;have e:(b8 ⟨#[c]⟩ (a::d::l)).cps.toList=(b8 ⟨#[c]⟩ (b::f::k)).cps.toList:=e;rw[qR,qR] at e;obtain⟨e1,e2⟩:=GH (ha a ag) (hb b ag) e;rw[CC e1,Ef (by simp) (by simp) (fun p hp=>ha p (ah _ hp)) (fun p hp=>hb p (ah _ hp)) (CC e2)]
def Ii(x y:Str):eM x y≠[]:=by
 intro h;have e:=kr x y;unfold eM at h;split at h
 ·cases h
 ·split at h
  ·cases h
  ·rw[StrLaws.partsBetween_eq] at h;obtain⟨p,r,e⟩:=StrLaws.partsFrom_ne x y.length 0 (Builtin.Str.occurrences x y 0 x.length (x.length+1));rw[e] at h;cases h
def vW(hl:l≠[])(h:∀p∈l,c∉p.cps.toList):eM (b8 ⟨#[c]⟩ l) ⟨#[c]⟩=l :=
 Ef (Ii _ _) hl (StrLaws.split_free _ c) h (kr _ _)
open PySem.NumText PySem.W in
def vj(m:Nat):AllDigits (lJ m).cps.toList/\(lJ m).cps.toList≠[]/\digitsVal (lJ m).cps.toList=m:=by
 have e:(lJ m).cps.toList=_:=gQ m;rw[e];refine⟨fun c hc=>?_,fun z=>?_,KIN.val_back m⟩
 ·obtain⟨ch,Pz,e⟩:=ak.mp hc;rw[<-e];exact digit_range (Nat.isDigit_of_mem_toDigits (by decide) (by decide) Pz)
 ·have h:=toDigits_len_ge 10 m;rw[List.map_eq_nil_iff.mp z] at h;exact absurd h (by decide)
def vi(k:Nat):(lJ (jf k)).cps.toList=45::(lJ ((k+1:Nat):Int)).cps.toList:=by have e1:lJ (jf k)=ac ("-"++Nat.repr (k+1)):=rfl;have e2:lJ ((k+1:Nat):Int)=ac (Nat.repr (k+1)):=rfl;rw[e1,e2];rw[iu,iu,String.toList_append,ay];rfl
theorem Ew:∀(k m:Nat),m<10^(k+1)->(cP 10 m).length<=k+1
 |0,m,h=>by rw[cK (by simpa using h)];exact ax 1
 |k+1,m,h=>by
  by_cases z:m<10
  ·rw[cK z];show 1<=_;omega
  ·have hm:m%10<10:=Nat.mod_lt m (by decide);have t:cP 10 (m/10)++cP 10 (m%10)=cP 10 (10*(m/10)+m%10):=fS (by decide) (by omega) hm;rw[ju] at t;have:=Ew k (m/10) (by rw[fg] at h;omega);rw[<-t,aE,cK hm];show _+1<=_;omega
def tO{k m:Nat}(h:m<10^(k+1)):(lJ m).length<=k+1:=by have e:(lJ m).cps.toList=_:=gQ m;have:=congrArg b6 e;rw[af] at this;show(lJ m).cps.size<=_;rw[<-bS,this];exact Ew k m h
def vc(i:Int):Prop:=i.natAbs<10^400
def wc(x:Str):Bool:=decide (1<=x.length)&&decide (x.length<=400)&&x.cps.toList.all fun c=>decide (48<=c)&&decide (c<=57)
def Gu{m:Nat}(h:m<10^400):wc (lJ m)=true:=by
 obtain⟨h1,h2,h3⟩:=vj m;have l:=tO (k:=399) h;unfold wc;rw[bG,bG,decide_eq_true_eq,decide_eq_true_eq,cy];refine⟨⟨?_,l⟩,fun c hc=>?_⟩
 ·show 1<=(lJ m).cps.size;rw[<-bS];exact kO.mpr h2
 ·have:=h1 c hc;rw[bG,decide_eq_true_eq,decide_eq_true_eq];exact this
def vh{i:Int}(h:vc i):jh (lJ i)=some i/\(lJ i).length<=401:=by
 cases i with
 |ofNat m =>
  obtain⟨h1,h2,h3⟩:=vj m;have l:(lJ m).length<=400:=tO (k:=399) h;have e:=PySem.intText_digits h1 h2 (aC l (by decide));rw[h3] at e;exact⟨e,aC l (by decide)⟩
 |negSucc k =>
  obtain⟨h1,h2,h3⟩:=vj (k+1);have l:(lJ ((k+1:Nat):Int)).length<=400:=tO (k:=399) h;have l2:(lJ (jf k)).length<=401:=by show(lJ (jf k)).cps.size<=401;rw[<-bS,vi,aq,bS];exact Nat.succ_le_succ l
  have e:=PySem.intText_neg (vi k) h1 h2 (aC l2 (by decide));rw[h3] at e;exact⟨e,l2⟩
def EU(x:Str)(lo hi:Option Int):(ii x lo hi).cps.toList=(x.cps.toList.drop (HT.sIx x.length 0 lo)).take (HT.sIx x.length x.length hi-HT.sIx x.length 0 lo):=by
 have e:fw lo hi 1 x.length=sliceRange ((HT.sIx x.length 0 lo:Nat):Int) ((HT.sIx x.length x.length hi:Nat):Int) 1:=by
  unfold fw;have c1:∀(d:Nat)(o:Option Int),d<=x.length->(match o with|none=>(d:Int)|some i=>if(1:Int)>0 then max 0 (min (if i<0 then i+(x.length:Int) else i) (x.length:Int)) else max (-1) (min (if i<0 then i+(x.length:Int) else i) ((x.length:Int)-1)))=((HT.sIx x.length d o:Nat):Int):=fun d o hd=>by
   cases o with
   |none=>rfl
   |some i =>
    simp only[HT.sIx,show(1:Int)>0 by decide,if_true];by_cases h:i<0
    ·simp only[h,if_true];omega
    ·simp only[h,if_false];omega
  have e1:=c1 0 lo (ba _);have e2:=c1 x.length hi (ax _);simp only[show(1:Int)>0 by decide,if_true] at e1 e2 ⊢;have c2:∀{u v u' v':Int},u=u'->v=v'->sliceRange u v 1=sliceRange u' v' 1:=fun h k=>by rw[h,k]
  refine c2 ?_ ?_
  ·rw[<-e1];cases lo<;>rfl
  ·rw[<-e2];cases hi<;>rfl
 have e2:(fw lo hi 1 x.length).filterMap (x.cps[·]?)=(x.cps.toList.drop (HT.sIx x.length 0 lo)).take (HT.sIx x.length x.length hi-HT.sIx x.length 0 lo):=by rw[e,kg,pick_run]
 unfold ii;split
 ·rename_i h;rw[bG,beq_iff_eq] at h;have h:=beq_iff_eq.mp h.2;rw[e,kg,af,List.length_range] at h;have l1:HT.sIx x.length x.length hi<=x.length:=HT.sIx_le _ _ (ax _) hi;have z:HT.sIx x.length 0 lo=0:=by
   by_cases n:x.length=0
   ·have:=HT.sIx_le x.length 0 (ba _) lo;omega
   ·omega
  rw[z,List.drop_zero,eW];rw[bS];show x.length<=_;omega
 ·exact e2
def EV(x:Str)(k:Nat):(ii x (some (k:Int)) none).cps.toList=x.cps.toList.drop k:=by
 rw[EU,HT.sIx_nat,HT.sIx_none];have l:x.cps.toList.length=x.length:=bS;by_cases h:k<=x.length
 ·rw[Nat.min_eq_left h,eW (by rw[fC];omega)]
 ·rw[Nat.min_eq_right (by omega),cO (by omega),cO (by omega),List.take_nil]
section
variable{X:Cx}
def MU:SlR X (fun x lo hi H Q=>∃z,x=.str z/\z.length<=aH/\Q (.str (ii z lo hi)) H):=by
 intro Ob s σ H x v vl vu lo hi sl Q I rx hs pl pu h;obtain⟨z,rfl,hz,q⟩:=h;obtain⟨t,rfl⟩:=rx;have hl:=aC (Txt.slice_le z lo hi) hz;refine⟨"str",_,F.slot_str_getitem.lookup,g6 _ _ _,?_⟩;cases pl<;>cases pu
 ·exact ft (l:=none) (u:=none) (st:=none) hs rfl (ie ⟨hl,fun t' k=>⟨.str _,H,I.tok k,⟨t',rfl⟩,q⟩⟩)
 ·rename_i j uj;exact ft (l:=none) (u:=some (j,uj)) (st:=none) hs rfl (ie ⟨hl,fun t' k=>⟨.str _,H,I.tok k,⟨t',rfl⟩,q⟩⟩)
 ·rename_i j uj;exact ft (l:=some (j,uj)) (u:=none) (st:=none) hs rfl (ie ⟨hl,fun t' k=>⟨.str _,H,I.tok k,⟨t',rfl⟩,q⟩⟩)
 ·rename_i i ui j uj;exact ft (l:=some (i,ui)) (u:=some (j,uj)) (st:=none) hs rfl (ie ⟨hl,fun t' k=>⟨.str _,H,I.tok k,⟨t',rfl⟩,q⟩⟩)
variable{CB:al}{E:XK}{a b c e:bj}{f g h:XE}{p pos:Pos}
def N8(v:PV)(lo hi:Option Int)(s:Sto):Out PV:=match v with
 |.str x=>if x.length<=1000000 then .ok (.str (ii x lo hi)) s else .bad
 |_=>.bad
def Kp(f:XE)(lo hi:XO')(ρ:En)(s:Sto):Out PV:=(f ρ s).bind fun v s1=>(lo ρ s1).bind fun l s2=>(hi ρ s2).bind fun u s3=>N8 v l u s3
def NS{lo hi:Option bj}{fl fh:XO'}{p2:Pos}(ha:DE X CB E a f)(hl:DO X CB E lo fl)(hh:DO X CB E hi fh):DE X CB E (.Subscript a (.Slice lo hi none p2) pos) (Kp f fl fh) :=
 ⟨(D7 MU ha.pe hl.po hh.po).mono fun σ H Q ⟨ρ,s,m,er,S,P⟩=>⟨ρ,s,m,er,S,P.bind fun v s1 u H1 m1 e1 S1 r1 P1=>⟨ρ,s1,m1,er.ext e1,S1,P1.bind fun l s2 l' H2 m2 e2 S2 r2 P2=>by
  cases r2;refine⟨ρ,s2,m2,(er.ext e1).ext e2,S2,P2.bind fun k s3 k' H3 m3 e3 S3 r3 P3=>?_⟩;cases r3;have r1:=(r1.ext e2).ext e3;unfold N8 at P3;split at P3
  ·split at P3
   ·rename_i hz;cases r1;have sz:(1000000:Nat)<=aH:=by decide
    exact⟨_,rfl,aC hz sz,P3.here S3 .str⟩
   ·exact P3.elim
  ·exact P3.elim⟩⟩⟩
end
section
variable{X:Cx}{CB:al}{E:XK}{x:Str}{k n:Nat}{ps:List Str}{D:XF}{p pos:Pos}
def Nl(F:Fn X.prog X.w X.K X.mg X.base x k ps sp)(hr:Room k X.A)(hg:Gl X x)(hx:nX (CXo X.prog X.w) X E)(OF:NDb x:=by decide):PE X (.Call (.Name x p) [] [] pos) (AV sp [] E FV):=by obtain⟨f,fd,F,hm,hk,hb⟩:=F;exact IQ F hr hg hm hk hb .nil hx OF
def CZ(D:XF)(_:En)(s:Sto):Out PV:=D [] s
def NW(F:Fn X.prog X.w X.K X.mg X.base x k ps (spD X.K CB 0 D))(hr:Room jr X.A:=by assumption)(hk:k<=jr:=by first|decide|omega)(hg:Gl X x:=by rfl)(hx:nX (CXo X.prog X.w) X E:=by first|exact n9|exact tU)(OF:NDb x:=by decide):DE X CB E (.Call (.Name x p) [] [] pos) (CZ D) :=
 ⟨(Nl F (hr.mono hk) hg hx OF).mono fun σ H Q ⟨ρ,s,m,er,S,P⟩=>⟨rfl,[],s,m,.nil,S,P⟩⟩
end
noncomputable def sem:=ao @fnD.eq_1 <|ao @xSeq.eq_1 <|ao @xSet.eq_1 <|ao @xRet.eq_1 <|ao @xRetN.eq_1 <|ao @xDo.eq_1 <|ao @xIf.eq_1 <|ao @xEnd.eq_1 <|ao @xPut.eq_1 <|ao @xPar.eq_1 <|ao @xAsg.eq_1 <|ao @x1.eq_1 <|ao @x2.eq_1 <|ao @xVar.eq_1 <|ao @xC.eq_1 <|ao @xB.eq_1 <|ao @xCall.eq_1 <|ao @xBM.eq_1 <|ao @xCons.eq_1 <|ao @xNil.eq_1 <|ao @xTup.eq_1 <|ao @xLst.eq_1 <|ao @xLstC.eq_1 <|ao @xTr.eq_1 <|ao @xNot.eq_1 <|ao @xAnd.eq_1 <|ao @xOr.eq_1 <|ao @xAndV.eq_1 <|ao @xOrV.eq_1 <|ao @xNotV.eq_1 <|ao @xSl.eq_1 <|ao @xNoP.eq_1 <|ao @xPart.eq_1 <|ao @xIter.eq_1 <|ao @xRng1.eq_1 <|ao @xIterS.eq_1 <|ao @xIterD.eq_1 <|ao @xFor.eq_1 <|ao @xFrz.eq_1 <|ao @frz1.eq_1 <|ao @frz1.eq_2 <|ao @xAppend.eq_1 <|ao @xGet.eq_1 <|ao @xJoin.eq_1 <|ao @xNewD.eq_1 <|ao @xDisp.eq_1 <|ao @xIsiT.eq_1 <|ao @xIfe.eq_1 <|ao @xChain.eq_1 <|ao @xBook.eq_1 <|ao @Out.bind.eq_1 <|ao @Out.bind.eq_2 <|ao @Out.bind.eq_3 <|ao @Out.so.eq_1 <|ao @Out.so.eq_2 <|ao @Out.so.eq_3 <|ao @SO.noex.eq_1 <|ao @SO.noex.eq_2 <|ao @fAdd.eq_1 <|ao @fAdd.eq_2 <|ao @fAdd.eq_3 <|ao @fSub.eq_1 <|ao @fSub.eq_2 <|ao @fMul.eq_1 <|ao @fMul.eq_2 <|ao @fMul.eq_3 <|ao @fDiv.eq_1 <|ao @fDiv.eq_2 <|ao @fMod.eq_1 <|ao @fMod.eq_2 <|ao @fPow.eq_1 <|ao @fPow.eq_2 <|ao @fCmp.eq_1 <|ao @fCmp.eq_2 <|ao @fEqN.eq_1 <|ao @fIs.eq_1 <|ao @fIs.eq_2 <|ao @fIsnt.eq_1 <|ao @fIsnt.eq_2 <|ao @fIx.eq_1 <|ao @fIx.eq_2 <|ao @fIx.eq_3 <|ao @fIx.eq_4 <|ao @fIx.eq_5 <|ao @fNeg.eq_1 <|ao @fNeg.eq_2 <|ao @fSl.eq_1 <|ao @fSl.eq_2 <|ao @fLen.eq_1 <|ao @fLen.eq_2 <|ao @fLen.eq_3 <|ao @fLen.eq_4 <|ao @fAbs.eq_1 <|ao @fAbs.eq_2 <|ao @fInt.eq_1 <|ao @fInt.eq_2 <|ao @fInt.eq_3 <|ao @fTuple.eq_1 <|ao @fTuple.eq_2 <|ao @fList.eq_1 <|ao @fList.eq_2 <|ao @fList.eq_3 <|ao @fAll.eq_1 <|ao @fAll.eq_2 <|ao @lsOf.eq_1 <|ao @lsOf.eq_2 <|ao @lsOf.eq_3 <|ao @lsOf.eq_4 <|ao @dcOf.eq_1 <|ao @dcOf.eq_2 <|ao @dcOf.eq_3 <|ao @kyOf.eq_1 <|ao @kyOf.eq_2 <|ao @kyOf.eq_3 <|ao @toV.eq_1 <|ao @toV.eq_2 <|ao @toV.eq_3 <|ao @toV.eq_4 <|ao @toV.eq_5 <|ao @toVs.eq_1 <|ao @toVs.eq_2 <|ao @yName.eq_1 <|ao @yNil.eq_1 <|ao @yNil.eq_2 <|ao @yCons.eq_1 <|ao @yCons.eq_2 <|ao @yTup.eq_1 <|ao @yTup.eq_2 <|@xOnly.eq_1
section
variable{P:aI}{w:aX}{K:aa}{mg:Str->Option am}{base h:bA}{x q:Str}{st:bL}{f C:al}{fd:bQ}{ps:List Str}{sp:Sp}{k:Nat}{oc kV dc pm cd ct:am}{od an:Option al}{sl:Array (Option am)}
def NM(h:ps.length=n):FnOk P w K mg base CX k f fd ps (spD K CB n fun _ _=>.bad) :=
 ⟨fun vs H Q E z=>z.1.trans h.symm,fun A outer s H args us vs Q E hr e0 hb r z=>by obtain⟨_,_,_,_,_,_,z⟩:=z;exact z.elim⟩
def Bd(x q:Str)(st:bL)(ps:List Str):Prop:=∀(kV dc pm:am)(an:Option al)(cd ct:am)(us:List am),us.length=ps.length->fV (b5 x q (oh st) (m7 st) (lh st) .none kV dc pm an cd ct) ⟨us,[]⟩=pure (ps.zip us)
def uU:∀{us:List am},us.length=n+1->∃v r,us=v::r/\r.length=n
 |v::r,h=>⟨v,r,rfl,jA h⟩
def bd0(e:ps.length=0:=by rfl)(h:∀kV dc pm an cd ct,fV (b5 x q (oh st) (m7 st) (lh st) .none kV dc pm an cd ct) ⟨[],[]⟩=pure (ps.zip []):=by intros;rfl):Bd x q st ps:=fun _ _ _ _ _ _ us hl=>by have l0:=hl.trans e;cases bF l0;exact h _ _ _ _ _ _
def bd1(e:ps.length=1:=by rfl)(h:∀kV dc pm an cd ct (v0:am),fV (b5 x q (oh st) (m7 st) (lh st) .none kV dc pm an cd ct) ⟨[v0],[]⟩=pure (ps.zip [v0]):=by intros;rfl):Bd x q st ps:=fun _ _ _ _ _ _ us hl=>by have l0:=hl.trans e;obtain⟨_,us,rfl,l1⟩:=uU l0;cases bF l1;exact h _ _ _ _ _ _ _
def bd2(e:ps.length=2:=by rfl)(h:∀kV dc pm an cd ct (v0 v1:am),fV (b5 x q (oh st) (m7 st) (lh st) .none kV dc pm an cd ct) ⟨[v0,v1],[]⟩=pure (ps.zip [v0,v1]):=by intros;rfl):Bd x q st ps:=fun _ _ _ _ _ _ us hl=>by have l0:=hl.trans e;obtain⟨_,us,rfl,l1⟩:=uU l0;obtain⟨_,us,rfl,l2⟩:=uU l1;cases bF l2;exact h _ _ _ _ _ _ _ _
def bd3(e:ps.length=3:=by rfl)(h:∀kV dc pm an cd ct (v0 v1 v2:am),fV (b5 x q (oh st) (m7 st) (lh st) .none kV dc pm an cd ct) ⟨[v0,v1,v2],[]⟩=pure (ps.zip [v0,v1,v2]):=by intros;rfl):Bd x q st ps:=fun _ _ _ _ _ _ us hl=>by have l0:=hl.trans e;obtain⟨_,us,rfl,l1⟩:=uU l0;obtain⟨_,us,rfl,l2⟩:=uU l1;obtain⟨_,us,rfl,l3⟩:=uU l2;cases bF l3;exact h _ _ _ _ _ _ _ _ _
def bd4(e:ps.length=4:=by rfl)(h:∀kV dc pm an cd ct (v0 v1 v2 v3:am),fV (b5 x q (oh st) (m7 st) (lh st) .none kV dc pm an cd ct) ⟨[v0,v1,v2,v3],[]⟩=pure (ps.zip [v0,v1,v2,v3]):=by intros;rfl):Bd x q st ps:=fun _ _ _ _ _ _ us hl=>by have l0:=hl.trans e;obtain⟨_,us,rfl,l1⟩:=uU l0;obtain⟨_,us,rfl,l2⟩:=uU l1;obtain⟨_,us,rfl,l3⟩:=uU l2;obtain⟨_,us,rfl,l4⟩:=uU l3;cases bF l4;exact h _ _ _ _ _ _ _ _ _ _
def bd5(e:ps.length=5:=by rfl)(h:∀kV dc pm an cd ct (v0 v1 v2 v3 v4:am),fV (b5 x q (oh st) (m7 st) (lh st) .none kV dc pm an cd ct) ⟨[v0,v1,v2,v3,v4],[]⟩=pure (ps.zip [v0,v1,v2,v3,v4]):=by intros;rfl):Bd x q st ps:=fun _ _ _ _ _ _ us hl=>by have l0:=hl.trans e;obtain⟨_,us,rfl,l1⟩:=uU l0;obtain⟨_,us,rfl,l2⟩:=uU l1;obtain⟨_,us,rfl,l3⟩:=uU l2;obtain⟨_,us,rfl,l4⟩:=uU l3;obtain⟨_,us,rfl,l5⟩:=uU l4;cases bF l5;exact h _ _ _ _ _ _ _ _ _ _ _
def bd6(e:ps.length=6:=by rfl)(h:∀kV dc pm an cd ct (v0 v1 v2 v3 v4 v5:am),fV (b5 x q (oh st) (m7 st) (lh st) .none kV dc pm an cd ct) ⟨[v0,v1,v2,v3,v4,v5],[]⟩=pure (ps.zip [v0,v1,v2,v3,v4,v5]):=by intros;rfl):Bd x q st ps:=fun _ _ _ _ _ _ us hl=>by have l0:=hl.trans e;obtain⟨_,us,rfl,l1⟩:=uU l0;obtain⟨_,us,rfl,l2⟩:=uU l1;obtain⟨_,us,rfl,l3⟩:=uU l2;obtain⟨_,us,rfl,l4⟩:=uU l3;obtain⟨_,us,rfl,l5⟩:=uU l4;obtain⟨_,us,rfl,l6⟩:=uU l5;cases bF l6;exact h _ _ _ _ _ _ _ _ _ _ _ _
structure Gx(K:aa)(x:Str):Prop where
 ex:∃X,bU K bi x=some (some (.ref X))/\Exc K X
def gx(n:bU K bi x=some (some (.ref X)))(a:jl K X bmV "ValueError.__new__"=true)(b:bc K (.ref X) "__getattribute__"=some (some (.builtin "BaseException.__getattribute__")))(c:bc K (.ref X) "__getattr__"=some none)(d:bc K (.ref X) "__class__"=some (some (.builtin "object.__class__")))(e:fY K (.builtin "object.__class__") "__get__"=some (some (.builtin "getset_descriptor.__get__")))(f:iP K (.builtin "object.__class__")=some true)(g:dz K X (.type "object")=some true)(h:dz K X (.type "BaseException")=some true):Gx K x:=⟨X,n,a,b,c,d,e,f,g,h⟩
structure Gb(K:aa)(C:al):Prop where
 n:bU K bi "Book"=some (some (.ref C))
 p:e9 K C cS=true
 h:fZ K C=true
 o:ik K C=true
 s:bc K (.ref C) "__setattr__"=some (some (.builtin "object.__setattr__"))
 m:iR K C=true
 k:cz K (.ref C)=true
 a:bc K (.ref C) "people"=some none
 b:bc K (.ref C) "things_of"=some none
 c:bc K (.ref C) "mark_of"=some none
 d:bc K (.ref C) "loss_of"=some none
 e:bc K (.ref C) "held_of"=some none
structure Gt(K:aa)(x:Str)(u v:Int):Prop where
 ex:∃(f:al)(od:Option al)(a b:Tok)(n:Nat)(sl:Array (Option am)),bU K bi x=some (some (.ref f))/\K.lookup f=some ⟨.type "tuple",od,.seq #[.int u a,.int v b] n,sl⟩
def gt(h:bU K bi x=some (some (.ref f)))(l:K.lookup f=some ⟨.type "tuple",od,.seq #[.int u a,.int v b] n,sl⟩):Gt K x u v:=⟨f,od,a,b,n,sl,h,l⟩
structure Gi(K:aa)(x:Str)(u:Int):Prop where
 ex:∃t,bU K bi x=some (some (.int u t))
def gi(h:bU K bi x=some (some (.int u t))):Gi K x u:=⟨t,h⟩
structure Gz(K:aa)(x:Str):Prop where
 z:bU K bi x=some none
def Gz.at_(c:Gz K x)(X:K.In h)(G:h.Ns bi mg):mg x=none:=PySem.W.mg_none_of X G c.z
structure Gf(K:aa)(x:Str)(st:bL):Prop where
 ex:∃f fd,bU K bi x=some (some (.ref f))/\Fun K x x st f fd
structure Gm(K:aa)(C:al)(x q:Str)(st:bL):Prop where
 ex:∃f fd,bc K (.ref C) x=some (some (.ref f))/\gk K (.ref f)=true/\Fun K x q st f fd
def gf(h:bU K bi x=some (some (.ref f)))(l:K.lookup f=some ⟨oc,od,.func (b5 x x (oh st) (m7 st) (lh st) .none kV dc pm an cd ct),sl⟩)(c:fP K cd x=true)(k:cz K (.ref f)=true):Gf K x st:=⟨f,_,h,JX l c k⟩
def gm(h:bc K (.ref C) x=some (some (.ref f)))(i:gk K (.ref f)=true)(l:K.lookup f=some ⟨oc,od,.func (b5 x q (oh st) (m7 st) (lh st) .none kV dc pm an cd ct),sl⟩)(c:fP K cd q=true)(k:cz K (.ref f)=true):Gm K C x q st:=⟨f,_,h,i,JX l c k⟩
def Gf.fn(X:K.In h)(G:h.Ns bi mg)(c:Gf K x st)(o:∀{f:al}{fd:bQ},Fun K x x st f fd->FnOk P w K mg base (CXo P w) k f fd ps sp)(b:Bd x x st ps:=by first|exact bd1|exact bd2|exact bd3|exact bd4|exact bd5|exact bd6|exact bd0):Fn P w K mg base x k ps sp :=
 let⟨f,fd,n,U⟩:=c.ex;⟨f,fd,o U,jk X G n,U.kp,U.binds b⟩
def Gm.mt(cl:Cls K C)(c:Gm K C x q st)(o:∀{f:al}{fd:bQ},Fun K x q st f fd->FnOk P w K mg base (CXo P w) k f fd ps sp)(b:Bd x q st ps:=by first|exact bd1|exact bd2|exact bd3|exact bd4|exact bd5|exact bd6|exact bd0):Mt P w K mg base C x k ps sp :=
 let⟨f,fd,n,i,U⟩:=c.ex;⟨f,fd,o U,⟨n,i,U.kp⟩,cl,U.binds b⟩
def Gm.bk(c:Gm K C "__init__" q st)(X:K.In h)(G:h.Ns bi mg)(g:Gb K C)(o:∀{f:al}{fd:bQ},Fun K "__init__" q st f fd->FnOk P w K mg base (CXo P w) k f fd ["self"] sp)(b:Bd "__init__" q st ["self"]:=by exact bd1):MkB P w K mg base "Book" C k ["self"] sp :=
 let⟨f,fd,n,i,U⟩:=c.ex;⟨f,fd,o U,jk X G g.n,⟨g.m,n,i,g.k⟩,U.binds b⟩
end
end L2
namespace My
open PySem L2
def top(i:Nat):bL:=PySem.Challenge.pw_wholeowners_k72_read.main.body.getD i (.Pass ⟨0,0,0,0⟩)
structure Adr where
 OwnError:al
 NoName:al
 Twice:al
 TooMany:al
 NoHolder:al
 NoHouse:al
 NoLoss:al
 NoShare:al
 NoText:al
 Whole:al
 Book:al
 ZERO:al
 ONE:al
 HALF:al
 t8:Tok
 t6:Tok
 u8:Tok
 kx:al->al->Bool
def Tup2(K:aa)(a:al)(i j:Int):Prop:=∃(o:Obj)(its:Array am)(n:Nat),K.lookup a=some o/\o.cls=.type "tuple"/\o.data=.seq its n/\its.size<=aH/\Vals [.int i,.int j] its.toList
structure Txt(K:aa)(mg:Str->Option am)(a:Adr):Prop where
 b_len:mg "len"=none
 b_range:mg "range"=none
 b_all:mg "all"=none
 b_int:mg "int"=none
 b_abs:mg "abs"=none
 b_sorted:mg "sorted"=none
 b_tuple:mg "tuple"=none
 b_list:mg "list"=none
 b_str:mg "str"=none
 b_bool:mg "bool"=none
 b_isinstance:mg "isinstance"=none
 b_ValueError:mg "ValueError"=none
 b_any:mg "any"=none
 b_set:mg "set"=none
 b_max:mg "max"=none
 c_OwnError:mg "OwnError"=some (.ref a.OwnError)
 c_NoName:mg "NoName"=some (.ref a.NoName)
 c_Twice:mg "Twice"=some (.ref a.Twice)
 c_TooMany:mg "TooMany"=some (.ref a.TooMany)
 c_NoHolder:mg "NoHolder"=some (.ref a.NoHolder)
 c_NoHouse:mg "NoHouse"=some (.ref a.NoHouse)
 c_NoLoss:mg "NoLoss"=some (.ref a.NoLoss)
 c_NoShare:mg "NoShare"=some (.ref a.NoShare)
 c_NoText:mg "NoText"=some (.ref a.NoText)
 x_OwnError:Exc K a.OwnError
 x_NoName:Exc K a.NoName
 x_Twice:Exc K a.Twice
 x_TooMany:Exc K a.TooMany
 x_NoHolder:Exc K a.NoHolder
 x_NoHouse:Exc K a.NoHouse
 x_NoLoss:Exc K a.NoLoss
 x_NoShare:Exc K a.NoShare
 g_LONGEST_NAME:mg "LONGEST_NAME"=some (.int 8 a.t8)
 g_MOST_PERSONS:mg "MOST_PERSONS"=some (.int 6 a.t6)
 g_MOST_HOUSES:mg "MOST_HOUSES"=some (.int 8 a.u8)
 g_ZERO:mg "ZERO"=some (.ref a.ZERO)
 g_ONE:mg "ONE"=some (.ref a.ONE)
 zero:Tup2 K a.ZERO 0 1
 one:Tup2 K a.ONE 1 1
 cl:Cls K a.Book
 nA_people:NoAttr K a.Book "people"
 nA_things_of:NoAttr K a.Book "things_of"
 nA_mark_of:NoAttr K a.Book "mark_of"
 nA_loss_of:NoAttr K a.Book "loss_of"
 nA_held_of:NoAttr K a.Book "held_of"
def Txt.r_LONGEST_NAME(T:Txt K mg a):RelV (.int 8) (.int 8 a.t8):=⟨_,rfl⟩
def Txt.r_MOST_PERSONS(T:Txt K mg a):RelV (.int 6) (.int 6 a.t6):=⟨_,rfl⟩
def Txt.r_MOST_HOUSES(T:Txt K mg a):RelV (.int 8) (.int 8 a.u8):=⟨_,rfl⟩
def Txt.r_ZERO(T:Txt K mg a):RelV (.ref a.ZERO) (.ref a.ZERO):=rfl
def Txt.r_ONE(T:Txt K mg a):RelV (.ref a.ONE) (.ref a.ONE):=rfl
def N0{te:TE}{cap:St}{H:Hp}{Kt:VK}{Kf:Hp->Prop}(h:te cap H Kt):tYes cap H fun b H4=>if b=true then te cap H4 Kt else Kf H4:=by
 show if true=true then te cap H Kt else Kf H
 rw[if_pos rfl];exact h
def Bw(c:Nat):(!decide ((⟨#[c]⟩:Str).cps.toList<(ac "a").cps.toList))=decide (97<=c):=by show(!decide ([c]<[97]))=decide (97<=c);rw[bM];simp[fB]
def GW(c:Nat):(!decide ((ac "z").cps.toList<(⟨#[c]⟩:Str).cps.toList))=decide (c<=122):=by show(!decide ([122]<[c]))=decide (c<=122);rw[bM];simp[fB]
def vA{x:Str}{i c:Nat}{g:Nat->V}(hc:x.cps[i]?=some c):(x.cps.toList.take i).map g++[g c]=(x.cps.toList.take (i+1)).map g:=by
 have hc:x.cps.toList[i]?=some c:=by simpa using hc
 rw[cI,hc,ay];rfl
section
variable{P:aI}{w:aX}{K:aa}{mg:Str->Option am}{base:bA}{a:Adr}{f:al}{fd:bQ}
abbrev vf:bL:=top 23
def E2:FnScope ["text"] ["text"] (lh vf):=fsc
def low(c:Nat):Bool:=decide (97<=c)&&decide (c<=122)
def pG(x:Str):Bool:=decide (1<=x.length)&&decide (x.length<=8)&&x.cps.toList.all low
def y9:Sp:=fun vs H Q _=>∃x,vs=[.str x]/\Nm x/\∀H',Same H H'->Q (.bl (pG x)) H'
def Fc(F:Fun K "is_name" "is_name" vf f fd)(T:Txt K mg a):FnOk P w K mg base (CXo P w) 1 f fd ["text"] y9:=by
 refine F.okN E2 (fun vs H Q E h=>?_) (fun Ol A outer s H vs Q E hr h=>?_)
 ·obtain⟨x,rfl,_⟩:=h;rfl
 ·obtain⟨x,rfl,nm,k⟩:=h;have hu:=nV hr;refine⟨_,(@lQ _ _ _ (@qz _ _ _ _ (@FD _ _ _ _ _ _ _ (wN HN HN pe_int (@om _ _ _ _ _ _ _ _ _ call_len_str rfl T.b_len AQ (@lG _ _ _ _ _ (pv 0) pa_nil (by rfl)) (by decide) (by decide) (by rfl) (by rfl)) (rb rfl T.g_LONGEST_NAME T.r_LONGEST_NAME)) (@C6 _ _ _ _ _ (@om _ _ _ _ _ _ _ _ _ ED rfl T.b_all FP (@lG _ _ _ _ _ (xg (fr:=[]) (ix:=[]) rfl (by exact(show CompOk ["text"] (lh vf) _ _ _ _ from cok)) (JM (pv 0)) (fun _ _ _ _ _=>wM) (fun _ _ _ _ _=>(wN vg vg pe_str (pv 0) pe_str))) pa_nil (by rfl)) (by decide) (by decide) (by rfl) (by rfl)))))),?_⟩;have Of:x.length<=aH:=aC nm.1 (by decide);refine⟨_,rfl,_,rfl,Of,_,_,rfl,rfl,_,rfl,tQ (fun h=>?_) (fun h=>?_)⟩
  ·have h1:(1:Int)<=(x.length:Int):=of_decide_eq_true h;refine⟨_,_,rfl,rfl,_,rfl,tQ (fun h=>?_) (fun h=>?_)⟩
   ·have h2:(x.length:Int)<=8:=of_decide_eq_true h;refine⟨_,rfl,x,rfl,fun D hD=>?_⟩;refine CT (J:=Its x) x.cps.size (fun i ys H'=>H'=upd H D (.lst ys)/\ys=(x.cps.toList.take i).map fun c=>V.bl (low c)) ⟨rfl,rfl⟩ Of (fun i ys H' r=>by rw[r.1];exact lr) (fun i ys H' hi _=>hi) ?_ ?_
    ·rintro i ys H' v H'' hi ⟨rfl,rfl⟩ ⟨rfl,c,hc,rfl⟩ Kt Kf k1 k2
     have fin:∀b,b=low c->Kt (V.bl b) (upd H D (.lst ((x.cps.toList.take i).map fun c=>V.bl (low c)))):=fun b hb=>by refine k1 _ _ lr ⟨by rw[FT],?_⟩;rw[hb,vA hc]
     refine N0 ⟨_,rfl,_,_,rfl,rfl,_,rfl,tQ (fun h=>?_) (fun h=>?_)⟩
     ·refine⟨_,_,rfl,rfl,fin _ ?_⟩;rw[Bw] at h;rw[GW];unfold low;rw[h,da]
     ·refine fin _ ?_;rw[Bw] at h;unfold low;rw[cC.mpr h,cB]
    ·rintro ys H' hl ⟨rfl,rfl⟩
     have e:List.take x.cps.size x.cps.toList=x.cps.toList:=eW (by simp);rw[e];refine⟨ax _,D,x.cps.toList.map low,rfl,SqL.of (by rw[lr,aF];rfl),rfl,?_⟩;have e2:(x.cps.toList.map low).all id=pG x:=by
      have h1:1<=x.length:=by omega
      have h2:x.length<=8:=by omega
      unfold pG;rw[decide_eq_true h1,decide_eq_true h2,kc,da,da];rfl
     rw[e2];exact k _ (rm hD)
   ·have h2:¬x.length<=8:=fun z=>h (decide_eq_true (by omega));have e2:false=pG x:=by unfold pG;rw[decide_eq_false h2,Bool.and_false,cB]
    show Q (.bl false) H;rw[e2];exact k _ fun _ _ z=>z
  ·have h2:¬ 1<=x.length:=fun z=>h (decide_eq_true (by omega));have e2:false=pG x:=by unfold pG;rw[decide_eq_false h2,cB,cB]
   refine⟨_,rfl,JU ?_⟩;show Q (.bl false) H;rw[e2];exact k _ fun _ _ z=>z
abbrev uh:bL:=top 24
def Cb:FnScope ["number"] ["number"] (lh uh):=fsc
def sC(a:Adr):Sp:=fun vs H Q E=>∃n,vs=[.int n]/\(n<0->E (.ref a.NoLoss) none H)/\(0<=n->Q .non H)
def Cp(F:Fun K "need_loss" "need_loss" uh f fd)(T:Txt K mg a):FnOk P w K mg base (CXo P w) 1 f fd ["number"] (sC a):=by
 refine F.okX Cb (fun vs H Q E h=>?_) (fun Ol A outer s H vs Q E hr h=>?_)
 ·obtain⟨x,rfl,_⟩:=h;rfl
 ·obtain⟨n,rfl,k1,k2⟩:=h;have hu:=nV hr;refine⟨_,(@lQ _ _ _ (@wL _ _ _ _ _ _ _ _ (@vH _ _ _ _ _ _ _ _ Mq (pv 0) pe_int (vJ _)) (@lQ _ _ _ (qm T.x_NoLoss rfl T.c_NoLoss rfl pe_str zl)) pss_nil)),?_⟩;refine⟨_,rfl,_,_,rfl,rfl,_,rfl,tQ (fun h=>?_) (fun h=>?_)⟩
  ·exact k1 (of_decide_eq_true h)
  ·exact k2 (Int.not_lt.mp fun z=>h (decide_eq_true z))
abbrev ux:bL:=nu (top 25) 0
def Ck:FnScope ["self"] ["self"] (lh ux):=fsc
def IC(dp dt dm dl dh dx:al):tw "held_of" (.ref dh) (tw "loss_of" (.ref dl) (tw "mark_of" (.ref dm) (tw "things_of" (.ref dt) (tw "people" (.ref dp) []))))=bf ⟨dx,dp,dt,dm,dl,dh⟩:=by simp only[tw,if_neg (show ¬((ac "people")=ac "things_of") by decide +kernel),if_neg (show ¬((ac "people")=ac "mark_of") by decide +kernel),if_neg (show ¬((ac "people")=ac "loss_of") by decide +kernel),if_neg (show ¬((ac "people")=ac "held_of") by decide +kernel),if_neg (show ¬((ac "things_of")=ac "mark_of") by decide +kernel),if_neg (show ¬((ac "things_of")=ac "loss_of") by decide +kernel),if_neg (show ¬((ac "things_of")=ac "held_of") by decide +kernel),if_neg (show ¬((ac "mark_of")=ac "loss_of") by decide +kernel),if_neg (show ¬((ac "mark_of")=ac "held_of") by decide +kernel),if_neg (show ¬((ac "loss_of")=ac "held_of") by decide +kernel)];rfl
structure IniAt(C:al)(H0 H:Hp)(p dx:al)(fs:List (Str×V))(ds:List al):Prop where
 ob:H p=some (.ins C dx fs)
 dd:∀c∈ds,H c=some (.dK [])
 fr:∀c∈ds,H0 c=none
 nd:(p::ds).Nodup
 kp:∀c o,H0 c=some o->c≠p->H c=some o
 len:fs.length<=ds.length
def IniAt.at_(I:IniAt C H0 H p dx fs ds)(h:H d=none):(upd H d (.dK [])) p=some (.ins C dx fs):=by rw[lg (lI I.ob h)];exact I.ob
def IniAt.step{C:al}{H0 H:Hp}{p dx d:al}{fs:List (Str×V)}{ds:List al}{f:Str}(I:IniAt C H0 H p dx fs ds)(h:H d=none) :
  IniAt C H0 (upd (upd H d (.dK [])) p (.ins C dx (tw f (.ref d) fs))) p dx (tw f (.ref d) fs) (ds++[d]):=by
 have n1:p≠d:=lI I.ob h;obtain⟨m1,m2⟩:=az.mp I.nd;have m3:d∉ds:=fun z=>by rw[I.dd d z] at h;cases h
 refine⟨lr,fun c hc=>?_,fun c hc=>?_,?_,fun c o e hc=>?_,?_⟩
 ·rcases aJ.mp hc with hc|hc
  ·have c1:c≠p:=fun z=>m1 (by rw[<-z];exact hc);have c2:c≠d:=fun z=>m3 (by rw[<-z];exact hc);rw[lg c1,lg c2];exact I.dd c hc
  ·rw[au.mp hc,lg n1.symm,lr]
 ·rcases aJ.mp hc with hc|hc
  ·exact I.fr c hc
  ·rw[au.mp hc];cases q:H0 d with
   |none=>rfl
   |some o=>rw[I.kp d o q n1.symm] at h;cases h
 ·refine az.mpr ⟨fun z=>?_,xk m2 m3⟩;rcases aJ.mp z with z|z
  ·exact m1 z
  ·exact n1 (au.mp z)
 ·rw[lg hc,lg (fun z=>by rw[z] at e;rw[I.kp d o e (z▸hc)] at h;cases h)];exact I.kp c o e hc
 ·rw[aE];exact aC (uA _ _ _) (Nat.add_le_add_right I.len 1)
noncomputable def KB(K:aa)(C:al):Sp:=fun vs H Q _=>∃(p dx:al),vs=[.ref p]/\H p=some (.ins C dx [])/\∀z H',(∀c∈[z.dp,z.dt,z.dm,z.dl,z.dh],H c=none)->BookAt K C H' p z [] []->(∀c o,H c=some o->c≠p->H' c=some o)->Q .non H'
def Li(F:Fun K "__init__" "Book.__init__" ux f fd)(T:Txt K mg a):FnOk P w K mg base (CXo P w) 1 f fd ["self"] (KB K a.Book):=by
 refine F.okN Ck (fun vs H Q E h=>?_) (fun Ol A outer s H vs Q E hr h=>?_)
 ·obtain⟨p,dx,rfl,_⟩:=h;rfl
 ·obtain⟨p,dx,rfl,hp,k⟩:=h;have hu:=nV hr;refine⟨_,(@lM _ _ _ _ _ (An (pv 0) pe_dnewK rfl) (@lM _ _ _ _ _ (An (pv 0) pe_dnewK rfl) (@lM _ _ _ _ _ (An (pv 0) pe_dnewK rfl) (@lM _ _ _ _ _ (An (pv 0) pe_dnewK rfl) (@lQ _ _ _ (An (pv 0) pe_dnewK rfl)))))),?_⟩;have I0:IniAt a.Book H H p dx [] []:=⟨hp,by simp,by simp,by simp,fun c o e _=>e,ax _⟩;intro dp h1;refine⟨_,rfl,p,_,dx,_,rfl,I0.at_ h1,T.cl,T.nA_people,aM I0.len (show 0<1000 by decide),?_⟩;have I1:=I0.step (f:="people") h1;intro dt h2;refine⟨_,rfl,p,_,dx,_,rfl,I1.at_ h2,T.cl,T.nA_things_of,aM I1.len (show 1<1000 by decide),?_⟩;have I2:=I1.step (f:="things_of") h2;intro dm h3;refine⟨_,rfl,p,_,dx,_,rfl,I2.at_ h3,T.cl,T.nA_mark_of,aM I2.len (show 2<1000 by decide),?_⟩;have I3:=I2.step (f:="mark_of") h3;intro dl h4;refine⟨_,rfl,p,_,dx,_,rfl,I3.at_ h4,T.cl,T.nA_loss_of,aM I3.len (show 3<1000 by decide),?_⟩;have I4:=I3.step (f:="loss_of") h4;intro dh h5;refine⟨_,rfl,p,_,dx,_,rfl,I4.at_ h5,T.cl,T.nA_held_of,aM I4.len (show 4<1000 by decide),?_⟩;have I5:=I4.step (f:="held_of") h5;refine k ⟨dx,dp,dt,dm,dl,dh⟩ _ (fun c hc=>I5.fr c (by simpa using hc)) ⟨?_,I5.dd dp (by simp),I5.dd dt (by simp),I5.dd dm (by simp),I5.dd dl (by simp),⟨[],I5.dd dh (by simp),.nil,gW⟩,fun e he=>(by cases he),I5.nd,ba _,ba _⟩ I5.kp;rw[<-IC];exact I5.ob
abbrev qg:bL:=nu (top 25) 1
def xf:FnScope ["self","name"] ["self","name"] (lh qg):=fsc
def uf(K:aa)(C:al):Sp:=fun vs H Q _=>∃b z Oc L x,vs=[.ref b,.str x]/\BookAt K C H b z Oc L/\Q (.bl (oG L x)) H
def Dq(F:Fun K "is_house" "Book.is_house" qg f fd)(T:Txt K mg a):FnOk P w K mg base (CXo P w) 1 f fd ["self","name"] (uf K a.Book):=by
 refine F.okN xf (fun vs H Q E h=>?_) (fun Ol A outer s H vs Q E hr h=>?_)
 ·obtain⟨b,z,Oc,L,x,rfl,_⟩:=h;rfl
 ·obtain⟨b,z,Oc,L,x,rfl,B,k⟩:=h;have hu:=nV hr;refine⟨_,(@lQ _ _ _ (@qz _ _ _ _ (JO (JP hu (pv 1) (nU (pv 0) rfl))))),?_⟩;refine⟨_,rfl,_,rfl,b,_,_,_,_,rfl,B.ob,T.cl,T.nA_held_of,vT z,_,_,rfl,B.hh.dget x,?_⟩;rw[qW,ck];exact k
abbrev pE:bL:=nu (top 25) 2
def wm:FnScope ["self","name"] ["self","name"] (lh pE):=fsc
def sD(K:aa)(C:al):Sp:=fun vs H Q _=>∃b z Oc L x,vs=[.ref b,.str x]/\BookAt K C H b z Oc L/\Q (.bl (nB Oc x||oG L x)) H
def Cq(F:Fun K "is_holder" "Book.is_holder" pE f fd)(T:Txt K mg a)(OG:Mt P w K mg base a.Book "is_house" 1 ["self","name"] (uf K a.Book)):FnOk P w K mg base (CXo P w) 2 f fd ["self","name"] (sD K a.Book):=by
 refine F.okN wm (fun vs H Q E h=>?_) (fun Ol A outer s H vs Q E hr h=>?_)
 ·obtain⟨b,z,Oc,L,x,rfl,_⟩:=h;rfl
 ·obtain⟨b,z,Oc,L,x,rfl,B,k⟩:=h;have hu:=nV hr;refine⟨_,(@lQ _ _ _ (@qz _ _ _ _ (@pe_or _ _ _ _ _ _ _ (JO (JP hu (pv 1) (nU (pv 0) rfl))) (@C6 _ _ _ _ _ (rq (pv 0) OG (hr.mono (by first|decide|omega)) tU (@lG _ _ _ _ _ (pv 1) pa_nil (by rfl))))))),?_⟩;refine⟨_,rfl,_,rfl,b,_,_,_,_,rfl,B.ob,T.cl,T.nA_people,vp z,_,_,rfl,DGet.k (k:=ar x) B.pp,_,rfl,tQ (fun h=>?_) (fun h=>?_)⟩
  ·rw[qW (key:=fun n=>n),ck] at h;unfold nB at k;rw[h] at k;exact k
  ·rw[qW (key:=fun n=>n),ck] at h;unfold nB at k;rw[cC.mpr h] at k;exact⟨_,rfl,b,_,_,rfl,B.ob,rB z,_,rfl,b,z,Oc,L,x,rfl,B,k⟩
abbrev oN:bL:=nu (top 25) 3
def vV:FnScope ["self","name"] ["self","name"] (lh oN):=fsc
def mV(K:aa)(a:Adr):Sp:=fun vs H Q E=>∃b z Oc L x,vs=[.ref b,.str x]/\BookAt K a.Book H b z Oc L/\Nm x/\(oG L x=true->Q .non H)/\(oG L x=false->E (.ref a.NoHouse) none H)
def Au(F:Fun K "need_house" "Book.need_house" oN f fd)(T:Txt K mg a)(OG:Mt P w K mg base a.Book "is_house" 1 ["self","name"] (uf K a.Book)):FnOk P w K mg base (CXo P w) 2 f fd ["self","name"] (mV K a):=by
 refine F.okX vV (fun vs H Q E h=>?_) (fun Ol A outer s H vs Q E hr h=>?_)
 ·obtain⟨b,z,Oc,L,x,rfl,_⟩:=h;rfl
 ·obtain⟨b,z,Oc,L,x,rfl,B,nm,k1,k2⟩:=h;have hu:=nV hr;refine⟨_,(@lQ _ _ _ (@wL _ _ _ _ _ _ _ _ (Am (wz (rq (pv 0) OG (hr.mono (by first|decide|omega)) n9 (@lG _ _ _ _ _ (pv 1) pa_nil (by rfl))))) (@lQ _ _ _ (qm T.x_NoHouse rfl T.c_NoHouse rfl (E9 (Ao (yA (pv 1) Ap))) zl)) pss_nil)),?_⟩;refine⟨_,rfl,b,_,_,rfl,B.ob,rB z,_,rfl,b,z,Oc,L,x,rfl,B,_,rfl,tQ (fun h=>?_) (fun h=>?_)⟩
  ·exact⟨_,rfl,⟨x,rfl,nm⟩,fun y=>k2 (nbT h)⟩
  ·exact k1 (nbF h)
abbrev oE:bL:=nu (top 25) 4
def uQ:FnScope ["self","name"] ["self","name"] (lh oE):=fsc
noncomputable def qH(K:aa)(a:Adr):Sp:=fun vs H Q E=>∃b z Oc L x,vs=[.ref b,.str x]/\BookAt K a.Book H b z Oc L/\Nm x/\((nB Oc x||oG L x)=true->Q .non H)/\((nB Oc x||oG L x)=false->E (.ref a.NoHolder) none H)
def yU(F:Fun K "need_holder" "Book.need_holder" oE f fd)(T:Txt K mg a)(OC:Mt P w K mg base a.Book "is_holder" 2 ["self","name"] (sD K a.Book)):FnOk P w K mg base (CXo P w) 3 f fd ["self","name"] (qH K a):=by
 refine F.okX uQ (fun vs H Q E h=>?_) (fun Ol A outer s H vs Q E hr h=>?_)
 ·obtain⟨b,z,Oc,L,x,rfl,_⟩:=h;rfl
 ·obtain⟨b,z,Oc,L,x,rfl,B,nm,k1,k2⟩:=h;have hu:=nV hr;refine⟨_,(@lQ _ _ _ (@wL _ _ _ _ _ _ _ _ (Am (wz (rq (pv 0) OC (hr.mono (by first|decide|omega)) n9 (@lG _ _ _ _ _ (pv 1) pa_nil (by rfl))))) (@lQ _ _ _ (qm T.x_NoHolder rfl T.c_NoHolder rfl (E9 (Ao (yA (pv 1) Ap))) zl)) pss_nil)),?_⟩;refine⟨_,rfl,b,_,_,rfl,B.ob,rB z,_,rfl,b,z,Oc,L,x,rfl,B,_,rfl,tQ (fun h=>?_) (fun h=>?_)⟩
  ·exact⟨_,rfl,⟨x,rfl,nm⟩,fun y=>k2 (nbT h)⟩
  ·exact k1 (nbF h)
abbrev nT:bL:=nu (top 25) 5
def tL:FnScope ["self","name"] ["self","name"] (lh nT):=fsc
def rP(a:Adr)(Oc:List Str)(L:List (Ent×al))(x:Str):Option al:=if pG x=false then some a.NoName else if(nB Oc x||oG L x)=true then some a.Twice else none
noncomputable def ue(K:aa)(a:Adr):Sp:=fun vs H Q E=>∃b z Oc L x,vs=[.ref b,.str x]/\BookAt K a.Book H b z Oc L/\Nm x/\(rP a Oc L x=none->∀H',Same H H'->Q .non H')/\(∀c,rP a Oc L x=some c->∀H',Same H H'->E (.ref c) none H')
def Dp(F:Fun K "need_new_name" "Book.need_new_name" nT f fd)(T:Txt K mg a)(PX:Fn P w K mg base "is_name" 1 ["text"] y9)(OC:Mt P w K mg base a.Book "is_holder" 2 ["self","name"] (sD K a.Book)):FnOk P w K mg base (CXo P w) 3 f fd ["self","name"] (ue K a):=by
 refine F.okX tL (fun vs H Q E h=>?_) (fun Ol A outer s H vs Q E hr h=>?_)
 ·obtain⟨b,z,Oc,L,x,rfl,_⟩:=h;rfl
 ·obtain⟨b,z,Oc,L,x,rfl,B,nm,k1,k2⟩:=h;have hu:=nV hr;refine⟨_,(@lM _ _ _ _ _ (@wL _ _ _ _ _ _ _ _ (Am (wz (@vZ _ _ _ _ _ _ _ _ _ _ _ PX (hr.mono (by first|decide|omega)) rfl n9 (@lG _ _ _ _ _ (pv 1) pa_nil (by rfl)) (by decide) (by rfl) (by rfl)))) (@lQ _ _ _ (qm T.x_NoName rfl T.c_NoName rfl (E9 (Ao (yA (pv 1) Ap))) zl)) pss_nil) (@lQ _ _ _ (@wL _ _ _ _ _ _ _ _ (wz (rq (pv 0) OC (hr.mono (by first|decide|omega)) n9 (@lG _ _ _ _ _ (pv 1) pa_nil (by rfl)))) (@lQ _ _ _ (qm T.x_Twice rfl T.c_Twice rfl (E9 (Ao (yA (pv 1) Ap))) zl)) pss_nil))),?_⟩;refine⟨_,rfl,x,rfl,nm,fun H1 s1=>⟨_,rfl,tQ (fun h=>?_) (fun h=>?_)⟩⟩
  ·refine⟨_,rfl,⟨x,rfl,nm⟩,fun y=>k2 _ ?_ H1 s1⟩;have h:pG x=false:=nbT h;unfold rP;rw[if_pos h]
  ·have h:pG x=true:=nbF h;have B1:=B.same s1;refine⟨_,rfl,b,_,_,rfl,B1.ob,rB z,_,rfl,b,z,Oc,L,x,rfl,B1,_,rfl,tQ (fun h2=>?_) (fun h2=>?_)⟩
   ·refine⟨_,rfl,⟨x,rfl,nm⟩,fun y=>k2 _ ?_ H1 s1⟩;unfold rP;rw[if_neg (by rw[h];decide),if_pos h2]
   ·refine k1 ?_ H1 s1;unfold rP;rw[if_neg (by rw[h];decide),if_neg h2]
end
mutual
inductive D where
 |i (n:Int)
 |s (x:Str)
 |l (xs:DL)
 |t (xs:DL)
inductive DL where
 |nil
 |cons (x:D) (xs:DL)
end
mutual
def DAt(K:aa)(H:Hp):D->V->Prop
 |.i n,v=>v=.int n
 |.s x,v=>v=.str x
 |.l xs,v=>∃a vs,v=.ref a/\SqL K H a vs/\DLAt K H xs vs
 |.t xs,v=>∃a vs,v=.ref a/\SqT K H a vs/\DLAt K H xs vs
def DLAt(K:aa)(H:Hp):DL->List V->Prop
 |.nil,vs=>vs=[]
 |.cons x xs,vs=>∃v r,vs=v::r/\DAt K H x v/\DLAt K H xs r
end
def Iu(s:Same H H')(h:SqL K H a xs):SqL K H' a xs:=Same.seq s h
def DV(s:Same H H')(h:SqT K H a xs):SqT K H' a xs:=vC h fun c o e _=>s c o e
mutual
theorem DAt.same(s:Same H H'):∀(d:D)(v:V),DAt K H d v->DAt K H' d v
 |.i n,v,h=>h
 |.s x,v,h=>h
 |.l xs,v,h=>by
  obtain⟨a,vs,e,q,r⟩:=h;exact⟨a,vs,e,Iu s q,DLAt.same s xs vs r⟩
 |.t xs,v,h=>by obtain⟨a,vs,e,q,r⟩:=h;exact⟨a,vs,e,DV s q,DLAt.same s xs vs r⟩
theorem DLAt.same(s:Same H H'):∀(d:DL)(vs:List V),DLAt K H d vs->DLAt K H' d vs
 |.nil,vs,h=>h
 |.cons x xs,vs,h=>by obtain⟨v,r,e,h1,h2⟩:=h;exact⟨v,r,e,DAt.same s x v h1,DLAt.same s xs r h2⟩
end
def lU(l:List (Str×Int×Int))(n:Str):Str×Int×Int:=(l.find? fun q=>decide (q.1=n)).getD (n,0,1)
def nW(L:List (Ent×al))(n:Str):Option (Ent×al):=L.find? fun e=>decide (e.1.nm=n)
def sj(h:nW L n=some e):e∈L:=cW h
section
variable{P:aI}{w:aX}{K:aa}{mg:Str->Option am}{base:bA}{a:Adr}{f:al}{fd:bQ}
abbrev rM:bL:=nu (top 25) 6
def yQ:FnScope ["self","name"] ["self","name"] (lh rM):=fsc
def vI(a:Adr)(Oc:List Str)(L:List (Ent×al))(x:Str):Option al:=match rP a Oc L x with
 |some c=>some c
 |none=>if 6<=Oc.length then some a.TooMany else none
noncomputable def Bu(K:aa)(a:Adr):Sp:=fun vs H Q E=>∃b z Oc L x,vs=[.ref b,.str x]/\BookAt K a.Book H b z Oc L/\Nm x /\
 (vI a Oc L x=none->∀H',BookAt K a.Book H' b z (Oc++[x]) L->(∀c o,H c=some o->c≠z.dp->H' c=some o)->Q .non H')/\(∀c,vI a Oc L x=some c->∀H',Same H H'->E (.ref c) none H')
def x4(h:rP a Oc L x=none):pG x=true/\nB Oc x=false/\oG L x=false:=by
 unfold rP at h;split at h
 ·cases h
 ·split at h
  ·cases h
  ·rename_i h1 h2;have h2:¬(nB Oc x||oG L x)=true:=h2;refine⟨by simpa using h1,?_,?_⟩
   ·cases q:nB Oc x with
    |false=>rfl
    |true=>rw[q] at h2;exact absurd rfl h2
   ·cases q:oG L x with
    |false=>rfl
    |true=>rw[q,Bool.or_true] at h2;exact absurd rfl h2
def Hc(F:Fun K "person" "Book.person" rM f fd)(T:Txt K mg a)(Os:Mt P w K mg base a.Book "need_new_name" 3 ["self","name"] (ue K a)):FnOk P w K mg base (CXo P w) 4 f fd ["self","name"] (Bu K a):=by
 refine F.okX yQ (fun vs H Q E h=>?_) (fun Ol A outer s H vs Q E hr h=>?_)
 ·obtain⟨b,z,Oc,L,x,rfl,_⟩:=h;rfl
 ·obtain⟨b,z,Oc,L,x,rfl,B,nm,k1,k2⟩:=h;have hu:=nV hr;refine⟨_,(@lM _ _ _ _ _ (@nL _ _ _ _ (rq (pv 0) Os (hr.mono (by first|decide|omega)) n9 (@lG _ _ _ _ _ (pv 1) pa_nil (by rfl))) (by rfl)) (@lM _ _ _ _ _ (@wL _ _ _ _ _ _ _ _ (@vH _ _ _ _ _ _ _ _ Kg (@om _ _ _ _ _ _ _ _ _ B2 rfl T.b_len AQ (@lG _ _ _ _ _ (nU (pv 0) rfl) pa_nil (by rfl)) (by decide) (by decide) (by rfl) (by rfl)) (rb rfl T.g_MOST_PERSONS T.r_MOST_PERSONS) (vJ _)) (@lQ _ _ _ (qm T.x_TooMany rfl T.c_TooMany rfl pe_str zl)) pss_nil) (@lQ _ _ _ (qo hu (nU (pv 0) rfl) (pv 1) pe_bl rfl)))),?_⟩;refine⟨_,rfl,b,_,_,rfl,B.ob,rB z,_,rfl,b,z,Oc,L,x,rfl,B,nm,fun hd H1 s1=>?_,fun c hc H1 s1=>?_⟩
  ·have B1:=B.same s1;refine⟨_,rfl,b,_,_,_,_,rfl,B1.ob,T.cl,T.nA_people,vp z,_,_,rfl,B1.pp,_,_,rfl,rfl,_,rfl,tQ (fun h=>?_) (fun h=>?_)⟩
   ·refine k2 _ ?_ H1 s1;unfold vI;rw[hd];have h:(6:Int)<=((Oc.map fun n=>((ar n:Key),V.bl true)).length:Int):=of_decide_eq_true h;rw[af] at h;exact if_pos (by omega)
   ·have h:¬(6:Int)<=((Oc.map fun n=>((ar n:Key),V.bl true)).length:Int):=fun z=>h (decide_eq_true z);rw[af] at h;have hl:Oc.length<6:=by omega
    have Qf:pN (Oc.map fun n=>((ar n:Key),V.bl true)) (ar x)=none:=by rw[qW (key:=fun n=>n)];have:=(x4 hd).2.1;unfold nB at this;rw[gs];exact dJ.mp this |> dP.mp
    refine⟨_,rfl,b,_,_,_,_,rfl,B1.ob,T.cl,T.nA_people,vp z,_,rfl,_,_,rfl,DPut.k (k:=ar x) B1.pp (by rw[af];exact aA hl (by decide)),?_⟩;have Q8:vI a Oc L x=none:=by unfold vI;rw[hd];exact if_neg (by omega)
    refine k1 Q8 _ ?_ fun c o e hc=>by rw[lg hc];exact s1 c o e
    obtain⟨hb,Rk⟩:=az.mp B1.nd;obtain⟨hp,hr2⟩:=az.mp Rk;have ne:∀c,c∈z.dt::z.dm::z.dl::z.dh::L.map (·.2)->c≠z.dp:=fun c hc e=>hp (e▸hc);refine⟨?_,?_,?_,?_,?_,?_,fun e he=>?_,B1.nd,by rw[aE];simp;omega,B1.h8⟩
    ·rw[lg (fun e=>hb (by rw[e];simp))];exact B1.ob
    ·rw[lr,uS _ Qf,ay];rfl
    ·rw[lg (ne _ (by simp))];exact B1.tt
    ·rw[lg (ne _ (by simp))];exact B1.mm
    ·rw[lg (ne _ (by simp))];exact B1.ll
    ·exact B1.hh.keep fun o h=>by rw[lg (ne _ (by simp))];exact h
    ·refine(B1.he e he).keep (fun o h=>?_) fun c o h x=>?_
     ·rw[lg (ne _ (by simp only[aj];right;right;right;right;exact ak.mpr ⟨e,he,rfl⟩))];exact h
     ·rw[lg (C8 h B1.pp (by rcases x with⟨xs,rfl|⟨ob,rfl⟩⟩<;>intro z<;>cases z))];exact h
  ·refine k2 c ?_ H1 s1;unfold vI;rw[hc]
abbrev sL:bL:=nu (top 25) 7
def Ak:FnScope ["self","name","owner","things","mark","loss"] ["self","name","owner","things","mark","loss"] (lh sL):=fsc
noncomputable def sx(a:Adr)(Oc:List Str)(L:List (Ent×al))(x o:Str)(l:Int):Option al:=match rP a Oc L x with
 |some c=>some c
 |none=>if(nB Oc o||oG L o)=false then some a.NoHolder else if l<0 then some a.NoLoss else if 8<=L.length then some a.TooMany else none
noncomputable def DM(K:aa)(a:Adr):Sp:=fun vs H Q E=>∃b z Oc L x o t m l,vs=[.ref b,.str x,.str o,.int t,.int m,.int l]/\BookAt K a.Book H b z Oc L/\Nm x/\Nm o /\
 (sx a Oc L x o l=none->∀p H',H p=none->BookAt K a.Book H' b z Oc (L++[(⟨x,t,m,l,[(o,1,1)]⟩,p)])->(∀c u,H c=some u->c∉[z.dt,z.dm,z.dl,z.dh]->H' c=some u)->Q .non H')/\(∀c,sx a Oc L x o l=some c->∀H',Same H H'->E (.ref c) none H')
def p8(v:Ent×al->V)(h:oG L x=false):pN (L.map fun e=>((ar e.1.nm:Key),v e)) (ar x)=none:=by rw[qW (key:=fun e:Ent×al=>e.1.nm)];unfold oG at h;rw[gs];exact dJ.mp h |> dP.mp
def IW(F:Fun K "house" "Book.house" sL f fd)(T:Txt K mg a)(Os:Mt P w K mg base a.Book "need_new_name" 3 ["self","name"] (ue K a))(Om:Mt P w K mg base a.Book "need_holder" 3 ["self","name"] (qH K a))(OD:Fn P w K mg base "need_loss" 1 ["number"] (sC a)):FnOk P w K mg base (CXo P w) 4 f fd ["self","name","owner","things","mark","loss"] (DM K a):=by
 refine F.okX Ak (fun vs H Q E h=>?_) (fun Ol A outer s H vs Q E hr h=>?_)
 ·obtain⟨b,z,Oc,L,x,o,t,m,l,rfl,_⟩:=h;rfl
 ·obtain⟨b,z,Oc,L,x,o,t,m,l,rfl,B,nm,no,k1,k2⟩:=h;have hu:=nV hr;refine⟨_,(@lM _ _ _ _ _ (@nL _ _ _ _ (rq (pv 0) Os (hr.mono (by first|decide|omega)) n9 (@lG _ _ _ _ _ (pv 1) pa_nil (by rfl))) (by rfl)) (@lM _ _ _ _ _ (@nL _ _ _ _ (rq (pv 0) Om (hr.mono (by first|decide|omega)) n9 (@lG _ _ _ _ _ (pv 2) pa_nil (by rfl))) (by rfl)) (@lM _ _ _ _ _ (@nL _ _ _ _ (@vZ _ _ _ _ _ _ _ _ _ _ _ OD (hr.mono (by first|decide|omega)) rfl n9 (@lG _ _ _ _ _ (pv 5) pa_nil (by rfl)) (by decide) (by rfl) (by rfl)) (by rfl)) (@lM _ _ _ _ _ (@wL _ _ _ _ _ _ _ _ (@vH _ _ _ _ _ _ _ _ Kg (@om _ _ _ _ _ _ _ _ _ B2 rfl T.b_len AQ (@lG _ _ _ _ _ (nU (pv 0) rfl) pa_nil (by rfl)) (by decide) (by decide) (by rfl) (by rfl)) (rb rfl T.g_MOST_HOUSES T.r_MOST_HOUSES) (vJ _)) (@lQ _ _ _ (qm T.x_TooMany rfl T.c_TooMany rfl pe_str zl)) pss_nil) (@lM _ _ _ _ _ (qo hu (nU (pv 0) rfl) (pv 1) (pv 3) rfl) (@lM _ _ _ _ _ (qo hu (nU (pv 0) rfl) (pv 1) (pv 4) rfl) (@lM _ _ _ _ _ (qo hu (nU (pv 0) rfl) (pv 1) (pv 5) rfl) (@lQ _ _ _ (qo hu (nU (pv 0) rfl) (pv 1) (Gk (D5 (pv 2) (rb rfl T.g_ONE T.r_ONE) Ge) rfl rfl (by decide) (by decide)) rfl))))))))),?_⟩;refine⟨_,rfl,b,_,_,rfl,B.ob,rB z,_,rfl,b,z,Oc,L,x,rfl,B,nm,fun hd H1 s1=>?_,fun c hc H1 s1=>?_⟩
  ·have B1:=B.same s1;refine⟨_,rfl,b,_,_,rfl,B1.ob,rB z,_,rfl,b,z,Oc,L,o,rfl,B1,no,fun ho=>?_,fun ho=>?_⟩
   ·refine⟨_,rfl,l,rfl,fun hl=>?_,fun hl=>?_⟩
    ·refine k2 _ ?_ H1 s1;unfold sx;rw[hd];show(if(nB Oc o||oG L o)=false then some a.NoHolder else _)=_;rw[if_neg (by rw[ho];decide),if_pos hl]
    ·obtain⟨Th,eh,ph,nh⟩:=B1.hh;have TB:Th.length=L.length:=by rw[ph.length_eq,af]
     refine⟨_,rfl,b,_,_,_,_,rfl,B1.ob,T.cl,T.nA_held_of,vT z,_,_,rfl,eh,_,_,rfl,rfl,_,rfl,tQ (fun h=>?_) (fun h=>?_)⟩
     ·refine k2 _ ?_ H1 s1;have h:(8:Int)<=(Th.length:Int):=of_decide_eq_true h;rw[TB] at h;unfold sx;rw[hd];show(if(nB Oc o||oG L o)=false then some a.NoHolder else _)=_;rw[if_neg (by rw[ho];decide),if_neg (by omega),if_pos (by omega)]
     ·have h:¬(8:Int)<=(Th.length:Int):=fun z=>h (decide_eq_true z);rw[TB] at h;have TX:L.length<8:=by omega
      have Q8:sx a Oc L x o l=none:=by unfold sx;rw[hd];show(if(nB Oc o||oG L o)=false then some a.NoHolder else _)=_;rw[if_neg (by rw[ho];decide),if_neg (by omega),if_neg (by omega)]
      have hx:=(x4 hd).2.2;have sz:∀{v:Ent×al->V},(L.map fun e=>((ar e.1.nm:Key),v e)).length<aH:=fun{v}=>by rw[af];exact aA TX (by decide)
      obtain⟨hb,r1⟩:=az.mp B1.nd;obtain⟨hp,r2⟩:=az.mp r1;obtain⟨ht,r3⟩:=az.mp r2;obtain⟨hm,r4⟩:=az.mp r3;obtain⟨SN,r5⟩:=az.mp r4;obtain⟨hh,r6⟩:=az.mp r5;refine⟨_,rfl,_,rfl,b,_,_,_,_,rfl,B1.ob,T.cl,T.nA_things_of,xY z,_,rfl,_,_,rfl,DPut.k (k:=ar x) B1.tt sz,?_⟩;have Ta:b≠z.dt:=fun e=>hb (by rw[e];simp);have Uz:b≠z.dm:=fun e=>hb (by rw[e];simp);have b_l:b≠z.dl:=fun e=>hb (by rw[e];simp);have b_h:b≠z.dh:=fun e=>hb (by rw[e];simp);have p_t:z.dp≠z.dt:=fun e=>hp (by rw[e];simp);have p_m:z.dp≠z.dm:=fun e=>hp (by rw[e];simp);have p_l:z.dp≠z.dl:=fun e=>hp (by rw[e];simp);have p_h:z.dp≠z.dh:=fun e=>hp (by rw[e];simp);have Tj:z.dt≠z.dm:=fun e=>ht (by rw[e];simp);have Tk:z.dt≠z.dl:=fun e=>ht (by rw[e];simp);have t_h:z.dt≠z.dh:=fun e=>ht (by rw[e];simp);have Tw:z.dm≠z.dl:=fun e=>hm (by rw[e];simp);have m_h:z.dm≠z.dh:=fun e=>hm (by rw[e];simp);have l_h:z.dl≠z.dh:=fun e=>SN (by rw[e];simp);refine⟨_,rfl,_,rfl,b,_,_,_,_,rfl,(by rw[lg Ta];exact B1.ob),T.cl,T.nA_mark_of,CU z,_,rfl,_,_,rfl,DPut.k (k:=ar x) (by rw[lg Tj.symm];exact B1.mm) sz,?_⟩;refine⟨_,rfl,_,rfl,b,_,_,_,_,rfl,(by rw[lg Uz,lg Ta];exact B1.ob),T.cl,T.nA_loss_of,CV z,_,rfl,_,_,rfl,DPut.k (k:=ar x) (by rw[lg Tw.symm,lg Tk.symm];exact B1.ll) sz,?_⟩;intro p QH;have e0:∀c,c≠z.dt->c≠z.dm->c≠z.dl->∀A B C,(upd (upd (upd H1 z.dt A) z.dm B) z.dl C) c=H1 c:=fun c c1 c2 c3 A B C=>by rw[lg c3,lg c2,lg c1]
      have Sw:p≠z.dt:=fun e=>by rw[e,lg Tk,lg Tj,lr] at QH;cases QH
      have Sx:p≠z.dm:=fun e=>by rw[e,lg Tw,lr] at QH;cases QH
      have Sy:p≠z.dl:=fun e=>by rw[e,lr] at QH;cases QH
      have Px:H1 p=none:=by rw[e0 p Sw Sx Sy] at QH;exact QH
      have Qs:H p=none:=s1.free Px;have SA:p≠z.dh:=fun e=>by rw[e,eh] at Px;cases Px
      have SB:p≠b:=fun e=>by rw[e,B1.ob] at Px;cases Px
      have q_p:p≠z.dp:=fun e=>by rw[e,B1.pp] at Px;cases Px
      refine⟨_,rfl,lr,[(ar o,.ref a.ONE)],rfl,(show 1<=15 by decide),_,rfl,b,_,_,_,_,rfl,(by rw[lg SB.symm,lg SB.symm,e0 b Ta Uz b_l];exact B1.ob),T.cl,T.nA_held_of,vT z,_,rfl,_,_,rfl,DPut.k (k:=ar x) (by rw[lg SA.symm,lg SA.symm,e0 z.dh t_h.symm m_h.symm l_h.symm];exact eh) (by rw[TB];exact aA TX (by decide)),?_⟩;have Sd:∀c,c≠p->c≠z.dh->c≠z.dt->c≠z.dm->c≠z.dl->∀A B C D E F,(upd (upd (upd (upd (upd (upd H1 z.dt A) z.dm B) z.dl C) p D) p E) z.dh F) c=H1 c:=fun c c1 c2 c3 c4 c5 A B C D E F=>by rw[lg c2,lg c1,lg c1,lg c5,lg c4,lg c3]
      refine k1 Q8 p _ Qs ?_ fun c u e hc=>?_
      ·refine⟨?_,?_,?_,?_,?_,?_,fun e he=>?_,?_,B1.p6,by rw[aE];exact TX⟩
       ·rw[Sd b SB.symm b_h Ta Uz b_l];exact B1.ob
       ·rw[Sd z.dp q_p.symm p_h p_t p_m p_l];exact B1.pp
       ·rw[lg t_h,lg Sw.symm,lg Sw.symm,lg Tk,lg Tj,lr,uS _ (p8 _ hx),ay];rfl
       ·rw[lg m_h,lg Sx.symm,lg Sx.symm,lg Tw,lr,uS _ (p8 _ hx),ay];rfl
       ·rw[lg l_h,lg Sy.symm,lg Sy.symm,lr,uS _ (p8 _ hx),ay];rfl
       ·have hv:pN Th (ar x)=none:=by rw[DD ph nh];exact p8 _ hx
        refine⟨_,lr,?_,?_⟩
        ·rw[uS _ hv,ay];exact ph.append_right _
        ·rw[ay,ay,ap,bv];refine xk nh fun hq=>?_;obtain⟨kv,hkv,ekv⟩:=ak.mp hq;have e1:=(yY (k:=kv.1) (v:=kv.2) nh).mpr hkv;rw[ekv,p8 _ hx] at e1;cases e1
       ·rcases aJ.mp he with he|he
        ·have SV:e.2∈L.map (·.2):=ak.mpr ⟨e,he,rfl⟩;have d1:e.2≠z.dh:=fun q=>hh (q▸SV);have d2:e.2≠z.dt:=fun q=>ht (by rw[<-q];simp only[aj];right;right;right;exact SV);have d3:e.2≠z.dm:=fun q=>hm (by rw[<-q];simp only[aj];right;right;exact SV);have d4:e.2≠z.dl:=fun q=>SN (by rw[<-q];simp only[aj];right;exact SV);have d5:e.2≠p:=fun q=>by obtain⟨ts,_,q2,_⟩:=B1.he e he;rw[q,Px] at q2;cases q2
         refine(B1.he e he).keep (fun u h=>?_) fun c u h y=>?_
         ·rw[Sd e.2 d5 d1 d2 d3 d4];exact h
         ·have nt:∀{q:al}{kv:List (Key×V)},H1 q=some (.dK kv)->c≠q:=fun hq=>C8 h hq (by rcases y with⟨xs,rfl|⟨ob,rfl⟩⟩<;>intro z<;>cases z);rw[Sd c (lI h Px) (nt eh) (nt B1.tt) (nt B1.mm) (nt B1.ll)];exact h
        ·rw[au.mp he];refine⟨[a.ONE],rfl,?_,fun q hq=>?_⟩
         ·rw[lg SA,lr];rfl
         ·rw[au.mp hq];exact .inr T.one
       ·have hpL:p∉L.map (·.2):=fun hq=>by obtain⟨e,he,rfl⟩:=ak.mp hq;obtain⟨ts,_,q2,_⟩:=B1.he e he;rw[Px] at q2;cases q2
        have:=xk (k:=p) B1.nd (by
         intro hq;simp only[aj] at hq;rcases hq with e|e|e|e|e|e|e
         ·exact SB e
         ·exact q_p e
         ·exact Sw e
         ·exact Sx e
         ·exact Sy e
         ·exact SA e
         ·exact hpL e)
        rw[ay];exact this
      ·have e1:=s1 c u e;have c0:c≠p:=lI e1 Px;simp only[aj,bg,or_false,not_or] at hc;rw[Sd c c0 hc.2.2.2 hc.1 hc.2.1 hc.2.2.1];exact e1
   ·refine k2 _ ?_ H1 s1;unfold sx;rw[hd];exact if_pos ho
  ·refine k2 c ?_ H1 s1;unfold sx;rw[hc]
def PairAt(K:aa)(H:Hp)(q:Str×Int×Int)(v:V):Prop:=∃t u,v=.ref t/\SqT K H t [.str q.1,.ref u]/\SqT K H u [.int q.2.1,.int q.2.2]
def PairAt.keep{K:aa}(h:PairAt K H q v)(k:∀c o,H c=some o->(∃xs,o=.tup xs\/∃ob,o=.frz ob (.tup xs))->H' c=some o):PairAt K H' q v:=by obtain⟨t,u,e,h1,h2⟩:=h;exact⟨t,u,e,vC h1 k,vC h2 k⟩
def Ks(hp:H p=some (.lst xs)):∀c o,H c=some o->(∃xs,o=.tup xs\/∃ob,o=.frz ob (.tup xs))->(upd H p o') c=some o:=fun c o h x=>by rw[lg (C8 h hp (by rcases x with⟨xs,rfl|⟨ob,rfl⟩⟩<;>intro z<;>cases z))];exact h
def HX{l:List (Str×Int×Int)}{ts:List al}(hl:ts.length=l.length){n:Str}(hn:n∈l.map (·.1)):∃q,(l.zip ts).find? (fun q=>decide (q.1.1=n))=some q/\q∈l.zip ts/\q.1=lU l n/\(lU l n).1=n:=by
 have e:(l.zip ts).map (·.1)=l:=iY (by omega);cases h:(l.zip ts).find? (fun q=>decide (q.1.1=n)) with
 |none =>
  exfalso;rw[cx] at h;rw[<-e,aF] at hn;obtain⟨q,hq,e2⟩:=ak.mp hn;exact h q hq (decide_eq_true e2)
 |some q =>
  have e2:l.find? (fun q=>decide (q.1=n))=some q.1:=by rw[<-e,eX];show((l.zip ts).find? (fun q=>decide (q.1.1=n))).map (·.1)=some q.1;rw[h];rfl
  have e3:lU l n=q.1:=by unfold lU;rw[e2];rfl
  exact⟨q,rfl,cW h,e3.symm,by rw[e3];simpa using dC h⟩
def y8(K:aa)(C:al):Sp:=fun vs H Q _=>∃b z Oc L,vs=[.ref b]/\BookAt K C H b z Oc L/\∀l,H l=none->Q (.ref l) (upd H l (.lst ((srt Oc).map V.str)))
abbrev qK:bL:=nu (top 25) 12
def yq:FnScope ["self"] ["self"] (lh qK):=fsc
def Fb(F:Fun K "persons" "Book.persons" qK f fd)(T:Txt K mg a):FnOk P w K mg base (CXo P w) 1 f fd ["self"] (y8 K a.Book):=by
 refine F.okN yq (fun vs H Q E h=>?_) (fun Ol A outer s H vs Q E hr h=>?_)
 ·obtain⟨b,z,Oc,L,rfl,_⟩:=h;rfl
 ·obtain⟨b,z,Oc,L,rfl,B,k⟩:=h;have hu:=nV hr;refine⟨_,(@lQ _ _ _ (@qz _ _ _ _ (@om _ _ _ _ _ _ _ _ _ (qD rfl) rfl T.b_sorted vo (@lG _ _ _ _ _ (nU (pv 0) rfl) pa_nil (by rfl)) (by decide) (by decide) (by rfl) (by rfl)))),?_⟩;exact⟨_,rfl,b,_,_,_,_,rfl,B.ob,T.cl,T.nA_people,vp z,_,_,Oc,rfl,.inl B.pp,by rw[aF];rfl,aM B.p6 (by decide),k⟩
def Bv(K:aa)(C:al):Sp:=fun vs H Q _=>∃b z Oc L,vs=[.ref b]/\BookAt K C H b z Oc L/\∀l,H l=none->Q (.ref l) (upd H l (.lst ((srt (L.map (·.1.nm))).map V.str)))
abbrev rN:bL:=nu (top 25) 13
def yR:FnScope ["self"] ["self"] (lh rN):=fsc
def Hf(F:Fun K "houses" "Book.houses" rN f fd)(T:Txt K mg a):FnOk P w K mg base (CXo P w) 1 f fd ["self"] (Bv K a.Book):=by
 refine F.okN yR (fun vs H Q E h=>?_) (fun Ol A outer s H vs Q E hr h=>?_)
 ·obtain⟨b,z,Oc,L,rfl,_⟩:=h;rfl
 ·obtain⟨b,z,Oc,L,rfl,B,k⟩:=h;have hu:=nV hr;refine⟨_,(@lQ _ _ _ (@qz _ _ _ _ (@om _ _ _ _ _ _ _ _ _ (qD rfl) rfl T.b_sorted vo (@lG _ _ _ _ _ (nU (pv 0) rfl) pa_nil (by rfl)) (by decide) (by decide) (by rfl) (by rfl)))),?_⟩;obtain⟨Th,ss,eh,ek,ps⟩:=B.hh.keys;rw[<-mJ ps] at k;exact⟨_,rfl,b,_,_,_,_,rfl,B.ob,T.cl,T.nA_held_of,vT z,_,_,ss,rfl,.inl eh,ek,by rw[ps.length_eq,af];exact aM B.h8 (by decide),k⟩
abbrev xJ:bL:=nu (top 25) 15
def E4:FnScope ["self","house"] ["self","house"] (lh xJ):=fsc
noncomputable def Me(K:aa)(a:Adr):Sp:=fun vs H Q E=>∃b z Oc L x,vs=[.ref b,.str x]/\BookAt K a.Book H b z Oc L/\Nm x/\(∀e,nW L x=some e->∀t,H t=none->Q (.ref t) (upd H t (.tup [.int e.1.th,.int e.1.mr,.int e.1.ls])))/\(nW L x=none->E (.ref a.NoHouse) none H)
def Aa(v:Ent×al->V)(h:nW L x=some e):pN (L.map fun e=>((ar e.1.nm:Key),v e)) (ar x)=some (v e):=by rw[qW (key:=fun e:Ent×al=>e.1.nm)];unfold nW at h;rw[h];rfl
def ok_of(F:Fun K "of" "Book.of" xJ f fd)(T:Txt K mg a)(Od:Mt P w K mg base a.Book "need_house" 2 ["self","name"] (mV K a)):FnOk P w K mg base (CXo P w) 3 f fd ["self","house"] (Me K a):=by
 refine F.okX E4 (fun vs H Q E h=>?_) (fun Ol A outer s H vs Q E hr h=>?_)
 ·obtain⟨b,z,Oc,L,x,rfl,_⟩:=h;rfl
 ·obtain⟨b,z,Oc,L,x,rfl,B,nm,k1,k2⟩:=h;have hu:=nV hr;refine⟨_,(@lM _ _ _ _ _ (@nL _ _ _ _ (rq (pv 0) Od (hr.mono (by first|decide|omega)) n9 (@lG _ _ _ _ _ (pv 1) pa_nil (by rfl))) (by rfl)) (@lQ _ _ _ (@qz _ _ _ _ (@Ar _ _ _ _ _ (@lG _ _ _ _ _ (@tN _ _ _ _ _ _ hu (nU (pv 0) rfl) (pv 1) (fun _ _=>rfl)) (@lG _ _ _ _ _ (@tN _ _ _ _ _ _ hu (nU (pv 0) rfl) (pv 1) (fun _ _=>rfl)) (@lG _ _ _ _ _ (@tN _ _ _ _ _ _ hu (nU (pv 0) rfl) (pv 1) (fun _ _=>rfl)) pa_nil (by rfl)) (by rfl)) (by rfl)))))),?_⟩;refine⟨_,rfl,b,_,_,rfl,B.ob,rB z,_,rfl,b,z,Oc,L,x,rfl,B,nm,fun h=>?_,fun h=>k2 ?_⟩
  ·cases he:nW L x with
   |none=>unfold oG at h;unfold nW at he;rw[he] at h;cases h
   |some e =>
    refine⟨_,rfl,b,_,_,_,_,rfl,B.ob,T.cl,T.nA_things_of,xY z,_,rfl,_,_,rfl,?_,_,rfl,b,_,_,_,_,rfl,B.ob,T.cl,T.nA_mark_of,CU z,_,rfl,_,_,rfl,?_,_,rfl,b,_,_,_,_,rfl,B.ob,T.cl,T.nA_loss_of,CV z,_,rfl,_,_,rfl,?_,(show 3<=aH by decide),fun t ht=>k1 e he t ht⟩
    ·have:=DGet.k (k:=ar x) B.tt;rw[Aa _ he] at this;exact this
    ·have:=DGet.k (k:=ar x) B.mm;rw[Aa _ he] at this;exact this
    ·have:=DGet.k (k:=ar x) B.ll;rw[Aa _ he] at this;exact this
  ·unfold oG at h;unfold nW;exact dJ.mp h |> dP.mp
abbrev pQ:bL:=nu (top 25) 14
def sc_Book_shares:FnScope ["self","house","held"] ["self","house"] (lh pQ):=fsc
noncomputable def Bs(K:aa)(a:Adr):Sp:=fun vs H Q E=>∃b z Oc L x,vs=[.ref b,.str x]/\BookAt K a.Book H b z Oc L/\Nm x /\
 (∀e,nW L x=some e->e.1.held.length<64/\∀l ys H',H l=none->Same H H'->H' l=some (.lst ys)->fQ (PairAt K H') ((srt (e.1.held.map (·.1))).map (lU e.1.held)) ys->Q (.ref l) H')/\(nW L x=none->E (.ref a.NoHouse) none H)
def Hb(F:Fun K "shares" "Book.shares" pQ f fd)(T:Txt K mg a)(Od:Mt P w K mg base a.Book "need_house" 2 ["self","name"] (mV K a)):FnOk P w K mg base (CXo P w) 3 f fd ["self","house"] (Bs K a):=by
 refine F.okX sc_Book_shares (fun vs H Q E h=>?_) (fun Ol A outer s H vs Q E hr h=>?_)
 ·obtain⟨b,z,Oc,L,x,rfl,_⟩:=h;rfl
 ·obtain⟨b,z,Oc,L,x,rfl,B,nm,k1,k2⟩:=h;have hu:=nV hr;refine⟨_,(@lM _ _ _ _ _ (@nL _ _ _ _ (rq (pv 0) Od (hr.mono (by first|decide|omega)) n9 (@lG _ _ _ _ _ (pv 1) pa_nil (by rfl))) (by rfl)) (@lM _ _ _ _ _ (@su _ _ (2) _ _ _ _ sc_Book_shares.nd rfl (gJ rfl) (@tN _ _ _ _ _ _ hu (nU (pv 0) rfl) (pv 1) (fun _ _=>rfl)) (by rfl) (by first|exact .inl rfl|exact .inr rfl|assumption)) (@lQ _ _ _ (@qz _ _ _ _ (xg (fr:=["held"]) (ix:=[2]) rfl (by exact(show CompOk ["self","house","held"] (lh pQ) _ _ _ _ from cok)) (K0 (@om _ _ _ _ _ _ _ _ _ (qD rfl) rfl T.b_sorted vo (@lG _ _ _ _ _ (pv 2) pa_nil (by rfl)) (by decide) (by decide) (by rfl) (by rfl))) (fun _ _ _ _ _=>wM) (fun _ _ _ _ _=>(Ar (lG (pv 0) (lG (tN hu (pv 1) (pv 0) (fun _ _=>rfl)) pa_nil))))))))),?_⟩;refine⟨_,rfl,b,_,_,rfl,B.ob,rB z,_,rfl,b,z,Oc,L,x,rfl,B,nm,fun h=>?_,fun h=>k2 ?_⟩
  ·cases he:nW L x with
   |none=>unfold oG at h;unfold nW at he;rw[he] at h;cases h
   |some e =>
    obtain⟨QN,k1⟩:=k1 e he;obtain⟨ts,hl,hd,hts⟩:=B.he e (sj he);have RV:(((e.1.held.zip ts).map fun q=>((ar q.1.1:Key),V.ref q.2)).map (·.1))=(e.1.held.map (·.1)).map ar:=by
     rw[aF,aF];have e1:(e.1.held.zip ts).map (·.1)=e.1.held:=iY (by omega)
     conv=>rhs;rw[<-e1,aF]
     rfl
    refine⟨_,rfl,b,_,_,_,_,rfl,B.ob,T.cl,T.nA_held_of,vT z,_,rfl,_,.ref e.2,rfl,?_,_,rfl,e.2,_,e.1.held.map (·.1),rfl,.inl hd,RV,by rw[af];exact QN,fun l RT=>?_⟩
    ·have:=B.hh.dget x;rw[Aa _ he] at this;exact this
    ·refine⟨l,rfl,⟨_,SqL.of lr⟩,fun D hD=>?_⟩;have lD:l≠D:=lI lr hD;have Uh:H D=none:=by rw[lg lD.symm] at hD;exact hD
     have hDp:e.2≠D:=lI hd Uh;refine CT (J:=Itl K l) (srt (e.1.held.map (·.1))).length (fun i ys H'=>Same H H'/\H' D=some (.lst ys)/\H' l=some (.lst ((srt (e.1.held.map (·.1))).map V.str))/\fQ (PairAt K H') (((srt (e.1.held.map (·.1))).take i).map (lU e.1.held)) ys)
      ⟨?_,lr,?_,.nil⟩ ?_ (fun i ys H' r=>r.2.1) (fun i ys H' hi r=>⟨_,.str ((srt (e.1.held.map (·.1)))[i]),SqL.of r.2.2.1,by simp[hi]⟩) ?_ ?_
     ·exact(rm RT).trans (rm hD)
     ·rw[lg lD,lr]
     ·rw[lH,af];exact aC (fk QN) (by decide)
     ·rintro i ys Hx v H' hi ⟨s1,h1,h2,h3⟩ ⟨rfl,hy⟩ Kt Kf q1 q2
      have hv:=hy _ (SqL.of h2);have ev:v=.str ((srt (e.1.held.map (·.1)))[i]):=by rw[bu,br hi] at hv;exact(aU hv).symm
      subst ev;have Pj:(srt (e.1.held.map (·.1)))[i]∈e.1.held.map (·.1):=(lx _).mem_iff.mp (cR hi);obtain⟨q,f1,f2,f3,f4⟩:=HX hl Pj;have Qq:pN ((e.1.held.zip ts).map fun q=>((ar q.1.1:Key),V.ref q.2)) (ar ((srt (e.1.held.map (·.1)))[i]))=some (.ref q.2):=by rw[qW (key:=fun q:(Str×Int×Int)×al=>q.1.1),f1];rfl
      refine N0 ⟨_,rfl,_,rfl,_,rfl,e.2,.ref q.2,rfl,?_,(show 2<=aH by decide),fun p hp=>?_⟩
      ·have:=DGet.k (k:=ar ((srt (e.1.held.map (·.1)))[i])) (s1 _ _ hd);rw[Qq] at this;exact this
      ·have pD:D≠p:=lI h1 hp;have pl:l≠p:=lI h2 hp;refine q1 _ _ (by rw[lg pD];exact h1) ⟨?_,lr,?_,?_⟩
       ·intro c o hc;rw[lg (fun z=>by rw[z] at hc;rw[Uh] at hc;cases hc),lg (lI (s1 c o hc) hp)];exact s1 c o hc
       ·rw[lg lD,lg pl];exact h2
       ·have kp:∀c o,H' c=some o->(∃xs,o=.tup xs\/∃ob,o=.frz ob (.tup xs))->(upd (upd H' p (.tup [.str ((srt (e.1.held.map (·.1)))[i]),.ref q.2])) D (.lst (ys++[.ref p]))) c=some o:=fun c o hc x=>by rw[Ks (xs:=ys) (by rw[lg pD];exact h1) c o (by rw[lg (lI hc hp)];exact hc) x]
        have e5:((srt (e.1.held.map (·.1))).take (i+1)).map (lU e.1.held)=((srt (e.1.held.map (·.1))).take i).map (lU e.1.held)++[lU e.1.held ((srt (e.1.held.map (·.1)))[i])]:=by rw[cI,br hi,ay];rfl
        rw[e5];refine jW (fQ.mapP h3 fun q v hq=>hq.keep kp) ⟨p,q.2,rfl,?_,?_⟩
        ·refine SqT.of ?_;rw[lg pD.symm,lr,f4]
        ·rw[<-f3];exact vC (hts q f2) fun c o hc x=>kp c o (s1 c o hc) x
     ·rintro ys H' hy ⟨s1,h1,h2,h3⟩
      refine⟨⟨_,SqL.of h2,by rw[af];exact ax _⟩,k1 D ys H' Uh s1 h1 ?_⟩;rw[dU] at h3;exact h3
  ·unfold oG at h;unfold nW;exact dJ.mp h |> dP.mp
end
end My
namespace L2
open PySem PySem.Spec PyProof.Rows
section
variable{X:Cx}
def rEqT(K:aa):R2:=fun x y H Q=>∃p q xs ys,x=.ref p/\y=.ref q/\SqT K H p xs/\SqT K H q ys/\xs.length=ys.length/\xs.all tG=true/\ys.all tG=true/\Q (.bl (LL xs ys)) H
def Nu(hu:X.A.units<fE):OpR X (b9 .Eq) (rEqT X.K):=by
 intro Ob s σ H x y v u Q I rx ry h;obtain⟨p,q,xs,ys,rfl,rfl,hp,hq,hl,fx,fy,k⟩:=h;cases rx;cases ry;obtain⟨its,r,pl,_⟩:=I.tuple hp;obtain⟨PM,r2,pl2,_⟩:=I.tuple hq;have e1:=r.length;have e2:=r2.length;refine SeqAt.eq_tupleAt pl pl2 hu (Fl r r2 hl fx fy) ⟨.bl _,H,I,rfl,?_⟩;have e3:its.toArray.size=PM.toArray.size:=by simp;omega
 rw[e3,Nat.min_self,beq_self_eq_true,Bool.and_true,aV,<-e2,<-hl,<-Es hl];exact k
end
end L2
namespace My
open PySem L2 Fra
def Ei(x y:Int)(h:0<y):aL y (x%y)=aL x y:=by
 have e:x%y=x-(x/y)*y:=by rw[Int.emod_def,bh]
 rw[e,Int.gcd_comm,Int.gcd_sub_mul_right_left]
def Jm(h:0<=x):(aL x 0:Int)=x:=by rw[Int.gcd_zero_right];omega
structure Sz(q:Int×Int):Prop where
 low:Low q
 bt:Bt 8900 q.1
 bb:Bt 8900 q.2
def FrAt(K:aa)(H:Hp)(p:al)(q:Int×Int):Prop:=SqT K H p [.int q.1,.int q.2]
def FrAt.same(h:FrAt K H p q)(s:Same H H'):FrAt K H' p q:=DV s h
section
variable{P:aI}{w:aX}{K:aa}{mg:Str->Option am}{base:bA}{a:Adr}{f:al}{fd:bQ}
abbrev pA:bL:=top 14
def sc_common_divisor:FnScope ["number","other","rest"] ["number","other"] (lh pA):=fsc
def Fz:Sp:=fun vs H Q _=>∃n m,vs=[.int n,.int m]/\0<m/\Q (.int (aL n m)) H
def Ny(F:Fun K "common_divisor" "common_divisor" pA f fd)(T:Txt K mg a):FnOk P w K mg base (CXo P w) 1 f fd ["number","other"] Fz:=by
 refine F.okN sc_common_divisor (fun vs H Q E h=>?_) (fun Ol A outer s H vs Q E hr h=>?_)
 ·obtain⟨n,m,rfl,_⟩:=h;rfl
 ·obtain⟨n,m,rfl,hm,k⟩:=h;have hu:=nV hr;refine⟨_,(@lM _ _ _ _ _ (D4 iF (@vH _ _ _ _ _ _ _ _ op_ne (pv 1) pe_int (vJ _)) (@lM _ _ _ _ _ (@su _ _ (2) _ _ _ _ sc_common_divisor.nd rfl (eR rfl) (@tT _ _ _ _ _ _ _ _ JQ (pv 0) (pv 1)) (by rfl) (by first|exact .inl rfl|exact .inr rfl|assumption)) (@lM _ _ _ _ _ (@su _ _ (0) _ _ _ _ sc_common_divisor.nd rfl (eR rfl) (pv 1) (by rfl) (by first|exact .inl rfl|exact .inr rfl|assumption)) (@lQ _ _ _ (@su _ _ (1) _ _ _ _ sc_common_divisor.nd rfl (eR rfl) (pv 2) (by rfl) (by first|exact .inl rfl|exact .inr rfl|assumption)))))) (@lQ _ _ _ (@qz _ _ _ _ (pv 0)))),?_⟩;refine⟨fun c σ H'=>H'=H/\∃x y v,σ=[some (.int x),some (.int y),v]/\0<=y/\c=y.toNat/\aL x y=aL n m/\(y=0->0<=x),⟨_,rfl,n,m,_,rfl,by omega,rfl,rfl,by omega⟩,?_⟩
  rintro c σ H' ⟨rfl,x,y,v,rfl,hy,rfl,hg,hx⟩
  refine⟨_,rfl,rfl,_,rfl,tQ (fun h=>?_) (fun h=>?_)⟩
  ·have RJ:0<y:=by have:¬(V.int y=V.int 0):=of_decide_eq_false (nbT h);have:y≠0:=fun z=>this (by rw[z]);omega
   refine⟨fun σ' H''=>H''=H'/\∃v',σ'=[some (.int y),some (.int (x%y)),v'],?_,?_⟩
   ·rintro σ' H'' ⟨rfl,v',rfl⟩
    have m0:=dD x (show y≠0 by omega);have m1:=cU x RJ;exact⟨(x%y).toNat,by omega,rfl,_,_,_,rfl,m0,rfl,(Ei x y RJ).trans hg,fun _=>hy⟩
   ·exact⟨_,rfl,_,rfl,_,_,rfl,rfl,RJ,_,rfl,_,rfl,rfl,_,rfl⟩
  ·have RJ:y=0:=V.int.inj (of_decide_eq_true (nbF h));subst RJ;refine⟨_,rfl,?_⟩;rw[Jm (hx rfl) |>.symm,hg];exact k
abbrev FB:bL:=top 16
def sc_plus:FnScope ["first","second","common","top","shared"] ["first","second"] (lh FB):=fsc
noncomputable def y7(K:aa):Sp:=fun vs H Q _=>∃p1 p2 q1 q2,vs=[.ref p1,.ref p2]/\FrAt K H p1 q1/\FrAt K H p2 q2/\Sz q1/\Sz q2/\∀x,H x=none->Q (.ref x) (upd H x (.tup [.int (ng q1 q2).1,.int (ng q1 q2).2]))
def Lf(F:Fun K "plus" "plus" FB f fd)(T:Txt K mg a)(Ou:Fn P w K mg base "common_divisor" 1 ["number","other"] Fz):FnOk P w K mg base (CXo P w) 2 f fd ["first","second"] (y7 K):=by
 refine F.okN sc_plus (fun vs H Q E h=>?_) (fun Ol A outer s H vs Q E hr h=>?_)
 ·obtain⟨p1,p2,q1,q2,rfl,_⟩:=h;rfl
 ·obtain⟨p1,p2,⟨t1,b1⟩,⟨t2,b2⟩,rfl,h1,h2,s1,s2,k⟩:=h;have hu:=nV hr;refine⟨_,(@lM _ _ _ _ _ (@su _ _ (2) _ _ _ _ sc_plus.nd rfl (eR rfl) (@vZ _ _ _ _ _ _ _ _ _ _ _ Ou (hr.mono (by first|decide|omega)) rfl tU (@lG _ _ _ _ _ (@sf _ _ _ _ _ _ _ ix_tup (pv 0) pe_int (fun _ _=>rfl)) (@lG _ _ _ _ _ (@sf _ _ _ _ _ _ _ ix_tup (pv 1) pe_int (fun _ _=>rfl)) pa_nil (by rfl)) (by rfl)) (by decide) (by rfl) (by rfl)) (by rfl) (by first|exact .inl rfl|exact .inr rfl|assumption)) (@lM _ _ _ _ _ (@su _ _ (3) _ _ _ _ sc_plus.nd rfl (eR rfl) (@tT _ _ _ _ _ _ _ _ op_add (@tT _ _ _ _ _ _ _ _ op_mulB (@sf _ _ _ _ _ _ _ ix_tup (pv 0) pe_int (fun _ _=>rfl)) (@tT _ _ _ _ _ _ _ _ sv (@sf _ _ _ _ _ _ _ ix_tup (pv 1) pe_int (fun _ _=>rfl)) (pv 2))) (@tT _ _ _ _ _ _ _ _ op_mulB (@sf _ _ _ _ _ _ _ ix_tup (pv 1) pe_int (fun _ _=>rfl)) (@tT _ _ _ _ _ _ _ _ sv (@sf _ _ _ _ _ _ _ ix_tup (pv 0) pe_int (fun _ _=>rfl)) (pv 2)))) (by rfl) (by first|exact .inl rfl|exact .inr rfl|assumption)) (@lM _ _ _ _ _ (@su _ _ (4) _ _ _ _ sc_plus.nd rfl (eR rfl) (@vZ _ _ _ _ _ _ _ _ _ _ _ Ou (hr.mono (by first|decide|omega)) rfl tU (@lG _ _ _ _ _ (pv 3) (@lG _ _ _ _ _ (pv 2) pa_nil (by rfl)) (by rfl)) (by decide) (by rfl) (by rfl)) (by rfl) (by first|exact .inl rfl|exact .inr rfl|assumption)) (@lQ _ _ _ (@qz _ _ _ _ (@Ar _ _ _ _ _ (@lG _ _ _ _ _ (@tT _ _ _ _ _ _ _ _ sv (pv 3) (pv 4)) (@lG _ _ _ _ _ (@tT _ _ _ _ _ _ _ _ op_mulB (@tT _ _ _ _ _ _ _ _ sv (@sf _ _ _ _ _ _ _ ix_tup (pv 0) pe_int (fun _ _=>rfl)) (pv 2)) (@tT _ _ _ _ _ _ _ _ sv (@sf _ _ _ _ _ _ _ ix_tup (pv 1) pe_int (fun _ _=>rfl)) (pv 4))) pa_nil (by rfl)) (by rfl)))))))),?_⟩;rw[<-L9 s1.low s2.low] at k;have b10:0<b1:=s1.low.1;have b20:0<b2:=s2.low.1;have hd:0<aL b1 b2:=bZ _ (by omega);have hd0:(0:Int)<(aL b1 b2:Int):=by omega
  have bd:Bt 8900 (aL b1 b2:Int):=s1.bb.dvd (show b1≠0 by omega) (fK ..);have ld:=(bd.mono (by decide)).log hd0;refine⟨_,rfl,p1,_,1,_,rfl,rfl,h1,mP (j:=1) rfl,_,rfl,p2,_,1,_,rfl,rfl,h2,mP (j:=1) rfl,b1,b2,rfl,b20,?_⟩;refine⟨_,rfl,p1,_,0,_,rfl,rfl,h1,mP (j:=0) rfl,_,rfl,p2,_,1,_,rfl,rfl,h2,mP (j:=1) rfl,_,rfl,_,_,rfl,rfl,⟨hd0,ld⟩,_,_,rfl,rfl,⟨s1.bt.mono (by decide),(s2.bb.div).mono (by decide)⟩,?_⟩;refine⟨_,rfl,p2,_,0,_,rfl,rfl,h2,mP (j:=0) rfl,_,rfl,p1,_,1,_,rfl,rfl,h1,mP (j:=1) rfl,_,rfl,_,_,rfl,rfl,⟨hd0,ld⟩,_,_,rfl,rfl,⟨s2.bt.mono (by decide),(s1.bb.div).mono (by decide)⟩,_,_,rfl,rfl,?_⟩;have he:0<aL (t1*(b2/(aL b1 b2:Int))+t2*(b1/(aL b1 b2:Int))) (aL b1 b2:Int):=bZ _ (by omega);have T7:(0:Int)<(aL (t1*(b2/(aL b1 b2:Int))+t2*(b1/(aL b1 b2:Int))) (aL b1 b2:Int):Int):=by omega
  have be:Bt 8900 (aL (t1*(b2/(aL b1 b2:Int))+t2*(b1/(aL b1 b2:Int))) (aL b1 b2:Int):Int):=bd.dvd (by omega) (cL ..);have le:=(be.mono (by decide)).log T7;refine⟨_,rfl,_,rfl,_,_,rfl,hd0,?_⟩;refine⟨_,rfl,_,rfl,_,_,rfl,rfl,⟨T7,le⟩,_,rfl,p1,_,1,_,rfl,rfl,h1,mP (j:=1) rfl,_,rfl,_,_,rfl,rfl,⟨hd0,ld⟩,_,rfl,p2,_,1,_,rfl,rfl,h2,mP (j:=1) rfl,_,rfl,_,_,rfl,rfl,⟨T7,le⟩,_,_,rfl,rfl,⟨(s1.bb.div).mono (by decide),(s2.bb.div).mono (by decide)⟩,(show 2<=aH by decide),fun x hx=>?_⟩;exact k x hx
abbrev CI:bL:=top 17
def Is:FnScope ["first","second"] ["first","second"] (lh CI):=fsc
noncomputable def DK(K:aa):Sp:=fun vs H Q _=>∃p1 p2 q1 q2,vs=[.ref p1,.ref p2]/\FrAt K H p1 q1/\FrAt K H p2 q2/\Sz q1/\Sz q2/\∀x H',H x=none->Same H H'->H' x=some (.tup [.int (ng q1 (-q2.1,q2.2)).1,.int (ng q1 (-q2.1,q2.2)).2])->Q (.ref x) H'
theorem Sz.neg(h:Sz q):Sz (-q.1,q.2):=⟨⟨h.low.1,by have:=h.low.2;unfold Cop aL at *;simp only[ia];exact this⟩,h.bt.neg,h.bb⟩
def IV(F:Fun K "minus" "minus" CI f fd)(T:Txt K mg a)(Po:Fn P w K mg base "plus" 2 ["first","second"] (y7 K)):FnOk P w K mg base (CXo P w) 3 f fd ["first","second"] (DK K):=by
 refine F.okN Is (fun vs H Q E h=>?_) (fun Ol A outer s H vs Q E hr h=>?_)
 ·obtain⟨p1,p2,q1,q2,rfl,_⟩:=h;rfl
 ·obtain⟨p1,p2,⟨t1,b1⟩,⟨t2,b2⟩,rfl,h1,h2,s1,s2,k⟩:=h;have hu:=nV hr;refine⟨_,(@lQ _ _ _ (@qz _ _ _ _ (@vZ _ _ _ _ _ _ _ _ _ _ _ Po (hr.mono (by first|decide|omega)) rfl tU (@lG _ _ _ _ _ (pv 0) (@lG _ _ _ _ _ (@Ar _ _ _ _ _ (@lG _ _ _ _ _ (@Mo _ _ _ _ _ _ JC (@sf _ _ _ _ _ _ _ ix_tup (pv 1) pe_int (fun _ _=>rfl))) (@lG _ _ _ _ _ (@sf _ _ _ _ _ _ _ ix_tup (pv 1) pe_int (fun _ _=>rfl)) pa_nil (by rfl)) (by rfl))) pa_nil (by rfl)) (by rfl)) (by decide) (by rfl) (by rfl)))),?_⟩;refine⟨_,rfl,_,rfl,p2,_,0,_,rfl,rfl,h2,mP (j:=0) rfl,_,rfl,_,rfl,p2,_,1,_,rfl,rfl,h2,mP (j:=1) rfl,(show 2<=aH by decide),fun y hy=>?_⟩;have sy:=rm (o:=.tup [.int (-t2),.int b2]) hy;refine⟨p1,y,(t1,b1),(-t2,b2),rfl,h1.same sy,SqT.of lr,s1,s2.neg,fun x hx=>?_⟩;refine k x _ (sy.free hx) (sy.trans (rm hx)) lr
abbrev vY:bL:=top 18
def Dl:FnScope ["first","second"] ["first","second"] (lh vY):=fsc
def DN(K:aa):Sp:=fun vs H Q _=>∃p1 p2 q1 q2,vs=[.ref p1,.ref p2]/\FrAt K H p1 q1/\FrAt K H p2 q2/\Sz q1/\Sz q2/\Q (.bl (decide (q1.1*q2.2>q2.1*q1.2))) H
def IX(F:Fun K "is_above" "is_above" vY f fd)(T:Txt K mg a):FnOk P w K mg base (CXo P w) 1 f fd ["first","second"] (DN K):=by
 refine F.okN Dl (fun vs H Q E h=>?_) (fun Ol A outer s H vs Q E hr h=>?_)
 ·obtain⟨p1,p2,q1,q2,rfl,_⟩:=h;rfl
 ·obtain⟨p1,p2,⟨t1,b1⟩,⟨t2,b2⟩,rfl,h1,h2,s1,s2,k⟩:=h;have hu:=nV hr;refine⟨_,(@lQ _ _ _ (@qz _ _ _ _ (@Gn _ _ _ _ _ _ _ _ Mr (@tT _ _ _ _ _ _ _ _ op_mulB (@sf _ _ _ _ _ _ _ ix_tup (pv 0) pe_int (fun _ _=>rfl)) (@sf _ _ _ _ _ _ _ ix_tup (pv 1) pe_int (fun _ _=>rfl))) (@tT _ _ _ _ _ _ _ _ op_mulB (@sf _ _ _ _ _ _ _ ix_tup (pv 1) pe_int (fun _ _=>rfl)) (@sf _ _ _ _ _ _ _ ix_tup (pv 0) pe_int (fun _ _=>rfl))) (vJ _)))),?_⟩;refine⟨_,rfl,p1,_,0,_,rfl,rfl,h1,mP (j:=0) rfl,_,rfl,p2,_,1,_,rfl,rfl,h2,mP (j:=1) rfl,_,_,rfl,rfl,⟨s1.bt.mono (by decide),s2.bb.mono (by decide)⟩,_,rfl,p2,_,0,_,rfl,rfl,h2,mP (j:=0) rfl,_,rfl,p1,_,1,_,rfl,rfl,h1,mP (j:=1) rfl,_,_,rfl,rfl,⟨s2.bt.mono (by decide),s1.bb.mono (by decide)⟩,_,_,rfl,rfl,?_⟩;exact k
end
structure Two(q1 q2:Int×Int):Prop where
 p1:0<q1.2
 p2:0<q2.2
 t1:Bt 9000 q1.1
 t2:Bt 9000 q2.1
 b1:Bt 9000 q1.2
 b2:Bt 9000 q2.2
 bb:Bt 9000 (q1.2*q2.2)
abbrev Hl:=List (Str×Int×Int)
def lA(l:Hl)(n:Str):Int×Int:=(lU l n).2
def oF(l:Hl)(n:Str)(q:Int×Int):Hl:=if(l.any fun x=>decide (x.1=n))=true then l.map (fun x=>if x.1=n then(n,q) else x) else l++[(n,q)]
def tI(l:Hl)(n:Str):Hl:=l.filter fun x=>decide (x.1≠n)
def HeldZ(K:aa)(H:Hp)(p:al)(l:Hl)(z:List ((Str×Int×Int)×al)):Prop :=
 z.map (·.1)=l/\H p=some (.dK (z.map fun q=>(ar q.1.1,V.ref q.2)))/\∀q∈z,FrAt K H q.2 q.1.2
def HeldAt.toZ(h:HeldAt K H p l):∃z,HeldZ K H p l z:=by obtain⟨ts,hl,hd,ht⟩:=h;exact⟨l.zip ts,iY (by omega),hd,ht⟩
theorem xD:∀z:List (α×β),(z.map (·.1)).zip (z.map (·.2))=z
 |[]=>rfl
 |x::r=>congrArg (x::·) (xD r)
def HeldZ.held(h:HeldZ K H p l z):HeldAt K H p l:=by
 obtain⟨rfl,hd,ht⟩:=h;refine⟨z.map (·.2),by rw[af,af],?_,?_⟩
 ·rw[xD];exact hd
 ·rw[xD];exact ht
def Da(hp:H p=some (.dK kvs))(h:FrAt K H x q):FrAt K (upd H p o) x q :=
 vC h fun c u e y=>by rw[lg (C8 e hp (by rcases y with⟨xs,rfl|⟨ob,rfl⟩⟩<;>intro z<;>cases z))];exact e
def HeldZ.val(h:HeldZ K H p l z)(n:Str) :
  (n∉l.map (·.1)/\pN (z.map fun q=>((ar q.1.1:Key),V.ref q.2)) (ar n)=none/\lA l n=(0,1))\/(n∈l.map (·.1)/\∃x,pN (z.map fun q=>((ar q.1.1:Key),V.ref q.2)) (ar n)=some (.ref x)/\FrAt K H x (lA l n)):=by
 obtain⟨rfl,hd,ht⟩:=h;rw[qW (key:=fun q:(Str×Int×Int)×al=>q.1.1)];unfold lA lU;rw[eX];have e:((fun q:Str×Int×Int=>decide (q.1=n))∘fun x:(Str×Int×Int)×al=>x.1)=fun x=>decide (x.1.1=n):=rfl;rw[e];cases hf:z.find? (fun x=>decide (x.1.1=n)) with
 |none =>
  left;refine⟨fun hn=>?_,rfl,rfl⟩;rw[cx] at hf;rw[aF] at hn;obtain⟨q,hq,e2⟩:=ak.mp hn;exact hf q hq (decide_eq_true e2)
 |some q =>
  right;have hq:=cW hf;refine⟨?_,q.2,rfl,ht q hq⟩;rw[aF];exact ak.mpr ⟨q,hq,by simpa using dC hf⟩
def HeldZ.put(h:HeldZ K H p l z)(hx:FrAt K H x q) :
  ∃z',HeldZ K (upd H p (.dK (rO (z.map fun q=>((ar q.1.1:Key),V.ref q.2)) (ar n) (.ref x)))) p (oF l n q) z':=by
 obtain⟨rfl,hd,ht⟩:=h;refine⟨if(z.any fun y=>decide (y.1.1=n))=true then z.map (fun y=>if y.1.1=n then((n,q),x) else y) else z++[((n,q),x)],?_,?_,?_⟩
 ·unfold oF;rw[gC];by_cases hb:(z.any fun y=>decide (y.1.1=n))=true
  ·rw[if_pos hb,if_pos (by exact hb),aF,aF];refine aR fun y _=>?_;show(if y.1.1=n then((n,q),x) else y).1=if y.1.1=n then(n,q) else y.1
   by_cases e:y.1.1=n
   ·rw[if_pos e,if_pos e]
   ·rw[if_neg e,if_neg e]
  ·rw[if_neg hb,if_neg (by exact hb),ay];rfl
 ·rw[lr];unfold rO;rw[gC];have eb:((fun kv:Key×V=>decide (kv.1=ar n))∘fun q:(Str×Int×Int)×al=>((ar q.1.1:Key),V.ref q.2))=fun y=>decide (y.1.1=n):=by
   funext y
   show decide ((ar y.1.1:Key)=ar n)=_;rw[yC]
  rw[eb];by_cases hb:(z.any fun y=>decide (y.1.1=n))=true
  ·rw[if_pos hb,if_pos hb,aF,aF]
   congr 2
   refine aR fun y _=>?_;show(if(ar y.1.1:Key)=ar n then((ar y.1.1:Key),V.ref x) else((ar y.1.1:Key),V.ref y.2))=((ar (if y.1.1=n then((n,q),x) else y).1.1:Key),V.ref (if y.1.1=n then((n,q),x) else y).2);by_cases e:y.1.1=n
   ·rw[if_pos (by rw[e]),if_pos e,e]
   ·rw[if_neg (fun w=>e (gD w)),if_neg e]
  ·rw[if_neg hb,if_neg hb,ay];rfl
 ·intro y hy;refine Da hd ?_;by_cases hb:(z.any fun y=>decide (y.1.1=n))=true
  ·rw[if_pos hb] at hy;obtain⟨u,hu,rfl⟩:=ak.mp hy;by_cases e:u.1.1=n
   ·rw[if_pos e];exact hx
   ·rw[if_neg e];exact ht u hu
  ·rw[if_neg hb] at hy;rcases aJ.mp hy with hy|hy
   ·exact ht y hy
   ·rw[au.mp hy];exact hx
def HeldZ.drop(h:HeldZ K H p l z) :
  ∃z',HeldZ K (upd H p (.dK (Bc (z.map fun q=>((ar q.1.1:Key),V.ref q.2)) (ar n)))) p (tI l n) z':=by
 obtain⟨rfl,hd,ht⟩:=h;refine⟨z.filter (fun y=>decide (y.1.1≠n)),?_,?_,fun y hy=>Da hd (ht y (cv.mp hy).1)⟩
 ·unfold tI;rw[eA];rfl
 ·rw[lr];unfold Bc;rw[eA];have eb:((fun kv:Key×V=>decide (kv.1≠ar n))∘fun q:(Str×Int×Int)×al=>((ar q.1.1:Key),V.ref q.2))=fun y=>decide (y.1.1≠n):=by
   funext y
   show decide ((ar y.1.1:Key)≠ar n)=_;rw[bM,decide_eq_true_iff,decide_eq_true_iff];exact⟨fun h w=>h (by rw[w]),fun h w=>h (gD w)⟩
  rw[eb]
def vm(l:Hl)(n:Str):lU l n=(n,lA l n):=by
 unfold lA lU;cases h:l.find? fun q=>decide (q.1=n) with
 |none=>rfl
 |some q =>
  have:q.1=n:=by simpa using dC h
  show q=(n,q.2);rw[<-this]
def mQ(l:Hl)(n m:Str)(q:Int×Int):lA (oF l n q) m=if m=n then q else lA l m:=by
 unfold lA lU oF;by_cases hb:(l.any fun x=>decide (x.1=n))=true
 ·rw[if_pos hb];induction l with
  |nil=>cases hb
  |cons x r ih =>
   rw[ap,bw,bw];by_cases e:x.1=n
   ·rw[if_pos e];by_cases em:m=n
    ·subst em;rw[if_pos rfl,decide_eq_true (show m=m from rfl)];rfl
    ·rw[if_neg em];have e1:decide ((n,q).1=m)=false:=decide_eq_false fun z=>em z.symm;have e2:decide (x.1=m)=false:=decide_eq_false fun z=>em (z.symm.trans e);rw[e1,e2];by_cases hr:(r.any fun x=>decide (x.1=n))=true
     ·have:=ih hr;rw[if_neg em] at this;exact this
     ·have er:r.map (fun x=>if x.1=n then(n,q) else x)=r:=by
       conv=>rhs;rw[<-gY r]
       refine aR fun y hy=>if_neg fun z=>hr (dX.mpr ⟨y,hy,decide_eq_true z⟩)
      show(Option.getD ((r.map fun x=>if x.1=n then(n,q) else x).find? fun q=>decide (q.1=m)) (m,0,1)).2=_;rw[er]
   ·rw[if_neg e];have hr:(r.any fun x=>decide (x.1=n))=true:=by rw[fJ,decide_eq_false e,Bool.false_or] at hb;exact hb
    by_cases em:x.1=m
    ·rw[decide_eq_true em];have:¬m=n:=fun z=>e (em.trans z);rw[if_neg this]
    ·rw[decide_eq_false em];exact ih hr
 ·rw[if_neg hb,gg];by_cases em:m=n
  ·subst em;rw[if_pos rfl];have:l.find? (fun q=>decide (q.1=m))=none:=by rw[cx];intro x hx z;exact hb (dX.mpr ⟨x,hx,z⟩)
   rw[this,Option.none_or,bw,decide_eq_true (show(m,q).1=m from rfl)];rfl
  ·rw[if_neg em];have:[(n,q)].find? (fun q=>decide (q.1=m))=none:=by rw[bw,decide_eq_false (show ¬(n,q).1=m from fun z=>em z.symm)];rfl
   rw[this,Option.or_none]
def xR(l:Hl)(n m:Str):lA (tI l n) m=if m=n then(0,1) else lA l m:=by
 unfold lA lU tI;rw[List.find?_filter];by_cases em:m=n
 ·subst em;rw[if_pos rfl];have:l.find? (fun a=>decide (decide (a.1≠m)=true/\decide (a.1=m)=true))=none:=by rw[cx];intro x hx z;have z:=of_decide_eq_true z;exact of_decide_eq_true z.1 (of_decide_eq_true z.2)
  rw[this];rfl
 ·rw[if_neg em];have:(fun a:Str×Int×Int=>decide (decide (a.1≠n)=true/\decide (a.1=m)=true))=fun a=>decide (a.1=m):=by
   funext x
   rw[bM];simp only[decide_eq_true_iff];exact⟨fun h=>h.2,fun h=>⟨fun z=>em (h.symm.trans z),h⟩⟩
  rw[this]
def mF(l:Hl)(n:Str)(q:Int×Int):(oF l n q).map (·.1)=if n∈l.map (·.1) then l.map (·.1) else l.map (·.1)++[n]:=by
 unfold oF;by_cases hb:(l.any fun x=>decide (x.1=n))=true
 ·have:n∈l.map (·.1):=by obtain⟨x,hx,e⟩:=dX.mp hb;exact ak.mpr ⟨x,hx,of_decide_eq_true e⟩
  rw[if_pos hb,if_pos this,aF];refine aR fun x _=>?_;show(if x.1=n then(n,q) else x).1=x.1;by_cases e:x.1=n
  ·rw[if_pos e,e]
  ·rw[if_neg e]
 ·have:¬n∈l.map (·.1):=fun z=>by obtain⟨x,hx,e⟩:=ak.mp z;exact hb (dX.mpr ⟨x,hx,decide_eq_true e⟩)
  rw[if_neg hb,if_neg this,ay];rfl
def wB(n:Str)(q:Int×Int)(h:(l.map (·.1)).Nodup):((oF l n q).map (·.1)).Nodup:=by
 rw[mF];by_cases hn:n∈l.map (·.1)
 ·rw[if_pos hn];exact h
 ·rw[if_neg hn];exact xk h hn
def wb(l:Hl)(n:Str):(tI l n).map (·.1)=(l.map (·.1)).filter fun x=>decide (x≠n):=by unfold tI;rw[eA];rfl
def Gs(n:Str)(h:(l.map (·.1)).Nodup):((tI l n).map (·.1)).Nodup:=by rw[wb];exact h.filter _
def CN(l:Hl)(n:Str)(q:Int×Int):(oF l n q).length<=l.length+1:=by
 have:=congrArg b6 (mF l n q);rw[af] at this;rw[this];split
 ·rw[af];omega
 ·rw[aE,af];exact ax _
def Ed(l:Hl)(n:Str):(tI l n).length<=l.length:=fA _ _
def pz(l:Hl)(o1 o2:Str)(q:Int×Int):Hl :=
 let r:=ng (lA l o1) (-q.1,q.2);let l1:=if r=(0,1) then tI l o1 else oF l o1 r
 oF l1 o2 (ng (lA l1 o2) q)
def AW(l:Hl)(o1 o2:Str)(q:Int×Int):Hl :=
 let l1:=oF l o1 (ng (lA l o1) (-q.1,q.2))
 oF l1 o2 (ng (lA l1 o2) q)
def vE{β:Type}(L:List (Ent×β))(h:Str)(g:Ent->Ent):List (Ent×β):=L.map fun x=>if x.1.nm=h then(g x.1,x.2) else x
def nk(v:Ent×β->γ)(hv:∀x,v (g x.1,x.2)=v x):(vE L h g).map v=L.map v:=by
 unfold vE;rw[aF];refine aR fun x _=>?_;show v (if x.1.nm=h then(g x.1,x.2) else x)=v x;by_cases e:x.1.nm=h
 ·rw[if_pos e,hv]
 ·rw[if_neg e]
def DP(hy:y∈vE L h g):∃x∈L,(x.1.nm=h/\y=(g x.1,x.2))\/(¬x.1.nm=h/\y=x):=by
 unfold vE at hy;obtain⟨x,hx,rfl⟩:=ak.mp hy;refine⟨x,hx,?_⟩;by_cases e:x.1.nm=h
 ·rw[if_pos e];exact .inl ⟨e,rfl⟩
 ·rw[if_neg e];exact .inr ⟨e,rfl⟩
theorem FG:∀{l:List α}{x y:α},(l.map key).Nodup->x∈l->y∈l->key x=key y->x=y
 |[],_,_,_,hx,_,_=>by cases hx
 |z::r,x,y,h,hx,hy,e=>by
  obtain⟨h1,h2⟩:=az.mp h;rcases aj.mp hx with ex|SK
  ·rcases aj.mp hy with ey|hy'
   ·exact ex.trans ey.symm
   ·rw[ex] at e;exact absurd (ak.mpr ⟨y,hy',e.symm⟩) h1
  ·rcases aj.mp hy with ey|hy'
   ·rw[ey] at e;exact absurd (ak.mpr ⟨x,SK,e⟩) h1
   ·exact FG h2 SK hy' e
def Eh(he:nW L h=some e):e.1.nm=h:=by unfold nW at he;simpa using dC he
def Hw(nd:(L.map (·.1.nm)).Nodup)(he:nW L h=some e)(hx:x∈L)(hn:x.1.nm=h):x=e :=
 FG (key:=fun x:Ent×al=>x.1.nm) nd hx (sj he) (hn.trans (Eh he).symm)
def BookAt.reheld(B:BookAt K C H b z Oc L)(nd:(L.map (·.1.nm)).Nodup)(he:nW L h=some e)(hg:∀x,g x={ x with held:=(g x).held })(hH:HeldAt K H' e.2 (g e.1).held)(kp:∀c o,H c=some o->c≠e.2->H' c=some o):BookAt K C H' b z Oc (vE L h g):=by
 have RZ:=sj he;have e2:e.2∈L.map (·.2):=ak.mpr ⟨e,RZ,rfl⟩;obtain⟨n1,r1⟩:=az.mp B.nd;obtain⟨n2,r2⟩:=az.mp r1;obtain⟨n3,r3⟩:=az.mp r2;obtain⟨n4,r4⟩:=az.mp r3;obtain⟨n5,r5⟩:=az.mp r4;obtain⟨n6,r6⟩:=az.mp r5;have g1:∀x,(g x).nm=x.nm:=fun x=>by rw[hg x]
 have g2:∀x,(g x).th=x.th:=fun x=>by rw[hg x]
 have g3:∀x,(g x).mr=x.mr:=fun x=>by rw[hg x]
 have g4:∀x,(g x).ls=x.ls:=fun x=>by rw[hg x]
 refine⟨kp _ _ B.ob fun q=>n1 (q▸by simp only[aj];right;right;right;right;right;exact e2),kp _ _ B.pp fun q=>n2 (q▸by simp only[aj];right;right;right;right;exact e2),?_,?_,?_,?_,?_,?_,B.p6,by unfold vE;rw[af];exact B.h8⟩
 ·rw[nk (v:=fun e=>((ar e.1.nm:Key),V.int e.1.th)) fun x=>by rw[g1,g2]];exact kp _ _ B.tt fun q=>n3 (q▸by simp only[aj];right;right;right;exact e2)
 ·rw[nk (v:=fun e=>((ar e.1.nm:Key),V.int e.1.mr)) fun x=>by rw[g1,g3]];exact kp _ _ B.mm fun q=>n4 (q▸by simp only[aj];right;right;exact e2)
 ·rw[nk (v:=fun e=>((ar e.1.nm:Key),V.int e.1.ls)) fun x=>by rw[g1,g4]];exact kp _ _ B.ll fun q=>n5 (q▸by simp only[aj];right;exact e2)
 ·rw[nk (v:=fun e=>((ar e.1.nm:Key),V.ref e.2)) fun x=>by rw[g1]];exact B.hh.keep fun o h=>kp _ _ h fun q=>n6 (q▸e2)
 ·intro y hy;obtain⟨x,hx,⟨hn,rfl⟩|⟨hn,rfl⟩⟩:=DP hy
  ·rw[Hw nd he hx hn];exact hH
  ·have hy2:y.2≠e.2:=fun q=>hn (by rw[FG (key:=fun x:Ent×al=>x.2) r6 hx RZ q];exact Eh he);obtain⟨kvs,hk⟩:∃kvs,H e.2=some (.dK kvs):=by obtain⟨ts,_,q,_⟩:=B.he e RZ;exact⟨_,q⟩
   refine(B.he y hx).keep (fun o ho=>kp _ _ ho hy2) fun c o ho x=>kp c o ho fun q=>?_;rw[q,hk] at ho;cases ho;rcases x with⟨xs,z|⟨ob,z⟩⟩<;>cases z
 ·rw[nk (v:=fun e=>e.2) fun x=>rfl];exact B.nd
def BookAt.renum(B:BookAt K C H b z Oc L)(hd:d=z.dt\/d=z.dm\/d=z.dl)(g1:∀x,(g x).nm=x.nm)(g2:∀x,(g x).held=x.held)(tt:H' z.dt=some (.dK ((vE L h g).map fun e=>(ar e.1.nm,.int e.1.th))))(mm:H' z.dm=some (.dK ((vE L h g).map fun e=>(ar e.1.nm,.int e.1.mr))))(ll:H' z.dl=some (.dK ((vE L h g).map fun e=>(ar e.1.nm,.int e.1.ls))))(kp:∀c o,H c=some o->c≠d->H' c=some o):BookAt K C H' b z Oc (vE L h g):=by
 obtain⟨n1,r1⟩:=az.mp B.nd;obtain⟨n2,r2⟩:=az.mp r1;obtain⟨n3,r3⟩:=az.mp r2;obtain⟨n4,r4⟩:=az.mp r3;obtain⟨n5,r5⟩:=az.mp r4;obtain⟨n6,r6⟩:=az.mp r5;obtain⟨kvs,hk⟩:∃kvs,H d=some (.dK kvs):=by
  rcases hd with rfl|rfl|rfl
  ·exact⟨_,B.tt⟩
  ·exact⟨_,B.mm⟩
  ·exact⟨_,B.ll⟩
 refine⟨kp _ _ B.ob fun q=>n1 ?_,kp _ _ B.pp fun q=>n2 ?_,tt,mm,ll,?_,?_,?_,B.p6,by unfold vE;rw[af];exact B.h8⟩
 ·rcases hd with e|e|e<;>(rw[q,e];simp)
 ·rcases hd with e|e|e<;>(rw[q,e];simp)
 ·rw[nk (v:=fun e=>((ar e.1.nm:Key),V.ref e.2)) fun x=>by rw[g1]];refine B.hh.keep fun o h=>kp _ _ h fun q=>?_;rcases hd with e|e|e
  ·exact n3 (by rw[<-e,<-q];simp)
  ·exact n4 (by rw[<-e,<-q];simp)
  ·exact n5 (by rw[<-e,<-q];simp)
 ·intro y hy;have:∃x∈L,x.2=y.2/\x.1.held=y.1.held:=by
   obtain⟨x,hx,⟨hn,rfl⟩|⟨hn,rfl⟩⟩:=DP hy
   ·exact⟨x,hx,rfl,(g2 _).symm⟩
   ·exact⟨y,hx,rfl,rfl⟩
  obtain⟨x,hx,e1,e2⟩:=this;rw[<-e1,<-e2];have SJ:x.2∈L.map (·.2):=ak.mpr ⟨x,hx,rfl⟩;refine(B.he x hx).keep (fun o ho=>kp _ _ ho fun q=>?_) fun c o ho w=>kp c o ho fun q=>?_
  ·rcases hd with e|e|e
   ·exact n3 (by rw[<-e,<-q];simp only[aj];right;right;right;exact SJ)
   ·exact n4 (by rw[<-e,<-q];simp only[aj];right;right;exact SJ)
   ·exact n5 (by rw[<-e,<-q];simp only[aj];right;exact SJ)
  ·rw[q,hk] at ho;cases ho;rcases w with⟨xs,z|⟨ob,z⟩⟩<;>cases z
 ·rw[nk (v:=fun e=>e.2) fun x=>rfl];exact B.nd
def BookAt.ne(B:BookAt K C H b z Oc L):z.dt≠z.dm/\z.dt≠z.dl/\z.dm≠z.dl:=by obtain⟨n1,r1⟩:=az.mp B.nd;obtain⟨n2,r2⟩:=az.mp r1;obtain⟨n3,r3⟩:=az.mp r2;obtain⟨n4,r4⟩:=az.mp r3;exact⟨fun q=>n3 (by rw[q];simp),fun q=>n3 (by rw[q];simp),fun q=>n4 (by rw[q];simp)⟩
def CJ(v:Ent->Int)(hh:oG L h=true)(g1:∀x,(g x).nm=x.nm)(hv:∀x,v (g x)=n) :
  rO (L.map fun e=>((ar e.1.nm:Key),V.int (v e.1))) (ar h) (.int n)=(vE L h g).map fun e=>((ar e.1.nm:Key),V.int (v e.1)):=by
 have hs:(pN (L.map fun e=>((ar e.1.nm:Key),V.int (v e.1))) (ar h)).isSome=true:=by rw[qW (key:=fun e:Ent×al=>e.1.nm),ck];exact hh
 unfold rO;rw[wI,if_pos hs];unfold vE;rw[aF,aF];refine aR fun x _=>?_;show(if(ar x.1.nm:Key)=ar h then((ar x.1.nm:Key),V.int n) else((ar x.1.nm:Key),V.int (v x.1)))=((ar (if x.1.nm=h then(g x.1,x.2) else x).1.nm:Key),V.int (v (if x.1.nm=h then(g x.1,x.2) else x).1));by_cases e:x.1.nm=h
 ·rw[if_pos (by rw[e]),if_pos e,g1,hv]
 ·rw[if_neg (fun w=>e (gD w)),if_neg e]
section
variable{P:aI}{w:aX}{K:aa}{mg:Str->Option am}{base:bA}{a:Adr}{f:al}{fd:bQ}
noncomputable def wx(K:aa)(a:Adr)(ad:BA->al)(g:Int->Ent->Ent)(neg:Bool):Sp:=fun vs H Q E=>∃b z Oc L h n,vs=[.ref b,.str h,.int n]/\BookAt K a.Book H b z Oc L/\Nm h /\
 (oG L h=false->E (.ref a.NoHouse) none H)/\(oG L h=true->neg=true->n<0->E (.ref a.NoLoss) none H) /\
 (oG L h=true->(neg=true->0<=n)->∀H',BookAt K a.Book H' b z Oc (vE L h (g n))->(∀c o,H c=some o->c≠ad z->H' c=some o)->Q .non H')
abbrev rL:bL:=nu (top 25) 9
def yP:FnScope ["self","house","number"] ["self","house","number"] (lh rL):=fsc
def Ha(F:Fun K "things" "Book.things" rL f fd)(T:Txt K mg a)(Od:Mt P w K mg base a.Book "need_house" 2 ["self","name"] (mV K a)):FnOk P w K mg base (CXo P w) 3 f fd ["self","house","number"] (wx K a (·.dt) (fun n x=>{ x with th:=n }) false):=by
 refine F.okX yP (fun vs H Q E h=>?_) (fun Ol A outer s H vs Q E hr h=>?_)
 ·obtain⟨b,z,Oc,L,h,n,rfl,_⟩:=h;rfl
 ·obtain⟨b,z,Oc,L,h,n,rfl,B,nm,k1,k2,k3⟩:=h;have hu:=nV hr;refine⟨_,(@lM _ _ _ _ _ (@nL _ _ _ _ (rq (pv 0) Od (hr.mono (by first|decide|omega)) n9 (@lG _ _ _ _ _ (pv 1) pa_nil (by rfl))) (by rfl)) (@lQ _ _ _ (qo hu (nU (pv 0) rfl) (pv 1) (pv 2) rfl))),?_⟩;refine⟨_,rfl,b,_,_,rfl,B.ob,rB z,_,rfl,b,z,Oc,L,h,rfl,B,nm,fun hh=>?_,fun hh=>k1 hh⟩;refine⟨_,rfl,_,rfl,b,_,_,_,_,rfl,B.ob,T.cl,T.nA_things_of,xY z,_,rfl,z.dt,_,rfl,DPut.k (k:=ar h) B.tt ?_,?_⟩
  ·rw[af];exact aM B.h8 (by decide)
  ·have hb:=B.renum (h:=h) (g:=fun x=>{ x with th:=n }) (H':=upd H z.dt (.dK (rO (L.map fun e=>((ar e.1.nm:Key),V.int e.1.th)) (ar h) (.int n)))) (.inl rfl) (fun _=>rfl) (fun _=>rfl) ?_ ?_ ?_ (fun c o hc hn=>by rw[lg hn];exact hc)
   ·exact k3 hh (fun z=>by cases z) _ hb fun c o hc hn=>by rw[lg hn];exact hc
   ·rw[lr,CJ (g:=fun x=>{ x with th:=n }) (fun x=>x.th) hh (fun _=>rfl) (fun _=>rfl)]
   ·rw[lg (B.ne.1.symm),nk (v:=fun e=>((ar e.1.nm:Key),V.int e.1.mr)) fun x=>rfl];exact B.mm
   ·rw[lg (B.ne.2.1.symm),nk (v:=fun e=>((ar e.1.nm:Key),V.int e.1.ls)) fun x=>rfl];exact B.ll
abbrev uv:bL:=nu (top 25) 10
def Ci:FnScope ["self","house","number"] ["self","house","number"] (lh uv):=fsc
def Lg(F:Fun K "mark" "Book.mark" uv f fd)(T:Txt K mg a)(Od:Mt P w K mg base a.Book "need_house" 2 ["self","name"] (mV K a)):FnOk P w K mg base (CXo P w) 3 f fd ["self","house","number"] (wx K a (·.dm) (fun n x=>{ x with mr:=n }) false):=by
 refine F.okX Ci (fun vs H Q E h=>?_) (fun Ol A outer s H vs Q E hr h=>?_)
 ·obtain⟨b,z,Oc,L,h,n,rfl,_⟩:=h;rfl
 ·obtain⟨b,z,Oc,L,h,n,rfl,B,nm,k1,k2,k3⟩:=h;have hu:=nV hr;refine⟨_,(@lM _ _ _ _ _ (@nL _ _ _ _ (rq (pv 0) Od (hr.mono (by first|decide|omega)) n9 (@lG _ _ _ _ _ (pv 1) pa_nil (by rfl))) (by rfl)) (@lQ _ _ _ (qo hu (nU (pv 0) rfl) (pv 1) (pv 2) rfl))),?_⟩;refine⟨_,rfl,b,_,_,rfl,B.ob,rB z,_,rfl,b,z,Oc,L,h,rfl,B,nm,fun hh=>?_,fun hh=>k1 hh⟩;refine⟨_,rfl,_,rfl,b,_,_,_,_,rfl,B.ob,T.cl,T.nA_mark_of,CU z,_,rfl,z.dm,_,rfl,DPut.k (k:=ar h) B.mm ?_,?_⟩
  ·rw[af];exact aM B.h8 (by decide)
  ·have hb:=B.renum (h:=h) (g:=fun x=>{ x with mr:=n }) (H':=upd H z.dm (.dK (rO (L.map fun e=>((ar e.1.nm:Key),V.int e.1.mr)) (ar h) (.int n)))) (.inr (.inl rfl)) (fun _=>rfl) (fun _=>rfl) ?_ ?_ ?_ (fun c o hc hn=>by rw[lg hn];exact hc)
   ·exact k3 hh (fun z=>by cases z) _ hb fun c o hc hn=>by rw[lg hn];exact hc
   ·rw[lg (B.ne.1),nk (v:=fun e=>((ar e.1.nm:Key),V.int e.1.th)) fun x=>rfl];exact B.tt
   ·rw[lr,CJ (g:=fun x=>{ x with mr:=n }) (fun x=>x.mr) hh (fun _=>rfl) (fun _=>rfl)]
   ·rw[lg (B.ne.2.2.symm),nk (v:=fun e=>((ar e.1.nm:Key),V.int e.1.ls)) fun x=>rfl];exact B.ll
abbrev uw:bL:=nu (top 25) 11
def Cj:FnScope ["self","house","number"] ["self","house","number"] (lh uw):=fsc
def Lh(F:Fun K "loss" "Book.loss" uw f fd)(T:Txt K mg a)(Od:Mt P w K mg base a.Book "need_house" 2 ["self","name"] (mV K a))(OD:Fn P w K mg base "need_loss" 1 ["number"] (sC a)):FnOk P w K mg base (CXo P w) 3 f fd ["self","house","number"] (wx K a (·.dl) (fun n x=>{ x with ls:=n }) true):=by
 refine F.okX Cj (fun vs H Q E h=>?_) (fun Ol A outer s H vs Q E hr h=>?_)
 ·obtain⟨b,z,Oc,L,h,n,rfl,_⟩:=h;rfl
 ·obtain⟨b,z,Oc,L,h,n,rfl,B,nm,k1,k2,k3⟩:=h;have hu:=nV hr;refine⟨_,(@lM _ _ _ _ _ (@nL _ _ _ _ (rq (pv 0) Od (hr.mono (by first|decide|omega)) n9 (@lG _ _ _ _ _ (pv 1) pa_nil (by rfl))) (by rfl)) (@lM _ _ _ _ _ (@nL _ _ _ _ (@vZ _ _ _ _ _ _ _ _ _ _ _ OD (hr.mono (by first|decide|omega)) rfl n9 (@lG _ _ _ _ _ (pv 2) pa_nil (by rfl)) (by decide) (by rfl) (by rfl)) (by rfl)) (@lQ _ _ _ (qo hu (nU (pv 0) rfl) (pv 1) (pv 2) rfl)))),?_⟩;refine⟨_,rfl,b,_,_,rfl,B.ob,rB z,_,rfl,b,z,Oc,L,h,rfl,B,nm,fun hh=>?_,fun hh=>k1 hh⟩;refine⟨_,rfl,n,rfl,fun hl=>k2 hh rfl hl,fun hn0=>?_⟩;refine⟨_,rfl,_,rfl,b,_,_,_,_,rfl,B.ob,T.cl,T.nA_loss_of,CV z,_,rfl,z.dl,_,rfl,DPut.k (k:=ar h) B.ll ?_,?_⟩
  ·rw[af];exact aM B.h8 (by decide)
  ·have hb:=B.renum (h:=h) (g:=fun x=>{ x with ls:=n }) (H':=upd H z.dl (.dK (rO (L.map fun e=>((ar e.1.nm:Key),V.int e.1.ls)) (ar h) (.int n)))) (.inr (.inr rfl)) (fun _=>rfl) (fun _=>rfl) ?_ ?_ ?_ (fun c o hc hn=>by rw[lg hn];exact hc)
   ·exact k3 hh (fun _=>hn0) _ hb fun c o hc hn=>by rw[lg hn];exact hc
   ·rw[lg (B.ne.2.1),nk (v:=fun e=>((ar e.1.nm:Key),V.int e.1.th)) fun x=>rfl];exact B.tt
   ·rw[lg (B.ne.2.2),nk (v:=fun e=>((ar e.1.nm:Key),V.int e.1.mr)) fun x=>rfl];exact B.mm
   ·rw[lr,CJ (g:=fun x=>{ x with ls:=n }) (fun x=>x.ls) hh (fun _=>rfl) (fun _=>rfl)]
end
def MB(i j:Int):LL [V.int i,V.int j] [V.int 0,V.int 1]=decide ((i,j)=((0:Int),(1:Int))):=by show(eqV (.int i) (.int 0)&&(eqV (.int j) (.int 1)&&true))=_;have e1:∀i j:Int,eqV (.int i) (.int j)=decide (i=j):=fun i j=>rfl;rw[e1,e1,Bool.and_true,bM,bG,decide_eq_true_iff,decide_eq_true_iff,decide_eq_true_iff,Prod.mk.injEq]
def bt0(k:Nat):Bt k 0:=eG k
def bt1(h:k≠0):Bt k 1:=Nat.one_lt_two_pow h
def sz0:Sz (0,1):=⟨⟨by decide,(rfl:aL 0 1=1)⟩,bt0 _,bt1 (by decide)⟩
theorem HeldZ.same(h:HeldZ K H p l z)(s:Same H H'):HeldZ K H' p l z :=
 ⟨h.1,s _ _ h.2.1,fun q hq=>(h.2.2 q hq).same s⟩
def HeldZ.get(h:HeldZ K H p l z)(ho:FrAt K H o (0,1))(n:Str) :
  ∃x,(pN (z.map fun q=>((ar q.1.1:Key),V.ref q.2)) (ar n)).getD (.ref o)=.ref x/\FrAt K H x (lA l n):=by
 rcases h.val n with⟨_,hv,hg⟩|⟨_,x,hv,hx⟩
 ·exact⟨o,by rw[hv];rfl,by rw[hg];exact ho⟩
 ·exact⟨x,by rw[hv];rfl,hx⟩
def nJ(l:Hl)(o:Str)(q:Int×Int):Prop:=¬ 0<q.1\/q.1*(lA l o).2>(lA l o).1*q.2
instance (l:Hl) (o:Str) (q:Int×Int):Decidable (nJ l o q):=by unfold nJ;infer_instance
section
variable{P:aI}{w:aX}{K:aa}{mg:Str->Option am}{base:bA}{a:Adr}{f:al}{fd:bQ}
abbrev uu:bL:=nu (top 25) 8
def sc_Book_sale:FnScope ["self","house","one","other","share","held","rest"] ["self","house","one","other","share"] (lh uu):=fsc
structure SaleOk(l:Hl)(o1:Str)(q:Int×Int):Prop where
 len:l.length<1000
 sz:∀n,Sz (lA l n)
 rs:¬nJ l o1 q->Sz (ng (lA l o1) (-q.1,q.2))
noncomputable def FY(K:aa)(a:Adr):Sp:=fun vs H Q E=>∃b z Oc L h o1 o2 sp q,vs=[.ref b,.str h,.str o1,.str o2,.ref sp]/\BookAt K a.Book H b z Oc L/\(L.map (·.1.nm)).Nodup/\Nm h/\Nm o1/\Nm o2/\FrAt K H sp q/\Sz q /\
 (∀e,nW L h=some e->SaleOk e.1.held o1 q) /\
 (oG L h=false->E (.ref a.NoHouse) none H) /\
 (oG L h=true->(nB Oc o1||oG L o1)=false->E (.ref a.NoHolder) none H) /\
 (oG L h=true->(nB Oc o1||oG L o1)=true->(nB Oc o2||oG L o2)=false->E (.ref a.NoHolder) none H) /\
 (∀e,nW L h=some e->(nB Oc o1||oG L o1)=true->(nB Oc o2||oG L o2)=true->nJ e.1.held o1 q->E (.ref a.NoShare) none H) /\
 (∀e,nW L h=some e->(nB Oc o1||oG L o1)=true->(nB Oc o2||oG L o2)=true->¬nJ e.1.held o1 q->∀H',BookAt K a.Book H' b z Oc (vE L h fun x=>{ x with held:=pz x.held o1 o2 q })->(∀c o,H c=some o->c≠e.2->H' c=some o)->Q .non H')
def Ld(F:Fun K "sale" "Book.sale" uu f fd)(T:Txt K mg a)(Od:Mt P w K mg base a.Book "need_house" 2 ["self","name"] (mV K a))(Om:Mt P w K mg base a.Book "need_holder" 3 ["self","name"] (qH K a))(OR:Fn P w K mg base "is_above" 1 ["first","second"] (DN K))(QE:Fn P w K mg base "minus" 3 ["first","second"] (DK K))(Po:Fn P w K mg base "plus" 2 ["first","second"] (y7 K)) :
  FnOk P w K mg base (CXo P w) 4 f fd ["self","house","one","other","share"] (FY K a):=by
 refine F.okX sc_Book_sale (fun vs H Q E h=>?_) (fun Ol A outer s H vs Q E hr h=>?_)
 ·obtain⟨b,z,Oc,L,h,o1,o2,sp,q,rfl,_⟩:=h;rfl
 ·obtain⟨b,z,Oc,L,h,o1,o2,sp,q,rfl,B,nd,nh,n1,n2,hq,sq,hok,k1,k2,k3,k4,k5⟩:=h;have hu:=nV hr;refine⟨_,(@lM _ _ _ _ _ (@nL _ _ _ _ (rq (pv 0) Od (hr.mono (by first|decide|omega)) n9 (@lG _ _ _ _ _ (pv 1) pa_nil (by rfl))) (by rfl)) (@lM _ _ _ _ _ (@nL _ _ _ _ (rq (pv 0) Om (hr.mono (by first|decide|omega)) n9 (@lG _ _ _ _ _ (pv 2) pa_nil (by rfl))) (by rfl)) (@lM _ _ _ _ _ (@nL _ _ _ _ (rq (pv 0) Om (hr.mono (by first|decide|omega)) n9 (@lG _ _ _ _ _ (pv 3) pa_nil (by rfl))) (by rfl)) (@lM _ _ _ _ _ (@su _ _ (5) _ _ _ _ sc_Book_sale.nd rfl (eR rfl) (@tN _ _ _ _ _ _ hu (nU (pv 0) rfl) (pv 1) (fun _ _=>rfl)) (by rfl) (by first|exact .inl rfl|exact .inr rfl|assumption)) (@lM _ _ _ _ _ (@wL _ _ _ _ _ _ _ _ (PW.pt (Mm (Am (wz (@vZ _ _ _ _ _ _ _ _ _ _ _ OR (hr.mono (by first|decide|omega)) rfl n9 (@lG _ _ _ _ _ (pv 4) (@lG _ _ _ _ _ (rb rfl T.g_ZERO T.r_ZERO) pa_nil (by rfl)) (by rfl)) (by decide) (by rfl) (by rfl)))) (JK (wz (@vZ _ _ _ _ _ _ _ _ _ _ _ OR (hr.mono (by first|decide|omega)) rfl n9 (@lG _ _ _ _ _ (pv 4) (@lG _ _ _ _ _ (@zR _ _ _ _ _ _ _ _ _ hu (pv 5) (pv 2) (rb rfl T.g_ZERO T.r_ZERO) ⟨rfl,rfl,rfl,rfl⟩) pa_nil (by rfl)) (by rfl)) (by decide) (by rfl) (by rfl)))))) (@lQ _ _ _ (qm T.x_NoShare rfl T.c_NoShare rfl (E9 (yA (pv 2) (Ao (yA (pv 1) Ap)))) zl)) pss_nil) (@lM _ _ _ _ _ (@su _ _ (6) _ _ _ _ sc_Book_sale.nd rfl (eR rfl) (@vZ _ _ _ _ _ _ _ _ _ _ _ QE (hr.mono (by first|decide|omega)) rfl n9 (@lG _ _ _ _ _ (@tN _ _ _ _ _ _ hu (pv 5) (pv 2) (fun _ _=>rfl)) (@lG _ _ _ _ _ (pv 4) pa_nil (by rfl)) (by rfl)) (by decide) (by rfl) (by rfl)) (by rfl) (by first|exact .inl rfl|exact .inr rfl|assumption)) (@lM _ _ _ _ _ (@wL _ _ _ _ _ _ _ _ (@vH _ _ _ _ _ _ _ _ (Nu (Nat.lt_of_succ_lt hu)) (pv 6) (rb rfl T.g_ZERO T.r_ZERO) (vJ _)) (@lQ _ _ _ (@nL _ _ _ _ (IN (pv 5) (pv 2) ⟨rfl,rfl,rfl,rfl⟩) (by rfl))) (@lQ _ _ _ (qo hu (pv 5) (pv 2) (pv 6) rfl))) (@lQ _ _ _ (qo hu (pv 5) (pv 3) (@vZ _ _ _ _ _ _ _ _ _ _ _ Po (hr.mono (by first|decide|omega)) rfl n9 (@lG _ _ _ _ _ (@zR _ _ _ _ _ _ _ _ _ hu (pv 5) (pv 3) (rb rfl T.g_ZERO T.r_ZERO) ⟨rfl,rfl,rfl,rfl⟩) (@lG _ _ _ _ _ (pv 4) pa_nil (by rfl)) (by rfl)) (by decide) (by rfl) (by rfl)) rfl))))))))),?_⟩;have bn:∀{m:Str},¬m="people"->¬m="things_of"->¬m="mark_of"->¬m="loss_of"->¬m="held_of"->(bf z).lookup m=none:=fun a b c d e=>rB z a b c d e;refine⟨_,rfl,b,_,_,rfl,B.ob,rB z,_,rfl,b,z,Oc,L,h,rfl,B,nh,fun hh=>?_,fun hh=>k1 hh⟩;refine⟨_,rfl,b,_,_,rfl,B.ob,rB z,_,rfl,b,z,Oc,L,o1,rfl,B,n1,fun h1=>?_,fun h1=>k2 hh h1⟩;refine⟨_,rfl,b,_,_,rfl,B.ob,rB z,_,rfl,b,z,Oc,L,o2,rfl,B,n2,fun h2=>?_,fun h2=>k3 hh h1 h2⟩;cases he:nW L h with
  |none=>unfold oG at hh;unfold nW at he;rw[he] at hh;cases hh
  |some e =>
  have RZ:=sj he;have ok:=hok e he;obtain⟨zz,Z⟩:=(B.he e RZ).toZ;have Qq:=B.hh.dget h;rw[Aa _ he] at Qq;have Pb:∀H,FrAt K H a.ZERO (0,1):=fun H=>.inr T.zero;refine⟨_,rfl,b,_,_,_,_,rfl,B.ob,T.cl,T.nA_held_of,vT z,_,rfl,_,_,rfl,Qq,?_⟩;refine⟨_,rfl,sp,a.ZERO,q,(0,1),rfl,hq,Pb H,sq,sz0,_,rfl,tQ (fun h3=>?_) (fun h3=>?_)⟩
  ·have h3:=of_decide_eq_false (nbT h3);exact Lx ⟨_,rfl,⟨o1,rfl,n1⟩,_,rfl,⟨h,rfl,nh⟩,fun y=>k4 e he h1 h2 (.inl (by simp only at h3;omega))⟩
  have q0:0<q.1:=by have:=of_decide_eq_true (nbF h3);simp only at this;omega
  obtain⟨x0,RK,fx0⟩:=Z.get (Pb H) o1;refine⟨_,rfl,_,rfl,e.2,rfl,.inl ⟨_,.inl Z.2.1⟩,_,rfl,_,DGet.k (k:=ar o1) Z.2.1,?_⟩;rw[RK];refine⟨sp,x0,q,_,rfl,hq,fx0,sq,ok.sz o1,_,rfl,tQ (fun h4=>?_) (fun h4=>?_)⟩
  ·have h4:=of_decide_eq_true h4;exact⟨_,rfl,⟨o1,rfl,n1⟩,_,rfl,⟨h,rfl,nh⟩,fun y=>k4 e he h1 h2 (.inr h4)⟩
  have h4:¬q.1*(lA e.1.held o1).2>(lA e.1.held o1).1*q.2:=fun z=>h4 (decide_eq_true z);have ntm:¬nJ e.1.held o1 q:=fun z=>z.elim (fun y=>y q0) h4;rcases Z.val o1 with⟨_,_,hg⟩|⟨hn,x,hv,hx⟩
  ·exfalso;rw[hg] at h4;simp only at h4;omega
  have Qz:DGet H e.2 (.str o1) (some (.ref x)):=by have:=DGet.k (k:=ar o1) Z.2.1;rw[hv] at this;exact this
  refine⟨_,rfl,_,rfl,e.2,_,rfl,Qz,_,rfl,x,sp,_,_,rfl,hx,hq,ok.sz o1,sq,fun r H1 hr0 s1 Rk=>?_⟩;have Z1:=Z.same s1;have fin:∀H2 l1 z2,HeldZ K H2 e.2 l1 z2->pz e.1.held o1 o2 q=oF l1 o2 (ng (lA l1 o2) q)->(∀c o,H c=some o->c≠e.2->H2 c=some o)->Sz (lA l1 o2)->l1.length<=e.1.held.length->FrAt K H2 sp q ->
    Mf (HU 5) (HU 3) (AV (y7 K) [] E (Ka (JE (HU 5) (HU 3) (tC (V.ref a.ZERO))) (Ka (HU 4) FV))) { nx:=fun x H'=>Q V.non H',rt:=Q } [some (V.ref b),some (V.str h),some (V.str o1),some (V.str o2),some (V.ref sp),some (V.ref e.2),some (V.ref r)] H2:=by
   intro H2 l1 z2 Z2 es kp szl len fq;obtain⟨y,hy,fy⟩:=Z2.get (Pb H2) o2;refine⟨_,rfl,e.2,rfl,.inl ⟨_,.inl Z2.2.1⟩,_,rfl,_,DGet.k (k:=ar o2) Z2.2.1,?_⟩;rw[hy];refine⟨_,rfl,y,sp,_,_,rfl,fy,fq,szl,sq,fun t ht=>?_⟩;have st:=rm (o:=.tup [.int (ng (lA l1 o2) q).1,.int (ng (lA l1 o2) q).2]) ht;have Z3:=Z2.same st;refine⟨_,rfl,_,rfl,e.2,_,rfl,DPut.k (k:=ar o2) Z3.2.1 ?_,?_⟩
   ·rw[af,<-af (f:=(·.1)),Z2.1];exact aM len (fj ok.len (by decide))
   ·obtain⟨z4,Z4⟩:=Z3.put (n:=o2) (x:=t) (q:=ng (lA l1 o2) q) (SqT.of lr);have kp':∀c o,H c=some o->c≠e.2->(upd (upd H2 t (.tup [.int (ng (lA l1 o2) q).1,.int (ng (lA l1 o2) q).2])) e.2 (.dK (rO (z2.map fun q=>((ar q.1.1:Key),V.ref q.2)) (ar o2) (.ref t)))) c=some o:=fun c o hc hn=>by rw[lg hn];exact st c o (kp c o hc hn)
    refine k5 e he h1 h2 ntm _ (B.reheld nd he (fun x=>rfl) ?_ kp') kp';show HeldAt K _ e.2 (pz e.1.held o1 o2 q);rw[es];exact Z4.held
  refine⟨_,rfl,r,a.ZERO,_,_,rfl,rfl,SqT.of Rk,.inr T.zero,rfl,rfl,rfl,_,rfl,tQ (fun h5=>?_) (fun h5=>?_)⟩
  ·rw[MB] at h5;have h5:ng (lA e.1.held o1) (-q.1,q.2)=(0,1):=of_decide_eq_true h5;refine⟨_,rfl,e.2,rfl,.inl ⟨_,.inl Z1.2.1⟩,_,rfl,_,ar o1,.ref x,Z1.2.1,rfl,hv,?_⟩;obtain⟨z2,Z2⟩:=Z1.drop (n:=o1);refine fin _ _ z2 Z2 ?_ (fun c o hc hn=>by rw[lg hn];exact s1 c o hc) ?_ (Ed _ _) (Da Z1.2.1 (hq.same s1))
   ·unfold pz;simp only[h5,if_true]
   ·rw[xR];by_cases e2:o2=o1
    ·rw[if_pos e2];exact sz0
    ·rw[if_neg e2];exact ok.sz o2
  ·rw[MB] at h5;have h5:¬ng (lA e.1.held o1) (-q.1,q.2)=(0,1):=fun z=>h5 (decide_eq_true z);refine⟨_,rfl,_,rfl,_,rfl,e.2,_,rfl,DPut.k (k:=ar o1) Z1.2.1 ?_,?_⟩
   ·rw[af,<-af (f:=(·.1)),Z.1];exact fj ok.len (by decide)
   ·obtain⟨z2,Z2⟩:=Z1.put (n:=o1) (x:=r) (q:=ng (lA e.1.held o1) (-q.1,q.2)) (SqT.of Rk);refine fin _ _ z2 Z2 ?_ (fun c o hc hn=>by rw[lg hn];exact s1 c o hc) ?_ ?_ (Da Z1.2.1 (hq.same s1))
    ·unfold pz;simp only[h5,if_false]
    ·rw[mQ];by_cases e2:o2=o1
     ·rw[if_pos e2];exact ok.rs ntm
     ·rw[if_neg e2];exact ok.sz o2
    ·have:=congrArg b6 (mF e.1.held o1 (ng (lA e.1.held o1) (-q.1,q.2)));rw[if_pos hn,af,af] at this;exact iU this
end
def mj(L:List Ent)(n:Str):Option Ent:=L.find? fun e=>decide (e.nm=n)
def ni(L:List Ent)(n:Str):Bool:=(mj L n).isSome
def qZ(L:List Ent)(h:Str)(g:Ent->Ent):List Ent:=L.map fun x=>if x.nm=h then g x else x
def BN(L:List (Ent×al))(n:Str):(nW L n).map (·.1)=mj (L.map (·.1)) n:=by unfold nW mj;rw[eX];rfl
def qt(L:List (Ent×al))(n:Str):oG L n=ni (L.map (·.1)) n:=by unfold ni;rw[<-BN];unfold oG nW;rw[ck]
def DQ(L:List (Ent×al))(h:Str)(g:Ent->Ent):(vE L h g).map (·.1)=qZ (L.map (·.1)) h g:=by
 unfold vE qZ;rw[aF,aF];refine aR fun x _=>?_;show(if x.1.nm=h then(g x.1,x.2) else x).1=if x.1.nm=h then g x.1 else x.1
 split<;>rfl
def oJ(a:Adr)(pp:List Str)(L:List Ent)(x:Str):Option al:=if pG x=false then some a.NoName else if(nB pp x||ni L x)=true then some a.Twice else none
def qp(a:Adr)(pp:List Str)(L:List Ent)(x:Str):Option al:=match oJ a pp L x with
 |some c=>some c
 |none=>if 6<=pp.length then some a.TooMany else none
noncomputable def qr(a:Adr)(pp:List Str)(L:List Ent)(x o:Str)(l:Int):Option al:=match oJ a pp L x with
 |some c=>some c
 |none=>if(nB pp o||ni L o)=false then some a.NoHolder else if l<0 then some a.NoLoss else if 8<=L.length then some a.TooMany else none
def zk(a:Adr)(pp:List Str)(L:List (Ent×al))(x:Str):rP a pp L x=oJ a pp (L.map (·.1)) x:=by unfold rP oJ;rw[qt]
def zh(a:Adr)(pp:List Str)(L:List (Ent×al))(x:Str):vI a pp L x=qp a pp (L.map (·.1)) x:=by unfold vI qp;rw[zk];try (cases oJ a pp (L.map (·.1)) x<;>rfl)
def zt(a:Adr)(pp:List Str)(L:List (Ent×al))(x o:Str)(l:Int):sx a pp L x o l=qr a pp (L.map (·.1)) x o l:=by unfold sx qr;rw[zk,qt,af];try (cases oJ a pp (L.map (·.1)) x<;>rfl)
noncomputable instance (x:Str):Decidable (Nm x):=cZ _
def lZ(vs:List PV)(s:Sto)(k:Nat->List Str->List Ent->List PV->Out PV):Out PV:=match vs with
 |.ref n::r=>match s.get n with
  |some (.book pp L)=>k n pp L r
  |_=>.bad
 |_=>.bad
noncomputable def m6(a:Adr)(vs:List PV)(s:Sto):Out PV:=lZ vs s fun n pp L r=>match r with
 |[.str x]=>if Nm x then(match qp a pp L x with
  |none=>.ok .non (s.set n (.book (pp++[x]) L))
  |some c=>.ex c s) else .bad
 |_=>.bad
noncomputable def pL(a:Adr)(vs:List PV)(s:Sto):Out PV:=lZ vs s fun n pp L r=>match r with
 |[.str x,.str o,.int t,.int m,.int l]=>if Nm x/\Nm o then(match qr a pp L x o l with
  |none=>.ok .non (s.set n (.book pp (L++[⟨x,t,m,l,[(o,1,1)]⟩])))
  |some c=>.ex c s) else .bad
 |_=>.bad
def mn(_:Adr)(vs:List PV)(s:Sto):Out PV:=lZ vs s fun _ pp _ r=>match r with
 |[]=>.ok (.lst ((srt pp).map .str)) s
 |_=>.bad
def nQ(_:Adr)(vs:List PV)(s:Sto):Out PV:=lZ vs s fun _ _ L r=>match r with
 |[]=>.ok (.lst ((srt (L.map (·.nm))).map .str)) s
 |_=>.bad
def frP(q:Int×Int):PV:=.tup [.int q.1,.int q.2]
def tz(q:Str×Int×Int):PV:=.tup [.str q.1,frP q.2]
def w5(l:List (Str×Int×Int)):PV:=.lst ((srt (l.map (·.1))).map fun n=>tz (lU l n))
noncomputable def mf(a:Adr)(vs:List PV)(s:Sto):Out PV:=lZ vs s fun _ _ L r=>match r with
 |[.str x]=>if Nm x then(match mj L x with
  |none=>.ex a.NoHouse s
  |some e=>if e.held.length<64 then .ok (w5 e.held) s else .bad) else .bad
 |_=>.bad
noncomputable def EK(a:Adr)(vs:List PV)(s:Sto):Out PV:=lZ vs s fun _ _ L r=>match r with
 |[.str x]=>if Nm x then(match mj L x with
  |none=>.ex a.NoHouse s
  |some e=>.ok (.tup [.int e.th,.int e.mr,.int e.ls]) s) else .bad
 |_=>.bad
structure SaleE(L:List Ent)(h o1 o2:Str)(q:Int×Int):Prop where
 nd:(L.map (·.nm)).Nodup
 nm:Nm h/\Nm o1/\Nm o2
 sz:Sz q
 ok:∀e,mj L h=some e->SaleOk e.held o1 q
noncomputable instance (L:List Ent) (h o1 o2:Str) (q:Int×Int):Decidable (SaleE L h o1 o2 q):=cZ _
noncomputable def pZ(a:Adr)(vs:List PV)(s:Sto):Out PV:=lZ vs s fun n pp L r=>match r with
 |[.str h,.str o1,.str o2,.tup [.int t,.int b]]=>if SaleE L h o1 o2 (t,b) then(match mj L h with
  |none=>.ex a.NoHouse s
  |some e=>if(nB pp o1||ni L o1)=false then .ex a.NoHolder s else if(nB pp o2||ni L o2)=false then .ex a.NoHolder s
   else if nJ e.held o1 (t,b) then .ex a.NoShare s else .ok .non (s.set n (.book pp (qZ L h fun x=>{ x with held:=pz x.held o1 o2 (t,b) })))) else .bad
 |_=>.bad
section
variable{K:aa}{H:Hp}{m:Mp}{s:Sto}{a:Adr}
def Mn(S:SR K CB H m s)(hg:s.get n=some (.book pp L))(eF:m.fp n=BFp (m.ad n) z L')(B':BookAt K CB H' (m.ad n) z Qn L2)(k:∀a o,H a=some o->a∉BFp (m.ad n) z L'->H' a=some o)(OV:∀a∈BFp (m.ad n) z L2,a∈BFp (m.ad n) z L'\/H a=none) :
  SR K CB H' (m.fput n (BFp (m.ad n) z L2)) (s.set n (.book Qn (L2.map (·.1))))/\Ext H m s H' (m.fput n (BFp (m.ad n) z L2)) (s.set n (.book Qn (L2.map (·.1)))) :=
 S.put hg (by intro _ z;cases z) H' _ (by rw[eF];exact k) (by rw[eF];exact OV) fun _=>⟨z,L2,B',rfl,by show(if n=n then _ else _)=_;rw[if_pos rfl];rfl⟩
def onB(S:SR K CB H m s)(r:Reps K H m s xs vs)(P:Post K CB (Rep K) E (lZ vs s k) H m s Q) :
  ∃n pp L z L' us ys,s.get n=some (.book pp L)/\BookAt K CB H (m.ad n) z pp L'/\L'.map (·.1)=L/\m.fp n=BFp (m.ad n) z L'/\xs=.ref (m.ad n)::us/\Reps K H m s us ys/\Post K CB (Rep K) E (k n pp L ys) H m s Q:=by
 unfold lZ at P;split at P
 ·rename_i n r';split at P
  ·rename_i pp L hg;obtain⟨z,L',B,e1,e2⟩:=S.get hg;cases r with
   |cons r1 r2 =>
    cases r1;exact⟨n,pp,L,z,L',_,_,hg,B,e1,e2,rfl,r2,P⟩
  ·exact P.elim
 ·exact P.elim
def LA(h:e∈L):e.2∈BFp b z L:=by unfold BFp;simp only[aj];right;right;right;right;right;right;exact ak.mpr ⟨e,h,rfl⟩
def Iq(L:List (Ent×al))(h:Str)(g:Ent->Ent):(vE L h g).map (·.2)=L.map (·.2):=by unfold vE;rw[aF];refine aR fun x _=>?_;show(if x.1.nm=h then(g x.1,x.2) else x).2=x.2;split<;>rfl
def FZ(b:al)(z:BA)(L:List (Ent×al))(h:Str)(g:Ent->Ent):BFp b z (vE L h g)=BFp b z L:=by unfold BFp;rw[Iq]
def CK(r:Reps K H m s us [.str x]):us=[.str x]:=by
 cases r with
 |cons a b=>cases a;cases b;rfl
def ES(vs:List V)(H:Hp)(Q:VK)(E:XK)(h:spD K a.Book 2 (m6 a) vs H Q E):Bu K a vs H Q E:=by
 obtain⟨_,ps,s,m,r,S,P⟩:=h;obtain⟨n,pp,L,z,L',us,ys,hg,B,e1,e2,rfl,r',P⟩:=onB S r P;split at P
 ·split at P
  ·rename_i x hx;cases CK r';refine⟨_,z,pp,L',x,rfl,B,hx,fun hd H' B' k=>?_,fun c hd H' k=>?_⟩
   ·rw[zh,e1] at hd;rw[hd] at P;obtain⟨S2,x2⟩:=Mn S hg e2 B' (fun c o h hc=>k c o h fun z=>hc (by rw[z];simp[BFp])) (fun c hc=>.inl hc);rw[e1] at S2 x2;exact P _ _ _ x2 S2 .non
   ·rw[zh,e1] at hd;rw[hd] at P;exact P _ m (.same k) (S.same k)
  ·exact P.elim
 ·exact P.elim
def GV(vs:List V)(H:Hp)(Q:VK)(E:XK)(h:spD K a.Book 6 (pL a) vs H Q E):DM K a vs H Q E:=by
 obtain⟨_,ps,s,m,r,S,P⟩:=h;obtain⟨n,pp,L,z,L',us,ys,hg,B,e1,e2,rfl,r',P⟩:=onB S r P;split at P
 ·split at P
  ·rename_i x o t mm l hx;cases r' with
   |cons q1 r'=>cases r' with
    |cons q2 r'=>cases r' with
     |cons q3 r'=>cases r' with
      |cons q4 r'=>cases r' with
       |cons q5 r' =>
        cases r';cases q1;cases q2;cases q3;cases q4;cases q5;refine⟨_,z,pp,L',x,o,t,mm,l,rfl,B,hx.1,hx.2,fun hd p H' hp B' k=>?_,fun c hd H' k=>?_⟩
        ·rw[zt,e1] at hd;rw[hd] at P;obtain⟨S2,x2⟩:=Mn S hg e2 B' (fun c o h hc=>k c o h fun z=>hc (by unfold BFp;simp only[aj,bg,or_false] at z ⊢;rcases z with z|z|z|z<;>simp[z])) (fun c hc=>by
          unfold BFp at hc ⊢;rw[ay] at hc;simp only[aj,aJ,ap,bv,bg,or_false] at hc ⊢;rcases hc with h|h|h|h|h|h|h|h
          ·exact .inl (.inl h)
          ·exact .inl (.inr (.inl h))
          ·exact .inl (.inr (.inr (.inl h)))
          ·exact .inl (.inr (.inr (.inr (.inl h))))
          ·exact .inl (.inr (.inr (.inr (.inr (.inl h)))))
          ·exact .inl (.inr (.inr (.inr (.inr (.inr (.inl h))))))
          ·exact .inl (.inr (.inr (.inr (.inr (.inr (.inr h))))))
          ·rw[h];exact .inr hp)
         rw[ay,e1] at S2 x2;exact P _ _ _ x2 S2 .non
        ·rw[zt,e1] at hd;rw[hd] at P;exact P _ m (.same k) (S.same k)
  ·exact P.elim
 ·exact P.elim
def Di(vs:List V)(H:Hp)(Q:VK)(E:XK)(h:spD K a.Book 1 (mn a) vs H Q E):y8 K a.Book vs H Q E:=by
 obtain⟨_,ps,s,m,r,S,P⟩:=h;obtain⟨n,pp,L,z,L',us,ys,hg,B,e1,e2,rfl,r',P⟩:=onB S r P;split at P
 ·cases r';exact⟨_,z,pp,L',rfl,B,fun l hl=>P.new S hl fun ex S'=>.lst lr (S.pure_none hl) (.ofStrs _)⟩
 ·exact P.elim
def ET(vs:List V)(H:Hp)(Q:VK)(E:XK)(h:spD K a.Book 1 (nQ a) vs H Q E):Bv K a.Book vs H Q E:=by
 obtain⟨_,ps,s,m,r,S,P⟩:=h;obtain⟨n,pp,L,z,L',us,ys,hg,B,e1,e2,rfl,r',P⟩:=onB S r P;split at P
 ·cases r';refine⟨_,z,pp,L',rfl,B,fun l hl=>P.new S hl fun ex S'=>.lst lr (S.pure_none hl) ?_⟩;rw[<-e1,aF];exact .ofStrs _
 ·exact P.elim
def wf(e:L'.map (·.1)=L):(∀q,nW L' x=some q->mj L x=some q.1)/\(nW L' x=none->mj L x=none):=by have:=BN L' x;rw[e] at this;refine⟨fun q h=>?_,fun h=>?_⟩<;>(rw[h] at this;exact this.symm)
theorem BC:∀{l:List (Str×Int×Int)}{vs:List V}{m:Mp}{s:Sto}{CB:al}{H:Hp},SR K CB H m s->fQ (PairAt K H) l vs->Reps K H m s vs (l.map tz)
 |_,_,_,_,_,_,_,.nil=>.nil
 |_,_,m,s,CB,H,S,.cons r t=>by obtain⟨p,q,rfl,h1,h2⟩:=r;have tp:∀{c:al}{xs:List V},SqT K H c xs->(Rd H c (.tup xs)/\Pur m s c\/KT' K c xs):=fun h=>h.elim (fun z=>.inl ⟨z,z.elim (fun z=>S.pure_tup z) fun⟨_,z⟩=>S.pure_frz (.inl z)⟩) .inr;exact .cons (.tup (tp h1) (.cons .str (.cons (.tup (tp h2) (.cons .int (.cons .int .nil))) .nil))) (BC S t)
def EQ(vs:List V)(H:Hp)(Q:VK)(E:XK)(h:spD K a.Book 2 (mf a) vs H Q E):Bs K a vs H Q E:=by
 obtain⟨_,ps,s,m,r,S,P⟩:=h;obtain⟨n,pp,L,z,L',us,ys,hg,B,e1,e2,rfl,r',P⟩:=onB S r P;split at P
 ·split at P
  ·rename_i x hx;cases CK r';obtain⟨f1,f2⟩:=wf (x:=x) e1;refine⟨_,z,pp,L',x,rfl,B,hx,fun e he=>?_,fun he=>?_⟩
   ·rw[f1 e he] at P;dsimp only at P;split at P
    ·rename_i QN;refine⟨QN,fun l Sn H' hl k h' pr=>?_⟩;have S':=S.same k;refine P _ H' m (.same k) S' (.lst h' ?_ ?_)
     ·have:=S.pure_none hl;exact this
     ·have:=BC (m:=m) (s:=s) S' pr;rw[aF] at this;exact this
    ·exact P.elim
   ·rw[f2 he] at P;exact P H m .refl S
  ·exact P.elim
 ·exact P.elim
def MS(vs:List V)(H:Hp)(Q:VK)(E:XK)(h:spD K a.Book 2 (EK a) vs H Q E):Me K a vs H Q E:=by
 obtain⟨_,ps,s,m,r,S,P⟩:=h;obtain⟨n,pp,L,z,L',us,ys,hg,B,e1,e2,rfl,r',P⟩:=onB S r P;split at P
 ·split at P
  ·rename_i x hx;cases CK r';obtain⟨f1,f2⟩:=wf (x:=x) e1;refine⟨_,z,pp,L',x,rfl,B,hx,fun e he t ht=>?_,fun he=>?_⟩
   ·rw[f1 e he] at P;exact P.new S ht fun ex S'=>.tup (.inl ⟨.inl lr,S'.pure_tup lr⟩) (.cons .int (.cons .int (.cons .int .nil)))
   ·rw[f2 he] at P;exact P H m .refl S
  ·exact P.elim
 ·exact P.elim
def Ij(vs:List V)(H:Hp)(Q:VK)(E:XK)(h:spD K a.Book 5 (pZ a) vs H Q E):FY K a vs H Q E:=by
 obtain⟨_,ps,s,m,r,S,P⟩:=h;obtain⟨n,pp,L,z,L',us,ys,hg,B,e1,e2,rfl,r',P⟩:=onB S r P;split at P
 ·split at P
  ·rename_i h o1 o2 t b hs;cases r' with
   |cons q1 r'=>cases r' with
    |cons q2 r'=>cases r' with
     |cons q3 r'=>cases r' with
      |cons q4 r' =>
       cases r';cases q1;cases q2;cases q3;obtain⟨p,ws,rfl,ht,OP⟩:=q4.tp;cases OP with
       |cons w1 w2=>cases w2 with
        |cons w2 w3 =>
         cases w3;cases w1;cases w2;obtain⟨f1,f2⟩:=wf (x:=h) e1;have hh:oG L' h=(mj L h).isSome:=by rw[qt,e1];rfl
         have h1:(nB pp o1||oG L' o1)=(nB pp o1||ni L o1):=by rw[qt,e1]
         have h2:(nB pp o2||oG L' o2)=(nB pp o2||ni L o2):=by rw[qt,e1]
         refine⟨_,z,pp,L',h,o1,o2,p,(t,b),rfl,B,by rw[show L'.map (fun x=>x.1.nm)=L.map (·.nm) by rw[<-e1,aF];rfl];exact hs.nd,hs.nm.1,hs.nm.2.1,hs.nm.2.2,ht,hs.sz,fun e he=>hs.ok _ (f1 e he),fun q=>?_,fun q g1=>?_,fun q g1 g2=>?_,fun e he g1 g2 g3=>?_,fun e he g1 g2 g3 H' B' k=>?_⟩
         ·rw[hh] at q;cases c:mj L h with
          |none=>rw[c] at P;exact P H m .refl S
          |some e=>rw[c] at q;cases q
         ·rw[hh] at q;cases c:mj L h with
          |none=>rw[c] at q;cases q
          |some e=>rw[c] at P;dsimp only at P;rw[if_pos (by rw[<-h1];exact g1)] at P;exact P H m .refl S
         ·rw[hh] at q;cases c:mj L h with
          |none=>rw[c] at q;cases q
          |some e=>rw[c] at P;dsimp only at P;rw[if_neg (by rw[<-h1,g1];decide),if_pos (by rw[<-h2];exact g2)] at P;exact P H m .refl S
         ·rw[f1 e he] at P;dsimp only at P;rw[if_neg (by rw[<-h1,g1];decide),if_neg (by rw[<-h2,g2];decide),if_pos g3] at P;exact P H m .refl S
         ·rw[f1 e he] at P;dsimp only at P;rw[if_neg (by rw[<-h1,g1];decide),if_neg (by rw[<-h2,g2];decide),if_neg g3] at P;obtain⟨S2,x2⟩:=Mn S hg e2 B' (fun c o hc hn=>k c o hc fun z=>hn (by rw[z];exact LA (sj he))) (fun c hc=>.inl (by rw[FZ] at hc;exact hc));rw[DQ,e1] at S2 x2;exact P _ _ _ x2 S2 .non
  ·exact P.elim
 ·exact P.elim
noncomputable def zK(a:Adr)(g:Int->Ent->Ent)(neg:Bool)(vs:List PV)(s:Sto):Out PV:=lZ vs s fun n pp L r=>match r with
 |[.str h,.int v]=>if Nm h then(if ni L h=true then(if neg=true/\v<0 then .ex a.NoLoss s else .ok .non (s.set n (.book pp (qZ L h (g v))))) else .ex a.NoHouse s) else .bad
 |_=>.bad
def CD(had:∀b z L,ad z∈BFp b z L)(vs:List V)(H:Hp)(Q:VK)(E:XK)(h:spD K a.Book 3 (zK a g neg) vs H Q E):wx K a ad g neg vs H Q E:=by
 obtain⟨_,ps,s,m,r,S,P⟩:=h;obtain⟨n,pp,L,z,L',us,ys,hg,B,e1,e2,rfl,r',P⟩:=onB S r P;split at P
 ·split at P
  ·rename_i h v hx;cases r' with
   |cons q1 r'=>cases r' with
    |cons q2 r' =>
     cases r';cases q1;cases q2;refine⟨_,z,pp,L',h,v,rfl,B,hx,fun hh=>?_,fun hh hn hv=>?_,fun hh hv H' B' k=>?_⟩
     ·rw[qt,e1] at hh;rw[if_neg (by rw[hh];decide)] at P;exact P H m .refl S
     ·rw[qt,e1] at hh;rw[if_pos hh,if_pos ⟨hn,hv⟩] at P;exact P H m .refl S
     ·rw[qt,e1] at hh;rw[if_pos hh,if_neg (fun y=>absurd (hv y.1) (by have:=y.2;omega))] at P;obtain⟨S2,x2⟩:=Mn S hg e2 B' (fun c o h hc=>k c o h fun y=>hc (by rw[y];exact had _ _ _)) (fun c hc=>.inl (by rw[FZ] at hc;exact hc));rw[DQ,e1] at S2 x2;exact P _ _ _ x2 S2 .non
  ·exact P.elim
 ·exact P.elim
noncomputable abbrev z7(a:Adr):XF:=zK a (fun n x=>{ x with th:=n }) false
noncomputable abbrev yI(a:Adr):XF:=zK a (fun n x=>{ x with mr:=n }) false
noncomputable abbrev FQ(a:Adr):XF:=zK a (fun n x=>{ x with ls:=n }) true
def EO(vs:List V)(H:Hp)(Q:VK)(E:XK)(h:spD K a.Book 3 (z7 a) vs H Q E):wx K a (·.dt) (fun n x=>{ x with th:=n }) false vs H Q E:=CD (fun b z L=>by simp[BFp]) vs H Q E h
def Ik(vs:List V)(H:Hp)(Q:VK)(E:XK)(h:spD K a.Book 3 (yI a) vs H Q E):wx K a (·.dm) (fun n x=>{ x with mr:=n }) false vs H Q E:=CD (fun b z L=>by simp[BFp]) vs H Q E h
def Il(vs:List V)(H:Hp)(Q:VK)(E:XK)(h:spD K a.Book 3 (FQ a) vs H Q E):wx K a (·.dl) (fun n x=>{ x with ls:=n }) true vs H Q E:=CD (fun b z L=>by simp[BFp]) vs H Q E h
theorem Mt.imp(M:Mt P w K mg base C mm k ps sp)(h:∀vs H Q E,Rg vs H Q E->sp vs H Q E):Mt P w K mg base C mm k ps Rg :=
 let⟨f,fd,F,b⟩:=M;⟨f,fd,F.imp h,b⟩
theorem Fn.imp(M:Fn P w K mg base x k ps sp)(h:∀vs H Q E,Rg vs H Q E->sp vs H Q E):Fn P w K mg base x k ps Rg :=
 let⟨f,fd,F,b⟩:=M;⟨f,fd,F.imp h,b⟩
noncomputable instance (q:Int×Int):Decidable (Sz q):=cZ _
end
def Bx(c:Nat):(!decide ((⟨#[c]⟩:Str).cps.toList<(ac "0").cps.toList))=decide (48<=c):=by show(!decide ([c]<[48]))=decide (48<=c);rw[bM];simp[fB]
def GX(c:Nat):(!decide ((ac "9").cps.toList<(⟨#[c]⟩:Str).cps.toList))=decide (c<=57):=by show(!decide ([57]<[c]))=decide (c<=57);rw[bM];simp[fB]
def r4:RelV (.int 400) (.int 400 t):=⟨_,rfl⟩
section
variable{P:aI}{w:aX}{K:aa}{mg:Str->Option am}{base:bA}{a:Adr}{f:al}{fd:bQ}
abbrev qB:bL:=top 32
def Ad:FnScope ["text"] ["text"] (lh qB):=fsc
def vD:Sp:=fun vs H Q _=>∃x,vs=[.str x]/\x.length<=100000/\∀H',Same H H'->Q (.bl (wc x)) H'
def fgc(c:Nat):Bool:=decide (48<=c)&&decide (c<=57)
def Av(F:Fun K "is_figures" "is_figures" qB f fd)(T:Txt K mg a)(g4:mg "MOST_FIGURES"=some (.int 400 t4)):FnOk P w K mg base (CXo P w) 1 f fd ["text"] vD:=by
 refine F.okN Ad (fun vs H Q E h=>?_) (fun Ol A outer s H vs Q E hr h=>?_)
 ·obtain⟨x,rfl,_⟩:=h;rfl
 ·obtain⟨x,rfl,nm,k⟩:=h;have hu:=nV hr;refine⟨_,(@lQ _ _ _ (@qz _ _ _ _ (@FD _ _ _ _ _ _ _ (wN HN HN pe_int (@om _ _ _ _ _ _ _ _ _ call_len_str rfl T.b_len AQ (@lG _ _ _ _ _ (pv 0) pa_nil (by rfl)) (by decide) (by decide) (by rfl) (by rfl)) (rb rfl g4 r4)) (@C6 _ _ _ _ _ (@om _ _ _ _ _ _ _ _ _ ED rfl T.b_all FP (@lG _ _ _ _ _ (xg (fr:=[]) (ix:=[]) rfl (by exact(show CompOk ["text"] (lh qB) _ _ _ _ from cok)) (JM (pv 0)) (fun _ _ _ _ _=>wM) (fun _ _ _ _ _=>(wN vg vg pe_str (pv 0) pe_str))) pa_nil (by rfl)) (by decide) (by decide) (by rfl) (by rfl)))))),?_⟩;have Of:x.length<=aH:=aC nm (by decide);refine⟨_,rfl,_,rfl,Of,_,_,rfl,rfl,_,rfl,tQ (fun h=>?_) (fun h=>?_)⟩
  ·have h1:(1:Int)<=(x.length:Int):=of_decide_eq_true h;refine⟨_,_,rfl,rfl,_,rfl,tQ (fun h=>?_) (fun h=>?_)⟩
   ·have h2:(x.length:Int)<=400:=of_decide_eq_true h;refine⟨_,rfl,x,rfl,fun D hD=>?_⟩;refine CT (J:=Its x) x.cps.size (fun i ys H'=>H'=upd H D (.lst ys)/\ys=(x.cps.toList.take i).map fun c=>V.bl (fgc c)) ⟨rfl,rfl⟩ Of (fun i ys H' r=>by rw[r.1];exact lr) (fun i ys H' hi _=>hi) ?_ ?_
    ·rintro i ys H' v H'' hi ⟨rfl,rfl⟩ ⟨rfl,c,hc,rfl⟩ Kt Kf k1 k2
     have fin:∀b,b=fgc c->Kt (V.bl b) (upd H D (.lst ((x.cps.toList.take i).map fun c=>V.bl (fgc c)))):=fun b hb=>by refine k1 _ _ lr ⟨by rw[FT],?_⟩;rw[hb,vA hc]
     refine N0 ⟨_,rfl,_,_,rfl,rfl,_,rfl,tQ (fun h=>?_) (fun h=>?_)⟩
     ·refine⟨_,_,rfl,rfl,fin _ ?_⟩;rw[Bx] at h;rw[GX];unfold fgc;rw[h,da]
     ·refine fin _ ?_;rw[Bx] at h;unfold fgc;rw[cC.mpr h,cB]
    ·rintro ys H' hl ⟨rfl,rfl⟩
     have e:List.take x.cps.size x.cps.toList=x.cps.toList:=eW (by simp);rw[e];refine⟨ax _,D,x.cps.toList.map fgc,rfl,SqL.of (by rw[lr,aF];rfl),rfl,?_⟩;have e2:(x.cps.toList.map fgc).all id=wc x:=by
      have h1:1<=x.length:=by omega
      have h2:x.length<=400:=by omega
      unfold wc;rw[decide_eq_true h1,decide_eq_true h2,kc,da,da];rfl
     rw[e2];exact k _ (rm hD)
   ·have h2:¬x.length<=400:=fun z=>h (decide_eq_true (by omega));have e2:false=wc x:=by unfold wc;rw[decide_eq_false h2,Bool.and_false,cB]
    show Q (.bl false) H;rw[e2];exact k _ fun _ _ z=>z
  ·have h2:¬ 1<=x.length:=fun z=>h (decide_eq_true (by omega));have e2:false=wc x:=by unfold wc;rw[decide_eq_false h2,cB,cB]
   refine⟨_,rfl,JU ?_⟩;show Q (.bl false) H;rw[e2];exact k _ fun _ _ z=>z
end
def Sm(x:Str):Prop:=x.length<=9/\∀c∈x.cps.toList,c<128
def Sm.nm{x:Str}(h:Sm x):Nm x:=⟨aC h.1 (by decide),fun c hc=>fj (h.2 c hc) (by decide)⟩
def sB(x y:Str):(x++y).cps.toList=x.cps.toList++y.cps.toList:=PyProof.Rows.cps_toList_append x y
theorem Eg:∀(ys:List Str),(∀y∈ys,y.length<=1/\∀c∈y.cps.toList,(97<=c/\c<=122))->(b8 (ac "") ys).length<=ys.length/\∀c∈(b8 (ac "") ys).cps.toList,(97<=c/\c<=122)
 |[],_=>⟨ax _,fun c hc=>by cases hc⟩
 |[x],h=>⟨(h x (by simp)).1,(h x (by simp)).2⟩
 |x::y::r,h=>by
  obtain⟨i1,i2⟩:=Eg (y::r) fun z hz=>h z (ah _ hz);obtain⟨j1,j2⟩:=h x ag;have e:b8 (ac "") (x::y::r)=x++ac ""++b8 (ac "") (y::r):=rfl;rw[e];refine⟨?_,fun c hc=>?_⟩
  ·rw[me,me];have:(ac "").length=0:=rfl;rw[aq];omega
  ·rw[sB,sB] at hc;rcases aJ.mp hc with hc|hc
   ·rcases aJ.mp hc with hc|hc
    ·exact j2 c hc
    ·cases hc
   ·exact i2 c hc
def Jk{ys:List Str}(h:∀y∈ys,y.length<=1/\∀c∈y.cps.toList,(97<=c/\c<=122)):(cG (ac "") ys).length<=ys.length/\∀c∈(cG (ac "") ys).cps.toList,(97<=c/\c<=122):=by have e:cG (ac "") ys=b8 (ac "") ys:=jK _ _;rw[e];exact Eg ys h
def Lq:∀j,j<26->(ac "abcdefghijklmnopqrstuvwxyz").cps.toList[j]?=some (97+j):=by decide +kernel
def JT{i:Int}(h0:0<=i)(h1:i<26):atI (ac "abcdefghijklmnopqrstuvwxyz").cps.toList i=some (97+i.toNat):=by
 have e:i=(i.toNat:Int):=by omega
 have:=mP (Lq i.toNat (by omega));rw[<-e] at this;exact this
def Ie{ys:List Str}(h:∀y∈ys,y.length<=1):(ys.map (·.length)).sum<=ys.length:=by
 induction ys with
 |nil=>exact ax _
 |cons y r ih =>
  have:=ih fun z hz=>h z (ah _ hz);have:=h y ag;simp only[ap,jQ,aq];omega
def Wd(r:Int)(j:Nat)(w:Str):Prop:=Sm w/\pG w=true/\w.cps.toList.head?=some (97+((r+7*(0+(j:Int)))%26).toNat)
def shown(l:List (Str×Int×Int)):List (Str×Int×Int):=((srt (l.map (·.1))).map (lU l)).filter fun q=>decide (0<q.2.1)
structure FrB(k:Nat)(v:Int)(q:Int×Int):Prop where
 low:Low q
 nn:0<=q.1
 le:q.1<=v*q.2
 bb:Bt k q.2
def F7{q:Int×Int}(h:0<q.2):(red q).2∣q.2:=by obtain⟨v,hv⟩:(aL q.1 q.2:Int)∣q.2:=cL ..;have hg:0<aL q.1 q.2:=bZ _ (by omega);refine⟨(aL q.1 q.2:Int),?_⟩;unfold red;simp only;rw[Int.ediv_mul_cancel (cL ..)]
def wX{p q:Int×Int}(hp:0<p.2)(hq:0<q.2):(ng p q).1*(p.2*q.2)=(p.1*q.2+q.1*p.2)*(ng p q).2:=(tM (q:=(p.1*q.2+q.1*p.2,p.2*q.2)) (bE hp hq)).2
def GQ{k l:Nat}{p q:Int×Int}(hp:0<p.2)(hq:0<q.2)(bp:Bt k p.2)(bq:Bt l q.2):Bt (k+l) (ng p q).2 :=
 (bp.mul bq).dvd (Int.ne_of_gt (bE hp hq)) (F7 (q:=(p.1*q.2+q.1*p.2,p.2*q.2)) (bE hp hq))
def vk{a b d:Int}(hd:0<d)(h:a*d<=b*d):a<=b:=cD h hd
def CA{k:Nat}{v:Int}{g q:Int×Int}(hg:FrB k v g)(hq:Low q)(q0:0<q.1)(h:q.1*g.2<=g.1*q.2)(bq:Bt 94 q.2):FrB (k+94) v (ng g (-q.1,q.2)):=by
 have g0:=hg.low.1;have p0:=hq.1;have lq:Low (-q.1,q.2):=⟨hq.1,by have:=hq.2;unfold Cop aL at *;simp only[ia];exact this⟩;have lo:=EH hg.low lq;have D0:0<g.2*q.2:=bE g0 p0;have ev:=wX (p:=g) (q:=(-q.1,q.2)) g0 p0;simp only at ev;generalize hr:ng g (-q.1,q.2)=r at *;have r0:=lo.1;refine⟨lo,?_,?_,?_⟩
 ·refine vk D0 ?_;rw[ev,kD];refine f9 ?_ (bB r0);rw[je];omega
 ·refine vk D0 ?_;rw[ev];have h1:g.1*q.2+-q.1*g.2<=v*g.2*q.2:=by have a1:g.1*q.2<=v*g.2*q.2:=aQ hg.le (bB p0);have a2:0<=q.1*g.2:=f9 (bB q0) (bB g0);rw[je];omega
  have h2:=aQ h1 (bB r0);have e:v*g.2*q.2*r.2=v*r.2*(g.2*q.2):=by simp only[aN,fm,bh]
  rw[<-e];exact h2
 ·rw[<-hr];exact GQ g0 p0 hg.bb bq
def L8{k:Nat}{v:Int}{g q:Int×Int}(hg:FrB k v g)(hq:Low q)(q0:0<q.1)(h:q.1<=v*q.2)(bq:Bt 94 q.2):FrB (k+94) (2*v) (ng g q)/\0<(ng g q).1:=by
 have g0:=hg.low.1;have p0:=hq.1;have lo:=EH hg.low hq;have D0:0<g.2*q.2:=bE g0 p0;have ev:=wX (p:=g) (q:=q) g0 p0;have bt:=GQ (p:=g) (q:=q) g0 p0 hg.bb bq;generalize hr:ng g q=r at *;have r0:=lo.1;have pos:0<r.1:=by
  have a1:0<=g.1*q.2:=f9 hg.nn (bB p0);have a2:0<q.1*g.2:=bE q0 g0;have a3:0<(g.1*q.2+q.1*g.2)*r.2:=bE (by omega) r0;rw[<-ev] at a3;by_cases z:0<r.1
  ·exact z
  ·have:=eK (show r.1<=0 by omega) (bB D0);omega
 refine⟨⟨lo,bB pos,?_,bt⟩,pos⟩;refine vk D0 ?_;rw[ev];have h1:g.1*q.2+q.1*g.2<=2*v*g.2*q.2:=by
  have a1:g.1*q.2<=v*g.2*q.2:=aQ hg.le (bB p0);have a2:q.1*g.2<=v*q.2*g.2:=aQ h (bB g0);have e1:v*q.2*g.2=v*g.2*q.2:=eJ ..;have e2:2*v*g.2*q.2=2*(v*g.2*q.2):=by rw[aN 2,aN 2]
  rw[e2];omega
 have h2:=aQ h1 (bB r0);have e:2*v*g.2*q.2*r.2=2*v*r.2*(g.2*q.2):=by simp only[aN,fm,bh]
 rw[<-e];exact h2
def Go{k:Nat}{v:Int}{g q:Int×Int}(hg:FrB k v g)(hq:Low q)(h:q.1*g.2<=g.1*q.2):q.1<=v*q.2:=by refine vk hg.low.1 (d8 h ?_);have:=aQ hg.le (bB hq.1);rw[eJ];exact this
def FrC(c:Nat)(q:Int×Int):Prop:=FrB (192*c+2) (2^c:Nat) q
def FrC.top{c:Nat}{q:Int×Int}(h:FrC c q):Bt (193*c+2) q.1:=by
 have h1:=h.le;have h0:=h.nn;have hb:Bt (c+1) ((2^c:Nat):Int):=by unfold Bt;rw[Int.natAbs_natCast,fg];have:=eG c;omega
 have h2:q.1.natAbs<=(((2^c:Nat):Int)*q.2).natAbs:=by omega
 unfold Bt;refine aM h2 ?_;rw[ib,Int.natAbs_natCast];have hb2:q.2.natAbs<2^(192*c+2):=h.bb;have:2^c*q.2.natAbs<2^c*2^(192*c+2):=Nat.mul_lt_mul_of_pos_left hb2 (eG c);rw[<-Nat.pow_add] at this;have e:c+(192*c+2)=193*c+2:=by omega
 rw[e] at this;exact this
def FrC.sz{c:Nat}{q:Int×Int}(h:FrC c q)(hc:c<=45):Sz q:=⟨h.low,h.top.mono (by omega),h.bb.mono (by omega)⟩
theorem FrC.mono{c d:Nat}{q:Int×Int}(h:FrC c q)(hc:c<=d):FrC d q:=by refine⟨h.low,h.nn,d8 h.le ?_,h.bb.mono (by omega)⟩;refine aQ ?_ (bB h.low.1);exact iV.mpr (bD (by decide) hc)
def frc0(c:Nat):FrC c (0,1):=⟨⟨by decide,(rfl:aL 0 1=1)⟩,kR _,by rw[kQ];exact iH _,bt1 (by omega)⟩
def frc1(c:Nat):FrC c (1,1):=⟨⟨by decide,(rfl:aL 1 1=1)⟩,by decide,by rw[kQ];exact iV.mpr (eG c),bt1 (by omega)⟩
structure ShOk(q:Int×Int):Prop where
 low:Low q
 bt:Bt 200 q.1
 bb:Bt 94 q.2
def ShOk.sz{q:Int×Int}(h:ShOk q):Sz q:=⟨h.low,h.bt.mono (by decide),h.bb.mono (by decide)⟩
def CP{l:Hl}{n:Str}(h:n∉l.map (·.1)):lA l n=(0,1):=by
 unfold lA lU;have:l.find? (fun q=>decide (q.1=n))=none:=by rw[cx];intro x hx z;exact h (ak.mpr ⟨x,hx,of_decide_eq_true z⟩)
 rw[this];rfl
def rv(q:Int×Int):Rat:=Rat.divInt q.1 q.2
def JJ{p q:Int×Int}(hp:0<p.2)(hq:0<q.2):rv (ng p q)=rv p+rv q:=by have h:=wX hp hq;have h2:0<(ng p q).2:=(tM (q:=(p.1*q.2+q.1*p.2,p.2*q.2)) (bE hp hq)).1.1;unfold rv;rw[Rat.divInt_add_divInt _ _ (by omega) (by omega),Rat.divInt_eq_divInt_iff (by omega) (by have:=bE hp hq;omega)];exact h
def MZ(q:Int×Int):rv (-q.1,q.2)=-rv q:=by unfold rv;rw[Rat.neg_divInt]
def uN:List Rat->Rat
 |[]=>0
 |x::l=>x+uN l
theorem DH:∀l m:List Rat,uN (l++m)=uN l+uN m
 |[],m=>by show uN m=0+uN m;rw[Rat.zero_add]
 |x::l,m=>by show x+uN (l++m)=x+uN l+uN m;rw[DH l m,Rat.add_assoc]
theorem DF{f g:Str->Rat}{o:Str}(h:∀n,n≠o->f n=g n):∀ns:List Str,ns.Nodup->uN (ns.map f)=if o∈ns then uN (ns.map g)+(f o-g o) else uN (ns.map g)
 |[],_=>rfl
 |n::ns,nd=>by
  obtain⟨n1,n2⟩:=az.mp nd;have ih:=DF h ns n2;show f n+uN (ns.map f)=_;by_cases e:n=o
  ·subst e;rw[if_neg n1] at ih;rw[if_pos ag,ih];show f n+uN (ns.map g)=g n+uN (ns.map g)+(f n-g n)
   grind
  ·have m:o∈n::ns↔o∈ns:=⟨fun z=>(aj.mp z).resolve_left fun q=>e q.symm,ah _⟩;by_cases z:o∈ns
   ·rw[if_pos z] at ih;rw[if_pos (m.mpr z),ih,h n e];show g n+(uN (ns.map g)+(f o-g o))=g n+uN (ns.map g)+(f o-g o);rw[Rat.add_assoc]
   ·rw[if_neg z] at ih;rw[if_neg (fun q=>z (m.mp q)),ih,h n e];rfl
def JG(l:Hl):Rat:=uN ((l.map (·.1)).map fun n=>rv (lA l n))
def DJ{l:Hl}(nd:(l.map (·.1)).Nodup)(o:Str)(q:Int×Int):JG (oF l o q)=JG l+(rv q-rv (lA l o)):=by
 have h:∀n,n≠o->rv (lA (oF l o q) n)=rv (lA l n):=fun n hn=>by rw[mQ,if_neg hn]
 have ho:rv (lA (oF l o q) o)=rv q:=by rw[mQ,if_pos rfl]
 have u:=DF h (l.map (·.1)) nd;unfold JG;rw[mF];by_cases z:o∈l.map (·.1)
 ·rw[if_pos z] at u ⊢;rw[u,ho]
 ·rw[if_neg z] at u ⊢;rw[ay,DH,u,CP z];show _+(rv (lA (oF l o q) o)+0)=_;have:rv (0,1)=0:=Rat.zero_divInt 1;rw[ho,this]
  grind
structure On(D:Int)(q:Int×Int)(u:Int):Prop where
 low:Low q
 ev:q.1*D=u*q.2
def On.dvd{D:Int}{q:Int×Int}{u:Int}(h:On D q u):q.2∣D:=CS h.low.2.symm ⟨u,by rw[h.ev,bh]⟩
def On.uniq{D:Int}{p q:Int×Int}{u:Int}(hD:0<D)(h:On D p u)(g:On D q u):p=q:=by
 refine zm h.low g.low (dQ (a:=D) (by omega) ?_);have e1:=h.ev;have e2:=g.ev
 calc p.1*q.2*D=(p.1*D)*q.2:=by rw[aN,bh q.2,<-aN]
  _=(u*q.2)*p.2:=by rw[e1,aN,bh p.2,<-aN]
  _=(q.1*D)*p.2:=by rw[e2]
  _=q.1*p.2*D:=by rw[aN,bh D,<-aN]
def On.add{D:Int}{p q:Int×Int}{u v:Int}(h:On D p u)(g:On D q v):On D (ng p q) (u+v):=by
 have p0:=h.low.1;have q0:=g.low.1;have ev:=wX p0 q0;have pq:0<p.2*q.2:=bE p0 q0;refine⟨(tM (q:=(p.1*q.2+q.1*p.2,p.2*q.2)) pq).1,dQ (a:=p.2*q.2) (by omega) ?_⟩;generalize ng p q=r at ev ⊢;have e1:=h.ev;have e2:=g.ev
 calc r.1*D*(p.2*q.2)=(r.1*(p.2*q.2))*D:=by rw[aN,bh D,<-aN]
  _=((p.1*q.2+q.1*p.2)*r.2)*D:=by rw[ev]
  _=((p.1*D)*q.2+(q.1*D)*p.2)*r.2:=by
   rw[aN,bh r.2 D,<-aN,Int.add_mul (p.1*q.2)]
   congr 2
   ·rw[aN,bh q.2,<-aN]
   ·rw[aN,bh p.2,<-aN]
  _=((u*p.2)*q.2+(v*q.2)*p.2)*r.2:=by rw[e1,e2]
  _=(u+v)*r.2*(p.2*q.2):=by
   have a1:u*p.2*q.2=u*(p.2*q.2):=aN ..;have a2:v*q.2*p.2=v*(p.2*q.2):=by rw[aN,bh q.2]
   rw[a1,a2,<-Int.add_mul,aN,bh (p.2*q.2),<-aN]
def On.neg{D:Int}{q:Int×Int}{u:Int}(h:On D q u):On D (-q.1,q.2) (-u) :=
 ⟨⟨h.low.1,by have:=h.low.2;unfold Cop aL at *;simp only[ia];exact this⟩,by show -q.1*D=-u*q.2;rw[je,je,h.ev]⟩
def On.scale{D:Int}{q:Int×Int}{u:Int}(h:On D q u)(k:Int):On (D*k) q (u*k) :=
 ⟨h.low,by rw[<-aN,h.ev,aN,bh q.2,<-aN]⟩
def zi(D:Int):On D (0,1) 0:=⟨⟨by decide,rfl⟩,by simp⟩
def FE(D:Int):On D (1,1) D:=⟨⟨by decide,rfl⟩,by show 1*D=D*1;omega⟩
def Lb{q:Int×Int}(h:Low q):On q.2 q q.1:=⟨h,rfl⟩
structure HR(c:Nat)(hl hm:Hl):Prop where
 q:∀n,lA hl n=lA hm n
 nm:∀n,n∈hl.map (·.1)↔0<(lA hl n).1
 n1:(hl.map (·.1)).Nodup
 n2:(hm.map (·.1)).Nodup
 l1:hl.length<=c+1
 l2:hm.length<=c+1
 fr:∀n,FrC c (lA hl n)
 ex:∃n,0<(lA hl n).1
 sm:∀n∈hm.map (·.1),Sm n
 one:JG hm=1
 dv:∃(D:Int)(U:Str->Int),0<D/\Bt (94*c+1) D/\∀n,On D (lA hm n) (U n)
theorem HR.mono{c d:Nat}{hl hm:Hl}(h:HR c hl hm)(hc:c<=d):HR d hl hm:=⟨h.q,h.nm,h.n1,h.n2,aC h.l1 (by omega),aC h.l2 (by omega),fun n=>(h.fr n).mono hc,h.ex,h.sm,h.one,let⟨D,U,d1,d2,d3⟩:=h.dv;⟨D,U,d1,d2.mono (by omega),d3⟩⟩
def NJ(c:Nat){o:Str}(ho:Sm o):HR c [(o,1,1)] [(o,1,1)]:=by
 have g:∀n,lA [(o,1,1)] n=if n=o then(1,1) else(0,1):=fun n=>by
  unfold lA lU;rw[bw];by_cases e:o=n
  ·rw[show decide ((o,((1:Int),(1:Int))).1=n)=true from decide_eq_true e,if_pos e.symm];rfl
  ·rw[show decide ((o,((1:Int),(1:Int))).1=n)=false from decide_eq_false e,if_neg fun z=>e z.symm];rfl
 refine⟨fun _=>rfl,fun n=>?_,by simp,by simp,by simp,by simp,fun n=>?_,⟨o,by rw[g,if_pos rfl];decide⟩,fun n hn=>by rw[au.mp hn];exact ho,by
  show rv (lA [(o,1,1)] o)+0=1;rw[g,if_pos rfl,Rat.add_zero];exact Rat.divInt_self' (by decide),1,fun n=>if n=o then 1 else 0,by decide,bt1 (by omega),fun n=>by
   rw[g];by_cases e:n=o
   ·rw[if_pos e];show On 1 (1,1) (if n=o then 1 else 0);rw[if_pos e];exact FE 1
   ·rw[if_neg e];show On 1 (0,1) (if n=o then 1 else 0);rw[if_neg e];exact zi 1⟩
 ·rw[g];by_cases e:n=o
  ·rw[if_pos e];simp[e]
  ·rw[if_neg e];simp[e]
 ·rw[g];by_cases e:n=o
  ·rw[if_pos e];exact frc1 c
  ·rw[if_neg e];exact frc0 c
def HR.had{c:Nat}{hl hm:Hl}(h:HR c hl hm){n:Str}(h0:0<(lA hm n).1):n∈hm.map (·.1):=by
 by_cases z:n∈hm.map (·.1)
 ·exact z
 ·rw[CP z] at h0;exact absurd h0 (by decide)
theorem HR.shown{c:Nat}{hl hm:Hl}(h:HR c hl hm):shown hm=(srt (hl.map (·.1))).map (lU hl):=by
 unfold My.shown;have e1:(fun n=>lU hm n)=fun n=>(n,lA hm n):=funext fun n=>vm hm n;have e2:(fun n=>lU hl n)=fun n=>(n,lA hm n):=funext fun n=>by rw[vm hl n,h.q]
 show(List.map (fun n=>lU hm n) _).filter _=List.map (fun n=>lU hl n) _;rw[e1,e2,eA]
 congr 1
 refine pP ?_ ((pO _).filter _) (pO _);refine(dN (((lx _).nodup_iff.mpr h.n2).filter _) ((lx _).nodup_iff.mpr h.n1)).mpr fun n=>?_;rw[cv,(lx _).mem_iff,(lx _).mem_iff,h.nm,h.q];show(n∈_/\decide (0<(lA hm n).1)=true)↔_;rw[decide_eq_true_iff];exact⟨fun z=>z.2,fun z=>⟨h.had z,z⟩⟩
def Jd{q:Int×Int}(h:Low q)(h0:q.1=0):q=(0,1):=by
 obtain⟨t,b⟩:=q;obtain⟨h1,h2⟩:=h;simp only at h0 h1 h2;subst h0;have e:b=1:=by have:aL 0 b=1:=h2;rw[Int.gcd_zero_left] at this;omega
 rw[e]
def HR.sale{c:Nat}{hl hm:Hl}(h:HR c hl hm){o1 o2:Str}{q:Int×Int}(hq:ShOk q)(so:Sm o2)(nt:¬nJ hl o1 q):HR (c+1) (pz hl o1 o2 q) (AW hm o1 o2 q):=by
 have q0:0<q.1:=by by_cases z:0<q.1;exact z;exact absurd (.inl z) nt
 have Pa:q.1*(lA hl o1).2<=(lA hl o1).1*q.2:=by
  by_cases z:q.1*(lA hl o1).2>(lA hl o1).1*q.2
  ·exact absurd (.inr z) nt
  ·omega
 have R:=CA (h.fr o1) hq.low q0 Pa hq.bb;have qv:=Go (h.fr o1) hq.low Pa;have PL:o1∈hl.map (·.1):=by
  rw[h.nm];by_cases z:0<(lA hl o1).1
  ·exact z
  ·have a1:(lA hl o1).1*q.2<=0:=eK (by omega) (bB hq.low.1);have a2:0<q.1*(lA hl o1).2:=bE q0 (h.fr o1).low.1;omega
 have RB:o1∈hm.map (·.1):=h.had (by rw[<-h.q];exact(h.nm o1).mp PL);generalize hr:ng (lA hl o1) (-q.1,q.2)=r at *;have key:∃l1 m1:Hl,pz hl o1 o2 q=oF l1 o2 (ng (lA l1 o2) q)/\AW hm o1 o2 q=oF m1 o2 (ng (lA m1 o2) q)/\(∀n,lA l1 n=lA m1 n)/\(∀n,n∈l1.map (·.1)↔0<(lA l1 n).1)/\(l1.map (·.1)).Nodup/\(m1.map (·.1)).Nodup/\l1.length<=c+1/\m1.length<=c+1/\(∀n,FrB (192*c+2+94) (2^c:Nat) (lA l1 n))/\(∀n∈m1.map (·.1),Sm n)/\JG m1+rv q=1/\∃(D:Int)(U:Str->Int),0<D/\Bt (94*(c+1)+1) D/\On D q (U cS)/\∀n,∃u,On D (lA m1 n) u:=by
  have gm:∀n,lA (oF hm o1 r) n=if n=o1 then r else lA hl n:=fun n=>by rw[mQ,h.q]
  have lm:(oF hm o1 r).length<=c+1:=by have:=congrArg b6 (mF hm o1 r);rw[if_pos RB,af,af] at this;rw[this];exact h.l2
  have P9:∀n,FrB (192*c+2+94) (2^c:Nat) (if n=o1 then r else lA hl n):=fun n=>by
   by_cases e:n=o1
   ·rw[if_pos e];exact R
   ·rw[if_neg e];exact⟨(h.fr n).low,(h.fr n).nn,(h.fr n).le,(h.fr n).bb.mono (by omega)⟩
  have em:AW hm o1 o2 q=oF (oF hm o1 r) o2 (ng (lA (oF hm o1 r) o2) q):=by unfold AW;simp only[<-h.q o1,hr]
  have smm:∀n∈(oF hm o1 r).map (·.1),Sm n:=fun n hn=>by rw[mF,if_pos RB] at hn;exact h.sm n hn
  have QS:JG (oF hm o1 r)+rv q=1:=by
   rw[DJ h.n2,h.one,<-hr,JJ (q:=(-q.1,q.2)) (h.fr o1).low.1 hq.low.1,MZ,h.q]
   grind
  have dv1:∃(D:Int)(U:Str->Int),0<D/\Bt (94*(c+1)+1) D/\On D q (U cS)/\∀n,∃u,On D (lA (oF hm o1 r) n) u:=by
   obtain⟨D,U,d1,d2,d3⟩:=h.dv;have oq:On (D*q.2) q (q.1*D):=by rw[bh D];exact(Lb hq.low).scale D
   refine⟨D*q.2,fun _=>q.1*D,bE d1 hq.low.1,(d2.mul hq.bb).mono (by omega),oq,fun n=>?_⟩;rw[mQ];by_cases e:n=o1
   ·rw[if_pos e,<-hr,h.q];exact⟨_,((d3 o1).scale q.2).add oq.neg⟩
   ·rw[if_neg e];exact⟨_,(d3 n).scale q.2⟩
  by_cases rz:r=(0,1)
  ·have gl:∀n,lA (tI hl o1) n=if n=o1 then r else lA hl n:=fun n=>by rw[xR,rz]
   refine⟨tI hl o1,oF hm o1 r,?_,em,fun n=>by rw[gl,gm],fun n=>?_,Gs _ h.n1,wB _ _ h.n2,aC (Ed _ _) h.l1,lm,fun n=>by rw[gl];exact P9 n,smm,QS,dv1⟩
   ·unfold pz;simp only[hr,rz,if_true]
   ·rw[wb,cv,gl,h.nm,decide_eq_true_iff];by_cases e:n=o1
    ·rw[if_pos e,rz];exact⟨fun z=>absurd e z.2,fun z=>absurd z (by decide)⟩
    ·rw[if_neg e];exact⟨fun z=>z.1,fun z=>⟨z,e⟩⟩
  ·have gl:∀n,lA (oF hl o1 r) n=if n=o1 then r else lA hl n:=fun n=>mQ ..
   have rp:0<r.1:=by
    have:=R.nn;by_cases z:r.1=0
    ·exact absurd (Jd R.low z) rz
    ·omega
   refine⟨oF hl o1 r,oF hm o1 r,?_,em,fun n=>by rw[gl,gm],fun n=>?_,wB _ _ h.n1,wB _ _ h.n2,?_,lm,fun n=>by rw[gl];exact P9 n,smm,QS,dv1⟩
   ·unfold pz;simp only[hr,rz,if_false]
   ·rw[mF,if_pos PL,gl,h.nm];by_cases e:n=o1
    ·rw[if_pos e];exact⟨fun _=>rp,fun _=>by rw[e];exact(h.nm o1).mp PL⟩
    ·rw[if_neg e]
   ·have:=congrArg b6 (mF hl o1 r);rw[if_pos PL,af,af] at this;rw[this];exact h.l1
 obtain⟨l1,m1,es,em,gq,nm1,nd1,PY,len1,len2,P9,sm1,QS,D1,U1,d1,d2,oq,dm⟩:=key;obtain⟨U,up⟩:=L8 (P9 o2) hq.low q0 qv hq.bb;have ev:(2*((2^c:Nat):Int))=((2^(c+1):Nat):Int):=by rw[fg,cX,bh];rfl
 rw[es,em];refine⟨fun n=>?_,fun n=>?_,wB _ _ nd1,wB _ _ PY,aC (CN _ _ _) (by omega),aC (CN _ _ _) (by omega),fun n=>?_,⟨o2,by rw[mQ,if_pos rfl];exact up⟩,fun n hn=>?_,?_,?_⟩
 ·rw[mQ,mQ,gq,gq]
 ·rw[mQ,mF];by_cases e:n=o2
  ·rw[if_pos e];refine⟨fun _=>up,fun _=>?_⟩;rw[e];by_cases z:o2∈l1.map (·.1)
   ·rw[if_pos z];exact z
   ·rw[if_neg z];exact aB _ (au.mpr rfl)
  ·rw[if_neg e,<-nm1];by_cases z:o2∈l1.map (·.1)
   ·rw[if_pos z]
   ·rw[if_neg z,aJ];exact⟨fun y=>y.elim id fun y=>absurd (au.mp y) e,fun y=>.inl y⟩
 ·rw[mQ];by_cases e:n=o2
  ·rw[if_pos e];unfold FrC;rw[<-ev];exact⟨U.low,U.nn,U.le,U.bb.mono (by omega)⟩
  ·rw[if_neg e];have:=P9 n;refine⟨this.low,this.nn,d8 this.le ?_,this.bb.mono (by omega)⟩;exact aQ (iV.mpr (bD (by decide) (by omega))) (bB this.low.1)
 ·rw[mF] at hn;by_cases z:o2∈m1.map (·.1)
  ·rw[if_pos z] at hn;exact sm1 n hn
  ·rw[if_neg z] at hn;rcases aJ.mp hn with y|y
   ·exact sm1 n y
   ·rw[au.mp y];exact so
 ·rw[DJ PY,JJ (by rw[<-gq];exact(P9 o2).low.1) hq.low.1]
  grind
 ·have:∀n,∃u,On D1 (lA (oF m1 o2 (ng (lA m1 o2) q)) n) u:=fun n=>by
   rw[mQ];by_cases e:n=o2
   ·rw[if_pos e];obtain⟨u,hu⟩:=dm o2;exact⟨_,hu.add oq⟩
   ·rw[if_neg e];exact dm n
  exact⟨D1,fun n=>Classical.choose (this n),d1,d2,fun n=>Classical.choose_spec (this n)⟩
def HR.saleOk{c:Nat}{hl hm:Hl}(h:HR c hl hm)(hc:c<=44){o1:Str}{q:Int×Int}(hq:ShOk q):SaleOk hl o1 q:=by
 refine⟨aM h.l1 (by omega),fun n=>(h.fr n).sz (by omega),fun nt=>?_⟩;have q0:0<q.1:=by by_cases z:0<q.1;exact z;exact absurd (.inl z) nt
 have Pa:q.1*(lA hl o1).2<=(lA hl o1).1*q.2:=by
  by_cases z:q.1*(lA hl o1).2>(lA hl o1).1*q.2
  ·exact absurd (.inr z) nt
  ·omega
 have R:=CA (h.fr o1) hq.low q0 Pa hq.bb;refine FrC.sz (c:=c+1) ⟨R.low,R.nn,d8 R.le ?_,R.bb.mono (by omega)⟩ (by omega);exact aQ (iV.mpr (bD (by decide) (by omega))) (bB R.low.1)
section
variable{P:aI}{w:aX}{K:aa}{mg:Str->Option am}{base:bA}{a:Adr}{f:al}{fd:bQ}
structure Yz(K:aa)(mg:Str->Option am)(a:Adr):Prop where
 T:Txt K mg a
 h:∃h:bA,K.In h/\h.Ns bi mg
def gof{x:Str}{st:bL}{k:Nat}{ps:List Str}{sp:Sp}(c:Gf K x st)(Y:Yz K mg a)(o:∀{f:al}{fd:bQ},Txt K mg a->Fun K x x st f fd->FnOk P w K mg base (CXo P w) k f fd ps sp)(b:Bd x x st ps:=by first|exact bd1|exact bd2|exact bd3|exact bd4|exact bd5|exact bd6|exact bd0):Fn P w K mg base x k ps sp :=
 let⟨_,X,G⟩:=Y.h;c.fn X G (o Y.T) b
variable (P w K mg base a) in abbrev pY:=Mt P w K mg base a.Book "person" 4 ["self","name"] (spD K a.Book 2 (m6 a))
variable (P w K mg base a) in abbrev sX:=Mt P w K mg base a.Book "house" 4 ["self","name","owner","things","mark","loss"] (spD K a.Book 6 (pL a))
variable (P w K mg base a) in abbrev rE:=Mt P w K mg base a.Book "sale" 4 ["self","house","one","other","share"] (spD K a.Book 5 (pZ a))
variable (P w K mg base a) in abbrev oV:=Mt P w K mg base a.Book "persons" 1 ["self"] (spD K a.Book 1 (mn a))
variable (P w K mg base a) in abbrev rV:=Mt P w K mg base a.Book "houses" 1 ["self"] (spD K a.Book 1 (nQ a))
variable (P w K mg base a) in abbrev rT:=Mt P w K mg base a.Book "shares" 3 ["self","house"] (spD K a.Book 2 (mf a))
variable (P w K mg base a) in abbrev B7:=Mt P w K mg base a.Book "of" 3 ["self","house"] (spD K a.Book 2 (EK a))
variable (P w K mg base a) in abbrev AU:=Mt P w K mg base a.Book "things" 3 ["self","house","number"] (spD K a.Book 3 (z7 a))
variable (P w K mg base a) in abbrev yn:=Mt P w K mg base a.Book "mark" 3 ["self","house","number"] (spD K a.Book 3 (yI a))
variable (P w K mg base a) in abbrev DB:=Mt P w K mg base a.Book "loss" 3 ["self","house","number"] (spD K a.Book 3 (FQ a))
variable (P w K mg base a) in abbrev uK:=MkB P w K mg base "Book" a.Book 1 ["self"] (JI K a.Book)
abbrev ul:bL:=top 42
def Cd:FnScope ["_law_purse_here","_law_many","_law_at","_law_found"] ["_law_purse_here","_law_many"] (lh ul):=fsc
noncomputable def uD(a:Adr):XS:=(xSeq (xSet 2 (xB (xCons (x2 (x2 (xVar 0) (xC (.int 0)) fIx) (xC (.int 0)) fEq) xNil) fInt)) (xSeq (xSet 3 (x2 (x2 (xVar 0) (xVar 2) fIx) (xVar 1) fMod)) (xSeq (xPut (xVar 0) (xVar 2) (x2 (x2 (xVar 0) (xVar 2) fIx) (xVar 1) fDiv)) (xRet (xVar 3)))))
def lB(a:Adr):XF:=(fnD 4 (uD a))
variable (P w K mg base a) in abbrev n8:=Fn P w K mg base "_law_take" 1 ["_law_purse_here","_law_many"] (spD K a.Book 2 (lB a))
def Cs(Y:Yz K mg a)(c:Gf K "_law_take" ul):n8 P w K mg base a :=
 gof c Y fun T F=>mZ F Cd rfl fun _ _ _ _ _ _ hr S=>(lf (lL 2 (mw b_int (k9 (yv tK (lF (k7 0) lc) lc)))) (lf (lL 3 (yH (lF (k7 0) (k7 2)) (k7 1))) (lf (AJ (k7 0) (k7 2) (AM (lF (k7 0) (k7 2)) (k7 1))) (lv (lP (k7 3))))))
abbrev qJ:bL:=top 43
def yp:FnScope ["_law_one","_law_other"] ["_law_one","_law_other"] (lh qJ):=fsc
def oi(a:Adr) :XS:=(xPar 0 1 (xCons (xVar 1) (xCons (x2 (xVar 0) (xVar 1) fMod) xNil)))
def ua(a:Adr):XS:=(xSeq (vx (xTr (x2 (xVar 1) (xC (.int 0)) fNe)) (oi a)) (xRet (xB (xCons (xVar 0) xNil) fAbs)))
def oW(a:Adr):XF:=(fnD 2 (ua a))
variable (P w K mg base a) in abbrev qO:=Fn P w K mg base "_law_divisor" 1 ["_law_one","_law_other"] (spD K a.Book 2 (oW a))
def yt(Y:Yz K mg a)(c:Gf K "_law_divisor" qJ):qO P w K mg base a :=
 gof c Y fun T F=>mZ F yp rfl fun _ _ _ _ _ _ hr S=>(lf (zV (mG EE (k7 1) lc) (lv (NP (i:=0) (j:=1) rfl S.nd rfl rfl (by decide) rfl rfl (k8 (k7 1) (k9 (yH (k7 0) (k7 1)))) rfl))) (lv (lP (lT b_abs (k9 (k7 0))))))
abbrev rK:bL:=top 44
def yO:FnScope ["_law_top","_law_bottom","_law_share"] ["_law_top","_law_bottom"] (lh rK):=fsc
def vP(a:Adr):XS:=(xSeq (xSet 2 (xCall 2 (oW a) (xCons (xVar 0) (xCons (xVar 1) xNil)))) (xRet (xTup (xCons (x2 (xVar 0) (xVar 2) fDiv) (xCons (x2 (xVar 1) (xVar 2) fDiv) xNil)))))
def nG(a:Adr):XF:=(fnD 3 (vP a))
variable (P w K mg base a) in abbrev oB:=Fn P w K mg base "_law_lowest" 2 ["_law_top","_law_bottom"] (spD K a.Book 2 (nG a))
def yW(Y:Yz K mg a)(c:Gf K "_law_lowest" rK)(A0:qO P w K mg base a):oB P w K mg base a :=
 gof c Y fun T F=>mZ F yO rfl fun _ _ _ _ _ _ hr S=>(lf (lL 2 (lO A0 (k8 (k7 0) (k9 (k7 1))))) (lv (lP (nE (k8 (AM (k7 0) (k7 2)) (k9 (AM (k7 1) (k7 2))))))))
abbrev uq:bL:=top 45
def Cf:FnScope ["_law_one","_law_other"] ["_law_one","_law_other"] (lh uq):=fsc
noncomputable def yf(a:Adr):XS:=(xRet (xCall 2 (nG a) (xCons (x2 (x2 (x2 (xVar 0) (xC (.int 0)) fIx) (x2 (xVar 1) (xC (.int 1)) fIx) fMul) (x2 (x2 (xVar 1) (xC (.int 0)) fIx) (x2 (xVar 0) (xC (.int 1)) fIx) fMul) fAdd) (xCons (x2 (x2 (xVar 0) (xC (.int 1)) fIx) (x2 (xVar 1) (xC (.int 1)) fIx) fMul) xNil))))
def qb(a:Adr):XF:=(fnD 2 (yf a))
variable (P w K mg base a) in abbrev uH:=Fn P w K mg base "_law_plus" 3 ["_law_one","_law_other"] (spD K a.Book 2 (qb a))
def Ct(Y:Yz K mg a)(c:Gf K "_law_plus" uq)(A0:oB P w K mg base a):uH P w K mg base a :=
 gof c Y fun T F=>mZ F Cf rfl fun _ _ _ _ _ _ hr S=>(lv (lP (lO A0 (k8 (mq (nF (lF (k7 0) lc) (lF (k7 1) lc)) (nF (lF (k7 1) lc) (lF (k7 0) lc))) (k9 (nF (lF (k7 0) lc) (lF (k7 1) lc)))))))
abbrev sG:bL:=top 46
def Af:FnScope ["_law_one","_law_other"] ["_law_one","_law_other"] (lh sG):=fsc
noncomputable def wu(a:Adr):XS:=(xRet (xCall 2 (nG a) (xCons (x2 (x2 (xVar 0) (xC (.int 0)) fIx) (x2 (xVar 1) (xC (.int 0)) fIx) fMul) (xCons (x2 (x2 (xVar 0) (xC (.int 1)) fIx) (x2 (xVar 1) (xC (.int 1)) fIx) fMul) xNil))))
def ol(a:Adr):XF:=(fnD 2 (wu a))
variable (P w K mg base a) in abbrev sS:=Fn P w K mg base "_law_times" 3 ["_law_one","_law_other"] (spD K a.Book 2 (ol a))
def Ay(Y:Yz K mg a)(c:Gf K "_law_times" sG)(A0:oB P w K mg base a):sS P w K mg base a :=
 gof c Y fun T F=>mZ F Af rfl fun _ _ _ _ _ _ hr S=>(lv (lP (lO A0 (k8 (nF (lF (k7 0) lc) (lF (k7 1) lc)) (k9 (nF (lF (k7 0) lc) (lF (k7 1) lc)))))))
abbrev sH:bL:=top 41
def Ag:FnScope ["_law_script","_law_cells","_law_number","_law_found","_law_k","_law_cell"] ["_law_script"] (lh sH):=fsc
noncomputable def qM(a:Adr) :XS:=(xSeq (xSet 5 (x2 (xVar 1) (x2 (xVar 4) (xB (xCons (xVar 1) xNil) fLen) fMod) fIx)) (xSeq (xSet 2 (x2 (x2 (x2 (x2 (x2 (xVar 2) (xVar 2) fMul) (xVar 5) fAdd) (x2 (xC (.int 48271)) (xVar 4) fMul) fAdd) (xC (.int 7)) fAdd) (xC (.int 2147483629)) fMod)) (xSet 3 (x2 (x2 (xVar 3) (xC (.int 2147483587)) fMul) (x2 (x2 (xVar 2) (xVar 2) fMul) (xC (.int 2147483587)) fMod) fAdd))))
noncomputable def sN(a:Adr):XS:=(xSeq (xSet 1 (x2 (xSl (xVar 0) xNoP (xPart (xC (.int 63)))) (xLst (xCons (xC (.int 1)) xNil)) fAdd)) (xSeq (xSet 2 (xC (.int 5))) (xSeq (xSet 3 (xC (.int 1))) (xSeq (xFor (xRng1 (xCons (xC (.int 200)) xNil)) (yName 4) (qM a)) (xSeq (xIf (xTr (x2 (x2 (xVar 1) (xC (.int 0)) fIx) (x2 (xC (.int 10)) (xC (.int 18)) fPow) fGe)) (xRet (xLstC (xCons (x2 (x2 (xVar 1) (xC (.int 0)) fIx) (x2 (xC (.int 10)) (xC (.int 18)) fPow) fSub) (xCons (xVar 3) xNil)))) xEnd) (xRet (xLstC (xCons (xC (.int 0)) (xCons (xVar 3) xNil)))))))))
def oZ(a:Adr):XF:=(fnD 6 (sN a))
variable (P w K mg base a) in abbrev sT:=Fn P w K mg base "_law_purse" 1 ["_law_script"] (spD K a.Book 1 (oZ a))
def Az(Y:Yz K mg a)(c:Gf K "_law_purse" sH):sT P w K mg base a :=
 gof c Y fun T F=>mZ F Ag rfl fun _ _ _ _ _ _ hr S=>(lf (lL 1 (mq (Ft (k7 0) xu (tR lc)) (m8 (k9 lc)))) (lf (lL 2 lc) (lf (lL 3 lc) (lf (ot (qT (k9 lc)) (lS 4) (lf (lL 5 (lF (k7 1) (yH (k7 4) (lT b_len (k9 (k7 1)))))) (lf (lL 2 (yH (mq (mq (mq (nF (k7 2) (k7 2)) (k7 5)) (nF lc (k7 4))) lc) lc)) (lv (lL 3 (mq (nF (k7 3) lc) (yH (nF (k7 2) (k7 2)) lc))))))) (lf (nI (mG c_ge (lF (k7 1) lc) (vS lc lc)) (lv (lP (zA (k8 (yG (lF (k7 1) lc) (vS lc lc)) (k9 (k7 3)))))) ma) (lv (lP (zA (k8 lc (k9 (k7 3)))))))))))
abbrev sI:bL:=top 48
def Ah:FnScope ["_law_purse_here","_law_letters","_law_first","_law_found","_law_k","_law_long_here","_law_tail"] ["_law_purse_here"] (lh sI):=fsc
noncomputable def nY(a:Adr) :XS:=(xSeq (xSet 5 (xCall 2 (lB a) (xCons (xVar 0) (xCons (xC (.int 8)) xNil)))) (xSeq (xSet 6 (xJoin (xC (.str "")) (xCons (nH (xRng1 (xCons (xVar 5) xNil)) [1,0] qV (x2 (xVar 1) (xCall 2 (lB a) (xCons (xVar 2) (xCons (xC (.int 26)) xNil))) fIx)) xNil))) (xDo (xAppend (xVar 3) (xCons (x2 (x2 (xVar 1) (x2 (x2 (xVar 2) (x2 (xC (.int 7)) (xVar 4) fMul) fAdd) (xC (.int 26)) fMod) fIx) (xVar 6) fAdd) xNil)))))
noncomputable def wv(a:Adr):XS:=(xSeq (xSet 1 (xC (.str "abcdefghijklmnopqrstuvwxyz"))) (xSeq (xSet 2 (xCall 2 (lB a) (xCons (xVar 0) (xCons (xC (.int 26)) xNil)))) (xSeq (xSet 3 (xLstC xNil)) (xSeq (xFor (xRng1 (xCons (xC (.int 14)) xNil)) (yName 4) (nY a)) (xRet (xFrz (xVar 3)))))))
def qF(a:Adr):XF:=(fnD 7 (wv a))
variable (P w K mg base a) in abbrev sU:=Fn P w K mg base "_law_names" 2 ["_law_purse_here"] (spD K a.Book 1 (qF a))
def AA(Y:Yz K mg a)(c:Gf K "_law_names" sI)(A0:n8 P w K mg base a):sU P w K mg base a :=
 gof c Y fun T F=>mZ F Ah rfl fun _ _ _ _ _ _ hr S=>(lf (lL 1 lN) (lf (lL 2 (lO A0 (k8 (k7 0) (k9 lc)))) (lf (lL 3 (zA wF)) (lf (ot (qT (k9 lc)) (lS 4) (lf (lL 5 (lO A0 (k8 (k7 0) (k9 lc)))) (lf (lL 6 (sd lN (k9 (se (fr:=["_law_letters","_law_purse_here"]) (qT (k9 (k7 5))) (fun _ _ _ _ _=>(lF (k7 1) (lO A0 (k8 (k7 2) (k9 lc))))))))) (lv (pT (vn (k7 3) (k9 (mq (lF (k7 1) (yH (mq (k7 2) (nF lc (k7 4))) lc)) (k7 6))))))))) (lv (lP (FO (k7 3))))))))
abbrev ur:bL:=top 51
def Cg:FnScope ["_law_purse_here","_law_bottom"] ["_law_purse_here"] (lh ur):=fsc
noncomputable def yg(a:Adr):XS:=(xSeq (xSet 1 (x2 (xLst (xCons (xC (.int 2)) (xCons (xC (.int 3)) (xCons (xC (.int 4)) (xCons (xC (.int 5)) (xCons (xC (.int 7)) (xCons (xC (.int 10)) (xCons (xC (.int 100)) (xCons (x2 (xC (.int 10)) (xC (.int 9)) fPow) xNil))))))))) (xCall 2 (lB a) (xCons (xVar 0) (xCons (xC (.int 8)) xNil))) fIx)) (xRet (xCall 2 (nG a) (xCons (x2 (xC (.int 1)) (xCall 2 (lB a) (xCons (xVar 0) (xCons (xVar 1) xNil))) fAdd) (xCons (xVar 1) xNil)))))
def qc(a:Adr):XF:=(fnD 2 (yg a))
variable (P w K mg base a) in abbrev uI:=Fn P w K mg base "_law_part" 3 ["_law_purse_here"] (spD K a.Book 1 (qc a))
def Cu(Y:Yz K mg a)(c:Gf K "_law_part" ur)(A0:oB P w K mg base a)(A1:n8 P w K mg base a):uI P w K mg base a :=
 gof c Y fun T F=>mZ F Cg rfl fun _ _ _ _ _ _ hr S=>(lf (lL 1 (lF (m8 (k8 lc (k8 lc (k8 lc (k8 lc (k8 lc (k8 lc (k8 lc (k9 (vS lc lc)))))))))) (lO A1 (k8 (k7 0) (k9 lc))))) (lv (lP (lO A0 (k8 (mq lc (lO A1 (k8 (k7 0) (k9 (k7 1))))) (k9 (k7 1)))))))
abbrev sK:bL:=top 52
def Aj:FnScope ["_law_purse_here","_law_words","_law_book","_law_people","_law_houses","_law_entries","_law_name","_law_k","_law_owner","_law_house","_law_held","_law_having","_law_one","_law_other","_law_share"] ["_law_purse_here"] (lh sK):=fsc
def oU(a:Adr) :XS:=(xDo (xBM 2 (m6 a) (xVar 2) (xCons (xVar 6) xNil)))
noncomputable def oT(a:Adr) :XS:=(xSeq (xSet 8 (x2 (x2 (xVar 3) (xSl (xVar 4) xNoP (xPart (xVar 7))) fAdd) (xCall 2 (lB a) (xCons (xVar 0) (xCons (x2 (xB (xCons (xVar 3) xNil) fLen) (xVar 7) fAdd) xNil))) fIx)) (xSeq (xDo (xBM 6 (pL a) (xVar 2) (xCons (x2 (xVar 4) (xVar 7) fIx) (xCons (xVar 8) (xCons (x2 (xCall 2 (lB a) (xCons (xVar 0) (xCons (xC (.int 100)) xNil))) (xC (.int 30)) fSub) (xCons (x2 (xCall 2 (lB a) (xCons (xVar 0) (xCons (xC (.int 60)) xNil))) (xC (.int 10)) fSub) (xCons (xCall 2 (lB a) (xCons (xVar 0) (xCons (xC (.int 40)) xNil))) xNil))))))) (xPut (xVar 5) (x2 (xVar 4) (xVar 7) fIx) (xDisp (xVar 8) (xTup (xCons (xC (.int 1)) (xCons (xC (.int 1)) xNil)))))))
noncomputable def nZ(a:Adr) :XS:=(xSeq (xSet 11 (xB (xCons (z8 10 [10] (xTr (x2 (x2 (x2 (xVar 1) (xVar 0) fIx) (xC (.int 0)) fIx) (xC (.int 0)) fGt)) (xVar 0)) xNil) lC)) (xSeq (xSet 12 (x2 (xVar 11) (xCall 2 (lB a) (xCons (xVar 0) (xCons (xB (xCons (xVar 11) xNil) fLen) xNil))) fIx)) (xSeq (xSet 13 (x2 (x2 (xVar 3) (xVar 4) fAdd) (xCall 2 (lB a) (xCons (xVar 0) (xCons (x2 (xB (xCons (xVar 3) xNil) fLen) (xB (xCons (xVar 4) xNil) fLen) fAdd) xNil))) fIx)) (xSeq (xSet 14 (xCall 2 (ol a) (xCons (x2 (xVar 10) (xVar 12) fIx) (xCons (xCall 1 (qc a) (xCons (xVar 0) xNil)) xNil)))) (xIf (xTr (x2 (x2 (xVar 14) (xC (.int 1)) fIx) (x2 (xC (.int 10)) (xC (.int 28)) fPow) fLt)) (xSeq (xDo (xBM 5 (pZ a) (xVar 2) (xCons (xVar 9) (xCons (xVar 12) (xCons (xVar 13) (xCons (xVar 14) xNil)))))) (xSeq (xPut (xVar 10) (xVar 12) (xCall 2 (qb a) (xCons (x2 (xVar 10) (xVar 12) fIx) (xCons (xTup (xCons (x1 (x2 (xVar 14) (xC (.int 0)) fIx) fNeg) (xCons (x2 (xVar 14) (xC (.int 1)) fIx) xNil))) xNil)))) (xPut (xVar 10) (xVar 13) (xCall 2 (qb a) (xCons (xGet (xVar 10) (xVar 13) (xTup (xCons (xC (.int 0)) (xCons (xC (.int 1)) xNil)))) (xCons (xVar 14) xNil)))))) xEnd)))))
def oS(a:Adr) :XS:=(xSeq (xSet 10 (x2 (xVar 5) (xVar 9) fIx)) (xFor (xRng1 (xCons (xCall 2 (lB a) (xCons (xVar 0) (xCons (xC (.int 6)) xNil))) xNil)) (yName 7) (nZ a)))
noncomputable def sO(a:Adr):XS:=(xSeq (xSet 1 (xCall 1 (qF a) (xCons (xVar 0) xNil))) (xSeq (xSet 2 xBook) (xSeq (xSet 3 (xSl (xVar 1) xNoP (xPart (x2 (xLst (xCons (xC (.int 2)) (xCons (xC (.int 3)) (xCons (xC (.int 1)) (xCons (xC (.int 4)) (xCons (xC (.int 6)) (xCons (xC (.int 2)) (xCons (xC (.int 3)) (xCons (xC (.int 5)) xNil))))))))) (xCall 2 (lB a) (xCons (xVar 0) (xCons (xC (.int 8)) xNil))) fIx)))) (xSeq (xSet 4 (xSl (xVar 1) (xPart (xC (.int 6))) (xPart (x2 (xC (.int 6)) (x2 (xLst (xCons (xC (.int 3)) (xCons (xC (.int 4)) (xCons (xC (.int 2)) (xCons (xC (.int 5)) (xCons (xC (.int 6)) (xCons (xC (.int 1)) (xCons (xC (.int 8)) (xCons (xC (.int 0)) xNil))))))))) (xCall 2 (lB a) (xCons (xVar 0) (xCons (xC (.int 8)) xNil))) fIx) fAdd)))) (xSeq (xSet 5 xNewD) (xSeq (xFor (xIter (xVar 3)) (yName 6) (oU a)) (xSeq (xFor (xRng1 (xCons (xB (xCons (xVar 4) xNil) fLen) xNil)) (yName 7) (oT a)) (xSeq (xFor (xIter (xVar 4)) (yName 9) (oS a)) (xRet (xLst (xCons (xVar 2) (xCons (xB (xCons (xVar 3) xNil) lC) (xCons (J8 (xVar 5)) xNil)))))))))))))
def tf(a:Adr):XF:=(fnD 15 (sO a))
variable (P w K mg base a) in abbrev sW:=Fn P w K mg base "_law_built" 5 ["_law_purse_here"] (spD K a.Book 1 (tf a))
def AC(Y:Yz K mg a)(c:Gf K "_law_built" sK)(A0:sU P w K mg base a)(A1:uK P w K mg base a)(A2:pY P w K mg base a)(A3:sX P w K mg base a)(A4:n8 P w K mg base a)(A5:sS P w K mg base a)(A6:uI P w K mg base a)(A7:rE P w K mg base a)(A8:uH P w K mg base a):sW P w K mg base a :=
 gof c Y fun T F=>mZ F Aj rfl fun _ _ _ _ _ _ hr S=>(lf (lL 1 (lO A0 (k9 (k7 0)))) (lf (lL 2 (CQ A1)) (lf (lL 3 (Ft (k7 1) xu (tR (lF (m8 (k8 lc (k8 lc (k8 lc (k8 lc (k8 lc (k8 lc (k8 lc (k9 lc))))))))) (lO A4 (k8 (k7 0) (k9 lc))))))) (lf (lL 4 (Ft (k7 1) (tR lc) (tR (mq lc (lF (m8 (k8 lc (k8 lc (k8 lc (k8 lc (k8 lc (k8 lc (k8 lc (k9 lc))))))))) (lO A4 (k8 (k7 0) (k9 lc)))))))) (lf (lL 5 GG) (lf (ot (oO (k7 3)) (lS 6) (lv (pT (oP (k7 2) A2 (k9 (k7 6)))))) (lf (ot (qT (k9 (lT b_len (k9 (k7 4))))) (lS 7) (lf (lL 8 (lF (mq (k7 3) (Ft (k7 4) xu (tR (k7 7)))) (lO A4 (k8 (k7 0) (k9 (mq (lT b_len (k9 (k7 3))) (k7 7))))))) (lf (pT (oP (k7 2) A3 (k8 (lF (k7 4) (k7 7)) (k8 (k7 8) (k8 (yG (lO A4 (k8 (k7 0) (k9 lc))) lc) (k8 (yG (lO A4 (k8 (k7 0) (k9 lc))) lc) (k9 (lO A4 (k8 (k7 0) (k9 lc)))))))))) (lv (AJ (k7 5) (lF (k7 4) (k7 7)) (LV (k7 8) (nE (k8 lc (k9 lc))))))))) (lf (ot (oO (k7 4)) (lS 9) (lf (lL 10 (lF (k7 5) (k7 9))) (lv (ot (qT (k9 (lO A4 (k8 (k7 0) (k9 lc))))) (lS 7) (lf (lL 11 (lT (b_sorted rfl) (k9 (Jq (fr:=["_law_held"]) 10 (fun _ _ _ _ _=>(k7 0)) (fun _ _ _ _ _=>(wU (mG N9 (lF (lF (k7 1) (k7 0)) lc) lc))))))) (lf (lL 12 (lF (k7 11) (lO A4 (k8 (k7 0) (k9 (lT b_len (k9 (k7 11)))))))) (lf (lL 13 (lF (mq (k7 3) (k7 4)) (lO A4 (k8 (k7 0) (k9 (mq (lT b_len (k9 (k7 3))) (lT b_len (k9 (k7 4))))))))) (lf (lL 14 (lO A5 (k8 (lF (k7 10) (k7 12)) (k9 (lO A6 (k9 (k7 0))))))) (lv (nI (mG J3 (lF (k7 14) lc) (vS lc lc)) (lf (pT (oP (k7 2) A7 (k8 (k7 9) (k8 (k7 12) (k8 (k7 13) (k9 (k7 14))))))) (lf (AJ (k7 10) (k7 12) (lO A8 (k8 (lF (k7 10) (k7 12)) (k9 (nE (k8 (J2 (lF (k7 14) lc)) (k9 (lF (k7 14) lc)))))))) (lv (AJ (k7 10) (k7 13) (lO A8 (k8 (NU (k7 10) (k7 13) (nE (k8 lc (k9 lc)))) (k9 (k7 14)))))))) ma)))))))))) (lv (lP (m8 (k8 (k7 2) (k8 (lT (b_sorted rfl) (k9 (k7 3))) (k9 (LU (k7 5))))))))))))))))
end
def vL(l:List PV)(I:Nat->En->Sto->Prop)(h:∀k q ρ s,l[k]?=some q->I k ρ s->∃ρ' s',body q ρ s=.nx ρ' s'/\I (k+1) ρ' s')(h0:I 0 ρ s):∃ρ' s',mL body l ρ s=.nx ρ' s'/\I l.length ρ' s':=by
 have main:∀(r:List PV)(k:Nat)(ρ:En)(s:Sto),k<=l.length->l.drop k=r->I k ρ s->∃ρ' s',mL body r ρ s=.nx ρ' s'/\I l.length ρ' s':=by
  intro r;induction r with
  |nil =>
   intro k ρ s hk e hI;have:k=l.length:=jt hk (kF.mp e);subst this;exact⟨ρ,s,rfl,hI⟩
  |cons q r ih =>
   intro k ρ s hk e hI;have hq:l[k]?=some q:=by have:=congrArg List.head? e;rw[List.head?_drop] at this;simpa using this
   obtain⟨ρ',s',h1,h2⟩:=h k q ρ s hq hI;have e2:l.drop (k+1)=r:=by rw[<-List.tail_drop,e];rfl
   obtain⟨ρ2,s2,h3,h4⟩:=ih (k+1) ρ' s' ((aY.mp hq).1) e2 h2;refine⟨ρ2,s2,?_,h4⟩;unfold mL;rw[h1];exact h3
 exact main l 0 ρ s (ba _) rfl h0
def wK(n:Nat):(vG 0 n).length=n:=by simp[vG]
def DZ(h:(vG 0 n)[k]?=some q):k<n/\q=.int (k:Int):=by
 unfold vG at h;rw[bu] at h;by_cases hk:k<n
 ·rw[kP hk] at h;cases h;exact⟨hk,by simp⟩
 ·rw[kC (by simpa using hk)] at h;cases h
def wP(n:Nat)(I:Nat->En->Sto->Prop)(h:∀(k:Nat) ρ s,k<n->I k ρ s->∃ρ' s',body (.int (k:Int)) ρ s=.nx ρ' s'/\I (k+1) ρ' s')(h0:I 0 ρ s):∃ρ' s',mL body (vG 0 n) ρ s=.nx ρ' s'/\I n ρ' s':=by have:=vL (vG 0 n) I (fun k q ρ s hq hI=>by obtain⟨h1,h2⟩:=DZ hq;rw[h2];exact h k ρ s h1 hI) h0;rw[wK] at this;exact this
def nr(s:Sto)(i:Int):PV.data s 12 (.int i)=some (.int i):=rfl
def re(i j:Int):bV (.int i) (.int j)=(i==j):=by unfold bV;rfl
def IsPurse(s:Sto)(p:Nat):Prop:=∃x y,s.get p=some (.lst [.int x,.int y])
def vB(a:Adr)(s:Sto)(p:Nat)(n:Int)(h:IsPurse s p)(h0:0<n)(h1:Bt 9000 n):∃r x y,0<=r/\r<n/\lB a [.ref p,.int n] s=.ok (.int r) (s.set p (.lst [.int x,.int y])):=by
 obtain⟨x,y,h⟩:=h;have hd:Fs n:=⟨h0,h1⟩;by_cases hx:x=0
 ·refine⟨y%n,x,y/n,dD _ (by omega),cU _ h0,?_⟩;subst hx;simp[sem,og,lC,nN,lB,uD,h,atI,ixN,nr,re,hd,h0]
 ·refine⟨x%n,x/n,y,dD _ (by omega),cU _ h0,?_⟩;simp[sem,og,lC,nN,lB,uD,h,atI,ixN,nr,re,hd,h0,hx]
def GO{l:List Int}{i:Int}(h0:0<=i)(h1:i<l.length):∃x,atI (l.map PV.int) i=some (.int x):=by
 obtain⟨j,rfl⟩:∃j:Nat,i=j:=⟨i.toNat,by omega⟩;have hj:j<l.length:=by omega
 exact⟨l[j],mP (by simp[hj])⟩
def Js(l:List Int)(lo hi:Option Int):∃k:List Int,yj (l.map PV.int) lo hi=k.map PV.int/\k.length<=l.length:=by
 refine⟨(l.drop (HT.sIx l.length 0 lo)).take (HT.sIx l.length l.length hi-HT.sIx l.length 0 lo),?_,?_⟩
 ·unfold yj;simp[fI,List.map_drop]
 ·rw[ce,fC];omega
def ID(a:Adr)(s:Sto)(l:List Int)(hl:l.length<=63):∃x y,oZ a [.seq (l.map .int)] s=.ok (.ref s.nx) (s.add (.lst [.int x,.int y])):=by
 obtain⟨c,hc,Of⟩:=Js l none (some 63);have hsz:c.length<=99999:=by omega
 have e1:c.map PV.int++[PV.int 1]=(c++[1]).map PV.int:=by simp
 have Q0:(0:Int)<(c.length:Int)+1:=by omega
 have h2:2<=aH:=by decide
 obtain⟨ρ',s',P6,rfl,v,w,k,z,rfl,_⟩:=wP (body:=lV (yName 4) (qM a)) 200
  (fun _ ρ t=>t=s/\∃v w k z,ρ=[some (.seq (l.map .int)),some (.lst ((c++[1]).map .int)),some (.int v),some (.int w),k,z]/\0<=v/\v<2147483629)
  (fun k ρ t hk hI=>by obtain⟨rfl,v,w,k',z,rfl,h0,h1⟩:=hI;obtain⟨x,hx⟩:=GO (l:=c++[1]) (i:=(k:Int)%((c.length:Int)+1)) (dD _ (by omega)) (by have:=cU (k:Int) Q0;simpa using this);have m1:wO v v:=.inr (.inl ⟨by omega,by omega⟩);have m2:wO 48271 (k:Int):=.inr (.inl ⟨by decide,by decide⟩);have m3:wO w 2147483587:=.inr (.inr ⟨by decide,by decide⟩);have b0:=dD (v*v+x+48271*(k:Int)+7) (show(2147483629:Int)≠0 by decide);have b1:=cU (v*v+x+48271*(k:Int)+7) (show(0:Int)<2147483629 by decide);have m4:wO ((v*v+x+48271*(k:Int)+7)%2147483629) ((v*v+x+48271*(k:Int)+7)%2147483629):=.inr (.inl ⟨by omega,by omega⟩);refine⟨_,_,?_,rfl,(v*v+x+48271*(k:Int)+7)%2147483629,w*2147483587+((v*v+x+48271*(k:Int)+7)%2147483629)*((v*v+x+48271*(k:Int)+7)%2147483629)%2147483587,some (.int k),some (.int x),rfl,b0,b1⟩;simp only[ay,ap,bv] at hx;simp[sem,og,lC,nN,lV,qM,hx,m1,m2,m3,m4,Q0]) ⟨rfl,5,1,none,none,rfl,by decide,by decide⟩
 obtain⟨x0,RK⟩:=GO (l:=c++[1]) (i:=0) (by omega) (by simp);simp only[ay,ap,bv] at RK P6;by_cases h18:(1000000000000000000:Int)<=x0
 ·refine⟨x0-1000000000000000000,w,?_⟩;simp[sem,og,lC,nN,oZ,sN,hc,hsz,P6,RK,h18,h2]
 ·refine⟨0,w,?_⟩;simp[sem,og,lC,nN,oZ,sN,hc,hsz,P6,RK,h18,h2]
def Cy(a:Adr)(s:Sto):∀(k:Nat)(t b:Int),0<=b->b.toNat<=k->∃n t',mE (xTr (x2 (xVar 1) (xC (.int 0)) fNe)) (oi a) n [some (.int t),some (.int b)] s=.nx [some (.int t'),some (.int 0)] s/\t'.natAbs=aL t b:=by
 intro k;induction k with
 |zero =>
  intro t b h0 hk;have:b=0:=by omega
  subst this;refine⟨1,t,?_,by simp[aL]⟩;unfold mE;simp[sem,og,lC,nN,nr,re]
 |succ k ih =>
  intro t b h0 hk;by_cases hb:b=0
  ·subst hb;refine⟨1,t,?_,by simp[aL]⟩;unfold mE;simp[sem,og,lC,nN,nr,re]
  ·have hp:0<b:=by omega
   have m0:=dD t hb;have m1:=cU t hp;obtain⟨n,t',h1,h2⟩:=ih b (t%b) m0 (by omega);refine⟨n+1,t',?_,by rw[h2];exact Ei t b hp⟩;have hs:oi a [some (.int t),some (.int b)] s=.nx [some (.int b),some (.int (t%b))] s:=by simp[sem,og,lC,nN,oi,hp]
   unfold mE;simp[sem,og,lC,nN,nr,re,hb,hs,h1]
def Fq(a:Adr)(s:Sto)(t b:Int)(hb:0<=b):oW a [.int t,.int b] s=.ok (.int (aL t b)) s:=by obtain⟨n,t',h1,h2⟩:=Cy a s b.toNat t b hb (ax _);have hw:=Bf h1 (by simp);simp[sem,og,lC,nN,oW,ua,hw];rw[<-h2];split<;>omega
def xN(a:Adr)(s:Sto)(t b:Int)(hb:0<b)(hB:Bt 9000 b):nG a [.int t,.int b] s=.ok (frP (red (t,b))) s:=by have hg:0<aL t b:=bZ _ (by omega);have hd:Fs (aL t b:Int):=⟨by omega,hB.dvd (by omega) (cL ..)⟩;have e:=Fq a s t b (by omega);simp[sem,og,lC,nN,nG,vP,e,hd,frP,red]
def at0(x y:PV):atI [x,y] 0=some x:=rfl
def at1(x y:PV):atI [x,y] 1=some y:=rfl
structure Two'(p q:Int×Int):Prop where
 p0:0<p.2
 q0:0<q.2
 b:Bt 4400 p.2/\Bt 4400 q.2
 t:Bt 9000 p.1/\Bt 9000 q.1
def vK(h:Bt 9000 i)(g:Bt 9000 j):wO i j:=.inl ⟨h.mono (by decide),g.mono (by decide)⟩
def Eb(a:Adr)(s:Sto)(p q:Int×Int)(h:Two' p q):qb a [frP p,frP q] s=.ok (frP (ng p q)) s:=by have b1:Bt 9000 p.2:=h.b.1.mono (by decide);have b2:Bt 9000 q.2:=h.b.2.mono (by decide);have e:=xN a s (p.1*q.2+q.1*p.2) (p.2*q.2) (bE h.p0 h.q0) ((h.b.1.mul h.b.2).mono (by decide));simp[sem,og,lC,nN,qb,yf,frP,at0,at1,vK h.t.1 b2,vK h.t.2 b1,vK b1 b2,e,ng]
def Hi(a:Adr)(s:Sto)(p q:Int×Int)(h:Two' p q):ol a [frP p,frP q] s=.ok (frP (red (p.1*q.1,p.2*q.2))) s:=by have b1:Bt 9000 p.2:=h.b.1.mono (by decide);have b2:Bt 9000 q.2:=h.b.2.mono (by decide);have e:=xN a s (p.1*q.1) (p.2*q.2) (bE h.p0 h.q0) ((h.b.1.mul h.b.2).mono (by decide));simp[sem,og,lC,nN,ol,wu,frP,at0,at1,vK h.t.1 h.t.2,vK b1 b2,e]
def lR(s:Sto)(c:Cell)(k:Nat):(s.add c).get k=if s.nx=k then some c else s.get k:=by show oo ((s.nx,c)::s.cs) k=_;unfold oo;rfl
def zc(s:Sto)(c d:Cell)(h:s.nx≠p):(s.add d).set p c=(s.set p c).add d:=by unfold Sto.set Sto.add;simp[ra,h]
def mX(s:Sto)(c d:Cell):(s.add d).set s.nx c=s.add c:=by unfold Sto.set Sto.add;simp[ra]
def CG(s:Sto)(n:Nat)(c d:Cell):(s.set n c).set n d=s.set n d:=by
 have:∀l,ra n d (ra n c l)=ra n d l:=by
  intro l;induction l with
  |nil=>rfl
  |cons q r ih =>
   obtain⟨k,e⟩:=q;by_cases h:k=n
   ·simp[ra,h]
   ·simp[ra,h,ih]
 unfold Sto.set;simp[this]
def Sto.bump(s:Sto):Sto:=⟨s.nx+1,s.cs⟩
def GD(s:Sto)(d:Cell):(s.add d).del s.nx=Sto.bump s:=by unfold Sto.del Sto.add Sto.bump;simp[xw]
def pst(s:Sto)(p:Nat)(x y:Int):Sto:=s.set p (.lst [.int x,.int y])
def C2(s:Sto)(p:Nat)(x y:Int):(pst s p x y).nx=s.nx:=rfl
theorem IsPurse.pst(h:IsPurse s p)(x y:Int):IsPurse (pst s p x y) p:=let⟨_,_,h⟩:=h;⟨x,y,qY h⟩
theorem IsPurse.add(h:IsPurse s p)(c:Cell)(hp:p<s.nx):IsPurse (s.add c) p:=by obtain⟨x,y,h⟩:=h;exact⟨x,y,by rw[lR,if_neg (by omega)];exact h⟩
def Gd(s:Sto)(p:Nat)(x y x' y':Int)(d:Cell)(hp:p<s.nx):((pst s p x y).add d).set p (.lst [.int x',.int y'])=(pst s p x' y').add d:=by rw[zc _ _ _ (by rw[C2];omega)];unfold pst;rw[CG]
def L4(l:List PV)(I:Nat->List PV->Sto->Prop)(h:∀k q vs s,l[k]?=some q->I k vs s->(∃s1,c (some q::cap) s=.ok false s1/\I (k+1) vs s1)\/(∃s1 v s2,c (some q::cap) s=.ok true s1/\e (some q::cap) s1=.ok v s2/\I (k+1) (vs++[v]) s2))(h0:I 0 [] s) :
  ∃vs s',nc c e cap l s=.ok vs s'/\I l.length vs s':=by
 have main:∀(r:List PV)(k:Nat)(vs:List PV)(s:Sto),k<=l.length->l.drop k=r->I k vs s->∃ws s',nc c e cap r s=.ok ws s'/\I l.length (vs++ws) s':=by
  intro r;induction r with
  |nil =>
   intro k vs s hk e hI;have:k=l.length:=jt hk (kF.mp e);subst this;exact⟨[],s,rfl,by simpa using hI⟩
  |cons q r ih =>
   intro k vs s hk e' hI;have hq:l[k]?=some q:=by have:=congrArg List.head? e';rw[List.head?_drop] at this;simpa using this
   have e2:l.drop (k+1)=r:=by rw[<-List.tail_drop,e'];rfl
   have SQ:k+1<=l.length:=(aY.mp hq).1;rcases h k q vs s hq hI with⟨s1,h1,h2⟩|⟨s1,v,s2,h1,h2,h3⟩
   ·obtain⟨ws,s',h3,h4⟩:=ih (k+1) vs s1 SQ e2 h2;exact⟨ws,s',by rw[pU,h1];exact h3,h4⟩
   ·obtain⟨ws,s',h4,h5⟩:=ih (k+1) (vs++[v]) s2 SQ e2 h3;refine⟨v::ws,s',by rw[pU,h1];simp[h2,h4],by simpa using h5⟩
 obtain⟨ws,s',h1,h2⟩:=main l 0 [] s (ba _) rfl h0;exact⟨ws,s',h1,by simpa using h2⟩
theorem xV(p:PV->Bool)(f:PV->PV):∀(l:List PV),(∀q∈l,c (some q::cap) s=.ok (p q) s)->(∀q∈l,p q=true->e (some q::cap) s=.ok (f q) s)->nc c e cap l s=.ok ((l.filter p).map f) s
 |[],_,_=>rfl
 |q::l,h1,h2=>by
  rw[pU,h1 q ag];have ih:=xV p f l (fun x hx=>h1 x (ah _ hx)) (fun x hx=>h2 x (ah _ hx));cases hp:p q with
  |false=>simp[ih,hp]
  |true=>simp[ih,hp,h2 q ag hp]
def uZ(h0:0<n)(h1:n<2^64):Bt 9000 n:=by
 have:Bt 64 n:=by unfold Bt;omega
 exact this.mono (by decide)
def x8:(ac "abcdefghijklmnopqrstuvwxyz").length<=100000:=by decide
def Ih(c:Nat):(⟨#[c]⟩:Str).length=1:=rfl
def Kq(r:Int)(k:Nat)(m0:0<=(r+7*(k:Int))%26)(m1:(r+7*(k:Int))%26<26)(g2:∀c∈t.cps.toList,97<=c/\c<=122)(hl:t.length<=7):Wd r k (⟨#[97+((r+7*(k:Int))%26).toNat]⟩++t):=by
 have l1:(⟨#[97+((r+7*(k:Int))%26).toNat]⟩:Str).length=1:=rfl;have lw:(⟨#[97+((r+7*(k:Int))%26).toNat]⟩++t:Str).length=1+t.length:=by rw[me,l1]
 have cw:∀c∈(⟨#[97+((r+7*(k:Int))%26).toNat]⟩++t:Str).cps.toList,97<=c/\c<=122:=fun c hc=>by
  rw[sB] at hc;rcases aJ.mp hc with hc|hc
  ·have:c=97+((r+7*(k:Int))%26).toNat:=by simpa using hc
   omega
  ·exact g2 c hc
 refine⟨⟨by omega,fun c hc=>by have:=cw c hc;omega⟩,?_,?_⟩
 ·unfold pG;rw[decide_eq_true (by omega),decide_eq_true (by omega),da,da];refine cy.mpr fun c hc=>?_;have:=cw c hc;unfold low;rw[decide_eq_true this.1,decide_eq_true this.2];rfl
 ·rw[sB];simp
def Fh(a:Adr)(s:Sto)(p:Nat)(hp:p<s.nx)(hP:IsPurse s p)(OM:Int)(hf0:0<=OM)(k:Nat)(hk:k<14)(x y:Int)(ws:List Str)(hw:ws.length=k)(u v w:Option PV) :
  ∃x' y' nw u' v' w',Wd OM k nw/\lV (yName 4) (nY a) (.int (k:Int)) [some (.ref p),some (.str "abcdefghijklmnopqrstuvwxyz"),some (.int OM),some (.ref s.nx),u,v,w] ((pst s p x y).add (.lst (ws.map .str))) =
   .nx [some (.ref p),some (.str "abcdefghijklmnopqrstuvwxyz"),some (.int OM),some (.ref s.nx),u',v',w'] ((pst s p x' y').add (.lst ((ws++[nw]).map .str))):=by
 have q1:∀x y,IsPurse ((pst s p x y).add (.lst (ws.map .str))) p:=fun x y=>(hP.pst x y).add _ (by rw[C2];exact hp);obtain⟨r,xa,ya,r0,r1,e1⟩:=vB a _ p 8 (q1 x y) (by decide) (uZ (by decide) (by decide));rw[Gd _ _ _ _ _ _ _ hp] at e1;obtain⟨vs,t2,hc,ys,xb,yb,rfl,rfl,QW,hy⟩:=L4 (c:=qV) (e:=x2 (xVar 1) (xCall 2 (lB a) (xCons (xVar 2) (xCons (xC (.int 26)) xNil))) fIx) (cap:=[some (.str "abcdefghijklmnopqrstuvwxyz"),some (.ref p)]) (vG 0 r.toNat)
  (fun i vs t=>∃ys x y,vs=ys.map PV.str/\t=(pst s p x y).add (.lst (ws.map .str))/\ys.length=i/\∀z∈ys,z.length<=1/\∀c∈z.cps.toList,97<=c/\c<=122)
  (fun i q vs t hq hI=>by
   obtain⟨ys,x,y,rfl,rfl,hl,hy⟩:=hI;obtain⟨b,x',y',b0,b1,e⟩:=vB a _ p 26 (q1 x y) (by decide) (uZ (by decide) (by decide));rw[Gd _ _ _ _ _ _ _ hp] at e;refine .inr ⟨_,.str ⟨#[97+b.toNat]⟩,_,rfl,?_,ys++[⟨#[97+b.toNat]⟩],x',y',by simp,rfl,by simp[hl],fun z hz=>?_⟩
   ·simp[sem,og,lC,nN,e,JT b0 b1,x8]
   ·rcases aJ.mp hz with hz|hz
    ·exact hy z hz
    ·rw[au.mp hz];exact⟨ax _,fun c hc=>by simp at hc;omega⟩) (s:=(pst s p xa ya).add (.lst (ws.map .str))) ⟨[],xa,ya,rfl,rfl,rfl,fun z hz=>by cases hz⟩
 rw[wK] at QW;obtain⟨g1,g2⟩:=Jk hy;have m0:=dD (OM+7*(k:Int)) (show(26:Int)≠0 by decide);have m1:=cU (OM+7*(k:Int)) (show(0:Int)<26 by decide);have TR:wO 7 (k:Int):=.inr (.inl ⟨by decide,by decide⟩);have Of:(vG 0 r.toNat).length<=100000:=by rw[wK];omega
 have hsum:=Ie fun z hz=>(hy z hz).1;have hj:(ys.map (·.length)).sum+ys.length*(ac "").length<=16777216:=by have:(ac "").length=0:=rfl;rw[this];omega
 have Uc:(⟨#[97+((OM+7*(k:Int))%26).toNat]⟩:Str).length+(cG (ac "") ys).length<=100000:=by rw[Ih];omega
 have hws:ws.length<100000:=by omega
 have Rk:(-4611686018427387904:Int)<=r:=by omega
 have hr2:r<(4611686018427387904:Int):=by omega
 refine⟨xb,yb,⟨#[97+((OM+7*(k:Int))%26).toNat]⟩++cG (ac "") ys,some (.int k),some (.int r),some (.str (cG (ac "") ys)),?_,?_⟩
 ·exact Kq OM k m0 m1 g2 (by omega)
 ·simp[sem,og,lC,nN,lV,nY,e1,nH,my,Of,hc,qX,hj,TR,JT m0 m1,x8,Uc,lR,C2,hw,Rk,hr2,show k<100000 by omega,show ∀c,((pst s p xb yb).add (.lst (ws.map .str))).set s.nx c=(pst s p xb yb).add c from fun c=>mX (pst s p xb yb) c _]
def Ja(a:Adr)(s:Sto)(p:Nat)(hp:p<s.nx)(hP:IsPurse s p):∃(x y:Int)(ws:List Str)(OM:Int),ws.length=14/\0<=OM/\(∀j w,ws[j]?=some w->Wd OM j w)/\qF a [.ref p] s=.ok (.lst (ws.map .str)) (Sto.bump (pst s p x y)):=by
 obtain⟨OM,x0,y0,f0,f1,e0⟩:=vB a s p 26 hP (by decide) (uZ (by decide) (by decide));obtain⟨ρ',s',hl,x,y,ws,u,v,w,rfl,rfl,hw,Ug⟩:=wP (body:=lV (yName 4) (nY a)) 14
  (fun k ρ t=>∃(x y:Int)(ws:List Str)(u v w:Option PV),ρ=[some (.ref p),some (.str "abcdefghijklmnopqrstuvwxyz"),some (.int OM),some (.ref s.nx),u,v,w]/\t=(pst s p x y).add (.lst (ws.map .str))/\ws.length=k/\∀j w,ws[j]?=some w->Wd OM j w)
  (fun k ρ t hk hI=>by
   obtain⟨x,y,ws,u,v,w,rfl,rfl,hw,Ug⟩:=hI;obtain⟨x',y',nw,u',v',w',h1,h2⟩:=Fh a s p hp hP OM f0 k hk x y ws hw u v w;refine⟨_,_,h2,x',y',ws++[nw],u',v',w',rfl,rfl,by simp[hw],fun j z hz=>?_⟩;by_cases hj:j<ws.length
   ·rw[gc hj] at hz;exact Ug j z hz
   ·have ej:j=k:=by have:=(aY.mp hz).1;simp at this;omega
    subst ej;rw[dO (by omega),hw,Nat.sub_self] at hz;cases hz;exact h1) (ρ:=[some (.ref p),some (.str "abcdefghijklmnopqrstuvwxyz"),some (.int OM),some (.ref s.nx),none,none,none]) (s:=(pst s p x0 y0).add (.lst (([]:List Str).map .str))) ⟨x0,y0,[],none,none,none,rfl,rfl,rfl,fun j w h=>by simp at h⟩
 refine⟨x,y,ws,OM,hw,f0,Ug,?_⟩;have e0':lB a [.ref p,.int 26] s=.ok (.int OM) (pst s p x0 y0):=e0;have O1:mL (lV (yName 4) (nY a)) (vG 0 14) [some (.ref p),some (.str "abcdefghijklmnopqrstuvwxyz"),some (.int OM),some (.ref s.nx),none,none,none] ((pst s p x0 y0).add (.lst []))=_:=hl;have hd:((pst s p x y).add (.lst (ws.map .str))).del s.nx=Sto.bump (pst s p x y):=GD (pst s p x y) _;simp[sem,og,lC,nN,qF,wv,e0',C2,O1,lR,hd]
def stk(nx:Nat)(pre:List (Nat×Cell))(s:Sto)(p:Nat)(x y:Int):Sto:=⟨nx,pre++(pst s p x y).cs⟩
def sk(k:Nat)(c:Cell)(r:List (Nat×Cell))(n:Nat):oo ((k,c)::r) n=if k=n then some c else oo r n:=rfl
def ve(k:Nat)(d:Cell)(r:List (Nat×Cell))(n:Nat)(c:Cell):ra n c ((k,d)::r)=if k=n then(n,c)::r else(k,d)::ra n c r:=rfl
def BS(k:Nat)(d:Cell)(r:List (Nat×Cell))(n:Nat):xw n ((k,d)::r)=if k=n then r else(k,d)::xw n r:=rfl
def wQ(h:∀q∈pre,q.1≠n):oo (pre++l) n=oo l n:=by
 induction pre with
 |nil=>rfl
 |cons q r ih =>
  obtain⟨k,c⟩:=q;show oo ((k,c)::(r++l)) n=_;rw[sk,if_neg (h (k,c) ag)];exact ih fun x hx=>h x (ah _ hx)
def zN(h:∀q∈pre,q.1≠n):ra n c (pre++l)=pre++ra n c l:=by
 induction pre with
 |nil=>rfl
 |cons q r ih =>
  obtain⟨k,d⟩:=q;show ra n c ((k,d)::(r++l))=_;rw[ve,if_neg (h (k,d) ag),ih fun x hx=>h x (ah _ hx)];rfl
def Ex(h:∀q∈pre,q.1≠n):xw n (pre++l)=pre++xw n l:=by
 induction pre with
 |nil=>rfl
 |cons q r ih =>
  obtain⟨k,d⟩:=q;show xw n ((k,d)::(r++l))=_;rw[BS,if_neg (h (k,d) ag),ih fun x hx=>h x (ah _ hx)];rfl
def Bp(hP:IsPurse s p)(h:∀q∈pre,q.1≠p)(x y:Int):IsPurse (stk nx pre s p x y) p:=by obtain⟨x',y',e⟩:=hP.pst x y;exact⟨x',y',by show oo (pre++_) p=_;rw[wQ h];exact e⟩
def Kz(nx:Nat)(pre:List (Nat×Cell))(s:Sto)(p:Nat)(x y x' y':Int)(h:∀q∈pre,q.1≠p):(stk nx pre s p x y).set p (.lst [.int x',.int y'])=stk nx pre s p x' y':=by
 unfold stk Sto.set;simp only;rw[zN h];have:=CG s p (.lst [.int x,.int y]) (.lst [.int x',.int y']);unfold pst
 congr 1
 rw[<-this];rfl
def uM(a:Adr)(hP:IsPurse s p)(h:∀q∈pre,q.1≠p)(n:Int)(h0:0<n)(h1:n<2^64)(x y:Int):∃r x' y',0<=r/\r<n/\lB a [.ref p,.int n] (stk nx pre s p x y)=.ok (.int r) (stk nx pre s p x' y'):=by obtain⟨r,x',y',r0,r1,e⟩:=vB a _ p n (Bp hP h x y) h0 (uZ h0 h1);rw[Kz _ _ _ _ _ _ _ _ h] at e;exact⟨r,x',y',r0,r1,e⟩
def at8(l:List Int)(hl:l.length=8)(h0:0<=r)(h1:r<8):∃v∈l,atI (l.map PV.int) r=some (.int v):=by
 obtain⟨j,rfl⟩:∃j:Nat,r=j:=⟨r.toNat,by omega⟩;have hj:j<l.length:=by omega
 exact⟨l[j],cR hj,mP (by simp[hj])⟩
structure Part(q:Int×Int):Prop where
 low:Low q
 pos:0<q.1
 le:q.1<=q.2
 bb:q.2<=1000000000
def IA(h0:0<t)(h1:t<=b)(hb:b<=1000000000):Part (red (t,b)):=by
 have b0:0<b:=by omega
 obtain⟨lo,ev⟩:=tM (q:=(t,b)) b0;simp only at ev;have dv:=F7 (q:=(t,b)) b0;generalize red (t,b)=q at *;have q0:=lo.1;have p1:0<q.1:=by
  by_cases z:0<q.1
  ·exact z
  ·have a1:q.1*b<=0:=eK (by omega) (by omega);have a2:0<t*q.2:=bE h0 q0;omega
 refine⟨lo,p1,?_,d8 (Int.le_of_dvd b0 dv) hb⟩;refine cD ?_ b0;rw[ev];have:=aQ h1 (bB q0);rw[bh q.2 b];exact this
def IS(a:Adr)(hP:IsPurse s p)(h:∀q∈pre,q.1≠p)(x y:Int):∃q x' y',Part q/\qc a [.ref p] (stk nx pre s p x y)=.ok (frP q) (stk nx pre s p x' y'):=by
 obtain⟨r,xa,ya,r0,r1,e1⟩:=uM a (nx:=nx) hP h 8 (by decide) (by decide) x y;obtain⟨b,hb,eb⟩:=at8 [2,3,4,5,7,10,100,1000000000] rfl r0 r1;have Rr:0<b/\b<=1000000000:=by simp at hb;rcases hb with h|h|h|h|h|h|h|h<;>omega
 obtain⟨t,xb,yb,t0,t1,e2⟩:=uM a (nx:=nx) hP h b Rr.1 (by omega) xa ya;have e3:=xN a (stk nx pre s p xb yb) (1+t) b Rr.1 (uZ Rr.1 (by omega));refine⟨red (1+t,b),xb,yb,IA (by omega) (by omega) Rr.2,?_⟩;simp only[ap,bv] at eb;simp[sem,og,lC,nN,qc,yg,e1,e2,e3,eb]
def hP(l:Hl):List (Key×PV):=l.map fun q=>(ar q.1,frP q.2)
def oI(n:Nat):List (Str×Hl)->List (Nat×Cell)
 |[]=>[]
 |(_,l)::r=>(n+r.length,.dct (hP l))::oI n r
def qh(n:Nat):List (Str×Hl)->List (Key×PV)
 |[]=>[]
 |(h,_)::r=>qh n r++[(ar h,.ref (n+r.length))]
def l9(M:List (Str×Hl)):List (Key×PV):=M.map fun m=>(ar m.1,.dct (hP m.2))
theorem xX:∀{R:List (Str×Hl)},∀q∈oI n R,n<=q.1/\q.1<n+R.length
 |[],q,h=>by cases h
 |(_,l)::r,q,h=>by
  rcases aj.mp h with rfl|h
  ·simp
  ·have:=xX q h;simp;omega
theorem BP:∀(A B:List (Key×PV))(s:Sto),sg (A++B) s=match sg A s with
  |some (A',s1)=>match sg B s1 with
   |some (B',s2)=>some (A'++B',s2)
   |none=>none
  |none=>none
 |[],B,s=>by
  simp only[bI,sg];cases sg B s with
  |none=>rfl
  |some q=>rfl
 |(k,v)::A,B,s=>by
  simp only[cg,sg];cases h:frz1 v s with
  |ok w s1 =>
   simp only;rw[BP A B s1];cases sg A s1 with
   |none=>rfl
   |some q =>
    obtain⟨A',s2⟩:=q;simp only;cases sg B s2 with
    |none=>rfl
    |some q=>rfl
  |ex=>rfl
  |bad=>rfl
theorem Ek(n nx:Nat):∀(R:List (Str×Hl))(pre tail:List (Nat×Cell)),(∀q∈pre,n+R.length<=q.1)->sg (qh n R) ⟨nx,pre++(oI n R++tail)⟩=some (l9 R.reverse,⟨nx,pre++tail⟩)
 |[],pre,tail,_=>rfl
 |(h,l)::r,pre,tail,hp=>by
  have ih:=Ek n nx r (pre++[(n+r.length,.dct (hP l))]) tail (fun q hq=>by
   rcases aJ.mp hq with hq|hq
   ·have:=hp q hq;simp at this;omega
   ·rw[au.mp hq];exact ax _)
  have e1:pre++(oI n ((h,l)::r)++tail)=pre++[(n+r.length,Cell.dct (hP l))]++(oI n r++tail):=by simp[oI]
  rw[e1];show sg (qh n r++_) _=_;rw[BP,ih];have Ot:∀q∈pre,q.1≠n+r.length:=fun q hq=>by have:=hp q hq;simp at this;omega
  have hg:(⟨nx,pre++[(n+r.length,Cell.dct (hP l))]++tail⟩:Sto).get (n+r.length)=some (.dct (hP l)):=by show oo (pre++[_]++tail) _=_;rw[aO,wQ Ot];simp[oo]
  have hd:(⟨nx,pre++[(n+r.length,Cell.dct (hP l))]++tail⟩:Sto).del (n+r.length)=⟨nx,pre++tail⟩:=by unfold Sto.del;simp only;rw[aO,Ex Ot];simp[xw]
  simp only[sg,frz1,hg,hd];simp[l9]
def AS(n:Nat)(R:List (Str×Hl))(pp:List Str)(L:List Ent):List (Nat×Cell):=oI (n+3) R++[(n+2,.dct (qh (n+3) R)),(n+1,.book pp L)]
def bst(s:Sto)(p:Nat)(R:List (Str×Hl))(pp:List Str)(L:List Ent)(x y:Int):Sto:=stk (s.nx+3+R.length) (AS s.nx R pp L) s p x y
def GN(hp:p<n)(R:List (Str×Hl))(pp:List Str)(L:List Ent):∀q∈AS n R pp L,q.1≠p:=fun q hq=>by
 unfold AS at hq;rcases aJ.mp hq with hq|hq
 ·have:=xX q hq;omega
 ·simp at hq;rcases hq with rfl|rfl<;>(simp;omega)
def uY(R:List (Str×Hl))(h:k<n):∀q∈oI n R,q.1≠k:=fun q hq=>by have:=xX q hq;omega
def sA(s:Sto)(p:Nat)(R:List (Str×Hl))(pp:List Str)(L:List Ent)(x y:Int):(bst s p R pp L x y).get (s.nx+1)=some (.book pp L):=by show oo (AS s.nx R pp L++_) (s.nx+1)=_;unfold AS;rw[aO,wQ (uY R (by omega))];simp[oo]
def zZ(s:Sto)(p:Nat)(R:List (Str×Hl))(pp:List Str)(L:List Ent)(x y:Int):(bst s p R pp L x y).get (s.nx+2)=some (.dct (qh (s.nx+3) R)):=by show oo (AS s.nx R pp L++_) (s.nx+2)=_;unfold AS;rw[aO,wQ (uY R (by omega))];simp[oo]
def zY(s:Sto)(p:Nat)(R:List (Str×Hl))(pp Qn:List Str)(L L':List Ent)(x y:Int):(bst s p R pp L x y).set (s.nx+1) (.book Qn L')=bst s p R Qn L' x y:=by unfold bst stk Sto.set AS;simp only;rw[aO,zN (uY R (by omega))];simp[ra]
theorem Br(n:Nat)(h:Str)(l:Hl)(pr:List (Str×Hl))(tl:List (Nat×Cell)):∀post:List (Str×Hl),oo (oI n (post++(h,l)::pr)++tl) (n+pr.length)=some (.dct (hP l))
 |[]=>by
  show oo ((n+pr.length,Cell.dct (hP l))::_) _=_;rw[sk,if_pos rfl]
 |(g,m)::post=>by show oo ((n+(post++(h,l)::pr).length,Cell.dct (hP m))::(oI n (post++(h,l)::pr)++tl)) _=_;rw[sk,if_neg (by simp;omega)];exact Br n h l pr tl post
theorem Bq(n:Nat)(h:Str)(l l':Hl)(pr:List (Str×Hl))(tl:List (Nat×Cell)):∀post:List (Str×Hl),ra (n+pr.length) (.dct (hP l')) (oI n (post++(h,l)::pr)++tl)=oI n (post++(h,l')::pr)++tl
 |[]=>by
  show ra _ _ ((n+pr.length,Cell.dct (hP l))::_)=_;rw[ve,if_pos rfl];rfl
 |(g,m)::post=>by show ra _ _ ((n+(post++(h,l)::pr).length,Cell.dct (hP m))::(oI n (post++(h,l)::pr)++tl))=(n+(post++(h,l')::pr).length,Cell.dct (hP m))::(oI n (post++(h,l')::pr)++tl);rw[ve,if_neg (by simp;omega),Bq n h l l' pr tl post];simp
theorem BR(n:Nat)(h:Str)(l l':Hl)(pr:List (Str×Hl)):∀post:List (Str×Hl),qh n (post++(h,l)::pr)=qh n (post++(h,l')::pr)
 |[]=>rfl
 |(g,m)::post=>by show qh n (post++(h,l)::pr)++_=qh n (post++(h,l')::pr)++_;rw[BR n h l l' pr post];simp
theorem tH(n:Nat):∀R:List (Str×Hl),(qh n R).map (·.1)=R.reverse.map fun m=>ar m.1
 |[]=>rfl
 |(h,l)::r=>by simp[qh,tH n r]
def va(s:Sto)(p:Nat)(h:Str)(l:Hl)(post pr:List (Str×Hl))(pp:List Str)(L:List Ent)(x y:Int):(bst s p (post++(h,l)::pr) pp L x y).get (s.nx+3+pr.length)=some (.dct (hP l)):=by show oo (AS s.nx _ pp L++_) _=_;unfold AS;rw[aO];exact Br (s.nx+3) h l pr _ post
def Jy(s:Sto)(p:Nat)(h:Str)(l l':Hl)(post pr:List (Str×Hl))(pp:List Str)(L:List Ent)(x y:Int):(bst s p (post++(h,l)::pr) pp L x y).set (s.nx+3+pr.length) (.dct (hP l'))=bst s p (post++(h,l')::pr) pp L x y:=by unfold bst stk Sto.set AS;simp only;rw[aO,Bq (s.nx+3) h l l' pr _ post,BR (s.nx+3) h l l' pr post];simp
def GT(h:k∉l.map (·.1)):pj l k=none:=by unfold pj;rw[gs,cx];intro q hq z;exact h (ak.mpr ⟨q,hq,of_decide_eq_true z⟩)
def D3(v:PV)(h:k∉l.map (·.1)):HV l k v=l++[(k,v)]:=by unfold HV;rw[if_neg];intro z;obtain⟨q,hq,e⟩:=dX.mp z;exact h (ak.mpr ⟨q,hq,of_decide_eq_true e⟩)
def Ia(h:q∉l.map (·.1)):pj (l++k) q=pj k q:=by
 unfold pj;rw[gg];have:l.find? (fun kv=>decide (kv.1=q))=none:=by rw[cx];intro z hz e;exact h (ak.mpr ⟨z,hz,of_decide_eq_true e⟩)
 rw[this];rfl
theorem Et(n:Nat)(h:Str)(l:Hl)(pr:List (Str×Hl))(hn:h∉pr.map (·.1)):∀post:List (Str×Hl),pj (qh n (post++(h,l)::pr)) (ar h)=some (.ref (n+pr.length))
 |[]=>by
  show pj (qh n pr++_) _=_;rw[Ia]
  ·simp[pj]
  ·rw[tH];intro z;obtain⟨m,hm,e⟩:=ak.mp z;cases e;exact hn (ak.mpr ⟨m,by simpa using hm,rfl⟩)
 |(g,m)::post=>by
  show pj (qh n (post++(h,l)::pr)++_) _=_;have ih:=Et n h l pr hn post;unfold pj at ih ⊢;rw[gg];cases hf:(qh n (post++(h,l)::pr)).find? (fun kv=>decide (kv.1=ar h)) with
  |none=>rw[hf] at ih;cases ih
  |some q=>rw[hf] at ih;exact ih
def AG(l:Hl)(n:Str)(h:n∈l.map (·.1)):pj (hP l) (ar n)=some (frP (lA l n)):=by
 unfold pj hP lA lU;rw[eX,jb];have e:((fun kv:Key×PV=>decide (kv.1=ar n))∘fun q:Str×Int×Int=>((ar q.1:Key),frP q.2))=fun q=>decide (q.1=n):=by
  funext q
  show decide ((ar q.1:Key)=ar n)=_;rw[yC]
 rw[e];cases hf:l.find? (fun q=>decide (q.1=n)) with
 |none =>
  exfalso;rw[cx] at hf;obtain⟨q,hq,e⟩:=ak.mp h;exact hf q hq (decide_eq_true e)
 |some q=>rfl
def LC(l:Hl):(hP l).map (·.1)=l.map fun q=>ar q.1:=by unfold hP;rw[aF];rfl
def NL(l:Hl)(n:Str):(pj (hP l) (ar n)).getD (.tup [.int 0,.int 1])=frP (lA l n):=by
 by_cases h:n∈l.map (·.1)
 ·rw[AG l n h];rfl
 ·rw[GT,CP h]
  ·rfl
  ·rw[LC];intro z;obtain⟨q,hq,e⟩:=ak.mp z;cases e;exact h (ak.mpr ⟨q,hq,rfl⟩)
def NK(l:Hl)(n:Str)(q:Int×Int):HV (hP l) (ar n) (frP q)=hP (oF l n q):=by
 unfold HV oF hP;rw[gC];have e:((fun kv:Key×PV=>decide (kv.1=ar n))∘fun q:Str×Int×Int=>((ar q.1:Key),frP q.2))=fun q=>decide (q.1=n):=by
  funext q
  show decide ((ar q.1:Key)=ar n)=_;rw[yC]
 rw[e];split
 ·rw[aF,aF];refine aR fun z _=>?_;show(if(ar z.1:Key)=ar n then((ar z.1:Key),frP q) else(ar z.1,frP z.2))=_;by_cases hz:z.1=n
  ·simp[hz]
  ·simp[hz]
 ·simp
def E8(a:Adr)(s:Sto)(p:Nat)(R:List (Str×Hl))(pp:List Str)(L:List Ent)(x y:Int)(w:Str)(hn:Nm w)(hd:qp a pp L w=none):m6 a [.ref (s.nx+1),.str w] (bst s p R pp L x y)=.ok .non (bst s p R (pp++[w]) L x y):=by simp[m6,lZ,sA,hn,hd,zY]
def Hs(a:Adr)(s:Sto)(p:Nat)(R:List (Str×Hl))(pp:List Str)(L:List Ent)(x y:Int)(w o:Str)(t m l:Int)(hn:Nm w/\Nm o)(hd:qr a pp L w o l=none) :
  pL a [.ref (s.nx+1),.str w,.str o,.int t,.int m,.int l] (bst s p R pp L x y)=.ok .non (bst s p R pp (L++[⟨w,t,m,l,[(o,1,1)]⟩]) x y):=by
 simp[pL,lZ,sA,hn,hd,zY]
def KR(s:Sto)(p:Nat)(R:List (Str×Hl))(pp:List Str)(L:List Ent)(x y:Int)(w o:Str)(hw:w∉R.map (·.1))(hR:R.length<=8) :
  nN (.ref (s.nx+2)) (.str w) (.ref (s.nx+3+R.length)) ((bst s p R pp L x y).add (.dct [(ar o,.tup [.int 1,.int 1])]))=some (bst s p ((w,[(o,1,1)])::R) pp L x y):=by
 have RP:(bst s p R pp L x y).nx=s.nx+3+R.length:=rfl;have hg:((bst s p R pp L x y).add (.dct [(ar o,.tup [.int 1,.int 1])])).get (s.nx+2)=some (.dct (qh (s.nx+3) R)):=by rw[lR,if_neg (by rw[RP];omega),zZ]
 have hk:(ar w:Key)∉(qh (s.nx+3) R).map (·.1):=by rw[tH];intro z;obtain⟨m,hm,e⟩:=ak.mp z;cases e;exact hw (ak.mpr ⟨m,by simpa using hm,rfl⟩)
 have hl:(qh (s.nx+3) R).length<100000:=by have:=congrArg b6 (tH (s.nx+3) R);simp at this;omega
 simp only[nN,hg,kyOf,hl,if_true,D3 _ hk]
 congr 1
 rw[zc _ _ _ (by rw[RP];omega)];unfold bst stk Sto.set Sto.add AS;simp only;rw[aO,zN (uY R (by omega))];simp[ra,oI,qh,hP,frP];omega
structure Words(pp hs:List Str):Prop where
 nd:(pp++hs).Nodup
 sm:∀w∈pp++hs,Sm w
 nm:∀w∈pp++hs,pG w=true
 p1:1<=pp.length
 p6:pp.length<=6
 h8:hs.length<=8
 fl:∀x∈pp++hs,∀y∈pp++hs,x.cps.toList.head?=y.cps.toList.head?->x=y
def nl(pp:List Str)(w:Str):nB pp w=true↔w∈pp:=by
 unfold nB;rw[eY];constructor
 ·rintro⟨x,hx,e⟩
  have:=of_decide_eq_true e;subst this;exact hx
 ·intro h;exact⟨w,h,decide_eq_true rfl⟩
def mM(L:List Ent)(w:Str):ni L w=true↔w∈L.map (·.nm):=by
 unfold ni mj;rw[eY];constructor
 ·rintro⟨x,hx,e⟩
  exact ak.mpr ⟨x,hx,of_decide_eq_true e⟩
 ·intro h;obtain⟨x,hx,e⟩:=ak.mp h;exact⟨x,hx,decide_eq_true e⟩
def BD(a:Adr)(h1:pG w=true)(h2:w∉pp)(h3:w∉L.map (·.nm)):oJ a pp L w=none:=by
 unfold oJ;have e1:nB pp w=false:=by rw[cC];exact fun z=>h2 ((nl _ _).mp z)
 have e2:ni L w=false:=by rw[cC];exact fun z=>h3 ((mM _ _).mp z)
 rw[if_neg (by rw[h1];decide),e1,e2];rfl
def z5{ws:List Str}{r:Int}(h0:0<=r)(h1:r<ws.length):∃w∈ws,atI (ws.map PV.str) r=some (.str w):=by
 obtain⟨j,rfl⟩:∃j:Nat,r=j:=⟨r.toNat,by omega⟩;have hj:j<ws.length:=by omega
 exact⟨ws[j],cR hj,mP (by simp[hj])⟩
def fr0(p n:Nat)(wd:Option PV)(pp hs:List Str):En:=[some (.ref p),wd,some (.ref (n+1)),some (.lst (pp.map .str)),some (.lst (hs.map .str)),some (.ref (n+2))]
def Cm(a:Adr)(s:Sto)(p:Nat)(x y:Int)(W:Words pp hs)(wd o6 o7 o8 o9 OJ OE OU OT OS:Option PV) :
  ∃o,mL (lV (yName 6) (oU a)) (pp.map .str) (fr0 p s.nx wd pp hs++[o6,o7,o8,o9,OJ,OE,OU,OT,OS]) (bst s p [] [] [] x y)=.nx (fr0 p s.nx wd pp hs++[o,o7,o8,o9,OJ,OE,OU,OT,OS]) (bst s p [] pp [] x y):=by
 obtain⟨e',s',h1,rfl,o,rfl⟩:=vL (body:=lV (yName 6) (oU a)) (pp.map .str) (fun k ρ t=>t=bst s p [] (pp.take k) [] x y/\∃o,ρ=fr0 p s.nx wd pp hs++[o,o7,o8,o9,OJ,OE,OU,OT,OS])
  (fun k q ρ t hq hI=>by
   obtain⟨rfl,o,rfl⟩:=hI;rw[bu] at hq;cases hw:pp[k]? with
   |none=>rw[hw] at hq;cases hq
   |some w =>
    rw[hw] at hq;cases hq;have hk:k<pp.length:=(aY.mp hw).1;have Pj:w∈pp:=bW hw;have e1:pp.take (k+1)=pp.take k++[w]:=by rw[cI,hw];rfl
    have nd:pp.Nodup:=(aW.mp W.nd).1;have Qw:w∉pp.take k:=fun z=>by have:(pp.take (k+1)).Nodup:=nd.sublist (dI _ _);rw[e1] at this;exact(aW.mp this).2.2 w z w ag rfl
    have hd:qp a (pp.take k) [] w=none:=by unfold qp;rw[BD a (W.nm w (a7 _ Pj)) Qw (by simp)];simp only;rw[if_neg];rw[ce];have:=W.p6;omega
    have T9:=E8 a s p [] (pp.take k) [] x y w (W.sm w (a7 _ Pj)).nm hd;refine⟨_,_,?_,rfl,some (.str w),rfl⟩;simp[sem,og,lC,nN,lV,oU,fr0,sA,T9,e1]) (ρ:=fr0 p s.nx wd pp hs++[o6,o7,o8,o9,OJ,OE,OU,OT,OS]) (s:=bst s p [] [] [] x y) ⟨rfl,o6,rfl⟩
 rw[af,dU] at h1;exact⟨o,h1⟩
inductive Pairs (N:List Str) (c:Nat):List Ent->List (Str×Hl)->Prop
 |nil:Pairs N c [] []
 |cons {e:Ent}{m:Str×Hl}{L:List Ent}{M:List (Str×Hl)}:e.nm=m.1->HR c e.held m.2->(∀n∈m.2.map (·.1),n∈N)->0<=e.ls->Pairs N c L M->Pairs N c (e::L) (m::M)
def Pairs.names(h:Pairs N c L M):L.map (·.nm)=M.map (·.1):=by
 induction h with
 |nil=>rfl
 |cons h1 _ _ _ _ ih=>rw[ap,ap,h1,ih]
def Pairs.app(h:Pairs N c L M)(h':Pairs N c L' M'):Pairs N c (L++L') (M++M'):=by
 induction h with
 |nil=>exact h'
 |cons h1 h2 h3 h4 _ ih=>exact .cons h1 h2 h3 h4 ih
structure Half(pp hs:List Str)(k:Nat)(R:List (Str×Hl))(L:List Ent):Prop where
 ln:L.map (·.nm)=hs.take k
 pr:Pairs (pp++hs) 0 L R.reverse
def Half.rn(h:Half pp hs k R L):R.reverse.map (·.1)=hs.take k:=by rw[<-h.pr.names,h.ln]
def Ez(ws:List PV)(k:Nat)(hk:k<=ws.length):yj ws none (some (k:Int))=ws.take k:=by
 unfold yj;simp[HT.sIx];have:min k ws.length=k:=by omega
 split
 ·omega
 ·omega
def rj(a:Adr)(s:Sto)(p:Nat)(hp:p<s.nx)(hP:IsPurse s p)(R:List (Str×Hl))(pp:List Str)(L:List Ent)(n:Int)(h0:0<n)(h1:n<2^64)(x y:Int):∃r x' y',0<=r/\r<n/\lB a [.ref p,.int n] (bst s p R pp L x y)=.ok (.int r) (bst s p R pp L x' y'):=uM a hP (GN hp R pp L) n h0 h1 x y
def IT(a:Adr)(s:Sto)(p:Nat)(hp:p<s.nx)(hP:IsPurse s p)(R:List (Str×Hl))(pp:List Str)(L:List Ent)(x y:Int):∃q x' y',Part q/\qc a [.ref p] (bst s p R pp L x y)=.ok (frP q) (bst s p R pp L x' y'):=IS a hP (GN hp R pp L) x y
def Du(a:Adr)(s:Sto)(p:Nat)(hp:p<s.nx)(hP:IsPurse s p)(x y:Int){pp hs:List Str}(W:Words pp hs)(wd o6 o7 o8 o9 OJ OE OU OT OS:Option PV) :
  ∃x' y' R L o o',Half pp hs hs.length R L/\mL (lV (yName 7) (oT a)) (vG 0 hs.length) (fr0 p s.nx wd pp hs++[o6,o7,o8,o9,OJ,OE,OU,OT,OS]) (bst s p [] pp [] x y)=.nx (fr0 p s.nx wd pp hs++[o6,o,o',o9,OJ,OE,OU,OT,OS]) (bst s p R pp L x' y'):=by
 obtain⟨e',s',h1,x',y',R,L,o,o',rfl,rfl,hH⟩:=wP (body:=lV (yName 7) (oT a)) hs.length (fun k ρ t=>∃x y R L o o',t=bst s p R pp L x y/\ρ=fr0 p s.nx wd pp hs++[o6,o,o',o9,OJ,OE,OU,OT,OS]/\Half pp hs k R L)
  (fun k ρ t hk hI=>by
   obtain⟨x,y,R,L,o,o',rfl,rfl,hH⟩:=hI;have Of:R.length=k:=by have:=congrArg b6 hH.rn;simp at this;omega
   have hLl:L.length=k:=by have:=congrArg b6 hH.ln;simp at this;omega
   obtain⟨r,xa,ya,r0,r1,e1⟩:=rj a s p hp hP R pp L ((pp.length:Int)+(k:Int)) (by have:=W.p1;omega) (by have:=W.p6;have:=W.h8;omega) x y;obtain⟨ow,how,eow⟩:=z5 (ws:=pp++hs.take k) r0 (by rw[aE,ce];omega);obtain⟨t1,xb,yb,t10,t11,e2⟩:=rj a s p hp hP R pp L 100 (by decide) (by decide) xa ya;obtain⟨t2,xc,yc,t20,t21,e3⟩:=rj a s p hp hP R pp L 60 (by decide) (by decide) xb yb;obtain⟨t3,xd,yd,t30,t31,e4⟩:=rj a s p hp hP R pp L 40 (by decide) (by decide) xc yc;have hw:hs[k]?=some hs[k]:=br hk;have eh:atI (hs.map PV.str) (k:Int)=some (.str hs[k]):=mP (by simp[hk]);have Pj:hs[k]∈hs:=cR hk;have Oo:hs[k]∈pp++hs:=aB _ Pj;have ndh:hs.Nodup:=(aW.mp W.nd).2.1;have e5:hs.take (k+1)=hs.take k++[hs[k]]:=by rw[cI,hw];rfl
   have Qw:hs[k]∉hs.take k:=fun z=>by have:(hs.take (k+1)).Nodup:=ndh.sublist (dI _ _);rw[e5] at this;exact(aW.mp this).2.2 _ z _ ag rfl
   have RQ:hs[k]∉pp:=fun z=>(aW.mp W.nd).2.2 _ z _ Pj rfl;have Q2:ow∈pp++hs:=by
    rcases aJ.mp how with h|h
    ·exact a7 _ h
    ·exact aB _ (gX h)
   have hd:qr a pp L hs[k] ow t3=none:=by
    unfold qr;rw[BD a (W.nm _ Oo) RQ (by rw[hH.ln];exact Qw)];simp only;have hh:(nB pp ow||ni L ow)=true:=by rw[bT,nl,mM,hH.ln];exact aJ.mp how
    rw[if_neg (by rw[hh];decide),if_neg (by omega),if_neg];have:=W.h8;omega
   have T9:=Hs a s p R pp L xd yd hs[k] ow (t1-30) (t2-10) t3 ⟨(W.sm _ Oo).nm,(W.sm _ Q2).nm⟩ hd;have TK:=KR s p R pp (L++[⟨hs[k],t1-30,t2-10,t3,[(ow,1,1)]⟩]) xd yd hs[k] ow (by intro z;obtain⟨m,hm,e⟩:=ak.mp z;refine Qw ?_;rw[<-hH.rn,<-e];exact ak.mpr ⟨m,by simpa using hm,rfl⟩) (by have:=W.h8;omega)
   have Uq:yj (hs.map PV.str) none (some (k:Int))=(hs.take k).map PV.str:=by rw[Ez _ _ (by simp;omega),fI]
   have Up:atI (pp.map PV.str++List.take k (hs.map PV.str)) r=some (.str ow):=by rw[<-fI,<-ay];exact eow
   have RP:∀L x y,(bst s p R pp L x y).nx=s.nx+3+R.length:=fun _ _ _=>rfl;have ecat:pp.map PV.str++(hs.take k).map PV.str=(pp++hs.take k).map PV.str:=by simp
   have hsz:pp.length+min k hs.length<=100000:=by have:=W.p6;have:=W.h8;omega
   refine⟨_,_,?_,xd,yd,(hs[k],[(ow,1,1)])::R,L++[⟨hs[k],t1-30,t2-10,t3,[(ow,1,1)]⟩],some (.int k),some (.str ow),rfl,rfl,?_⟩
   ·simp[sem,og,lC,lV,oT,fr0,sA,e1,e2,e3,e4,Up,eh,T9,TK,Uq,hsz,RP]
   ·refine⟨?_,?_⟩
    ·rw[ay,hH.ln,e5];rfl
    ·rw[List.reverse_cons];exact hH.pr.app (.cons rfl (NJ 0 (W.sm _ Q2)) (fun n hn=>by cases au.mp hn;exact Q2) t30 .nil)) (ρ:=fr0 p s.nx wd pp hs++[o6,o7,o8,o9,OJ,OE,OU,OT,OS]) (s:=bst s p [] pp [] x y) ⟨x,y,[],[],o7,o8,rfl,rfl,⟨by simp,.nil⟩⟩
 exact⟨x',y',R,L,o,o',hH,h1⟩
def zu(l:Hl):List Str:=(l.map (·.1)).filter fun n=>decide (0<(lA l n).1)
def havN_srt:n∈srt (zu l)↔n∈l.map (·.1)/\0<(lA l n).1:=by rw[(lx _).mem_iff];unfold zu;rw[cv,decide_eq_true_iff]
def GZ:∀(l:List (Nat×Cell)),oo l n=some c->ra n c l=l:=by
 intro l;induction l with
 |nil=>intro h;cases h
 |cons q r ih =>
  obtain⟨k,d⟩:=q;intro h;rw[sk] at h;rw[ve];by_cases e:k=n
  ·rw[if_pos e] at h ⊢;cases h;rw[e]
  ·rw[if_neg e] at h ⊢;rw[ih h]
def Io{t:Sto}{n:Nat}{c:Cell}(h:t.get n=some c):t.set n c=t:=by unfold Sto.set;rw[GZ _ h]
def Hu{ρ:En}{t:Sto}{n:Nat}{l:Hl}(hρ:ρ[10]?=some (some (.ref n)))(hg:t.get n=some (.dct (hP l)))(hl:l.length<=100000) :
  z8 10 [10] (xTr (x2 (x2 (x2 (xVar 1) (xVar 0) fIx) (xC (.int 0)) fIx) (xC (.int 0)) fGt)) (xVar 0) ρ t=.ok (.lst ((zu l).map .str)) t:=by
 have SU:(t.set n (.dfz (hP l))).get n=some (.dfz (hP l)):=qY hg;have Of:(hP l).length<=100000:=by unfold hP;simpa using hl
 have ek:((hP l).map fun kv=>BJ kv.1)=(l.map (·.1)).map PV.str:=by unfold hP;simp[BJ]
 have hc:nc (xTr (x2 (x2 (x2 (xVar 1) (xVar 0) fIx) (xC (.int 0)) fIx) (xC (.int 0)) fGt)) (xVar 0) (my [10] ρ) ((l.map (·.1)).map PV.str) (t.set n (.dfz (hP l)))=.ok (((((l.map (·.1)).map PV.str).filter fun q=>match q with
   |.str w=>decide (0<(lA l w).1)
   |_=>false)).map id) (t.set n (.dfz (hP l))):=by
  refine xV _ _ _ (fun q hq=>?_) (fun q hq _=>?_)
  ·obtain⟨w,hw,rfl⟩:=ak.mp hq;have hv:=AG l w hw;simp[sem,og,lC,nN,my,hρ,SU,hv,frP,at0,fGt]
  ·simp[xVar]
 unfold z8;rw[hρ];simp only;rw[hg];simp only;rw[if_pos Of,ek,hc];simp only[Out.bind,thw,SU,CG,Io hg]
 congr 2
 unfold zu;rw[gY,eA];rfl
def shr(g q:Int×Int):Int×Int:=red (g.1*q.1,g.2*q.2)
def MV(hc:c<=11)(hg:FrC c g)(g0:0<g.1)(hq:Part q)(hb:(shr g q).2<10^28):ShOk (shr g q)/\0<(shr g q).1/\(shr g q).1*g.2<=g.1*(shr g q).2:=by
 have q2:0<q.2:=hq.low.1;have g2:0<g.2:=hg.low.1;obtain⟨lo,ev⟩:=tM (q:=(g.1*q.1,g.2*q.2)) (bE g2 q2);simp only at ev
 change Low (shr g q) at lo
 change (shr g q).1*(g.2*q.2)=g.1*q.1*(shr g q).2 at ev
 generalize shr g q=r at *;have r2:0<r.2:=lo.1;have p1:0<g.1*q.1*r.2:=bE (bE g0 hq.pos) r2;have r1:0<r.1:=by
  rcases Int.lt_trichotomy 0 r.1 with h|h|h
  ·exact h
  ·rw[<-h,kD] at ev;omega
  ·have:=Int.mul_neg_of_neg_of_pos h (bE g2 q2);omega
 have le1:r.1*g.2<=g.1*r.2:=by
  refine cD (a:=q.2) ?_ q2;have e1:r.1*g.2*q.2=g.1*r.2*q.1:=by rw[aN,ev,aN,aN,bh q.1]
  rw[e1];exact Int.mul_le_mul_of_nonneg_left hq.le (bB (bE g0 r2))
 have bb:Bt 94 r.2:=by unfold Bt;omega
 refine⟨⟨lo,?_,bb⟩,r1,le1⟩;have hv:=Go hg lo le1;have hp:((2^c:Nat):Int)<=2048:=by have:2^c<=2^11:=bD (by decide) hc;omega
 have:r.1<=2048*r.2:=d8 hv (aQ hp (bB r2));unfold Bt;omega
def ML(hc:c<=11)(hg:FrC c g)(hq:Part q):Two' g q:=by
 have q2:=hq.low.1;have h1:=hq.bb;have h2:=hq.le;have h3:=hq.pos;refine⟨hg.low.1,q2,⟨hg.bb.mono (by omega),?_⟩,hg.top.mono (by omega),?_⟩
 ·have:Bt 30 q.2:=by unfold Bt;omega
  exact this.mono (by decide)
 ·have:Bt 30 q.1:=by unfold Bt;omega
  exact this.mono (by decide)
def FrB.top(hc:c<=11)(hk:k<=3000)(hg:FrB k (2^c:Nat) g):Bt 4000 g.1:=by
 have hp:((2^c:Nat):Int)<=2048:=by have:2^c<=2^11:=bD (by decide) hc;omega
 have h2:=hg.low.1;have:g.1<=2048*g.2:=d8 hg.le (aQ hp (bB h2));have b:Bt (12+k) (2048*g.2):=Bt.mul (by unfold Bt;decide:Bt 12 2048) hg.bb;have b2:Bt 4000 (2048*g.2):=b.mono (by omega);have h0:=hg.nn;unfold Bt at b2 ⊢;omega
def JD(hc:c<=11)(hk:k<=3000)(hg:FrB k (2^c:Nat) g)(hq:ShOk q):Two' g q :=
 ⟨hg.low.1,hq.low.1,⟨hg.bb.mono (by omega),hq.bb.mono (by omega)⟩,(hg.top hc hk).mono (by omega),hq.bt.mono (by omega)⟩
def Ku(h:Two' g q):Two' g (-q.1,q.2):=⟨h.p0,h.q0,h.b,h.t.1,h.t.2.neg⟩
def wS(hn:e.nm∉A.map (·.nm)):mj (A++e::B) e.nm=some e:=by
 unfold mj;rw[gg,cx.mpr]
 ·simp
 ·intro x hx z;exact hn (ak.mpr ⟨x,hx,of_decide_eq_true z⟩)
def qQ(g:Ent->Ent)(h1:e.nm∉A.map (·.nm))(h2:e.nm∉B.map (·.nm)):qZ (A++e::B) e.nm g=A++g e::B:=by
 have no:∀{l:List Ent},e.nm∉l.map (·.nm)->l.map (fun x=>if x.nm=e.nm then g x else x)=l:=fun{l} h=>by
  conv=>rhs;rw[<-gY l]
  refine aR fun x hx=>?_;rw[if_neg fun z=>h (ak.mpr ⟨x,hx,z⟩)];rfl
 unfold qZ;rw[ay,ap,if_pos rfl,no h1,no h2]
def D2(s:Sto)(p:Nat)(h:Str)(l:Hl)(post pr:List (Str×Hl))(pp:List Str)(L:List Ent)(x y:Int)(o:Str)(q:Int×Int)(hl:l.length<1000) :
  nN (.ref (s.nx+3+pr.length)) (.str o) (frP q) (bst s p (post++(h,l)::pr) pp L x y)=some (bst s p (post++(h,oF l o q)::pr) pp L x y):=by
 have Of:(hP l).length<100000:=by unfold hP;rw[af];omega
 simp only[nN,va,kyOf,Of,if_true,NK,Jy]
def Iw(a:Adr)(s:Sto)(p:Nat)(R:List (Str×Hl))(pp:List Str)(A B:List Ent)(e:Ent)(x y:Int)(o1 o2:Str)(q:Int×Int)(nd:((A++e::B).map (·.nm)).Nodup)(hn:Nm e.nm/\Nm o1/\Nm o2)(hz:Sz q)(ok:SaleOk e.held o1 q)(h1:(nB pp o1||ni (A++e::B) o1)=true)(h2:(nB pp o2||ni (A++e::B) o2)=true)(nt:¬nJ e.held o1 q) :
  pZ a [.ref (s.nx+1),.str e.nm,.str o1,.str o2,frP q] (bst s p R pp (A++e::B) x y)=.ok .non (bst s p R pp (A++{ e with held:=pz e.held o1 o2 q }::B) x y):=by
 rw[ay,ap] at nd;have n1:e.nm∉A.map (·.nm):=fun z=>(aW.mp nd).2.2 _ z _ ag rfl;have n2:e.nm∉B.map (·.nm):=(az.mp (aW.mp nd).2.1).1;have hS:SaleE (A++e::B) e.nm o1 o2 q:=⟨by rw[ay,ap];exact nd,hn,hz,fun e' he=>by rw[wS n1] at he;cases he;exact ok⟩;obtain⟨t,b⟩:=q;simp[pZ,lZ,sA,hS,wS n1,nt,frP,zY,qQ _ n1 n2];rw[bT] at h1 h2;rw[if_neg (by intro z;rcases h1 with h|h<;>simp_all),if_neg (by intro z;rcases h2 with h|h<;>simp_all)]
def G2(a:Adr)(s:Sto)(p:Nat)(hp:p<s.nx)(hP:IsPurse s p)(W:Words pp hs)(post pr:List (Str×Hl))(A B:List Ent)(e:Ent)(l:Hl)(x y:Int)(hc:c<=4)(QJ:(A++e::B).map (·.nm)=hs)(hr:HR c e.held l)(hN:∀n∈l.map (·.1),n∈pp++hs)(wd o6 o7 o8 OE OU OT OS:Option PV) :
  ∃x' y' O1 l' u1 u2 u3 u4,nZ a (fr0 p s.nx wd pp hs++[o6,o7,o8,some (.str e.nm),some (.ref (s.nx+3+pr.length)),OE,OU,OT,OS]) (bst s p (post++(e.nm,l)::pr) pp (A++e::B) x y)
  =.nx (fr0 p s.nx wd pp hs++[o6,o7,o8,some (.str e.nm),some (.ref (s.nx+3+pr.length)),u1,u2,u3,u4]) (bst s p (post++(e.nm,l')::pr) pp (A++{ e with held:=O1 }::B) x' y')/\HR (c+1) O1 l'/\∀n∈l'.map (·.1),n∈pp++hs:=by
 have hav:=Hu (ρ:=fr0 p s.nx wd pp hs++[o6,o7,o8,some (.str e.nm),some (.ref (s.nx+3+pr.length)),OE,OU,OT,OS]) rfl (va s p e.nm l post pr pp (A++e::B) x y) (by have:=hr.l2;omega);have Ot:srt (zu l)≠[]:=by obtain⟨n,hn⟩:=hr.ex;rw[hr.q] at hn;intro z;have:n∈srt (zu l):=havN_srt.mpr ⟨hr.had hn,hn⟩;rw[z] at this;cases this
 have Ow:(zu l).length<=5:=by unfold zu;refine aC (fA _ _) ?_;rw[af];have:=hr.l2;omega
 have Q0:0<(zu l).length:=by rw[<-lH];exact kO.mpr Ot
 obtain⟨r,xa,ya,r0,r1,e1⟩:=rj a s p hp hP (post++(e.nm,l)::pr) pp (A++e::B) ((zu l).length:Int) (by omega) (by omega) x y;obtain⟨w1,hw1,ew1⟩:=z5 (ws:=srt (zu l)) r0 (by rw[lH];exact r1);obtain⟨Qj,Rx⟩:=havN_srt.mp hw1;obtain⟨r',xb,yb,r0',r1',e2⟩:=rj a s p hp hP (post++(e.nm,l)::pr) pp (A++e::B) ((pp.length:Int)+(hs.length:Int)) (by have:=W.p1;omega) (by have:=W.p6;have:=W.h8;omega) xa ya;obtain⟨w2,SL,ew2⟩:=z5 (ws:=pp++hs) r0' (by rw[aE];omega);obtain⟨q,xc,yc,hq,e3⟩:=IT a s p hp hP (post++(e.nm,l)::pr) pp (A++e::B) xb yb;have P9:FrC c (lA l w1):=by rw[<-hr.q];exact hr.fr w1
 have e4:=Hi a (bst s p (post++(e.nm,l)::pr) pp (A++e::B) xc yc) (lA l w1) q (ML (by omega) P9 hq);have hv:=AG l w1 Qj;have hg:=fun x y=>va s p e.nm l post pr pp (A++e::B) x y;have sz1:pp.length+hs.length<=100000:=by have:=W.p6;have:=W.h8;omega
 have sz2:(zu l).length<64:=by omega
 have Se:atI (pp.map PV.str++hs.map PV.str) r'=some (.str w2):=by rw[<-ay];exact ew2
 have hcom:∀k:Nat->Prop,True:=fun _=>trivial;by_cases hb:(shr (lA l w1) q).2<10^28
 ·obtain⟨ok,sp,sl⟩:=MV (by omega) P9 Rx hq hb;have Rr:(shr (lA l w1) q).2<10000000000000000000000000000:=hb
  change ol a [frP (lA l w1),frP q] _=.ok (frP (shr (lA l w1) q)) _ at e4
  generalize shr (lA l w1) q=sh at *;have nt:¬nJ e.held w1 sh:=by
   intro z;rcases z with z|z
   ·exact z sp
   ·rw[hr.q] at z;omega
  have nde:((A++e::B).map (·.nm)).Nodup:=by rw[QJ];exact(aW.mp W.nd).2.1
  have Oo:∀n∈pp++hs,(nB pp n||ni (A++e::B) n)=true:=fun n hn=>by rw[bT,nl,mM,QJ];exact aJ.mp hn
  have ein:e.nm∈pp++hs:=aB _ (by rw[<-QJ];simp);have e5:=Iw a s p (post++(e.nm,l)::pr) pp A B e xc yc w1 w2 sh nde ⟨(W.sm _ ein).nm,(W.sm _ (hN _ Qj)).nm,(W.sm _ SL).nm⟩ ok.sz (hr.saleOk (by omega) ok) (Oo _ (hN _ Qj)) (Oo _ SL) nt;have R1:=CA P9 ok.low sp sl ok.bb;have e6:=Eb a (bst s p (post++(e.nm,l)::pr) pp (A++{ e with held:=pz e.held w1 w2 sh }::B) xc yc) (lA l w1) (-sh.1,sh.2) (Ku (JD (c:=c) (by omega) (by omega) P9 ok));have Px:=D2 s p e.nm l post pr pp (A++{ e with held:=pz e.held w1 w2 sh }::B) xc yc w1 (ng (lA l w1) (-sh.1,sh.2)) (by have:=hr.l2;omega);generalize hl1:oF l w1 (ng (lA l w1) (-sh.1,sh.2))=l1 at *;have g1:FrB (192*c+2+94) (2^c:Nat) (lA l1 w2):=by
   rw[<-hl1,mQ];by_cases z:w2=w1
   ·rw[if_pos z];exact R1
   ·rw[if_neg z,<-hr.q];have f2:=hr.fr w2;exact⟨f2.low,f2.nn,f2.le,f2.bb.mono (by omega)⟩
  have e7:=Eb a (bst s p (post++(e.nm,l1)::pr) pp (A++{ e with held:=pz e.held w1 w2 sh }::B) xc yc) (lA l1 w2) sh (JD (by omega) (by omega) g1 ok);have TY:l1.length<1000:=by rw[<-hl1];have:=CN l w1 (ng (lA l w1) (-sh.1,sh.2));have:=hr.l2;omega
  have Rl:=D2 s p e.nm l1 post pr pp (A++{ e with held:=pz e.held w1 w2 sh }::B) xc yc w2 (ng (lA l1 w2) sh) TY;have Rp:=va s p e.nm l post pr pp (A++{ e with held:=pz e.held w1 w2 sh }::B) xc yc;have hg3:=va s p e.nm l1 post pr pp (A++{ e with held:=pz e.held w1 w2 sh }::B) xc yc;have Qz:=NL l1 w2;have hlw:AW l w1 w2 sh=oF l1 w2 (ng (lA l1 w2) sh):=by unfold AW;simp only[hl1]
  refine⟨xc,yc,pz e.held w1 w2 sh,AW l w1 w2 sh,some (.lst ((srt (zu l)).map .str)),some (.str w1),some (.str w2),some (.tup [.int sh.1,.int sh.2]),?_,hr.sale ok (W.sm _ SL) nt,?_⟩
  ·unfold nZ;simp only[xSeq,xSet,xB,xCons,xNil,hav];simp only[frP] at e3 e4 hv e5 e6 Px e7 Rl Qz;simp[sem,og,lC,fr0,qX,sz2,lH,e1,ew1,sz1,e2,Se,hg,hv,e3,e4,at0,at1,fLt,Rr,sA,e5,Rp,e6,Px,hg3,Qz,e7,Rl,hlw]
  ·intro n hn;have h1:∀n∈l1.map (·.1),n∈pp++hs:=fun n hn=>by rw[<-hl1,mF,if_pos Qj] at hn;exact hN n hn
   rw[hlw,mF] at hn;split at hn
   ·exact h1 n hn
   ·rcases aJ.mp hn with h|h
    ·exact h1 n h
    ·rw[au.mp h];exact SL
 ·refine⟨xc,yc,e.held,l,some (.lst ((srt (zu l)).map .str)),some (.str w1),some (.str w2),some (.tup [.int (shr (lA l w1) q).1,.int (shr (lA l w1) q).2]),?_,hr.mono (by omega),hN⟩
  change ol a [frP (lA l w1),frP q] _=.ok (frP (shr (lA l w1) q)) _ at e4
  have Ue:¬(shr (lA l w1) q).2<10000000000000000000000000000:=hb;unfold nZ;simp only[xSeq,xSet,xB,xCons,xNil,hav];simp only[frP] at e3 e4 hv;simp[sem,og,lC,nN,fr0,qX,sz2,lH,e1,ew1,sz1,e2,Se,hg,hv,e3,e4,at1,fLt,Ue]
def E5(a:Adr)(s:Sto)(p:Nat)(hp:p<s.nx)(hP:IsPurse s p)(W:Words pp hs)(post pr:List (Str×Hl))(A B:List Ent)(e:Ent)(l:Hl)(x y:Int)(QJ:(A++e::B).map (·.nm)=hs)(RQ:e.nm∉pr.map (·.1))(hr:HR 0 e.held l)(hN:∀n∈l.map (·.1),n∈pp++hs)(wd o6 o7 o8 o9 OJ OE OU OT OS:Option PV) :
  ∃x' y' O1 l' u7 u9 Pc u1 u2 u3 u4,lV (yName 9) (oS a) (.str e.nm) (fr0 p s.nx wd pp hs++[o6,o7,o8,o9,OJ,OE,OU,OT,OS]) (bst s p (post++(e.nm,l)::pr) pp (A++e::B) x y)
  =.nx (fr0 p s.nx wd pp hs++[o6,u7,o8,u9,Pc,u1,u2,u3,u4]) (bst s p (post++(e.nm,l')::pr) pp (A++{ e with held:=O1 }::B) x' y')/\HR 5 O1 l'/\∀n∈l'.map (·.1),n∈pp++hs:=by
 have hv:=Et (s.nx+3) e.nm l pr RQ post;have hg:=zZ s p (post++(e.nm,l)::pr) pp (A++e::B) x y;obtain⟨r,xa,ya,r0,r1,e1⟩:=rj a s p hp hP (post++(e.nm,l)::pr) pp (A++e::B) 6 (by decide) (by decide) x y;obtain⟨j,rfl⟩:∃j:Nat,r=j:=⟨r.toNat,by omega⟩;obtain⟨e',s',h1,x',y',O1,l',u7,u1,u2,u3,u4,rfl,rfl,hR,hN'⟩:=wP (body:=lV (yName 7) (nZ a)) j (fun k ρ t=>∃x y hl l u7 u1 u2 u3 u4,t=bst s p (post++(e.nm,l)::pr) pp (A++{ e with held:=hl }::B) x y/\ρ=fr0 p s.nx wd pp hs++[o6,u7,o8,some (.str e.nm),some (.ref (s.nx+3+pr.length)),u1,u2,u3,u4]/\HR k hl l/\∀n∈l.map (·.1),n∈pp++hs)
  (fun k ρ t hk hI=>by obtain⟨x,y,hl,l,u7,u1,u2,u3,u4,rfl,rfl,hr,hN⟩:=hI;obtain⟨x',y',O1,l',v1,v2,v3,v4,h1,h2,h3⟩:=G2 a s p hp hP W post pr A B { e with held:=hl } l x y (c:=k) (by omega) (by rw[<-QJ];simp) hr hN wd o6 (some (.int k)) o8 u1 u2 u3 u4;refine⟨_,_,?_,x',y',O1,l',some (.int k),v1,v2,v3,v4,rfl,rfl,h2,h3⟩;rw[<-h1];rfl) (ρ:=fr0 p s.nx wd pp hs++[o6,o7,o8,some (.str e.nm),some (.ref (s.nx+3+pr.length)),OE,OU,OT,OS]) (s:=bst s p (post++(e.nm,l)::pr) pp (A++e::B) xa ya) ⟨xa,ya,e.held,l,o7,OE,OU,OT,OS,rfl,rfl,hr,hN⟩
 refine⟨x',y',O1,l',u7,some (.str e.nm),some (.ref (s.nx+3+pr.length)),u1,u2,u3,u4,?_,hR.mono (by omega),hN'⟩;simp only[fr0,cg,bI] at h1;have hj:(j:Int)<4611686018427387904:=by omega
 simp[sem,og,lC,nN,lV,oS,fr0,hg,hv,e1,h1,hj]
def E6(a:Adr)(s:Sto)(p:Nat)(hp:p<s.nx)(hP:IsPurse s p)(W:Words pp hs)(wd o6 o8:Option PV):∀(B:List Ent)(M:List (Str×Hl)),Pairs (pp++hs) 0 B M->∀(A:List Ent)(pr:List (Str×Hl))(x y:Int)(o7 o9 OJ OE OU OT OS:Option PV),Pairs (pp++hs) 5 A pr.reverse->(A++B).map (·.nm)=hs ->
  ∃x' y' R L u7 u9 Pc u1 u2 u3 u4,mL (lV (yName 9) (oS a)) ((B.map (·.nm)).map .str) (fr0 p s.nx wd pp hs++[o6,o7,o8,o9,OJ,OE,OU,OT,OS]) (bst s p (M.reverse++pr) pp (A++B) x y)
  =.nx (fr0 p s.nx wd pp hs++[o6,u7,o8,u9,Pc,u1,u2,u3,u4]) (bst s p R pp L x' y')/\Pairs (pp++hs) 5 L R.reverse/\L.map (·.nm)=hs:=by
 intro B M hB;induction hB with
 |nil =>
  intro A pr x y o7 o9 OJ OE OU OT OS hA hn;refine⟨x,y,pr,A,o7,o9,OJ,OE,OU,OT,OS,?_,hA,by simpa using hn⟩
  ·simp[mL]
 |@cons e m B M h1 h2 h3 h4 _ ih =>
  intro A pr x y o7 o9 OJ OE OU OT OS hA hn;obtain⟨h,l⟩:=m;simp only at h1 h2 h3;subst h1;have RQ:e.nm∉pr.map (·.1):=by
   intro z;have z2:e.nm∈A.map (·.nm):=by rw[hA.names];obtain⟨m,hm,e⟩:=ak.mp z;exact ak.mpr ⟨m,by simpa using hm,e⟩
   have nd:((A++e::B).map (·.nm)).Nodup:=by rw[hn];exact(aW.mp W.nd).2.1
   rw[ay,ap] at nd;exact(aW.mp nd).2.2 _ z2 _ ag rfl
  obtain⟨xa,ya,O1,l',u7,u9,Pc,u1,u2,u3,u4,g1,g2,g3⟩:=E5 a s p hp hP W M.reverse pr A B e l x y hn RQ h2 h3 wd o6 o7 o8 o9 OJ OE OU OT OS;obtain⟨xb,yb,R,L,v7,v9,Tg,v1,v2,v3,v4,k1,k2,k3⟩:=ih (A++[{ e with held:=O1 }]) ((e.nm,l')::pr) xa ya u7 u9 Pc u1 u2 u3 u4 (by rw[List.reverse_cons];exact hA.app (.cons rfl g2 g3 h4 .nil)) (by rw[<-hn];simp)
  refine⟨xb,yb,R,L,v7,v9,Tg,v1,v2,v3,v4,?_,k2,k3⟩;have er:((e.nm,l)::M).reverse++pr=M.reverse++(e.nm,l)::pr:=by simp
  have ea:A++{ e with held:=O1 }::B=(A++[{ e with held:=O1 }])++B:=by simp
  rw[er,ap,ap];unfold mL;rw[g1];simp only;rw[ea];exact k1
def ly(h:f ρ s=.nx ρ' s'):xSeq f g ρ s=g ρ' s':=by unfold xSeq;rw[h]
def mO(h:g (vs.map some++aT (N-vs.length) none) s=.rt v s'):fnD N g vs s=.ok v s':=by unfold fnD;rw[h]
def FL(h:g (vs.map some++aT (N-vs.length) none) s=.nx ρ s'):fnD N g vs s=.ok .non s':=by unfold fnD;rw[h]
def p62:(2:Int)^62=4611686018427387904:=by decide
def lo62(n:Nat):-(2^62)<=(n:Int):=by
 rw[p62];have:(-4611686018427387904:Int)<=n:=by omega
 exact this
def hi62{n:Nat}(hn:n<1000000):(n:Int)<2^62:=by
 rw[p62];have:(n:Int)<4611686018427387904:=by omega
 exact this
def Jz(v:α)(s:Sto)(f:α->Sto->Out β):(Out.ok v s).bind f=f v s:=rfl
def KI{fa:XA}{ρ:En}{s s1:Sto}{j:Int}(h:fa ρ s=.ok [.int j] s1):xRng1 fa ρ s=if -(2^62)<=j/\j<2^62 then Out.ok (vG 0 j.toNat) s1 else Out.bad:=by unfold xRng1;rw[h,Jz]
def F6{fa:XA}{ρ:En}{s s1:Sto}{n:Nat}(h:fa ρ s=.ok [.int n] s1)(hn:n<1000000):xRng1 fa ρ s=.ok (vG 0 n) s1:=by rw[KI h,if_pos ⟨lo62 n,hi62 hn⟩,Int.toNat_natCast]
def pR(h1:fi ρ s=.ok l s1)(h2:mL (lV y body) l ρ s1=.nx ρ' s'):xFor fi y body ρ s=.nx ρ' s':=by unfold xFor;rw[h1];simp only[Out.so];rw[h2];rfl
def Dh{ws:List Str}{OM:Int}(hl:ws.length=14)(hW:∀j w,ws[j]?=some w->Wd OM j w):ws.Nodup:=by rw[List.nodup_iff_pairwise_ne,List.pairwise_iff_getElem];intro i j hi hj SS e;have h1:=(hW i _ (br hi)).2.2;have h2:=(hW j _ (br hj)).2.2;rw[e,h2] at h1;have:=aU h1;omega
def HY{ws:List Str}{OM:Int}(hl:ws.length=14)(hW:∀j w,ws[j]?=some w->Wd OM j w){P Q:Nat}(p1:1<=P)(p6:P<=6)(q8:Q<=8):Words (ws.take P) ((ws.drop 6).take Q):=by
 have sub:(ws.take P++(ws.drop 6).take Q).Sublist ws:=by
  conv=>rhs;rw[<-List.take_append_drop 6 ws]
  refine List.Sublist.append ?_ (dI _ _);have:ws.take P=(ws.take 6).take P:=by rw[List.take_take,Nat.min_eq_left p6]
  rw[this];exact dI _ _
 have all:∀w∈ws.take P++(ws.drop 6).take Q,Sm w/\pG w=true:=fun w hw=>by obtain⟨j,hj⟩:=gZ (sub.subset hw);exact⟨(hW j w hj).1,(hW j w hj).2.1⟩
 refine⟨(Dh hl hW).sublist sub,fun w hw=>(all w hw).1,fun w hw=>(all w hw).2,?_,?_,?_,fun x hx y hy e=>?_⟩
 ·rw[ce];omega
 ·rw[ce];omega
 ·rw[ce,fC];omega
 ·obtain⟨i,hi⟩:=gZ (sub.subset hx);obtain⟨j,hj⟩:=gZ (sub.subset hy);have li:i<14:=by have:=(aY.mp hi).1;omega
  have lj:j<14:=by have:=(aY.mp hj).1;omega
  have h1:=(hW i x hi).2.2;have h2:=(hW j y hj).2.2;rw[e,h2] at h1;have h3:=aU h1;have:i=j:=by omega
  subst this;rw[hi] at hj;exact aU hj
def LZ(ws:List PV)(hl:ws.length=14)(k:Nat)(hk:k<=8):yj ws (some 6) (some (6+(k:Int)))=(ws.drop 6).take k:=by
 unfold yj;simp[HT.sIx,hl];have h:¬(6+(k:Int)<0):=by omega
 rw[if_neg h];omega
def kst(s:Sto)(p n:Nat)(pp:List Str)(L:List Ent)(x y:Int):Sto:=stk n [(s.nx+1,.book pp L)] s p x y
def LG(s:Sto)(p:Nat)(R:List (Str×Hl))(pp:List Str)(L:List Ent)(x y:Int):Mz (.ref (s.nx+2)) (bst s p R pp L x y)=.ok (.dct (l9 R.reverse)) (kst s p (s.nx+3+R.length) pp L x y):=by
 have ed:(bst s p R pp L x y).del (s.nx+2)=⟨s.nx+3+R.length,[]++(oI (s.nx+3) R++([(s.nx+1,.book pp L)]++(pst s p x y).cs))⟩:=by unfold bst stk Sto.del AS;simp only[bI];rw[aO,Ex (uY R (by omega)),cg,BS,if_pos rfl]
 unfold Mz frz1;simp only[zZ];rw[ed,Ek (s.nx+3) (s.nx+3+R.length) R [] _ (fun q hq=>by cases hq)];rfl
def Jx(a:Adr)(s:Sto)(p:Nat)(hp:p<s.nx)(hP:IsPurse s p):∃n pp hs L M x y,s.nx+1<n/\Words pp hs/\Pairs (pp++hs) 5 L M/\L.map (·.nm)=hs /\
  tf a [.ref p] s=.ok (.lst [.ref (s.nx+1),.lst ((srt pp).map .str),.dct (l9 M)]) (kst s p n pp L x y):=by
 obtain⟨x,y,ws,OM,hl,f0,hW,e0⟩:=Ja a s p hp hP;have Ot:∀q∈[(s.nx+1,Cell.book [] [])],q.1≠p:=fun q hq=>by cases au.mp hq;exact fun z=>by simp only at z;omega
 obtain⟨r1,xa,ya,QG,Sv,e1⟩:=uM a (nx:=s.nx+2) (pre:=[(s.nx+1,.book [] [])]) hP Ot 8 (by decide) (by decide) x y;obtain⟨P,hPm,eP⟩:=at8 [2,3,1,4,6,2,3,5] rfl QG Sv;obtain⟨r2,xb,yb,Tq,Tp,e2⟩:=uM a (nx:=s.nx+2) (pre:=[(s.nx+1,.book [] [])]) hP Ot 8 (by decide) (by decide) xa ya;obtain⟨Q,hQm,eQ⟩:=at8 [3,4,2,5,6,1,8,0] rfl Tq Tp;obtain⟨i,rfl⟩:∃i:Nat,P=i:=⟨P.toNat,by simp at hPm;omega⟩;obtain⟨j,rfl⟩:∃j:Nat,Q=j:=⟨Q.toNat,by simp at hQm;omega⟩;have i1:1<=i/\i<=6:=by simp at hPm;omega
 have j1:j<=8:=by simp at hQm;omega
 have W:=HY hl hW i1.1 i1.2 j1;have c1:yj (ws.map PV.str) none (some (i:Int))=(ws.take i).map PV.str:=by rw[Ez _ _ (by simp;omega),fI]
 have c2:yj (ws.map PV.str) (some 6) (some (6+(j:Int)))=((ws.drop 6).take j).map PV.str:=by rw[LZ _ (by simp[hl]) _ j1,fI,List.map_drop]
 generalize ws.take i=pp at *;generalize (ws.drop 6).take j=hs at *;have h0:∀x y,(stk (s.nx+2) [(s.nx+1,.book [] [])] s p x y).add (.dct [])=bst s p [] [] [] x y:=fun _ _=>rfl;have n1:∀x y,(Sto.bump (pst s p x y)).nx=s.nx+1:=fun _ _=>rfl;have n2:∀x y,(stk (s.nx+2) [(s.nx+1,.book [] [])] s p x y).nx=s.nx+2:=fun _ _=>rfl;have Ru:∀x y,(Sto.bump (pst s p x y)).add (.book [] [])=stk (s.nx+2) [(s.nx+1,.book [] [])] s p x y:=fun _ _=>rfl;obtain⟨o6,l1⟩:=Cm a s p xb yb W (some (.lst (ws.map .str))) none none none none none none none none none;obtain⟨xc,yc,R,L,o7,o8,hH,l2⟩:=Du a s p hp hP xb yb W (some (.lst (ws.map .str))) o6 none none none none none none none none;have QJ:L.map (·.nm)=hs:=by have:=hH.ln;rwa[dU] at this
 obtain⟨xd,yd,R',L',u7,u9,Pc,u1,u2,u3,u4,l3,hPr,hn⟩:=E6 a s p hp hP W (some (.lst (ws.map .str))) o6 o8 L R.reverse hH.pr [] [] xc yc o7 none none none none none none .nil (by simpa using QJ);rw[List.reverse_reverse,bJ,bI,QJ] at l3;refine⟨s.nx+3+R'.length,pp,hs,L',R'.reverse,xd,yd,by omega,W,hPr,hn,?_⟩;have fz:=LG s p R' pp L' xd yd;simp only[fr0,cg,bI] at l1 l2 l3;have OH:pp.length<64:=by have:=W.p6;omega
 simp at eP eQ;have T1:sO a [some (.ref p),none,none,none,none,none,none,none,none,none,none,none,none,none,none] s=.rt (.lst [.ref (s.nx+1),.lst ((srt pp).map .str),.dct (l9 R'.reverse)]) (kst s p (s.nx+3+R'.length) pp L' xd yd):=by unfold sO;rw[ly (ρ':=[some (.ref p),some (.lst (ws.map .str)),none,none,none,none,none,none,none,none,none,none,none,none,none]) (s':=Sto.bump (pst s p x y)) (by simp[sem,og,lC,nN,e0])];rw[ly (ρ':=[some (.ref p),some (.lst (ws.map .str)),some (.ref (s.nx+1)),none,none,none,none,none,none,none,none,none,none,none,none]) (s':=stk (s.nx+2) [(s.nx+1,.book [] [])] s p x y) (by simp[sem,og,lC,nN,n1,Ru])];rw[ly (ρ':=[some (.ref p),some (.lst (ws.map .str)),some (.ref (s.nx+1)),some (.lst (pp.map .str)),none,none,none,none,none,none,none,none,none,none,none]) (s':=stk (s.nx+2) [(s.nx+1,.book [] [])] s p xa ya) (by simp[sem,og,lC,nN,e1,eP,c1])];rw[ly (ρ':=[some (.ref p),some (.lst (ws.map .str)),some (.ref (s.nx+1)),some (.lst (pp.map .str)),some (.lst (hs.map .str)),none,none,none,none,none,none,none,none,none,none]) (s':=stk (s.nx+2) [(s.nx+1,.book [] [])] s p xb yb) (by simp[sem,og,lC,nN,e2,eQ,c2])];rw[ly (ρ':=[some (.ref p),some (.lst (ws.map .str)),some (.ref (s.nx+1)),some (.lst (pp.map .str)),some (.lst (hs.map .str)),some (.ref (s.nx+2)),none,none,none,none,none,none,none,none,none]) (s':=bst s p [] [] [] xb yb) (by simp[sem,og,lC,nN,n2,h0])];rw[ly (pR (l:=pp.map .str) (s1:=bst s p [] [] [] xb yb) (by simp[sem,og,lC,nN]) l1)];rw[ly (pR (l:=vG 0 hs.length) (s1:=bst s p [] pp [] xb yb) (F6 (n:=hs.length) (by simp[sem,og,lC,nN]) (by have:=W.h8;omega)) l2)];rw[ly (pR (l:=hs.map .str) (s1:=bst s p R pp L xc yc) (by simp[sem,og,lC,nN]) l3)];simp[sem,og,lC,nN,qX,OH,J8,fz]
 exact mO T1
section
variable{P:aI}{w:aX}{K:aa}{mg:Str->Option am}{base:bA}{a:Adr}{f:al}{fd:bQ}
def ny(a:Adr)(vs:List PV)(s:Sto):Out PV:=match vs with
 |[.str x]=>if x.length<=100000 then .ok (.bl (wc x)) s else .bad
 |_=>.bad
def yJ(vs:List V)(H:Hp)(Q:VK)(E:XK)(h:spD K a.Book 1 (ny a) vs H Q E):vD vs H Q E:=by
 obtain⟨_,ps,s,m,r,S,P⟩:=h;unfold ny at P;split at P
 ·split at P
  ·rename_i hz;cases r with
   |cons r1 r =>
    cases r;cases r1;exact⟨_,rfl,hz,fun H' hs=>P _ _ m (.same hs) (S.same hs) .bl⟩
  ·exact P.elim
 ·exact P.elim
def ms(a:Adr)(vs:List PV)(s:Sto):Out PV:=match vs with
 |[.int n,.int m]=>if 0<m then .ok (.int (aL n m)) s else .bad
 |_=>.bad
def KA(vs:List V)(H:Hp)(Q:VK)(E:XK)(h:spD K a.Book 2 (ms a) vs H Q E):Fz vs H Q E:=by
 obtain⟨_,ps,s,m,r,S,P⟩:=h;unfold ms at P;split at P
 ·split at P
  ·rename_i hz;cases r with
   |cons r1 r=>cases r with
    |cons r2 r =>
     cases r;cases r1;cases r2;exact⟨_,_,rfl,hz,P.here S .int⟩
  ·exact P.elim
 ·exact P.elim
variable (P w K mg base a) in abbrev Cz:=Fn P w K mg base "is_figures" 1 ["text"] (spD K a.Book 1 (ny a))
variable (P w K mg base a) in abbrev xz:=Fn P w K mg base "common_divisor" 1 ["number","other"] (spD K a.Book 2 (ms a))
abbrev zQ:bL:=top 15
def G1:FnScope ["top","bottom","common"] ["top","bottom"] (lh zQ):=fsc
def Ej(a:Adr):XS:=(xSeq (xSet 2 (xCall 2 (ms a) (xCons (xVar 0) (xCons (xVar 1) xNil)))) (xRet (xTup (xCons (x2 (xVar 0) (xVar 2) fDiv) (xCons (x2 (xVar 1) (xVar 2) fDiv) xNil)))))
def vd(a:Adr):XF:=(fnD 3 (Ej a))
variable (P w K mg base a) in abbrev z6:=Fn P w K mg base "lowest" 2 ["top","bottom"] (spD K a.Book 2 (vd a))
def He(Y:Yz K mg a)(c:Gf K "lowest" zQ)(A0:xz P w K mg base a):z6 P w K mg base a :=
 gof c Y fun T F=>mZ F G1 rfl fun _ _ _ _ _ _ hr S=>(lf (lL 2 (lO A0 (k8 (k7 0) (k9 (k7 1))))) (lv (lP (nE (k8 (AM (k7 0) (k7 2)) (k9 (AM (k7 1) (k7 2))))))))
abbrev xH:bL:=top 28
def E1:FnScope ["book","houses","rows","house"] ["book"] (lh xH):=fsc
noncomputable def rC(a:Adr) :XS:=(xSet 2 (x2 (xVar 2) (yy (xIter (xBM 2 (mf a) (xVar 0) (xCons (xVar 3) xNil))) [3] qV (xTup (xCons (xC (.str "share")) (xCons (xVar 2) (xCons (xVar 0) (xCons (xVar 1) xNil)))))) fAdd))
noncomputable def BO(a:Adr):XS:=(xSeq (xSet 1 (xBM 1 (nQ a) (xVar 0) xNil)) (xSeq (xSet 2 (nH (xIter (xBM 1 (mn a) (xVar 0) xNil)) [] qV (xTup (xCons (xC (.str "person")) (xCons (xVar 0) xNil))))) (xSeq (xSet 2 (x2 (xVar 2) (nH (xIter (xVar 1)) [0] qV (x2 (xTup (xCons (xC (.str "house")) (xCons (xVar 0) xNil))) (xBM 2 (EK a) (xVar 1) (xCons (xVar 0) xNil)) AZ)) fAdd)) (xSeq (xFor (xIter (xVar 1)) (yName 3) (rC a)) (xRet (xVar 2))))))
def vv(a:Adr):XF:=(fnD 4 (BO a))
variable (P w K mg base a) in abbrev vt:=Fn P w K mg base "rows_of" 4 ["book"] (spD K a.Book 1 (vv a))
def Fa(Y:Yz K mg a)(c:Gf K "rows_of" xH)(A0:rV P w K mg base a)(A1:oV P w K mg base a)(A2:B7 P w K mg base a)(A3:rT P w K mg base a):vt P w K mg base a :=
 gof c Y fun T F=>mZ F E1 rfl fun _ _ _ _ _ _ hr S=>(lf (lL 1 (wD (k7 0) A0)) (lf (wg (fr:=[]) (oO (wD (k7 0) A1)) (fun _ _ _ _ _=>(nE (k8 lN (k9 (k7 0)))))) (lf (lL 2 (mq (k7 2) (se (fr:=["book"]) (oO (k7 1)) (fun _ _ _ _ _=>(LW (nE (k8 lN (k9 (k7 0)))) (oP (k7 1) A2 (k9 (k7 0)))))))) (lf (ot (oO (k7 1)) (lS 3) (lv (lL 2 (mq (k7 2) (Jr (fr:=["house"]) (oO (oP (k7 0) A3 (k9 (k7 3)))) (fun _ _ _ _ _=>(nE (k8 lN (k8 (k7 2) (k8 (k7 0) (k9 (k7 1)))))))))))) (lv (lP (k7 2)))))))
abbrev rG:bL:=top 29
def yL:FnScope ["share","top","bottom"] ["share"] (lh rG):=fsc
noncomputable def vN(a:Adr):XS:=(xSeq (xSet 1 (x2 (xVar 0) (xC (.int 0)) fIx)) (xSeq (xSet 2 (x2 (xVar 0) (xC (.int 1)) fIx)) (xRet (xIfe (xTr (x2 (xVar 2) (xC (.int 1)) fEq)) (xB (xCons (xVar 1) xNil) nC) (Mc (xVar 1) "/" (xVar 2))))))
def rW(a:Adr):XF:=(fnD 3 (vN a))
variable (P w K mg base a) in abbrev rS:=Fn P w K mg base "shown_share" 1 ["share"] (spD K a.Book 1 (rW a))
def yS(Y:Yz K mg a)(c:Gf K "shown_share" rG):rS P w K mg base a :=
 gof c Y fun T F=>mZ F yL rfl fun _ _ _ _ _ _ hr S=>(lf (lL 1 (lF (k7 0) lc)) (lf (lL 2 (lF (k7 0) lc)) (lv (lP (FN (mG tK (k7 2) lc) (mw b_str (k9 (k7 1))) (NV (k7 1) (k7 2)))))))
abbrev ug:bL:=top 30
def Ca:FnScope ["row"] ["row"] (lh ug):=fsc
noncomputable def ye(a:Adr):XS:=(xSeq (xIf (xTr (x2 (x2 (xVar 0) (xC (.int 0)) fIx) (xC (.str "share")) fEq)) (xRet (xJoin (xC (.str " ")) (xCons (xLst (xCons (x2 (xVar 0) (xC (.int 0)) fIx) (xCons (x2 (xVar 0) (xC (.int 1)) fIx) (xCons (x2 (xVar 0) (xC (.int 2)) fIx) (xCons (xCall 1 (rW a) (xCons (x2 (xVar 0) (xC (.int 3)) fIx) xNil)) xNil))))) xNil))) xEnd) (xRet (xJoin (xC (.str " ")) (xCons (nH (xIter (xVar 0)) [] qV (xB (xCons (xVar 0) xNil) nC)) xNil))))
def rF(a:Adr):XF:=(fnD 1 (ye a))
variable (P w K mg base a) in abbrev uF:=Fn P w K mg base "shown_row" 2 ["row"] (spD K a.Book 1 (rF a))
def Co(Y:Yz K mg a)(c:Gf K "shown_row" ug)(A0:rS P w K mg base a):uF P w K mg base a :=
 gof c Y fun T F=>mZ F Ca rfl fun _ _ _ _ _ _ hr S=>(lf (nI (mG tK (lF (k7 0) lc) lN) (lv (lP (sd lN (k9 (m8 (k8 (lF (k7 0) lc) (k8 (lF (k7 0) lc) (k8 (lF (k7 0) lc) (k9 (lO A0 (k9 (lF (k7 0) lc)))))))))))) ma) (lv (lP (sd lN (k9 (se (fr:=[]) (oO (k7 0)) (fun _ _ _ _ _=>(mw b_str (k9 (k7 0))))))))))
abbrev CH:bL:=top 31
def Ir:FnScope ["book"] ["book"] (lh CH):=fsc
def Gy(a:Adr):XS:=(xRet (xJoin (xC (.str "\n")) (xCons (nH (xIter (xCall 1 (vv a) (xCons (xVar 0) xNil))) [] qV (xCall 1 (rF a) (xCons (xVar 0) xNil))) xNil)))
def rh(a:Adr):XF:=(fnD 1 (Gy a))
variable (P w K mg base a) in abbrev zI:=Fn P w K mg base "shown" 5 ["book"] (spD K a.Book 1 (rh a))
def IU(Y:Yz K mg a)(c:Gf K "shown" CH)(A0:uF P w K mg base a)(A1:vt P w K mg base a):zI P w K mg base a :=
 gof c Y fun T F=>mZ F Ir rfl fun _ _ _ _ _ _ hr S=>(lv (lP (sd lN (k9 (se (fr:=[]) (oO (lO A1 (k9 (k7 0)))) (fun _ _ _ _ _=>(lO A0 (k9 (k7 0)))))))))
abbrev rH:bL:=top 33
def yM:FnScope ["word","number"] ["word"] (lh rH):=fsc
noncomputable def vO(a:Adr):XS:=(xSeq (xIf (xNot (xTr (xCall 1 (ny a) (xCons (xIfe (xTr (vy (xVar 0) (xCons (xC (.str "-")) xNil))) (Kp (xVar 0) (xPart (xC (.int 1))) xNoP) (xVar 0)) xNil)))) FR xEnd) (xSeq (xSet 1 (xB (xCons (xVar 0) xNil) Db)) (xSeq (xIf (xTr (x2 (xB (xCons (xVar 1) xNil) nC) (xVar 0) fNe)) FR xEnd) (xRet (xVar 1)))))
def mI(a:Adr):XF:=(fnD 2 (vO a))
variable (P w K mg base a) in abbrev pW:=Fn P w K mg base "read_number" 2 ["word"] (spD K a.Book 1 (mI a))
def yT(Y:Yz K mg a)(c:Gf K "read_number" rH)(A0:Cz P w K mg base a):pW P w K mg base a :=
 gof c Y fun T F=>mZ F yM rfl fun _ _ _ _ _ _ hr S=>(lf (nI (tX (qA (lO A0 (k9 (FN (qA (HB (k7 0) (k9 lN))) (NS (k7 0) (tR lc) xu) (k7 0)))))) (lv wC) ma) (lf (lL 1 (mw NZ (k9 (k7 0)))) (lf (nI (mG EE (mw b_str (k9 (k7 1))) (k7 0)) (lv wC) ma) (lv (lP (k7 1))))))
abbrev sE:bL:=top 34
def Ac:FnScope ["word","numbers"] ["word"] (lh sE):=fsc
noncomputable def sM(a:Adr):XS:=(xSeq (xSet 1 (nH (xIter (qx (xVar 0) (xCons (xC (.str "/")) xNil))) [] qV (xCall 1 (mI a) (xCons (xVar 0) xNil)))) (xSeq (xIf (xTr (x2 (xB (xCons (xVar 1) xNil) fLen) (xC (.int 1)) fEq)) (xRet (xTup (xCons (x2 (xVar 1) (xC (.int 0)) fIx) (xCons (xC (.int 1)) xNil)))) xEnd) (xSeq (xIf (xOr (xTr (x2 (xB (xCons (xVar 1) xNil) fLen) (xC (.int 2)) fNe)) (xOr (xTr (x2 (x2 (xVar 1) (xC (.int 1)) fIx) (xC (.int 2)) fLt)) (xTr (x2 (xCall 2 (vd a) (xCons (x2 (xVar 1) (xC (.int 0)) fIx) (xCons (x2 (xVar 1) (xC (.int 1)) fIx) xNil))) (xTup (xCons (x2 (xVar 1) (xC (.int 0)) fIx) (xCons (x2 (xVar 1) (xC (.int 1)) fIx) xNil))) fNe)))) FR xEnd) (xRet (xTup (xCons (x2 (xVar 1) (xC (.int 0)) fIx) (xCons (x2 (xVar 1) (xC (.int 1)) fIx) xNil)))))))
def qE(a:Adr):XF:=(fnD 2 (sM a))
variable (P w K mg base a) in abbrev sQ:=Fn P w K mg base "read_share" 3 ["word"] (spD K a.Book 1 (qE a))
def At(Y:Yz K mg a)(c:Gf K "read_share" sE)(A0:pW P w K mg base a)(A1:z6 P w K mg base a):sQ P w K mg base a :=
 gof c Y fun T F=>mZ F Ac rfl fun _ _ _ _ _ _ hr S=>(lf (wg (fr:=[]) (oO (zW (k7 0) (k9 lN))) (fun _ _ _ _ _=>(lO A0 (k9 (k7 0))))) (lf (nI (mG tK (lT b_len (k9 (k7 1))) lc) (lv (lP (nE (k8 (lF (k7 1) lc) (k9 lc))))) ma) (lf (nI (DW.dt (Ba (mG EE (lT b_len (k9 (k7 1))) lc) (Ba (mG J3 (lF (k7 1) lc) lc) (yE (mG EE (lO A1 (k8 (lF (k7 1) lc) (k9 (lF (k7 1) lc)))) (nE (k8 (lF (k7 1) lc) (k9 (lF (k7 1) lc))))))))) (lv wC) ma) (lv (lP (nE (k8 (lF (k7 1) lc) (k9 (lF (k7 1) lc)))))))))
abbrev vX:bL:=top 35
def Dk:FnScope ["line","words"] ["line"] (lh vX):=fsc
noncomputable def we(a:Adr):XS:=(xSeq (xSet 1 (qx (xVar 0) (xCons (xC (.str " ")) xNil))) (xSeq (xIf (xAnd (xTr (x2 (x2 (xVar 1) (xC (.int 0)) fIx) (xC (.str "person")) fEq)) (xTr (x2 (xB (xCons (xVar 1) xNil) fLen) (xC (.int 2)) fEq))) (xRet (xTup (xCons (xC (.str "person")) (xCons (x2 (xVar 1) (xC (.int 1)) fIx) xNil)))) xEnd) (xSeq (xIf (xAnd (xTr (x2 (x2 (xVar 1) (xC (.int 0)) fIx) (xC (.str "house")) fEq)) (xTr (x2 (xB (xCons (xVar 1) xNil) fLen) (xC (.int 5)) fEq))) (xRet (xTup (xCons (xC (.str "house")) (xCons (x2 (xVar 1) (xC (.int 1)) fIx) (xCons (xCall 1 (mI a) (xCons (x2 (xVar 1) (xC (.int 2)) fIx) xNil)) (xCons (xCall 1 (mI a) (xCons (x2 (xVar 1) (xC (.int 3)) fIx) xNil)) (xCons (xCall 1 (mI a) (xCons (x2 (xVar 1) (xC (.int 4)) fIx) xNil)) xNil))))))) xEnd) (xSeq (xIf (xAnd (xTr (x2 (x2 (xVar 1) (xC (.int 0)) fIx) (xC (.str "share")) fEq)) (xTr (x2 (xB (xCons (xVar 1) xNil) fLen) (xC (.int 4)) fEq))) (xRet (xTup (xCons (xC (.str "share")) (xCons (x2 (xVar 1) (xC (.int 1)) fIx) (xCons (x2 (xVar 1) (xC (.int 2)) fIx) (xCons (xCall 1 (qE a) (xCons (x2 (xVar 1) (xC (.int 3)) fIx) xNil)) xNil)))))) xEnd) FR))))
def p4(a:Adr):XF:=(fnD 2 (we a))
variable (P w K mg base a) in abbrev wj:=Fn P w K mg base "read_row" 4 ["line"] (spD K a.Book 1 (p4 a))
def Do(Y:Yz K mg a)(c:Gf K "read_row" vX)(A0:pW P w K mg base a)(A1:sQ P w K mg base a):wj P w K mg base a :=
 gof c Y fun T F=>mZ F Dk rfl fun _ _ _ _ _ _ hr S=>(lf (lL 1 (zW (k7 0) (k9 lN))) (lf (nI (DW.dt (AI (mG tK (lF (k7 1) lc) lN) (xt (mG tK (lT b_len (k9 (k7 1))) lc)))) (lv (lP (nE (k8 lN (k9 (lF (k7 1) lc)))))) ma) (lf (nI (DW.dt (AI (mG tK (lF (k7 1) lc) lN) (xt (mG tK (lT b_len (k9 (k7 1))) lc)))) (lv (lP (nE (k8 lN (k8 (lF (k7 1) lc) (k8 (lO A0 (k9 (lF (k7 1) lc))) (k8 (lO A0 (k9 (lF (k7 1) lc))) (k9 (lO A0 (k9 (lF (k7 1) lc))))))))))) ma) (lf (nI (DW.dt (AI (mG tK (lF (k7 1) lc) lN) (xt (mG tK (lT b_len (k9 (k7 1))) lc)))) (lv (lP (nE (k8 lN (k8 (lF (k7 1) lc) (k8 (lF (k7 1) lc) (k9 (lO A1 (k9 (lF (k7 1) lc)))))))))) ma) (lv wC)))))
abbrev qI:bL:=top 36
def yo:FnScope ["book","persons"] ["book"] (lh qI):=fsc
def qL(a:Adr):XS:=(xSeq (xSet 1 (xBM 1 (mn a) (xVar 0) xNil)) (xSeq (xIf (xTr (x2 (xVar 1) (xLst xNil) fEq)) FR xEnd) (xRet (x2 (xVar 1) (xC (.int 0)) fIx))))
def m9(a:Adr):XF:=(fnD 2 (qL a))
variable (P w K mg base a) in abbrev qN:=Fn P w K mg base "first_person" 2 ["book"] (spD K a.Book 1 (m9 a))
def yr(Y:Yz K mg a)(c:Gf K "first_person" qI)(A0:oV P w K mg base a):qN P w K mg base a :=
 gof c Y fun T F=>mZ F yo rfl fun _ _ _ _ _ _ hr S=>(lf (lL 1 (wD (k7 0) A0)) (lf (nI (mG tK (k7 1) (m8 wF)) (lv wC) ma) (lv (lP (lF (k7 1) lc)))))
abbrev Kc:bL:=top 37
def MW:FnScope ["book","row"] ["book","row"] (lh Kc):=fsc
noncomputable def AY(a:Adr):XS:=(xIf (xTr (x2 (x2 (xVar 1) (xC (.int 0)) fIx) (xC (.str "person")) fEq)) (xDo (xBM 2 (m6 a) (xVar 0) (xCons (x2 (xVar 1) (xC (.int 1)) fIx) xNil))) (xIf (xTr (x2 (x2 (xVar 1) (xC (.int 0)) fIx) (xC (.str "house")) fEq)) (xDo (xBM 6 (pL a) (xVar 0) (xCons (x2 (xVar 1) (xC (.int 1)) fIx) (xCons (xCall 1 (m9 a) (xCons (xVar 0) xNil)) (xCons (x2 (xVar 1) (xC (.int 2)) fIx) (xCons (x2 (xVar 1) (xC (.int 3)) fIx) (xCons (x2 (xVar 1) (xC (.int 4)) fIx) xNil))))))) (xDo (xBM 5 (pZ a) (xVar 0) (xCons (x2 (xVar 1) (xC (.int 1)) fIx) (xCons (xCall 1 (m9 a) (xCons (xVar 0) xNil)) (xCons (x2 (xVar 1) (xC (.int 2)) fIx) (xCons (x2 (xVar 1) (xC (.int 3)) fIx) xNil))))))))
def De(a:Adr):XF:=(fnD 2 (AY a))
variable (P w K mg base a) in abbrev Ko:=Fn P w K mg base "put" 5 ["book","row"] (spD K a.Book 2 (De a))
def Nw(Y:Yz K mg a)(c:Gf K "put" Kc)(A0:pY P w K mg base a)(A1:sX P w K mg base a)(A2:rE P w K mg base a)(A3:qN P w K mg base a):Ko P w K mg base a :=
 gof c Y fun T F=>mZ F MW rfl fun _ _ _ _ _ _ hr S=>(lv (nI (mG tK (lF (k7 1) lc) lN) (lv (pT (oP (k7 0) A0 (k9 (lF (k7 1) lc))))) (lv (nI (mG tK (lF (k7 1) lc) lN) (lv (pT (oP (k7 0) A1 (k8 (lF (k7 1) lc) (k8 (lO A3 (k9 (k7 0))) (k8 (lF (k7 1) lc) (k8 (lF (k7 1) lc) (k9 (lF (k7 1) lc))))))))) (lv (pT (oP (k7 0) A2 (k8 (lF (k7 1) lc) (k8 (lO A3 (k9 (k7 0))) (k8 (lF (k7 1) lc) (k9 (lF (k7 1) lc))))))))))))
abbrev xI:bL:=top 38
def E3:FnScope ["rows","book","row"] ["rows"] (lh xI):=fsc
def qa(a:Adr) :XS:=(xDo (xCall 2 (De a) (xCons (xVar 1) (xCons (xVar 2) xNil))))
noncomputable def xS(a:Adr):XS:=(xSeq (xSet 1 xBook) (xSeq (xFor (xIter (xVar 0)) (yName 2) (qa a)) (xSeq (xIf (xTr (x2 (xCall 1 (vv a) (xCons (xVar 1) xNil)) (xVar 0) fNe)) FR xEnd) (xRet (xVar 1)))))
def vw(a:Adr):XF:=(fnD 3 (xS a))
variable (P w K mg base a) in abbrev xZ:=Fn P w K mg base "book_of" 6 ["rows"] (spD K a.Book 1 (vw a))
def Fd(Y:Yz K mg a)(c:Gf K "book_of" xI)(A0:uK P w K mg base a)(A1:Ko P w K mg base a)(A2:vt P w K mg base a):xZ P w K mg base a :=
 gof c Y fun T F=>mZ F E3 rfl fun _ _ _ _ _ _ hr S=>(lf (lL 1 (CQ A0)) (lf (ot (oO (k7 0)) (lS 2) (lv (pT (lO A1 (k8 (k7 1) (k9 (k7 2))))))) (lf (nI (mG EE (lO A2 (k9 (k7 1))) (k7 0)) (lv wC) ma) (lv (lP (k7 1))))))
abbrev FA:bL:=top 39
def KD:FnScope ["text","lines","refusal"] ["text"] (lh FA):=fsc
noncomputable def FK(a:Adr):XS:=(xSeq (xSet 1 (xIfe (xTr (x2 (xVar 0) (xC (.str "")) fEq)) (xLst xNil) (qx (xVar 0) (xCons (xC (.str "\n")) xNil)))) (Mb 2 [] (xRet (z9 1 (vw a) (xCons (nH (xIter (xVar 1)) [] qV (xCall 1 (p4 a) (xCons (xVar 0) xNil))) xNil))) FR))
def oC(a:Adr):XF:=(fnD 3 (FK a))
variable (P w K mg base a) in abbrev Dd:=Fn P w K mg base "read" 7 ["text"] (spD K a.Book 1 (oC a))
def Le(Y:Yz K mg a)(c:Gf K "read" FA)(A0:xZ P w K mg base a)(A1:wj P w K mg base a):Dd P w K mg base a :=
 gof c Y fun T F=>mZ F KD rfl fun _ _ _ _ _ _ hr S=>(lf (lL 1 (FN (mG tK (k7 0) lN) (m8 wF) (zW (k7 0) (k9 lN)))) (lv (NO rfl rfl rfl rfl (LM (NQ A0 (k9 (se (fr:=[]) (oO (k7 1)) (fun _ _ _ _ _=>(lO A1 (k9 (k7 0)))))))) rfl T.c_OwnError T.x_OwnError (fun _ h=>nomatch h) S.nd rfl rfl (fun _=>(lv wC)))))
abbrev sF:bL:=top 49
def Ae:FnScope ["_law_found"] ["_law_found"] (lh sF):=fsc
def wt(a:Adr):XS:=(xRet (xAndV (xIsiT .int (xVar 0)) (xNotV (xIsiT .bool (xVar 0)))))
def sY(a:Adr):XF:=(fnD 1 (wt a))
variable (P w K mg base a) in abbrev sR:=Fn P w K mg base "_law_whole" 1 ["_law_found"] (spD K a.Book 1 (sY a))
def Ax(Y:Yz K mg a)(c:Gf K "_law_whole" sF):sR P w K mg base a :=
 gof c Y fun T F=>mZ F Ae rfl fun _ _ _ _ _ _ hr S=>(lv (lP (wE (qw _ (k7 0)) (AL (NT (qw _ (k7 0)))))))
abbrev um:bL:=top 50
def Ce:FnScope ["_law_found","_law_due"] ["_law_found","_law_due"] (lh um):=fsc
noncomputable def nv(a:Adr)(self:XF):XS:=(xSeq (xIf (xOr (xTr (xIsiT .tuple (xVar 1))) (xTr (xIsiT .list (xVar 1)))) (xSeq (xIf (xOr (xTr (x2 (xIsiT .tuple (xVar 0)) (xIsiT .tuple (xVar 1)) fNe)) (xTr (x2 (xIsiT .list (xVar 0)) (xIsiT .list (xVar 1)) fNe))) (xRet (xC (.bl false))) xEnd) (xSeq (xIf (xTr (x2 (xB (xCons (xVar 0) xNil) fLen) (xB (xCons (xVar 1) xNil) fLen) fNe)) (xRet (xC (.bl false))) xEnd) (xRet (x2 (xB (xCons (nH (xRng1 (xCons (xB (xCons (xVar 1) xNil) fLen) xNil)) [0,1] (xNot (xTr (xCall 2 self (xCons (x2 (xVar 1) (xVar 0) fIx) (xCons (x2 (xVar 2) (xVar 0) fIx) xNil))))) (xVar 0)) xNil) fLen) (xC (.int 0)) fEq)))) xEnd) (xSeq (xIf (xTr (xIsiT .str (xVar 1))) (xRet (xAndV (xIsiT .str (xVar 0)) (x2 (xVar 0) (xVar 1) fEq))) xEnd) (xRet (xAndV (xCall 1 (sY a) (xCons (xVar 0) xNil)) (x2 (xVar 0) (xVar 1) fEq)))))
def lK(a:Adr):Nat->XF
 |0=>fun _ _=>.bad
 |k+1=>fnD 2 (nv a (lK a k))
abbrev rD(P:aI)(w:aX)(K:aa)(mg:Str->Option am)(base:bA)(a:Adr)(j:Nat):Prop:=Fn P w K mg base "_law_same" (j+1) ["_law_found","_law_due"] (spD K a.Book 2 (lK a j))
def qC(Y:Yz K mg a)(c:Gf K "_law_same" um)(A0:sR P w K mg base a)(j:Nat)(A1:rD P w K mg base a j):rD P w K mg base a (j+1) :=
 gof c Y (k:=j+2) fun T F=>mZ F Ce rfl fun _ _ _ _ _ _ hr S=>(lf (nI (DW.dt (Ba (qA (qw _ (k7 1))) (yE (qA (qw _ (k7 1)))))) (lf (nI (DW.dt (Ba (mG EE (qw _ (k7 0)) (qw _ (k7 1))) (yE (mG EE (qw _ (k7 0)) (qw _ (k7 1)))))) (lv (lP yw)) ma) (lf (nI (mG EE (lT b_len (k9 (k7 0))) (lT b_len (k9 (k7 1)))) (lv (lP yw)) ma) (lv (lP (yv tK (lT b_len (k9 (se (fr:=["_law_found","_law_due"]) (qT (k9 (lT b_len (k9 (k7 1))))) (fun _ _ _ _ _=>(k7 0)) (fun _ _ _ _ _=>(wU (tX (qA (lO A1 (k8 (lF (k7 1) (k7 0)) (k9 (lF (k7 2) (k7 0)))))))))))) lc))))) ma) (lf (nI (qA (qw _ (k7 1))) (lv (lP (wE (qw _ (k7 0)) (AL (yv tK (k7 0) (k7 1)))))) ma) (lv (lP (wE (lO A0 (k9 (k7 0))) (AL (yv tK (k7 0) (k7 1))))))))
abbrev qd:bL:=top 53
def w6:FnScope ["_law_purse_here","_law_book","_law_people","_law_entries","_law_numbers","_law_house","_law_most","_law_found"] ["_law_purse_here"] (lh qd):=fsc
noncomputable def mD(a:Adr) :XS:=(xSeq (xSet 6 (x2 (xLst (xCons (xC (.int 10)) (xCons (xC (.int 1000)) (xCons (x2 (xC (.int 10)) (xC (.int 12)) fPow) (xCons (x2 (xC (.int 10)) (xC (.int 20)) fPow) xNil))))) (xCall 2 (lB a) (xCons (xVar 0) (xCons (xC (.int 4)) xNil))) fIx)) (xSeq (xSet 7 (xLst (xCons (x2 (xCall 2 (lB a) (xCons (xVar 0) (xCons (x2 (xC (.int 2)) (xVar 6) fMul) xNil))) (xVar 6) fSub) (xCons (x2 (xCall 2 (lB a) (xCons (xVar 0) (xCons (x2 (xC (.int 2)) (xVar 6) fMul) xNil))) (xVar 6) fSub) (xCons (xCall 2 (lB a) (xCons (xVar 0) (xCons (xVar 6) xNil))) xNil))))) (xSeq (xDo (xBM 3 (z7 a) (xVar 1) (xCons (xVar 5) (xCons (x2 (xVar 7) (xC (.int 0)) fIx) xNil)))) (xSeq (xDo (xBM 3 (yI a) (xVar 1) (xCons (xVar 5) (xCons (x2 (xVar 7) (xC (.int 1)) fIx) xNil)))) (xSeq (xDo (xBM 3 (FQ a) (xVar 1) (xCons (xVar 5) (xCons (x2 (xVar 7) (xC (.int 2)) fIx) xNil)))) (xPut (xVar 4) (xVar 5) (xVar 7)))))))
noncomputable def tE(a:Adr):XS:=(xSeq (xAsg (xCall 1 (tf a) (xCons (xVar 0) xNil)) (yTup 3 (yCons (yName 1) (yCons (yName 2) (yCons (yName 3) yNil))))) (xSeq (xSet 4 xNewD) (xSeq (xFor (xIterD (xVar 3)) (yName 5) (mD a)) (xRet (xLst (xCons (xVar 1) (xCons (xVar 2) (xCons (xVar 3) (xCons (xFrz (xVar 4)) xNil)))))))))
def qk(a:Adr):XF:=(fnD 8 (tE a))
variable (P w K mg base a) in abbrev qi:=Fn P w K mg base "_law_numbered" 6 ["_law_purse_here"] (spD K a.Book 1 (qk a))
def xh(Y:Yz K mg a)(c:Gf K "_law_numbered" qd)(A0:sW P w K mg base a)(A1:AU P w K mg base a)(A2:yn P w K mg base a)(A3:DB P w K mg base a)(A4:n8 P w K mg base a):qi P w K mg base a :=
 gof c Y fun T F=>mZ F w6 rfl fun _ _ _ _ _ _ hr S=>(lf (AK (lO A0 (k9 (k7 0))) (yF (mR (lS 1) (mR (lS 2) (mR (lS 3) vR))))) (lf (lL 4 GG) (lf (ot (GB (k7 3)) (lS 5) (lf (lL 6 (lF (m8 (k8 lc (k8 lc (k8 (vS lc lc) (k9 (vS lc lc)))))) (lO A4 (k8 (k7 0) (k9 lc))))) (lf (lL 7 (m8 (k8 (yG (lO A4 (k8 (k7 0) (k9 (nF lc (k7 6))))) (k7 6)) (k8 (yG (lO A4 (k8 (k7 0) (k9 (nF lc (k7 6))))) (k7 6)) (k9 (lO A4 (k8 (k7 0) (k9 (k7 6))))))))) (lf (pT (oP (k7 1) A1 (k8 (k7 5) (k9 (lF (k7 7) lc))))) (lf (pT (oP (k7 1) A2 (k8 (k7 5) (k9 (lF (k7 7) lc))))) (lf (pT (oP (k7 1) A3 (k8 (k7 5) (k9 (lF (k7 7) lc))))) (lv (AJ (k7 4) (k7 5) (k7 7))))))))) (lv (lP (m8 (k8 (k7 1) (k8 (k7 2) (k8 (k7 3) (k9 (FO (k7 4))))))))))))
abbrev qe:bL:=top 54
def w8:FnScope ["_law_share"] ["_law_share"] (lh qe):=fsc
noncomputable def tF(a:Adr):XS:=(xSeq (xIf (xTr (x2 (x2 (xVar 0) (xC (.int 1)) fIx) (xC (.int 1)) fEq)) (xRet (xB (xCons (x2 (xVar 0) (xC (.int 0)) fIx) xNil) nC)) xEnd) (xRet (x2 (x2 (xB (xCons (x2 (xVar 0) (xC (.int 0)) fIx) xNil) nC) (xC (.str "/")) fAdd) (xB (xCons (x2 (xVar 0) (xC (.int 1)) fIx) xNil) nC) fAdd)))
def ql(a:Adr):XF:=(fnD 1 (tF a))
variable (P w K mg base a) in abbrev qj:=Fn P w K mg base "_law_fraction" 1 ["_law_share"] (spD K a.Book 1 (ql a))
def xj(Y:Yz K mg a)(c:Gf K "_law_fraction" qe):qj P w K mg base a :=
 gof c Y fun T F=>mZ F w8 rfl fun _ _ _ _ _ _ hr S=>(lf (nI (mG tK (lF (k7 0) lc) lc) (lv (lP (mw b_str (k9 (lF (k7 0) lc))))) ma) (lv (lP (mq (mq (mw b_str (k9 (lF (k7 0) lc))) lN) (mw b_str (k9 (lF (k7 0) lc)))))))
abbrev sJ:bL:=top 55
def Ai:FnScope ["_law_people","_law_entries","_law_numbers","_law_lines_here","_law_house","_law_row","_law_held","_law_name"] ["_law_people","_law_entries","_law_numbers"] (lh sJ):=fsc
noncomputable def oR(a:Adr) :XS:=(xSeq (xSet 5 (nH (xIter (x2 (xVar 2) (xVar 4) fIx)) [] qV (xB (xCons (xVar 0) xNil) nC))) (xDo (xAppend (xVar 3) (xCons (xJoin (xC (.str " ")) (xCons (x2 (xLst (xCons (xC (.str "house")) (xCons (xVar 4) xNil))) (xVar 5) fAdd) xNil)) xNil))))
noncomputable def mx(a:Adr) :XS:=(xIf (xTr (x2 (x2 (x2 (xVar 6) (xVar 7) fIx) (xC (.int 0)) fIx) (xC (.int 0)) fGt)) (xSeq (xSet 5 (xLst (xCons (xC (.str "share")) (xCons (xVar 4) (xCons (xVar 7) (xCons (xCall 1 (ql a) (xCons (x2 (xVar 6) (xVar 7) fIx) xNil)) xNil)))))) (xDo (xAppend (xVar 3) (xCons (xJoin (xC (.str " ")) (xCons (xVar 5) xNil)) xNil)))) xEnd)
def oQ(a:Adr) :XS:=(xSeq (xSet 6 (x2 (xVar 1) (xVar 4) fIx)) (xFor (xIter (xB (xCons (xVar 6) xNil) lC)) (yName 7) (mx a)))
noncomputable def ww(a:Adr):XS:=(xSeq (xSet 3 (yx (xIter (xVar 0)) [] qV (x2 (xC (.str "person ")) (xVar 0) fAdd))) (xSeq (xFor (xIter (xB (xCons (xVar 1) xNil) lC)) (yName 4) (oR a)) (xSeq (xFor (xIter (xB (xCons (xVar 1) xNil) lC)) (yName 4) (oQ a)) (xRet (xFrz (xVar 3))))))
def sZ(a:Adr):XF:=(fnD 8 (ww a))
variable (P w K mg base a) in abbrev sV:=Fn P w K mg base "_law_lines" 2 ["_law_people","_law_entries","_law_numbers"] (spD K a.Book 3 (sZ a))
def AB(Y:Yz K mg a)(c:Gf K "_law_lines" sJ)(A0:qj P w K mg base a):sV P w K mg base a :=
 gof c Y fun T F=>mZ F Ai rfl fun _ _ _ _ _ _ hr S=>(lf (Dx (fr:=[]) (oO (k7 0)) (fun _ _ _ _ _=>(mq lN (k7 0)))) (lf (ot (oO (lT (b_sorted rfl) (k9 (k7 1)))) (lS 4) (lf (wg (fr:=[]) (oO (lF (k7 2) (k7 4))) (fun _ _ _ _ _=>(mw b_str (k9 (k7 0))))) (lv (pT (vn (k7 3) (k9 (sd lN (k9 (mq (m8 (k8 lN (k9 (k7 4)))) (k7 5)))))))))) (lf (ot (oO (lT (b_sorted rfl) (k9 (k7 1)))) (lS 4) (lf (lL 6 (lF (k7 1) (k7 4))) (lv (ot (oO (lT (b_sorted rfl) (k9 (k7 6)))) (lS 7) (lv (nI (mG N9 (lF (lF (k7 6) (k7 7)) lc) lc) (lf (lL 5 (m8 (k8 lN (k8 (k7 4) (k8 (k7 7) (k9 (lO A0 (k9 (lF (k7 6) (k7 7)))))))))) (lv (pT (vn (k7 3) (k9 (sd lN (k9 (k7 5)))))))) ma)))))) (lv (lP (FO (k7 3)))))))
abbrev rJ:bL:=top 56
def yN:FnScope ["_law_entries","_law_house","_law_held"] ["_law_entries","_law_house"] (lh rJ):=fsc
noncomputable def rQ(a:Adr):XS:=(xSeq (xSet 2 (x2 (xVar 0) (xVar 1) fIx)) (xRet (nH (xIter (xB (xCons (xVar 2) xNil) lC)) [2] (xTr (x2 (x2 (x2 (xVar 1) (xVar 0) fIx) (xC (.int 0)) fIx) (xC (.int 0)) fGt)) (xTup (xCons (xVar 0) (xCons (x2 (xVar 1) (xVar 0) fIx) xNil))))))
def mW(a:Adr):XF:=(fnD 3 (rQ a))
variable (P w K mg base a) in abbrev pX:=Fn P w K mg base "_law_shares" 1 ["_law_entries","_law_house"] (spD K a.Book 2 (mW a))
def yV(Y:Yz K mg a)(c:Gf K "_law_shares" rJ):pX P w K mg base a :=
 gof c Y fun T F=>mZ F yN rfl fun _ _ _ _ _ _ hr S=>(lf (lL 2 (lF (k7 0) (k7 1))) (lv (lP (se (fr:=["_law_held"]) (oO (lT (b_sorted rfl) (k9 (k7 2)))) (fun _ _ _ _ _=>(nE (k8 (k7 0) (k9 (lF (k7 1) (k7 0)))))) (fun _ _ _ _ _=>(wU (mG N9 (lF (lF (k7 1) (k7 0)) lc) lc)))))))
abbrev uk:bL:=top 57
def Cc:FnScope ["_law_book","_law_people","_law_entries","_law_numbers","_law_house"] ["_law_book","_law_people","_law_entries","_law_numbers"] (lh uk):=fsc
noncomputable def pV(a:Adr) :XS:=(xSeq (xIf (xNot (xTr (xCall 2 (lK a 4) (xCons (xBM 2 (EK a) (xVar 0) (xCons (xVar 4) xNil)) (xCons (xB (xCons (x2 (xVar 3) (xVar 4) fIx) xNil) fTuple) xNil))))) (xRet (xC (.bl false))) xEnd) (xIf (xNot (xTr (xCall 2 (lK a 4) (xCons (xBM 2 (mf a) (xVar 0) (xCons (xVar 4) xNil)) (xCons (xCall 2 (mW a) (xCons (xVar 2) (xCons (xVar 4) xNil))) xNil))))) (xRet (xC (.bl false))) xEnd))
noncomputable def uC(a:Adr):XS:=(xSeq (xIf (xOr (xNot (xTr (xCall 2 (lK a 4) (xCons (xBM 1 (mn a) (xVar 0) xNil) (xCons (xVar 1) xNil))))) (xNot (xTr (xCall 2 (lK a 4) (xCons (xBM 1 (nQ a) (xVar 0) xNil) (xCons (xB (xCons (xVar 2) xNil) lC) xNil)))))) (xRet (xC (.bl false))) xEnd) (xSeq (xFor (xIterD (xVar 2)) (yName 4) (pV a)) (xRet (xC (.bl true)))))
def mS(a:Adr):XF:=(fnD 5 (uC a))
variable (P w K mg base a) in abbrev uG:=Fn P w K mg base "_law_told" 6 ["_law_book","_law_people","_law_entries","_law_numbers"] (spD K a.Book 4 (mS a))
def Cr(Y:Yz K mg a)(c:Gf K "_law_told" uk)(A0:rD P w K mg base a 4)(A1:oV P w K mg base a)(A2:rV P w K mg base a)(A3:B7 P w K mg base a)(A4:rT P w K mg base a)(A5:pX P w K mg base a):uG P w K mg base a :=
 gof c Y fun T F=>mZ F Cc rfl fun _ _ _ _ _ _ hr S=>(lf (nI (DW.dt (Ba (tX (qA (lO A0 (k8 (wD (k7 0) A1) (k9 (k7 1)))))) (yE (tX (qA (lO A0 (k8 (wD (k7 0) A2) (k9 (lT (b_sorted rfl) (k9 (k7 2))))))))))) (lv (lP yw)) ma) (lf (ot (GB (k7 2)) (lS 4) (lf (nI (tX (qA (lO A0 (k8 (oP (k7 0) A3 (k9 (k7 4))) (k9 (mw b_tuple (k9 (lF (k7 3) (k7 4))))))))) (lv (lP yw)) ma) (lv (nI (tX (qA (lO A0 (k8 (oP (k7 0) A4 (k9 (k7 4))) (k9 (lO A5 (k8 (k7 2) (k9 (k7 4))))))))) (lv (lP yw)) ma)))) (lv (lP yw))))
abbrev ut:bL:=top 58
def Ch:FnScope ["_law_many","_law_share","_law_pieces","_law_prime","_law_part_here"] ["_law_many"] (lh ut):=fsc
def oA(a:Adr) :XS:=(xSet 4 (x2 (xVar 4) (xVar 3) fMul))
noncomputable def oz(a:Adr) :XS:=(xSeq (xSet 4 (xVar 3)) (xSeq (vx (xTr (x2 (x2 (xVar 4) (xVar 3) fMul) (x2 (xC (.int 10)) (xC (.int 29)) fPow) fLt)) (oA a)) (xSeq (xDo (xAppend (xVar 2) (xCons (xVar 4) xNil))) (xSet 1 (xTup (xCons (x2 (x2 (x2 (xVar 1) (xC (.int 0)) fIx) (xVar 4) fMul) (x2 (xVar 1) (xC (.int 1)) fIx) fAdd) (xCons (x2 (x2 (xVar 1) (xC (.int 1)) fIx) (xVar 4) fMul) xNil)))))))
def oy(a:Adr) :XS:=(xSet 4 (x2 (xVar 4) (xC (.int 2)) fMul))
noncomputable def uE(a:Adr):XS:=(xSeq (xSet 1 (xTup (xCons (xC (.int 0)) (xCons (xC (.int 1)) xNil)))) (xSeq (xSet 2 (xLstC xNil)) (xSeq (xFor (xIter (xLst (xCons (xC (.int 3)) (xCons (xC (.int 5)) (xCons (xC (.int 7)) (xCons (xC (.int 11)) (xCons (xC (.int 13)) (xCons (xC (.int 17)) (xCons (xC (.int 19)) (xCons (xC (.int 23)) (xCons (xC (.int 29)) (xCons (xC (.int 31)) (xCons (xC (.int 37)) (xCons (xC (.int 41)) (xCons (xC (.int 43)) (xCons (xC (.int 47)) xNil)))))))))))))))) (yName 3) (oz a)) (xSeq (xSet 4 (xC (.int 2))) (xSeq (vx (xTr (x2 (xB (xCons (xB (xCons (x2 (x2 (xVar 1) (xC (.int 1)) fIx) (xVar 4) fMul) xNil) nC) xNil) fLen) (xVar 0) fLt)) (oy a)) (xRet (xLst (xCons (x2 (xVar 2) (xLst (xCons (xVar 4) xNil)) fAdd) (xCons (xTup (xCons (x2 (x2 (x2 (xVar 1) (xC (.int 0)) fIx) (xVar 4) fMul) (x2 (xVar 1) (xC (.int 1)) fIx) fAdd) (xCons (x2 (x2 (xVar 1) (xC (.int 1)) fIx) (xVar 4) fMul) xNil))) xNil)))))))))
def uL(a:Adr):XF:=(fnD 5 (uE a))
variable (P w K mg base a) in abbrev uJ:=Fn P w K mg base "_law_long" 1 ["_law_many"] (spD K a.Book 1 (uL a))
def Cv(Y:Yz K mg a)(c:Gf K "_law_long" ut):uJ P w K mg base a :=
 gof c Y fun T F=>mZ F Ch rfl fun _ _ _ _ _ _ hr S=>(lf (lL 1 (nE (k8 lc (k9 lc)))) (lf (lL 2 (zA wF)) (lf (ot (oO (m8 (k8 lc (k8 lc (k8 lc (k8 lc (k8 lc (k8 lc (k8 lc (k8 lc (k8 lc (k8 lc (k8 lc (k8 lc (k8 lc (k9 lc)))))))))))))))) (lS 3) (lf (lL 4 (k7 3)) (lf (zV (mG J3 (nF (k7 4) (k7 3)) (vS lc lc)) (lv (lL 4 (nF (k7 4) (k7 3))))) (lf (pT (vn (k7 2) (k9 (k7 4)))) (lv (lL 1 (nE (k8 (mq (nF (lF (k7 1) lc) (k7 4)) (lF (k7 1) lc)) (k9 (nF (lF (k7 1) lc) (k7 4))))))))))) (lf (lL 4 lc) (lf (zV (mG J3 (lT b_len (k9 (mw b_str (k9 (nF (lF (k7 1) lc) (k7 4)))))) (k7 0)) (lv (lL 4 (nF (k7 4) lc)))) (lv (lP (m8 (k8 (mq (k7 2) (m8 (k9 (k7 4)))) (k9 (nE (k8 (mq (nF (lF (k7 1) lc) (k7 4)) (lF (k7 1) lc)) (k9 (nF (lF (k7 1) lc) (k7 4)))))))))))))))
abbrev pB:bL:=top 59
def wk:FnScope ["_law_share","_law_top","_law_bottom","_law_lines_here"] ["_law_share"] (lh pB):=fsc
noncomputable def pH(a:Adr):XS:=(xSeq (xAsg (xVar 0) (yTup 2 (yCons (yName 1) (yCons (yName 2) yNil)))) (xSeq (xSet 3 (xLst (xCons (xC (.str "person a")) (xCons (xC (.str "person b")) (xCons (xC (.str "house h 1 2 3")) (xCons (x2 (x2 (x2 (xC (.str "share h a ")) (xB (xCons (x2 (xVar 2) (xVar 1) fSub) xNil) nC) fAdd) (xC (.str "/")) fAdd) (xB (xCons (xVar 2) xNil) nC) fAdd) xNil)))))) (xRet (xJoin (xC (.str "\n")) (xCons (x2 (xVar 3) (xLst (xCons (x2 (x2 (x2 (xC (.str "share h b ")) (xB (xCons (xVar 1) xNil) nC) fAdd) (xC (.str "/")) fAdd) (xB (xCons (xVar 2) xNil) nC) fAdd) xNil)) fAdd) xNil)))))
def pM(a:Adr):XF:=(fnD 4 (pH a))
variable (P w K mg base a) in abbrev pJ:=Fn P w K mg base "_law_long_text" 1 ["_law_share"] (spD K a.Book 1 (pM a))
def wn(Y:Yz K mg a)(c:Gf K "_law_long_text" pB):pJ P w K mg base a :=
 gof c Y fun T F=>mZ F wk rfl fun _ _ _ _ _ _ hr S=>(lf (AK (k7 0) (yF (mR (lS 1) (mR (lS 2) vR)))) (lf (lL 3 (m8 (k8 lN (k8 lN (k8 lN (k9 (mq (mq (mq lN (mw b_str (k9 (yG (k7 2) (k7 1))))) lN) (mw b_str (k9 (k7 2)))))))))) (lv (lP (sd lN (k9 (mq (k7 3) (m8 (k9 (mq (mq (mq lN (mw b_str (k9 (k7 1)))) lN) (mw b_str (k9 (k7 2)))))))))))))
abbrev pC:bL:=top 60
def wl:FnScope ["_law_pieces","_law_share","_law_book","_law_name","_law_part_here","_law_text"] [] (lh pC):=fsc
def nj(a:Adr) :XS:=(xDo (xBM 2 (m6 a) (xVar 2) (xCons (xVar 3) xNil)))
def mK(a:Adr) :XS:=(xDo (xBM 5 (pZ a) (xVar 2) (xCons (xC (.str "h")) (xCons (xC (.str "a")) (xCons (xC (.str "b")) (xCons (xTup (xCons (xC (.int 1)) (xCons (xVar 4) xNil))) xNil))))))
noncomputable def pI(a:Adr):XS:=(xSeq (xAsg (xCall 1 (uL a) (xCons (xC (.int 400)) xNil)) (yTup 2 (yCons (yName 0) (yCons (yName 1) yNil)))) (xSeq (xSet 2 xBook) (xSeq (xFor (xIter (xLst (xCons (xC (.str "b")) (xCons (xC (.str "a")) xNil)))) (yName 3) (nj a)) (xSeq (xDo (xBM 6 (pL a) (xVar 2) (xCons (xC (.str "h")) (xCons (xC (.str "a")) (xCons (xC (.int 1)) (xCons (xC (.int 2)) (xCons (xC (.int 3)) xNil))))))) (xSeq (xFor (xIter (xVar 0)) (yName 4) (mK a)) (xSeq (xSet 5 (xCall 1 (pM a) (xCons (xVar 1) xNil))) (xRet (xAndV (x2 (xCall 1 (rh a) (xCons (xVar 2) xNil)) (xVar 5) fEq) (xAndV (x2 (xBM 2 (mf a) (xCall 1 (oC a) (xCons (xVar 5) xNil)) (xCons (xC (.str "h")) xNil)) (xBM 2 (mf a) (xVar 2) (xCons (xC (.str "h")) xNil)) fEq) (x2 (x2 (xBM 2 (mf a) (xVar 2) (xCons (xC (.str "h")) xNil)) (xC (.int 1)) fIx) (xTup (xCons (xC (.str "b")) (xCons (xVar 1) xNil))) fEq))))))))))
def oj(a:Adr):XF:=(fnD 6 (pI a))
variable (P w K mg base a) in abbrev pK:=Fn P w K mg base "_law_long_good" 8 [] (spD K a.Book 0 (oj a))
def wo(Y:Yz K mg a)(c:Gf K "_law_long_good" pC)(A0:uJ P w K mg base a)(A1:uK P w K mg base a)(A2:sX P w K mg base a)(A3:pJ P w K mg base a)(A4:pY P w K mg base a)(A5:rE P w K mg base a)(A6:zI P w K mg base a)(A7:rT P w K mg base a)(A8:Dd P w K mg base a):pK P w K mg base a :=
 gof c Y fun T F=>mZ F wl rfl fun _ _ _ _ _ _ hr S=>(lf (AK (lO A0 (k9 lc)) (yF (mR (lS 0) (mR (lS 1) vR)))) (lf (lL 2 (CQ A1)) (lf (ot (oO (m8 (k8 lN (k9 lN)))) (lS 3) (lv (pT (oP (k7 2) A4 (k9 (k7 3)))))) (lf (pT (oP (k7 2) A2 (k8 lN (k8 lN (k8 lc (k8 lc (k9 lc))))))) (lf (ot (oO (k7 0)) (lS 4) (lv (pT (oP (k7 2) A5 (k8 lN (k8 lN (k8 lN (k9 (nE (k8 lc (k9 (k7 4)))))))))))) (lf (lL 5 (lO A3 (k9 (k7 1)))) (lv (lP (wE (yv tK (lO A6 (k9 (k7 2))) (k7 5)) (wE (yv tK (oP (lO A8 (k9 (k7 5))) A7 (k9 lN)) (oP (k7 2) A7 (k9 lN))) (AL (yv tK (lF (oP (k7 2) A7 (k9 lN)) lc) (nE (k8 lN (k9 (k7 1))))))))))))))))
abbrev Kd:bL:=top 61
def MX:FnScope ["_law_script","_law_purse_here","_law_book","_law_people","_law_entries","_law_numbers","_law_text","_law_found","_law_other","_law_house","_law_one","_law_share"] ["_law_script"] (lh Kd):=fsc
noncomputable def vU(a:Adr) :XS:=(xSeq (xAsg (x2 (xCall 2 (mW a) (xCons (xVar 4) (xCons (xVar 9) xNil))) (xC (.int 0)) fIx) (yTup 2 (yCons (yName 10) (yCons (yName 11) yNil)))) (xSeq (xIf (xTr (x2 (x2 (xVar 11) (xC (.int 1)) fIx) (x2 (xC (.int 10)) (xC (.int 28)) fPow) fLt)) (xDo (xBM 5 (pZ a) (xVar 7) (xCons (xVar 9) (xCons (xVar 10) (xCons (xVar 9) (xCons (xVar 11) xNil)))))) xEnd) (xDo (xBM 3 (yI a) (xVar 7) (xCons (xVar 9) (xCons (x1 (xC (.int 7)) fNeg) xNil))))))
noncomputable def Kk(a:Adr):XS:=(xSeq (xSet 1 (xCall 1 (oZ a) (xCons (xVar 0) xNil))) (xSeq (xAsg (xCall 1 (qk a) (xCons (xVar 1) xNil)) (yTup 4 (yCons (yName 2) (yCons (yName 3) (yCons (yName 4) (yCons (yName 5) yNil)))))) (xSeq (xIf (xAnd (xTr (x2 (xCall 2 (lB a) (xCons (xVar 1) (xCons (xC (.int 4)) xNil))) (xC (.int 1)) fEq)) (xNot (xTr (CZ (oj a))))) (xRet (xC (.bl false))) xEnd) (xSeq (xSet 6 (xJoin (xC (.str "\n")) (xCons (xCall 3 (sZ a) (xCons (xVar 3) (xCons (xVar 4) (xCons (xVar 5) xNil)))) xNil))) (xSeq (xSet 7 (xCall 1 (oC a) (xCons (xVar 6) xNil))) (xSeq (xSet 8 (xCall 1 (oC a) (xCons (xVar 6) xNil))) (xSeq (xIf (xOr (xNot (xTr (xCall 4 (mS a) (xCons (xVar 7) (xCons (xVar 3) (xCons (xVar 4) (xCons (xVar 5) xNil))))))) (xTr (x2 (xCall 1 (rh a) (xCons (xVar 7) xNil)) (xVar 6) fNe))) (xRet (xC (.bl false))) xEnd) (xSeq (xFor (xIter (xSl (xB (xCons (xVar 4) xNil) lC) xNoP (xPart (xC (.int 3))))) (yName 9) (vU a)) (xSeq (xIf (xTr (x2 (xB (xCons (xVar 3) xNil) fLen) (xC (.int 6)) fLt)) (xDo (xBM 2 (m6 a) (xVar 7) (xCons (x2 (nH (xIter (xLst (xCons (xC (.str "zq")) (xCons (xC (.str "zr")) xNil)))) [3,4] (xAnd (xTr (x2 (xVar 0) (xVar 1) pS)) (xTr (x2 (xVar 0) (xVar 2) pS))) (xVar 0)) (xC (.int 0)) fIx) xNil))) xEnd) (xSeq (xIf (xOr (xNot (xTr (xCall 4 (mS a) (xCons (xVar 8) (xCons (xVar 3) (xCons (xVar 4) (xCons (xVar 5) xNil))))))) (xTr (x2 (xCall 1 (rh a) (xCons (xVar 8) xNil)) (xVar 6) fNe))) (xRet (xC (.bl false))) xEnd) (xRet (xAndV (xCall 4 (mS a) (xCons (xCall 1 (oC a) (xCons (xVar 6) xNil)) (xCons (xVar 3) (xCons (xVar 4) (xCons (xVar 5) xNil))))) (xAndV (x2 (xBM 1 (nQ a) (xCall 1 (oC a) (xCons (xC (.str "")) xNil)) xNil) (xLst xNil) fEq) (x2 (xBM 1 (mn a) (xCall 1 (oC a) (xCons (xC (.str "")) xNil)) xNil) (xLst xNil) fEq))))))))))))))
def Df(a:Adr):XF:=(fnD 12 (Kk a))
def Nx(T:Txt K mg a)(F:Fun K "law" "law" Kd f fd)(A0:sT P w K mg base a)(A1:qi P w K mg base a)(A2:Dd P w K mg base a)(A3:sV P w K mg base a)(A4:yn P w K mg base a)(A5:pY P w K mg base a)(A6:uG P w K mg base a)(A7:n8 P w K mg base a)(A8:pK P w K mg base a)(A9:zI P w K mg base a)(A10:pX P w K mg base a)(A11:rE P w K mg base a)(A12:rV P w K mg base a)(A13:oV P w K mg base a):FnOk P w K mg base (CXo P w) 9 f fd ["_law_script"] (spD K a.Book 1 (Df a)) :=
 mZ F MX rfl fun _ _ _ _ _ _ hr S=>(lf (lL 1 (lO A0 (k9 (k7 0)))) (lf (AK (lO A1 (k9 (k7 1))) (yF (mR (lS 2) (mR (lS 3) (mR (lS 4) (mR (lS 5) vR)))))) (lf (nI (DW.dt (AI (mG tK (lO A7 (k8 (k7 1) (k9 lc))) lc) (xt (tX (qA (NW A8)))))) (lv (lP yw)) ma) (lf (lL 6 (sd lN (k9 (lO A3 (k8 (k7 3) (k8 (k7 4) (k9 (k7 5)))))))) (lf (lL 7 (lO A2 (k9 (k7 6)))) (lf (lL 8 (lO A2 (k9 (k7 6)))) (lf (nI (DW.dt (Ba (tX (qA (lO A6 (k8 (k7 7) (k8 (k7 3) (k8 (k7 4) (k9 (k7 5)))))))) (yE (mG EE (lO A9 (k9 (k7 7))) (k7 6))))) (lv (lP yw)) ma) (lf (ot (oO (Ft (lT (b_sorted rfl) (k9 (k7 4))) xu (tR lc))) (lS 9) (lf (AK (lF (lO A10 (k8 (k7 4) (k9 (k7 9)))) lc) (yF (mR (lS 10) (mR (lS 11) vR)))) (lf (nI (mG J3 (lF (k7 11) lc) (vS lc lc)) (lv (pT (oP (k7 7) A11 (k8 (k7 9) (k8 (k7 10) (k8 (k7 9) (k9 (k7 11)))))))) ma) (lv (pT (oP (k7 7) A4 (k8 (k7 9) (k9 (J2 lc))))))))) (lf (nI (mG J3 (lT b_len (k9 (k7 3))) lc) (lv (pT (oP (k7 7) A5 (k9 (lF (se (fr:=["_law_people","_law_entries"]) (oO (m8 (k8 lN (k9 lN)))) (fun _ _ _ _ _=>(k7 0)) (fun _ _ _ _ _=>(wU (DW.dt (AI (mG GL (k7 0) (k7 1)) (xt (mG GL (k7 0) (k7 2)))))))) lc))))) ma) (lf (nI (DW.dt (Ba (tX (qA (lO A6 (k8 (k7 8) (k8 (k7 3) (k8 (k7 4) (k9 (k7 5)))))))) (yE (mG EE (lO A9 (k9 (k7 8))) (k7 6))))) (lv (lP yw)) ma) (lv (lP (wE (lO A6 (k8 (lO A2 (k9 (k7 6))) (k8 (k7 3) (k8 (k7 4) (k9 (k7 5)))))) (wE (yv tK (wD (lO A2 (k9 lN)) A12) (m8 wF)) (AL (yv tK (wD (lO A2 (k9 lN)) A13) (m8 wF)))))))))))))))))
end
def oM(h1:fi ρ s=.ok l s1)(hl:l.length<=100000)(h2:nc c e (my ix ρ) l s1=.ok vs s2):nH fi ix c e ρ s=.ok (.lst vs) s2:=by unfold nH;rw[h1];simp only[Out.bind,hl,if_true];rw[h2]
def mv(h:f ρ s=.ok v s'):xRet f ρ s=.rt v s':=by unfold xRet;rw[h];rfl
def vF(h:f ρ s=.rt v s'):xSeq f g ρ s=.rt v s':=by unfold xSeq;rw[h]
def lY(h:f ρ s=.ok v s'):xSet i f ρ s=.nx (ρ.set i (some v)) s':=by unfold xSet;rw[h];rfl
def tJ(h:f ρ s=.ok v s'):xDo f ρ s=.nx ρ s':=by unfold xDo;rw[h];rfl
def pd(h:t ρ s=.ok false s1):xIf t A xEnd ρ s=.nx ρ s1:=by unfold xIf;rw[h];rfl
def qS(h:t ρ s=.ok true s1):xIf t A B ρ s=A ρ s1:=by unfold xIf;rw[h];rfl
abbrev LS(U:List Str):PV:=.lst (U.map .str)
theorem wV(A:α->PV)(p:α->Bool)(f:α->PV):∀(l:List α),(∀q∈l,c (some (A q)::cap) s=.ok (p q) s)->(∀q∈l,p q=true->e (some (A q)::cap) s=.ok (f q) s)->nc c e cap (l.map A) s=.ok ((l.filter p).map f) s
 |[],_,_=>rfl
 |q::l,h1,h2=>by
  have ih:=wV A p f l (fun x hx=>h1 x (ah _ hx)) (fun x hx=>h2 x (ah _ hx));rw[ap,pU,h1 q ag];cases hp:p q with
  |false=>simp[ih,hp]
  |true=>simp[ih,hp,h2 q ag hp]
def pf(A:α->PV)(f:α->PV)(l:List α)(h:∀q∈l,e (some (A q)::cap) s=.ok (f q) s):nc qV e cap (l.map A) s=.ok (l.map f) s:=by have:=wV (c:=qV) A (fun _=>true) f l (fun _ _=>rfl) (fun q hq _=>h q hq);rw[List.filter_eq_self.mpr (fun _ _=>rfl)] at this;exact this
theorem BY(A B:α->PV)(f:α->PV):∀(l:List α),(∀q∈l,e (some (A q)::some (B q)::cap) s=.ok (f q) s)->pc qV e cap (l.map fun q=>.tup [A q,B q]) s=.ok (l.map f) s
 |[],_=>rfl
 |q::l,h=>by have ih:=BY A B f l fun x hx=>h x (ah _ hx);rw[ap,yk];have Rl:C7 (.tup [A q,B q]) s=some (A q,B q):=rfl;rw[Rl];simp[qV,ih,h q ag]
def GU(U:List Str):tS (U.map PV.str)=some U:=qX U
def vQ(s:Sto)(h:a9 x=true)(g:a9 y=true):fEq (.str x) (.str y) s=.ok (.bl (x==y)) s:=by
 have e1:PV.data s 12 (.str x)=some (.str x):=by unfold PV.data;rw[if_pos h]
 have e2:PV.data s 12 (.str y)=some (.str y):=by unfold PV.data;rw[if_pos g]
 unfold fEq fEqN;rw[e1,e2];unfold bV;rfl
def ne_str(s:Sto)(h:a9 x=true):fNe (.str x) (.str x) s=.ok (.bl false) s:=by
 have e:PV.data s 12 (.str x)=some (.str x):=by unfold PV.data;rw[if_pos h]
 unfold fNe fEqN;rw[e];unfold bV;simp
def HI(a b c:Str):a++b++c=a++(b++c):=by obtain⟨a⟩:=a;obtain⟨b⟩:=b;obtain⟨c⟩:=c;show(⟨a++b++c⟩:Str)=⟨a++(b++c)⟩;rw[iz]
def lz(s:String):a9 (ac s)=true:=by
 rw[Str.ofString_eq_toList];unfold a9;rw[<-iW,cy];intro c hc;have hc:c∈s.toList.map Char.toNat:=hc;obtain⟨d,_,rfl⟩:=ak.mp hc;refine decide_eq_true ?_;rcases d.valid with h|h
 ·exact fj h (by decide)
 ·exact h.2
def wA(i:Int):a9 (lJ i)=true:=lz _
def Aw(h:a9 x=true)(g:a9 y=true):a9 (x++y)=true:=by
 unfold a9 at *;rw[<-iW,cy] at *;intro c hc;rw[sB] at hc;rcases aJ.mp hc with z|z
 ·exact h c z
 ·exact g c z
def pF(sep:Str)(l:List Str):cG sep l=b8 sep l:=jK _ _
def CL(hs:a9 sep=true):∀l:List Str,(∀x∈l,a9 x=true)->a9 (cG sep l)=true:=by
 intro l;rw[pF];induction l with
 |nil=>intro _;exact lz ""
 |cons x r ih =>
  intro h;cases r with
  |nil=>exact h x ag
  |cons y r=>exact Aw (Aw (h x ag) hs) (ih fun z hz=>h z (ah _ hz))
def zU(hs:sep.length<=1):∀l:List Str,(∀x∈l,x.length<=k)->(cG sep l).length<=(k+1)*l.length:=by
 intro l;rw[pF];induction l with
 |nil=>intro _;exact ba _
 |cons x r ih =>
  intro h;have hx:=h x ag;cases r with
  |nil =>
   show x.length<=(k+1)*1;omega
  |cons y r =>
   have ih:=ih fun z hz=>h z (ah _ hz);show(x++sep++b8 sep (y::r)).length<=_;rw[me,me];have e:(k+1)*(x::y::r).length=(k+1)*(y::r).length+(k+1):=by rw[aq (a:=x),kB]
   omega
theorem FW:∀l:List Str,(∀x∈l,x.length<=k)->(l.map (·.length)).sum<=k*l.length
 |[],_=>ba _
 |x::r,h=>by have h1:=h x ag;have h2:=FW r fun z hz=>h z (ah _ hz);rw[ap,jQ,aq,kB];omega
def rZ(he:e ρ s=.ok (LS l) s')(hs:sep.length<=1)(hk:∀x∈l,x.length<=k)(hb:(k+1)*l.length<=16777216):xJoin (xC (.str sep)) (xCons e xNil) ρ s=.ok (.str (cG sep l)) s':=by
 have h1:=FW l hk;have h2:(l.map (·.length)).sum+l.length*sep.length<=16777216:=by have:l.length*sep.length<=l.length*1:=eg _ hs;have e:(k+1)*l.length=k*l.length+l.length:=Nat.succ_mul ..;omega
 unfold xJoin;simp only[xC,xCons,xNil,he,Out.bind,lsOf,GU];rw[if_pos h2]
def lX(q:Int×Int):Str:=if q.2=1 then lJ q.1 else lJ q.1++ac "/"++lJ q.2
def xq(h:Str)(e:Ent):Str:=cG (ac " ") [ac "house",h,lJ e.th,lJ e.mr,lJ e.ls]
def EY(h:Str)(q:Str×Int×Int):Str:=cG (ac " ") [ac "share",h,q.1,lX q.2]
def uT(n:Str):Str:=ac "person "++n
def D6(n:Str):cG (ac " ") [ac "person",n]=uT n:=by
 rw[pF];show ac "person"++ac " "++n=ac "person "++n
 congr 1
abbrev Shw(i:Int):Prop:=i.natAbs.log2<1920
def yz(hk:k<1920)(h:Bt k i):Shw i:=by
 show i.natAbs.log2<1920;by_cases z:i.natAbs=0
 ·rw[z];decide
 ·rw[kN z];exact fj h (kM (by decide) hk)
structure ShwQ(q:Int×Int):Prop where
 t:Shw q.1
 b:Shw q.2
def Bz(h:ShwQ q):(lX q).length<=3900:=by
 have h1:=rc h.t;have h2:=rc h.b;unfold lX;split
 ·omega
 ·rw[me,me];have:(ac "/").length=1:=rfl;omega
def Im(q:Int×Int):a9 (lX q)=true:=by
 unfold lX;split
 ·exact wA _
 ·exact Aw (Aw (wA _) (lz _)) (wA _)
def yK(a:Adr)(t:Sto)(h:ShwQ q):rW a [frP q] t=.ok (.str (lX q)) t:=by
 have i0:fIx (frP q) (.int 0) t=.ok (.int q.1) t:=by simp[fIx,lsOf,frP,at0]
 have i1:fIx (frP q) (.int 1) t=.ok (.int q.2) t:=by simp[fIx,lsOf,frP,at1]
 have e1:fEq (.int q.2) (.int 1) t=.ok (.bl (q.2==1)) t:=by unfold fEq fEqN;rw[nr,nr];simp only[re];rfl
 have s1:nC [.int q.1] t=.ok (.str (lJ q.1)) t:=by unfold nC;simp only;rw[if_pos h.t]
 refine mO ?_;unfold vN;refine(ly (ρ':=[some (frP q),some (.int q.1),none]) (s':=t) (lY (by simp only[x2,xVar,xC,Out.bind,ap,bv,cg,ae,i0]))).trans ?_;refine(ly (ρ':=[some (frP q),some (.int q.1),some (.int q.2)]) (s':=t) (lY (by simp only[x2,xVar,xC,Out.bind,ae,i1]))).trans ?_;refine mv ?_;unfold lX;by_cases z:q.2=1
 ·have zb:(q.2==1)=true:=by simpa using z
  rw[zb] at e1;rw[if_pos z];simp only[xIfe,xTr,x2,xVar,xC,xB,xCons,xNil,Out.bind,ae,ai,e1,if_true,s1]
 ·have zb:(q.2==1)=false:=by simpa using z
  rw[zb] at e1;rw[if_neg z];have f2:Mc (xVar 1) (ac "/") (xVar 2) [some (frP q),some (.int q.1),some (.int q.2)] t=.ok (.str (lJ q.1++ac "/"++lJ q.2)) t:=by unfold Mc;simp only[xVar,Out.bind,ae,ai];rw[if_pos ⟨h.t,by decide⟩,if_pos h.b]
  simp only[xIfe,xTr,x2,xVar,xC,Out.bind,ae,ai,e1,bX,if_false];exact f2
inductive Row where
 |per (n:Str)
 |hou (h:Str) (e:Ent)
 |sha (h:Str) (q:Str×Int×Int)
noncomputable def md:Row->PV
 |.per n=>.tup [.str (ac "person"),.str n]
 |.hou h e=>.tup [.str (ac "house"),.str h,.int e.th,.int e.mr,.int e.ls]
 |.sha h q=>.tup [.str (ac "share"),.str h,.str q.1,frP q.2]
def nK:Row->Str
 |.per n=>uT n
 |.hou h e=>xq h e
 |.sha h q=>EY h q
def vq:Row->Prop
 |.per n=>Sm n
 |.hou h e=>Sm h/\Shw e.th/\Shw e.mr/\Shw e.ls
 |.sha h q=>Sm h/\Sm q.1/\ShwQ q.2
def qy(h:Sm x):a9 x=true:=by unfold a9;rw[<-iW,cy];intro c hc;exact decide_eq_true (fj (h.2 c hc) (by decide))
def M0(h:vq r):a9 (nK r)=true:=by
 have sp:=lz " ";cases r with
 |per n=>exact Aw (lz _) (qy h)
 |hou n e =>
  refine CL sp _ fun x hx=>?_;simp only[aj,bg,or_false] at hx;rcases hx with rfl|rfl|rfl|rfl|rfl
  ·exact lz _
  ·exact qy h.1
  ·exact wA _
  ·exact wA _
  ·exact wA _
 |sha n q =>
  refine CL sp _ fun x hx=>?_;simp only[aj,bg,or_false] at hx;rcases hx with rfl|rfl|rfl|rfl
  ·exact lz _
  ·exact qy h.1
  ·exact qy h.2.1
  ·exact Im _
def xQ(o:vq (.hou h e)):∀x∈[ac "house",h,lJ e.th,lJ e.mr,lJ e.ls],x.length<=1921:=fun x hx=>by
 simp only[aj,bg,or_false] at hx;rcases hx with rfl|rfl|rfl|rfl|rfl
 ·decide
 ·have:=o.1.1;omega
 ·exact rc o.2.1
 ·exact rc o.2.2.1
 ·exact rc o.2.2.2
def xG(o:vq (.sha h q)):∀x∈[ac "share",h,q.1,lX q.2],x.length<=3900:=fun x hx=>by
 simp only[aj,bg,or_false] at hx;rcases hx with rfl|rfl|rfl|rfl
 ·decide
 ·have:=o.1.1;omega
 ·have:=o.2.1.1;omega
 ·exact Bz o.2.2
def ze(h:vq r):(nK r).length<=16000:=by
 have l1:(ac " ").length<=1:=by decide
 cases r with
 |per n =>
  show(ac "person "++n).length<=_;rw[me];have:(ac "person ").length=7:=rfl;have:=(show Sm n from h).1;omega
 |hou n e=>exact aC (zU l1 _ (xQ h)) (show(1921+1)*5<=16000 by decide)
 |sha n q=>exact aC (zU l1 _ (xG h)) (show(3900+1)*4<=16000 by decide)
def B9(a:Adr)(t:Sto)(h:vq r):rF a [md r] t=.ok (.str (nK r)) t:=by
 have l1:(ac " ").length<=1:=by decide
 have st:∀x:Str,nC [.str x] t=.ok (.str x) t:=fun _=>rfl;have si:∀{i:Int},Shw i->nC [.int i] t=.ok (.str (lJ i)) t:=fun{i} h=>by unfold nC;simp only;rw[if_pos h]
 refine mO ?_;unfold ye;cases r with
 |per n =>
  have q:=vQ t (lz "person") (lz "share");have qf:(ac "person"==ac "share")=false:=by decide +kernel
  rw[qf] at q;have i0:fIx (md (.per n)) (.int 0) t=.ok (.str (ac "person")) t:=rfl;refine(ly (pd (s1:=t) ?_)).trans (mv ?_)
  ·show xTr _ [some (md (.per n))] t=_;simp only[xTr,x2,xVar,xC,Out.bind,ae,i0,q]
  ·have c:=pf (s:=t) (cap:=[]) (e:=xB (xCons (xVar 0) xNil) nC) PV.str PV.str [ac "person",n] (fun x _=>by simp only[xB,xCons,xVar,xNil,Out.bind,ae,st]);have d:nH (xIter (xVar 0)) [] qV (xB (xCons (xVar 0) xNil) nC) [some (md (.per n))] t=.ok (LS [ac "person",n]) t:=oM (l:=[ac "person",n].map .str) (s1:=t) rfl (show(2:Nat)<=100000 by decide) c;refine(rZ (k:=9) d l1 (fun x hx=>?_) (show(9+1)*2<=16777216 by decide)).trans ?_
   ·simp only[aj,bg,or_false] at hx;rcases hx with rfl|z
    ·decide
    ·rw[z];exact(show Sm n from h).1
   ·rw[D6];rfl
 |hou n e =>
  have q:=vQ t (lz "house") (lz "share");have qf:(ac "house"==ac "share")=false:=by decide +kernel
  rw[qf] at q;have i0:fIx (md (.hou n e)) (.int 0) t=.ok (.str (ac "house")) t:=rfl;refine(ly (pd (s1:=t) ?_)).trans (mv ?_)
  ·show xTr _ [some (md (.hou n e))] t=_;simp only[xTr,x2,xVar,xC,Out.bind,ae,i0,q]
  ·have c:=pf (s:=t) (cap:=[]) (e:=xB (xCons (xVar 0) xNil) nC) (fun p:PV×Str=>p.1) (fun p=>.str p.2) [(.str (ac "house"),ac "house"),(.str n,n),(.int e.th,lJ e.th),(.int e.mr,lJ e.mr),(.int e.ls,lJ e.ls)] (fun p hp=>by
    simp only[aj,bg,or_false] at hp;rcases hp with rfl|rfl|rfl|rfl|rfl
    ·simp only[xB,xCons,xVar,xNil,Out.bind,ae,st]
    ·simp only[xB,xCons,xVar,xNil,Out.bind,ae,st]
    ·simp only[xB,xCons,xVar,xNil,Out.bind,ae,si h.2.1]
    ·simp only[xB,xCons,xVar,xNil,Out.bind,ae,si h.2.2.1]
    ·simp only[xB,xCons,xVar,xNil,Out.bind,ae,si h.2.2.2])
   have d:nH (xIter (xVar 0)) [] qV (xB (xCons (xVar 0) xNil) nC) [some (md (.hou n e))] t=.ok (LS [ac "house",n,lJ e.th,lJ e.mr,lJ e.ls]) t:=oM (l:=[(.str (ac "house")),(.str n),(.int e.th),(.int e.mr),(.int e.ls)]) (s1:=t) rfl (show(5:Nat)<=100000 by decide) c;exact rZ (k:=1921) d l1 (xQ h) (show(1921+1)*5<=16777216 by decide)
 |sha n q =>
  have q0:=vQ t (lz "share") (lz "share");have qf:(ac "share"==ac "share")=true:=by decide +kernel
  rw[qf] at q0;have i0:fIx (md (.sha n q)) (.int 0) t=.ok (.str (ac "share")) t:=rfl;have i1:fIx (md (.sha n q)) (.int 1) t=.ok (.str n) t:=rfl;have i2:fIx (md (.sha n q)) (.int 2) t=.ok (.str q.1) t:=rfl;have i3:fIx (md (.sha n q)) (.int 3) t=.ok (frP q.2) t:=rfl;have e4:=yK a t h.2.2;refine vF ?_;show xIf _ _ _ [some (md (.sha n q))] t=_;rw[qS (s1:=t) (by simp only[xTr,x2,xVar,xC,Out.bind,ae,i0,q0])];refine mv ?_;refine rZ (k:=3900) (l:=[ac "share",n,q.1,lX q.2]) ?_ l1 (xG h) (show(3900+1)*4<=16777216 by decide);simp only[xLst,xCons,xNil,xVar,x2,xC,xCall,Out.bind,ae,i0,i1,i2,i3,aq,aD,if_true,e4,show(0+1+1+1+1:Nat)<=100000 by decide];rfl
def ent(L:List Ent)(h:Str):Ent:=(mj L h).getD ⟨h,0,0,0,[]⟩
def oX(L:List Ent)(h:Str):List Row:=((srt ((ent L h).held.map (·.1))).map (lU (ent L h).held)).map (Row.sha h)
def mi(pp:List Str)(L:List Ent):List Row:=(srt pp).map Row.per++(srt (L.map (·.nm))).map (fun h=>Row.hou h (ent L h))++((srt (L.map (·.nm))).map (oX L)).flatten
structure EntOk(e:Ent):Prop where
 nm:Sm e.nm
 len:e.held.length<=12
 th:Shw e.th
 mr:Shw e.mr
 ls:Shw e.ls
 sh:∀n∈e.held.map (·.1),Sm n/\ShwQ (lA e.held n)
structure Bok(t:Sto)(nb:Nat)(pp:List Str)(L:List Ent):Prop where
 g:t.get nb=some (.book pp L)
 ps:∀n∈pp,Sm n
 p6:pp.length<=6
 l8:L.length<=8
 en:∀e∈L,EntOk e
section
variable{t:Sto}{nb:Nat}{pp:List Str}{L:List Ent}
def Bok.find(B:Bok t nb pp L)(hh:h∈L.map (·.nm)):mj L h=some (ent L h)/\(ent L h).nm=h/\ent L h∈L:=by
 obtain⟨x,hx,ex⟩:=ak.mp hh;obtain⟨e,he⟩:∃e,mj L h=some e:=bY.mp (eY.mpr ⟨x,hx,decide_eq_true ex⟩);have e1:ent L h=e:=by unfold ent;rw[he];rfl
 rw[e1];unfold mj at he;exact⟨by unfold mj;exact he,of_decide_eq_true (dC (p:=fun e:Ent=>decide (e.nm=h)) he),cW he⟩
def Bok.rows_ok(B:Bok t nb pp L):∀r∈mi pp L,vq r:=fun r hr=>by
 unfold mi at hr;rcases aJ.mp hr with hr|hr
 ·rcases aJ.mp hr with hr|hr
  ·obtain⟨n,hn,rfl⟩:=ak.mp hr;exact B.ps n ((lx _).mem_iff.mp hn)
  ·obtain⟨h,hh,rfl⟩:=ak.mp hr;obtain⟨_,e1,e2⟩:=B.find ((lx _).mem_iff.mp hh);have o:=B.en _ e2;exact⟨by rw[<-e1];exact o.nm,o.th,o.mr,o.ls⟩
 ·obtain⟨l,hl,hr⟩:=List.mem_flatten.mp hr;obtain⟨h,hh,rfl⟩:=ak.mp hl;obtain⟨_,e1,e2⟩:=B.find ((lx _).mem_iff.mp hh);have o:=B.en _ e2;unfold oX at hr;obtain⟨q,hq,rfl⟩:=ak.mp hr;obtain⟨n,hn,rfl⟩:=ak.mp hq;have hn:=(lx _).mem_iff.mp hn;rw[vm];exact⟨by rw[<-e1];exact o.nm,(o.sh n hn).1,(o.sh n hn).2⟩
theorem CF(B:Bok t nb pp L):∀(l:List Str),(∀h∈l,h∈L.map (·.nm))->((l.map (oX L)).flatten).length<=12*l.length
 |[],_=>ba _
 |h::l,hl=>by
  have ih:=CF B l fun x hx=>hl x (ah _ hx);obtain⟨_,_,e2⟩:=B.find (hl h ag);have:=(B.en _ e2).len;rw[ap,cn,aE,aq,kB];have:(oX L h).length<=12:=by unfold oX;rw[af,af,lH,af];exact this
  omega
def Bok.rows_len(B:Bok t nb pp L):(mi pp L).length<=200:=by
 have h1:=CF B (srt (L.map (·.nm))) fun h hh=>(lx _).mem_iff.mp hh;have h2:(srt (L.map (·.nm))).length=L.length:=by rw[lH,af]
 have p6:=B.p6;have l8:=B.l8;unfold mi;rw[aE,aE,af,af,lH];omega
def Bok.rows(B:Bok t nb pp L)(a:Adr):vv a [.ref nb] t=.ok (.lst ((mi pp L).map md)) t:=by
 have p6:=B.p6;have l8:=B.l8;have ad:∀(A C:List PV),A.length+C.length<=100000->fAdd (.lst A) (.lst C) t=.ok (.lst (A++C)) t:=fun A C h=>by simp[fAdd,lsOf,h]
 have hpe:mn a [.ref nb] t=.ok (LS (srt pp)) t:=by simp[mn,lZ,B.g]
 have hho:nQ a [.ref nb] t=.ok (LS (srt (L.map (·.nm)))) t:=by simp[nQ,lZ,B.g]
 have sub:∀h∈srt (L.map (·.nm)),h∈L.map (·.nm):=fun h hh=>(lx _).mem_iff.mp hh;have hl:(srt (L.map (·.nm))).length=L.length:=by rw[lH,af]
 have lim:=CF B;have hro:mi pp L=(srt pp).map Row.per++(srt (L.map (·.nm))).map (fun h=>Row.hou h (ent L h))++((srt (L.map (·.nm))).map (oX L)).flatten:=rfl;rw[hro];generalize srt (L.map (·.nm))=H at *;have n2:(0+1+1:Nat)<=100000:=by decide
 have n4:(0+1+1+1+1:Nat)<=100000:=by decide
 have c1:=pf (s:=t) (cap:=[]) (e:=xTup (xCons (xC (.str (ac "person"))) (xCons (xVar 0) xNil))) PV.str (fun n=>md (.per n)) (srt pp) (fun n _=>by simp only[xTup,xCons,xNil,xC,xVar,Out.bind,ae,aq,aD,n2,if_true];rfl)
 have c2:=pf (s:=t) (cap:=[some (.ref nb)]) (e:=x2 (xTup (xCons (xC (.str (ac "house"))) (xCons (xVar 0) xNil))) (xBM 2 (EK a) (xVar 1) (xCons (xVar 0) xNil)) AZ) PV.str (fun h=>md (.hou h (ent L h))) H (fun h hh=>by
  obtain⟨f1,f2,f3⟩:=B.find (sub h hh);have TH:Nm h:=by rw[<-f2];exact(B.en _ f3).nm.nm
  have eo:EK a [.ref nb,.str h] t=.ok (.tup [.int (ent L h).th,.int (ent L h).mr,.int (ent L h).ls]) t:=by simp[EK,lZ,B.g,f1,TH]
  have ca:AZ (.tup [.str (ac "house"),.str h]) (.tup [.int (ent L h).th,.int (ent L h).mr,.int (ent L h).ls]) t=.ok (md (.hou h (ent L h))) t:=rfl;simp only[x2,xTup,xCons,xNil,xC,xVar,xBM,Out.bind,ae,ai,aq,aD,n2,if_true,B.g,eo,ca])
 obtain⟨ρ',s',TV,rfl,o3,rfl⟩:=vL (body:=lV (yName 3) (rC a)) (H.map .str)
  (fun k ρ s=>t=s/\∃o3,ρ=[some (.ref nb),some (LS H),some (.lst (((srt pp).map Row.per++H.map (fun h=>Row.hou h (ent L h))++((H.take k).map (oX L)).flatten).map md)),o3])
  (fun k q ρ s hq hI=>by
   obtain⟨rfl,o3,rfl⟩:=hI;rw[bu] at hq;obtain⟨h,hh,rfl⟩:=cM.mp hq;have Oo:=bW hh;obtain⟨f1,f2,f3⟩:=B.find (sub h Oo);have TH:Nm h:=by rw[<-f2];exact(B.en _ f3).nm.nm
   have Q4:(ent L h).held.length<64:=by have:=(B.en _ f3).len;omega
   have es:mf a [.ref nb,.str h] t=.ok (w5 (ent L h).held) t:=by simp[mf,lZ,B.g,f1,TH,Q4]
   have c3:=BY (s:=t) (cap:=[some (.str h)]) (e:=xTup (xCons (xC (.str (ac "share"))) (xCons (xVar 2) (xCons (xVar 0) (xCons (xVar 1) xNil))))) (fun q:Str×Int×Int=>PV.str q.1) (fun q=>frP q.2) (fun q=>md (.sha h q)) ((srt ((ent L h).held.map (·.1))).map (lU (ent L h).held)) (fun q _=>by simp only[xTup,xCons,xNil,xC,xVar,Out.bind,ae,ai,aq,aD,n4,if_true];rfl)
   have ev:((srt ((ent L h).held.map (·.1))).map (lU (ent L h).held)).map (fun q=>md (.sha h q))=(oX L h).map md:=by unfold oX;rw[aF,aF,aF];rfl
   rw[ev] at c3;have slen:(oX L h).length<=12:=by unfold oX;rw[af,af,lH,af];exact(B.en _ f3).len
   have d3:yy (xIter (xBM 2 (mf a) (xVar 0) (xCons (xVar 3) xNil))) [3] qV (xTup (xCons (xC (.str (ac "share"))) (xCons (xVar 2) (xCons (xVar 0) (xCons (xVar 1) xNil))))) [some (.ref nb),some (LS H),some (.lst (((srt pp).map Row.per++H.map (fun h=>Row.hou h (ent L h))++((H.take k).map (oX L)).flatten).map md)),some (.str h)] t=.ok (.lst ((oX L h).map md)) t:=by
    have Q6:xIter (xBM 2 (mf a) (xVar 0) (xCons (xVar 3) xNil)) [some (.ref nb),some (LS H),some (.lst (((srt pp).map Row.per++H.map (fun h=>Row.hou h (ent L h))++((H.take k).map (oX L)).flatten).map md)),some (.str h)] t=.ok (((srt ((ent L h).held.map (·.1))).map (lU (ent L h).held)).map fun q=>.tup [.str q.1,frP q.2]) t:=by simp only[xIter,xBM,xCons,xNil,xVar,Out.bind,ae,ai,B.g,aq,aD,if_true,es,w5];rw[aF];rfl
    unfold yy;rw[Q6];simp only[Out.bind];rw[if_pos (by rw[af,af,lH,af];omega)];have c3':pc qV (xTup (xCons (xC (.str (ac "share"))) (xCons (xVar 2) (xCons (xVar 0) (xCons (xVar 1) xNil))))) (my [3] [some (.ref nb),some (LS H),some (.lst (((srt pp).map Row.per++H.map (fun h=>Row.hou h (ent L h))++((H.take k).map (oX L)).flatten).map md)),some (.str h)]) _ t=_:=c3;rw[c3']
   have et:(H.take (k+1)).map (oX L)=(H.take k).map (oX L)++[oX L h]:=by rw[cI,hh,ay];rfl
   have lk:=lim (H.take k) fun x hx=>sub x (gX hx);have lt:(H.take k).length<=8:=by rw[ce];omega
   have a3:=ad (((srt pp).map Row.per++H.map (fun h=>Row.hou h (ent L h))++((H.take k).map (oX L)).flatten).map md) ((oX L h).map md) (by rw[af,af,aE,aE,af,af,lH];omega)
   refine⟨_,_,?_,rfl,some (.str h),rfl⟩;rw[et,ij,cn,iZ,bJ,<-aO,ay (l₂:=oX L h)];show rC a [some (.ref nb),some (LS H),some (.lst (((srt pp).map Row.per++H.map (fun h=>Row.hou h (ent L h))++((H.take k).map (oX L)).flatten).map md)),some (.str h)] t=_;unfold rC;refine(lY (v:=.lst (((srt pp).map Row.per++H.map (fun h=>Row.hou h (ent L h))++((H.take k).map (oX L)).flatten).map md++(oX L h).map md)) (s':=t) ?_).trans rfl;simp only[x2,xVar,d3,Out.bind,ae,ai,a3]) (ρ:=[some (.ref nb),some (LS H),some (.lst (((srt pp).map Row.per++H.map (fun h=>Row.hou h (ent L h))++((H.take 0).map (oX L)).flatten).map md)),none]) (s:=t) ⟨rfl,none,rfl⟩
 rw[af,dU] at TV;have d1:nH (xIter (xBM 1 (mn a) (xVar 0) xNil)) [] qV (xTup (xCons (xC (.str (ac "person"))) (xCons (xVar 0) xNil))) [some (.ref nb),some (LS H),none,none] t=.ok (.lst ((srt pp).map fun n=>md (.per n))) t:=oM (l:=(srt pp).map .str) (s1:=t) (by simp only[xIter,xBM,xVar,xNil,Out.bind,ae,B.g,aD,fX,if_true,hpe]) (by rw[af,lH];omega) c1;have d2:nH (xIter (xVar 1)) [0] qV (x2 (xTup (xCons (xC (.str (ac "house"))) (xCons (xVar 0) xNil))) (xBM 2 (EK a) (xVar 1) (xCons (xVar 0) xNil)) AZ) [some (.ref nb),some (LS H),some (.lst ((srt pp).map fun n=>md (.per n))),none] t=.ok (.lst (H.map fun h=>md (.hou h (ent L h)))) t:=oM (l:=H.map .str) (s1:=t) rfl (by rw[af];omega) c2;have a2:=ad ((srt pp).map fun n=>md (.per n)) (H.map fun h=>md (.hou h (ent L h))) (by rw[af,af,lH];omega);have em:((srt pp).map fun n=>md (.per n))++(H.map fun h=>md (.hou h (ent L h)))=((srt pp).map Row.per++H.map (fun h=>Row.hou h (ent L h))++((H.take 0).map (oX L)).flatten).map md:=by rw[List.take_zero,bv,iZ,bJ,ay,aF,aF];rfl
 rw[em] at a2;refine mO ?_;unfold BO;refine(ly (ρ':=[some (.ref nb),some (LS H),none,none]) (s':=t) (lY ?_)).trans ?_
 ·simp only[xBM,xVar,xNil,Out.bind,ap,bv,cg,ae,B.g,aD,fX,if_true,hho]
 refine(ly (lY d1)).trans ?_;refine(ly (ρ':=[some (.ref nb),some (LS H),some (.lst (((srt pp).map Row.per++H.map (fun h=>Row.hou h (ent L h))++((H.take 0).map (oX L)).flatten).map md)),none]) (s':=t) (lY ?_)).trans ?_
 ·simp only[kZ,iB];simp only[x2,xVar,d2,Out.bind,ae,ai,a2]
 refine(ly (pR (l:=H.map .str) (s1:=t) rfl TV)).trans ?_;exact mv rfl
def Bok.shown(B:Bok t nb pp L)(a:Adr):rh a [.ref nb] t=.ok (.str (cG (ac "\n") ((mi pp L).map nK))) t:=by
 have hr:=B.rows a;have ok:=B.rows_ok;have len:=B.rows_len;generalize mi pp L=R at *;have c:=pf (s:=t) (cap:=[]) (e:=xCall 1 (rF a) (xCons (xVar 0) xNil)) md (fun r=>.str (nK r)) R (fun r hr=>by have:=B9 a t (ok r hr);simp only[xCall,xCons,xVar,xNil,Out.bind,ae,aq,aD,if_true,this])
 have em:R.map (fun r=>PV.str (nK r))=(R.map nK).map .str:=by rw[aF];rfl
 rw[em] at c;refine mO ?_;unfold Gy;refine mv (rZ (k:=16000) (l:=R.map nK) (s':=t) ?_ (by decide) (fun x hx=>?_) (by rw[af];omega))
 ·refine oM (l:=R.map md) (s1:=t) ?_ (by rw[af];omega) c;simp only[xIter,xCall,xCons,xVar,xNil,Out.bind,ap,bv,cg,ae,aq,aD,if_true,hr]
 ·obtain⟨r,hr,rfl⟩:=ak.mp hx;exact ze (ok r hr)
end
def lk(M:List (Str×Hl))(h:Str):Hl:=((M.find? fun m=>decide (m.1=h)).map (·.2)).getD []
def wa(P:Pairs N c L M)(hh:h∈M.map (·.1)):∃e,mj L h=some e/\HR c e.held (lk M h)/\pj (l9 M) (ar h)=some (.dct (hP (lk M h))):=by
 induction P with
 |nil=>cases hh
 |@cons e m L M h1 h2 h3 h4 P ih =>
  by_cases z:m.1=h
  ·refine⟨e,?_,?_,?_⟩
   ·unfold mj;rw[bw,decide_eq_true (by rw[h1];exact z)]
   ·have:lk (m::M) h=m.2:=by unfold lk;rw[bw,decide_eq_true z];rfl
    rw[this];exact h2
   ·have:lk (m::M) h=m.2:=by unfold lk;rw[bw,decide_eq_true z];rfl
    rw[this];unfold l9;simp[pj,z]
  ·have e1:lk (m::M) h=lk M h:=by unfold lk;rw[bw,decide_eq_false z]
   rw[ap,aj] at hh;obtain⟨e',g1,g2,g3⟩:=ih (hh.resolve_left fun y=>z y.symm);refine⟨e',?_,?_,?_⟩
   ·unfold mj;rw[bw,decide_eq_false (by rw[h1];exact z)];exact g1
   ·rw[e1];exact g2
   ·rw[e1,<-g3];unfold l9;simp[pj,z]
theorem rA:∀M:List (Str×Hl),keysOf (l9 M)=some (M.map (·.1))
 |[]=>rfl
 |m::M=>by have:=rA M;unfold l9 at this ⊢;rw[ap];unfold keysOf;rw[this];rfl
def nA(L:List Ent):List (Key×PV):=L.map fun e=>(ar e.nm,.lst [.int e.th,.int e.mr,.int e.ls])
abbrev Sh2(i:Int):Prop:=Bt 200 i
structure Nst(p nb nd:Nat)(pp:List Str)(L:List Ent)(D:List (Key×PV))(t:Sto):Prop where
 g:t.get nb=some (.book pp L)
 ps:IsPurse t p
 d:t.get nd=some (.dct D)
 hp:p<t.nx
 hn:nb<t.nx
 hd:nd<t.nx
 n1:p≠nb
 n2:nd≠nb
 n3:p≠nd
section
variable{p nb nd:Nat}{pp:List Str}{L:List Ent}{D:List (Key×PV)}{t:Sto}
def Nst.purse(h:Nst p nb nd pp L D t)(x y:Int):Nst p nb nd pp L D (t.set p (.lst [.int x,.int y])) :=
 ⟨(mC fun z=>h.n1 z.symm).trans h.g,let⟨_,_,e⟩:=h.ps;⟨x,y,qY e⟩,(mC fun z=>h.n3 z.symm).trans h.d,h.hp,h.hn,h.hd,h.n1,h.n2,h.n3⟩
theorem Nst.book(h:Nst p nb nd pp L D t)(L':List Ent):Nst p nb nd pp L' D (t.set nb (.book pp L')) :=
 ⟨qY h.g,let⟨x,y,e⟩:=h.ps;⟨x,y,(mC h.n1).trans e⟩,(mC h.n2).trans h.d,h.hp,h.hn,h.hd,h.n1,h.n2,h.n3⟩
def Nst.dict(h:Nst p nb nd pp L D t)(D':List (Key×PV)):Nst p nb nd pp L D' (t.set nd (.dct D')) :=
 ⟨(mC fun z=>h.n2 z.symm).trans h.g,let⟨x,y,e⟩:=h.ps;⟨x,y,(mC h.n3).trans e⟩,qY h.d,h.hp,h.hn,h.hd,h.n1,h.n2,h.n3⟩
def Nst.take(h:Nst p nb nd pp L D t)(a:Adr)(h0:0<n)(h1:Bt 200 n):∃r x y,0<=r/\r<n/\lB a [.ref p,.int n] t=.ok (.int r) (t.set p (.lst [.int x,.int y])):=vB a t p n h.ps h0 (h1.mono (by decide))
def FF(h:Nst p nb nd pp L D t)(a:Adr)(hn:Nm n)(hh:n∈L.map (·.nm))(g:Int->Ent->Ent)(neg:Bool)(v:Int)(hv:neg=true->0<=v):zK a g neg [.ref nb,.str n,.int v] t=.ok .non (t.set nb (.book pp (qZ L n (g v)))):=by
 have h1:ni L n=true:=by rw[mM];exact hh
 have h2:¬(neg=true/\v<0):=fun z=>by have:=hv z.1;have:=z.2;omega
 simp only[zK,lZ,h.g];rw[if_pos hn,if_pos h1,if_neg h2]
def Nst.step(a:Adr)(h:Nst p nb nd pp (A++e::B) (nA A) t)(QT:((A++e::B).map (·.nm)).Nodup)(TQ:Sm e.nm)(hA:A.length<=8)(o2 o3 o6 o7:Option PV) :
  ∃e' u6 u7 t',e'.nm=e.nm/\e'.held=e.held/\Sh2 e'.th/\Sh2 e'.mr/\(Sh2 e'.ls/\0<=e'.ls)/\mD a [some (.ref p),some (.ref nb),o2,o3,some (.ref nd),some (.str e.nm),o6,o7] t=.nx [some (.ref p),some (.ref nb),o2,o3,some (.ref nd),some (.str e.nm),u6,u7] t'/\Nst p nb nd pp (A++e'::B) (nA (A++[e'])) t':=by
 have Ph:∀{i:Int},-(10^21)<=i->i<=10^21->Bt 200 i:=fun{i} h1 h2=>by
  have:Bt 71 i:=by unfold Bt;omega
  exact this.mono (by decide)
 have shw:∀{i:Int},-(10^21)<=i->i<=10^21->Sh2 i:=fun{i} h1 h2=>Ph h1 h2;rw[ay,ap] at QT;have n1:e.nm∉A.map (·.nm):=fun z=>(aW.mp QT).2.2 _ z _ ag rfl;have n2:e.nm∉B.map (·.nm):=(az.mp (aW.mp QT).2.1).1;obtain⟨r,xa,ya,r0,r1,e1⟩:=h.take a (n:=4) (by decide) (Ph (by decide) (by decide));obtain⟨m,hm,em⟩:∃m:Int,(0<m/\m<=10^20)/\atI [PV.int 10,.int 1000,.int (10^12),.int (10^20)] r=some (.int m):=by
  obtain⟨j,rfl⟩:∃j:Nat,r=j:=⟨r.toNat,by omega⟩;have hj:j<4:=by omega
  match j,hj with
  |0,_=>exact⟨10,by decide,rfl⟩
  |1,_=>exact⟨1000,by decide,rfl⟩
  |2,_=>exact⟨10^12,by decide,rfl⟩
  |3,_=>exact⟨10^20,by decide,rfl⟩
 have H1:=h.purse xa ya;generalize t.set p (.lst [.int xa,.int ya])=t1 at *;obtain⟨v1,xb,yb,b0,b1,e2⟩:=H1.take a (n:=2*m) (by omega) (Ph (by omega) (by omega));have H2:=H1.purse xb yb;generalize t1.set p (.lst [.int xb,.int yb])=t2 at *;obtain⟨v2,xc,yc,c0,c1,e3⟩:=H2.take a (n:=2*m) (by omega) (Ph (by omega) (by omega));have H3:=H2.purse xc yc;generalize t2.set p (.lst [.int xc,.int yc])=t3 at *;obtain⟨v3,xd,yd,d0,d1,e4⟩:=H3.take a (n:=m) (by omega) (Ph (by omega) (by omega));have H4:=H3.purse xd yd;generalize t3.set p (.lst [.int xd,.int yd])=t4 at *;have mid:∀(x:Ent),x.nm=e.nm->x.nm∈(A++x::B).map (·.nm):=fun x _=>by simp
 have e5:=FF H4 a TQ.nm (by simp) (fun n x=>{ x with th:=n }) false (v1-m) (fun z=>by cases z);rw[qQ _ n1 n2] at e5;have H5:=H4.book (A++{ e with th:=v1-m }::B);generalize t4.set nb (.book pp (A++{ e with th:=v1-m }::B))=t5 at *;have e6:=FF H5 a (n:=e.nm) TQ.nm (by simp) (fun n x=>{ x with mr:=n }) false (v2-m) (fun z=>by cases z);rw[qQ (e:={ e with th:=v1-m }) _ n1 n2] at e6;have H6:=H5.book (A++{ e with th:=v1-m,mr:=v2-m }::B);generalize t5.set nb (.book pp (A++{ e with th:=v1-m,mr:=v2-m }::B))=t6 at *;have e7:=FF H6 a (n:=e.nm) TQ.nm (by simp) (fun n x=>{ x with ls:=n }) true v3 (fun _=>d0);rw[qQ (e:={ e with th:=v1-m,mr:=v2-m }) _ n1 n2] at e7;have H7:=H6.book (A++{ e with th:=v1-m,mr:=v2-m,ls:=v3 }::B);generalize t6.set nb (.book pp (A++{ e with th:=v1-m,mr:=v2-m,ls:=v3 }::B))=t7 at *;have hk:(ar e.nm:Key)∉(nA A).map (·.1):=fun z=>by obtain⟨q,hq,z⟩:=ak.mp z;obtain⟨x,hx,rfl⟩:=ak.mp hq;have z:(ar x.nm:Key)=ar e.nm:=z;exact n1 (ak.mpr ⟨x,hx,gD z⟩)
 have hl:(nA A).length<100000:=by unfold nA;rw[af];omega
 have e8:nN (.ref nd) (.str e.nm) (.lst [.int (v1-m),.int (v2-m),.int v3]) t7=some (t7.set nd (.dct (nA A++[(ar e.nm,.lst [.int (v1-m),.int (v2-m),.int v3])]))):=by simp only[nN,H7.d,kyOf,hl,if_true,D3 _ hk]
 have H8:=H7.dict (nA A++[(ar e.nm,.lst [.int (v1-m),.int (v2-m),.int v3])]);refine⟨{ e with th:=v1-m,mr:=v2-m,ls:=v3 },some (.int m),some (.lst [.int (v1-m),.int (v2-m),.int v3]),_,rfl,rfl,shw (by show _<=v1-m;omega) (by show v1-m<=_;omega),shw (by show _<=v2-m;omega) (by show v2-m<=_;omega),⟨shw (by show _<=v3;omega) (by show v3<=_;omega),d0⟩,?_,by unfold nA at H8 ⊢;rw[ay];exact H8⟩;have n4:(0+1+1+1+1:Nat)<=100000:=by decide
 have n3:(0+1+1+1:Nat)<=100000:=by decide
 have pw1:fPow (.int 10) (.int 12) t=.ok (.int (10^12)) t:=by simp[fPow]
 have pw2:fPow (.int 10) (.int 20) t=.ok (.int (10^20)) t:=by simp[fPow]
 have ix:fIx (.lst [.int 10,.int 1000,.int (10^12),.int (10^20)]) (.int r) t1=.ok (.int m) t1:=by unfold fIx;simp only[lsOf,em]
 have mo:wO 2 m:=vK ((Ph (i:=2) (by decide) (by decide)).mono (by decide)) ((Ph (i:=m) (by omega) (by omega)).mono (by decide));have ml:∀s:Sto,fMul (.int 2) (.int m) s=.ok (.int (2*m)) s:=fun s=>by simp[fMul,mo]
 have sb:∀(v:Int)(s:Sto),fSub (.int v) (.int m) s=.ok (.int (v-m)) s:=fun v s=>by simp[fSub]
 have j0:∀s:Sto,fIx (.lst [.int (v1-m),.int (v2-m),.int v3]) (.int 0) s=.ok (.int (v1-m)) s:=fun s=>rfl;have j1:∀s:Sto,fIx (.lst [.int (v1-m),.int (v2-m),.int v3]) (.int 1) s=.ok (.int (v2-m)) s:=fun s=>rfl;have j2:∀s:Sto,fIx (.lst [.int (v1-m),.int (v2-m),.int v3]) (.int 2) s=.ok (.int v3) s:=fun s=>rfl;unfold mD;refine(ly (ρ':=[some (.ref p),some (.ref nb),o2,o3,some (.ref nd),some (.str e.nm),some (.int m),o7]) (s':=t1) (lY ?_)).trans ?_
 ·simp only[x2,xLst,xCons,xNil,xC,xCall,xVar,Out.bind,ae,ai,aq,aD,n4,if_true,pw1,pw2,e1,ix]
 refine(ly (ρ':=[some (.ref p),some (.ref nb),o2,o3,some (.ref nd),some (.str e.nm),some (.int m),some (.lst [.int (v1-m),.int (v2-m),.int v3])]) (s':=t4) (lY ?_)).trans ?_
 ·simp only[x2,xLst,xCons,xNil,xC,xCall,xVar,Out.bind,ae,ai,aq,aD,n3,if_true,ml,e2,e3,e4,sb]
 refine(ly (tJ (s':=t5) (v:=.non) ?_)).trans ?_
 ·simp only[xBM,xCons,xNil,xC,x2,xVar,Out.bind,ae,ai,aq,aD,H4.g,if_true,j0];exact e5
 refine(ly (tJ (s':=t6) (v:=.non) ?_)).trans ?_
 ·simp only[xBM,xCons,xNil,xC,x2,xVar,Out.bind,ae,ai,aq,aD,H5.g,if_true,j1];exact e6
 refine(ly (tJ (s':=t7) (v:=.non) ?_)).trans ?_
 ·simp only[xBM,xCons,xNil,xC,x2,xVar,Out.bind,ae,ai,aq,aD,H6.g,if_true,j2];exact e7
 unfold xPut;simp only[xVar,Out.so,ae,ai,e8];rfl
theorem Nst.loop(a:Adr)(o2 o3:Option PV):∀(B A:List Ent)(t:Sto)(o5 o6 o7:Option PV),Nst p nb nd pp (A++B) (nA A) t->((A++B).map (·.nm)).Nodup->(∀e∈B,Sm e.nm)->A.length+B.length<=8 ->
  ∃B' u5 u6 u7 t',B'.map (·.nm)=B.map (·.nm)/\B'.map (·.held)=B.map (·.held)/\(∀e∈B',Sh2 e.th/\Sh2 e.mr/\Sh2 e.ls/\0<=e.ls)/\mL (lV (yName 5) (mD a)) ((B.map (·.nm)).map .str) [some (.ref p),some (.ref nb),o2,o3,some (.ref nd),o5,o6,o7] t=.nx [some (.ref p),some (.ref nb),o2,o3,some (.ref nd),u5,u6,u7] t'/\Nst p nb nd pp (A++B') (nA (A++B')) t'
 |[],A,t,o5,o6,o7,h,_,_,_=>⟨[],o5,o6,o7,t,rfl,rfl,(fun e he=>by cases he),rfl,by rw[bJ] at h ⊢;exact h⟩
 |e::B,A,t,o5,o6,o7,h,QT,hs,hl=>by
  rw[aq] at hl;obtain⟨e',u6,u7,t1,q1,q2,q3,q4,q5,g1,g2⟩:=h.step a QT (hs e ag) (by omega) o2 o3 o6 o7;have ea:A++e'::B=(A++[e'])++B:=by simp
  rw[ea] at g2;obtain⟨B',v5,v6,v7,t2,r1,r2,r3,r4,r5⟩:=Nst.loop a o2 o3 B (A++[e']) t1 (some (.str e.nm)) u6 u7 g2 (by rw[ay,ay,ap,bv,q1];rw[ay,ap] at QT;simpa using QT) (fun x hx=>hs x (ah _ hx)) (by rw[aE,gK];omega)
  refine⟨e'::B',v5,v6,v7,t2,by rw[ap,ap,r1,q1],by rw[ap,ap,r2,q2],fun x hx=>?_,?_,?_⟩
  ·rcases aj.mp hx with rfl|hx
   ·exact⟨q3,q4,q5.1,q5.2⟩
   ·exact r3 x hx
  ·rw[ap,ap];unfold mL;have hb:lV (yName 5) (mD a) (.str e.nm) [some (.ref p),some (.ref nb),o2,o3,some (.ref nd),o5,o6,o7] t=mD a [some (.ref p),some (.ref nb),o2,o3,some (.ref nd),some (.str e.nm),o6,o7] t:=rfl;rw[hb,g1];exact r4
  ·have:A++e'::B'=(A++[e'])++B':=by simp
   rw[this];exact r5
end
def LH(a:Adr)(t:Sto)(h:ShwQ q):ql a [frP q] t=.ok (.str (lX q)) t:=by
 have i0:fIx (frP q) (.int 0) t=.ok (.int q.1) t:=by simp[fIx,lsOf,frP,at0]
 have i1:fIx (frP q) (.int 1) t=.ok (.int q.2) t:=by simp[fIx,lsOf,frP,at1]
 have e1:fEq (.int q.2) (.int 1) t=.ok (.bl (q.2==1)) t:=by unfold fEq fEqN;rw[nr,nr];simp only[re];rfl
 have s1:nC [.int q.1] t=.ok (.str (lJ q.1)) t:=by unfold nC;simp only;rw[if_pos h.t]
 have s2:nC [.int q.2] t=.ok (.str (lJ q.2)) t:=by unfold nC;simp only;rw[if_pos h.b]
 have n1:=rc h.t;have n2:=rc h.b;have l1:(ac "/").length=1:=rfl;have a1:fAdd (.str (lJ q.1)) (.str (ac "/")) t=.ok (.str (lJ q.1++ac "/")) t:=by show(if(lJ q.1).length+(ac "/").length<=100000 then Out.ok (PV.str (lJ q.1++ac "/")) t else Out.bad)=_;rw[if_pos (by omega)]
 have a2:fAdd (.str (lJ q.1++ac "/")) (.str (lJ q.2)) t=.ok (.str (lJ q.1++ac "/"++lJ q.2)) t:=by show(if(lJ q.1++ac "/").length+(lJ q.2).length<=100000 then Out.ok (PV.str (lJ q.1++ac "/"++lJ q.2)) t else Out.bad)=_;rw[if_pos (by rw[me];omega)]
 refine mO ?_;unfold tF lX;by_cases z:q.2=1
 ·have zb:(q.2==1)=true:=by simpa using z
  rw[zb] at e1;rw[if_pos z];refine vF ?_;show xIf _ _ _ [some (frP q)] t=_;rw[qS (s1:=t) (by simp only[xTr,x2,xVar,xC,Out.bind,ae,i1,e1])];exact mv (by simp only[xB,xCons,xNil,x2,xVar,xC,Out.bind,ae,i0,s1])
 ·have zb:(q.2==1)=false:=by simpa using z
  rw[zb] at e1;rw[if_neg z];refine(ly (pd (s1:=t) ?_)).trans (mv ?_)
  ·show xTr _ [some (frP q)] t=_;simp only[xTr,x2,xVar,xC,Out.bind,ae,i1,e1]
  ·show x2 _ _ _ [some (frP q)] t=_;simp only[xB,xCons,xNil,x2,xVar,xC,Out.bind,ae,i0,i1,s1,s2,a1,a2]
theorem CO:∀l:Hl,keysOf (hP l)=some (l.map (·.1))
 |[]=>rfl
 |q::l=>by have:=CO l;unfold hP at this ⊢;rw[ap];unfold keysOf;rw[this];rfl
def Gp(he:mj L h=some e):pj (nA L) (ar h)=some (.lst [.int e.th,.int e.mr,.int e.ls]):=by
 unfold pj nA;rw[eX,jb];have ef:((fun kv:Key×PV=>decide (kv.1=ar h))∘fun e:Ent=>((ar e.nm:Key),PV.lst [.int e.th,.int e.mr,.int e.ls]))=fun e=>decide (e.nm=h):=by
  funext x
  show decide ((ar x.nm:Key)=ar h)=_;rw[yC]
 rw[ef];unfold mj at he;rw[he];rfl
def ym{e:XE}{ρ:En}{t:Sto}{X:List Str}{x:Str}(h3:ρ[3]?=some (some (.ref t.nx)))(he:e ρ (t.add (.lst (X.map .str)))=.ok (.str x) (t.add (.lst (X.map .str))))(hl:X.length<1000):xDo (xAppend (xVar 3) (xCons e xNil)) ρ (t.add (.lst (X.map .str)))=.nx ρ (t.add (.lst ((X++[x]).map .str))):=by
 have O1:(X.map PV.str).length<100000:=by rw[af];omega
 simp only[xDo,xAppend,xVar,h3,xCons,xNil,he,Out.bind,Out.so,lR,if_true,O1,mX,ay,ap,bv]
section
variable{t:Sto}{nb:Nat}{pp:List Str}{L:List Ent}{M:List (Str×Hl)}
def Ji(a:Adr){h:Str}{e:Ent}(o:vq (.hou h e))(he:mj L h=some e){X:List Str}(hX:X.length<1000)(o0 o1 o5 o6 o7:Option PV) :
  oR a [o0,o1,some (.dct (nA L)),some (.ref t.nx),some (.str h),o5,o6,o7] (t.add (.lst (X.map .str)))=.nx [o0,o1,some (.dct (nA L)),some (.ref t.nx),some (.str h),some (LS [lJ e.th,lJ e.mr,lJ e.ls]),o6,o7] (t.add (.lst ((X++[xq h e]).map .str))):=by
 generalize hs:t.add (.lst (X.map .str))=s;have iv:fIx (.dct (nA L)) (.str h) s=.ok (.lst [.int e.th,.int e.mr,.int e.ls]) s:=by simp[fIx,lsOf,dcOf,kyOf,Gp he]
 have si:∀{i:Int},Shw i->nC [.int i] s=.ok (.str (lJ i)) s:=fun{i} h=>by unfold nC;simp only;rw[if_pos h]
 have c:=pf (s:=s) (cap:=[]) (e:=xB (xCons (xVar 0) xNil) nC) (fun i:Int=>PV.int i) (fun i=>.str (lJ i)) [e.th,e.mr,e.ls] (fun i hi=>by
  have Qy:Shw i:=by
   simp only[aj,bg,or_false] at hi;rcases hi with rfl|rfl|rfl
   ·exact o.2.1
   ·exact o.2.2.1
   ·exact o.2.2.2
  simp only[xB,xCons,xVar,xNil,Out.bind,ae,si Qy])
 have d:nH (xIter (x2 (xVar 2) (xVar 4) fIx)) [] qV (xB (xCons (xVar 0) xNil) nC) [o0,o1,some (.dct (nA L)),some (.ref t.nx),some (.str h),o5,o6,o7] s=.ok (LS [lJ e.th,lJ e.mr,lJ e.ls]) s:=oM (l:=[.int e.th,.int e.mr,.int e.ls]) (s1:=s) (by simp only[xIter,x2,xVar,Out.bind,ae,ai,iv]) (show(3:Nat)<=100000 by decide) c;have n2:(0+1+1:Nat)<=100000:=by decide
 have ad:fAdd (.lst [.str (ac "house"),.str h]) (LS [lJ e.th,lJ e.mr,lJ e.ls]) s=.ok (LS [ac "house",h,lJ e.th,lJ e.mr,lJ e.ls]) s:=rfl;unfold oR;refine(ly (lY d)).trans ?_;simp only[kZ,iB];rw[<-hs] at ad ⊢;refine ym rfl (rZ (k:=1921) (l:=[ac "house",h,lJ e.th,lJ e.mr,lJ e.ls]) ?_ (by decide) (xQ o) (show(1921+1)*5<=16777216 by decide)) hX;simp only[x2,xLst,xCons,xNil,xC,xVar,Out.bind,ae,ai,aq,aD,n2,if_true,ad]
def wp(h:Str)(l:Hl)(ns:List Str):List Str:=((ns.map (lU l)).filter fun q=>decide (0<q.2.1)).map (EY h)
theorem zM(a:Adr){h:Str}(hh:Sm h)(l:Hl)(hs:∀n∈l.map (·.1),Sm n/\ShwQ (lA l n))(o0 o1 o2:Option PV):∀(ns:List Str)(X:List Str)(o5 o7:Option PV),(∀n∈ns,n∈l.map (·.1))->X.length+ns.length<1000 ->
  ∃u5 u7,mL (lV (yName 7) (mx a)) (ns.map .str) [o0,o1,o2,some (.ref t.nx),some (.str h),o5,some (.dct (hP l)),o7] (t.add (.lst (X.map .str)))=.nx [o0,o1,o2,some (.ref t.nx),some (.str h),u5,some (.dct (hP l)),u7] (t.add (.lst ((X++wp h l ns).map .str)))
 |[],X,o5,o7,_,_=>⟨o5,o7,by simp[mL,wp]⟩
 |n::ns,X,o5,o7,hn,hX=>by
  rw[aq] at hX;have Oo:=hn n ag;obtain⟨sn,sq⟩:=hs n Oo;have hv:=AG l n Oo;have hb:lV (yName 7) (mx a) (.str n) [o0,o1,o2,some (.ref t.nx),some (.str h),o5,some (.dct (hP l)),o7] (t.add (.lst (X.map .str)))=mx a [o0,o1,o2,some (.ref t.nx),some (.str h),o5,some (.dct (hP l)),some (.str n)] (t.add (.lst (X.map .str))):=rfl;have i1:∀s:Sto,fIx (.dct (hP l)) (.str n) s=.ok (frP (lA l n)) s:=fun s=>by simp[fIx,lsOf,dcOf,kyOf,hv]
  have i0:∀s:Sto,fIx (frP (lA l n)) (.int 0) s=.ok (.int (lA l n).1) s:=fun s=>by simp[fIx,lsOf,frP,at0]
  have gt:∀s:Sto,fGt (.int (lA l n).1) (.int 0) s=.ok (.bl (decide (0<(lA l n).1))) s:=fun s=>by simp[fGt,fCmp]
  have ex:wp h l (n::ns)=(if 0<(lA l n).1 then [EY h (n,lA l n)] else [])++wp h l ns:=by
   unfold wp;rw[ap,dW,vm];by_cases z:0<(lA l n).1
   ·rw[if_pos (decide_eq_true z),if_pos z,ap];rfl
   ·rw[if_neg (by simpa using z),if_neg z];rfl
  rw[ap];by_cases z:0<(lA l n).1
  ·have fe:=LH a (t.add (.lst (X.map .str))) sq;have n4:(0+1+1+1+1:Nat)<=100000:=by decide
   have st:mx a [o0,o1,o2,some (.ref t.nx),some (.str h),o5,some (.dct (hP l)),some (.str n)] (t.add (.lst (X.map .str)))=.nx [o0,o1,o2,some (.ref t.nx),some (.str h),some (LS [ac "share",h,n,lX (lA l n)]),some (.dct (hP l)),some (.str n)] (t.add (.lst ((X++[EY h (n,lA l n)]).map .str))):=by
    unfold mx;rw[qS (s1:=t.add (.lst (X.map .str))) (by simp only[xTr,x2,xVar,xC,Out.bind,ae,ai,i1,i0,gt,decide_eq_true z])]
    refine(ly (ρ':=[o0,o1,o2,some (.ref t.nx),some (.str h),some (LS [ac "share",h,n,lX (lA l n)]),some (.dct (hP l)),some (.str n)]) (s':=t.add (.lst (X.map .str))) (lY ?_)).trans ?_
    ·simp only[xLst,xCons,xNil,xC,xVar,xCall,x2,Out.bind,ae,ai,aq,aD,i1,if_true,fe,n4];rfl
    ·exact ym rfl (rZ (k:=3900) (l:=[ac "share",h,n,lX (lA l n)]) rfl (by decide) (xG (q:=(n,lA l n)) ⟨hh,sn,sq⟩) (show(3900+1)*4<=16777216 by decide)) (by omega)
   obtain⟨u5,u7,ih⟩:=zM a hh l hs o0 o1 o2 ns (X++[EY h (n,lA l n)]) (some (LS [ac "share",h,n,lX (lA l n)])) (some (.str n)) (fun x hx=>hn x (ah _ hx)) (by rw[aE,gK];omega);refine⟨u5,u7,?_⟩;unfold mL;rw[hb,st,ex,if_pos z,<-aO];exact ih
  ·have st:mx a [o0,o1,o2,some (.ref t.nx),some (.str h),o5,some (.dct (hP l)),some (.str n)] (t.add (.lst (X.map .str)))=.nx [o0,o1,o2,some (.ref t.nx),some (.str h),o5,some (.dct (hP l)),some (.str n)] (t.add (.lst (X.map .str))):=by unfold mx;exact pd (by simp only[xTr,x2,xVar,xC,Out.bind,ae,ai,i1,i0,gt,decide_eq_false z])
   obtain⟨u5,u7,ih⟩:=zM a hh l hs o0 o1 o2 ns X o5 (some (.str n)) (fun x hx=>hn x (ah _ hx)) (by omega);refine⟨u5,u7,?_⟩;unfold mL;rw[hb,st,ex,if_neg z,bI];exact ih
end
def Pairs.renum(P:Pairs N c L M):∀L':List Ent,L'.map (·.nm)=L.map (·.nm)->L'.map (·.held)=L.map (·.held)->(∀e∈L',0<=e.ls)->Pairs N c L' M:=by
 induction P with
 |nil =>
  intro L' h1 _ _;cases L' with
  |nil=>exact .nil
  |cons x r=>cases h1
 |@cons e m L M a1 a2 a3 a4 P ih =>
  intro L' h1 h2 h3;cases L' with
  |nil=>cases h1
  |cons x r =>
   rw[ap,ap,List.cons.injEq] at h1 h2;exact .cons (h1.1.trans a1) (by rw[h2.1];exact a2) a3 (h3 x ag) (ih r h1.2 h2.2 fun y hy=>h3 y (ah _ hy))
structure Wnm(pp hs:List Str)(L:List Ent)(M:List (Str×Hl)):Prop where
 w:Words pp hs
 p:Pairs (pp++hs) 5 L M
 n:L.map (·.nm)=hs
 s:∀e∈L,Sh2 e.th/\Sh2 e.mr/\Sh2 e.ls
section
variable{t:Sto}{nb:Nat}{pp hs:List Str}{L:List Ent}{M:List (Str×Hl)}
def JZ(h:FrC 5 q):ShwQ q:=⟨yz (k:=193*5+2) (by decide) h.top,yz (k:=192*5+2) (by decide) h.bb⟩
def Wnm.ent_ok(W:Wnm pp hs L M):∀e∈L,EntOk e:=by
 have key:∀{L:List Ent}{M:List (Str×Hl)},Pairs (pp++hs) 5 L M->∀e∈L,∃l,HR 5 e.held l:=by
  intro L M P;induction P with
  |nil=>intro e he;cases he
  |cons a1 a2 a3 a4 P ih =>
   intro x hx;rcases aj.mp hx with rfl|hx
   ·exact⟨_,a2⟩
   ·exact ih x hx
 intro e he;obtain⟨l,R⟩:=key W.p e he;obtain⟨s1,s2,s3⟩:=W.s e he;have hn:e.nm∈hs:=by rw[<-W.n];exact ak.mpr ⟨e,he,rfl⟩
 refine⟨W.w.sm _ (aB _ hn),by have:=R.l1;omega,yz (k:=200) (by decide) s1,yz (k:=200) (by decide) s2,yz (k:=200) (by decide) s3,fun n hn=>⟨R.sm n (R.had (by rw[<-R.q];exact(R.nm n).mp hn)),JZ (R.fr n)⟩⟩
def Wnm.bok(W:Wnm pp hs L M)(hg:t.get nb=some (.book pp L)):Bok t nb pp L :=
 ⟨hg,fun n hn=>W.w.sm n (a7 _ hn),W.w.p6,by have:=W.w.h8;rw[<-W.n,af] at this;exact this,W.ent_ok⟩
def Wnm.lines(W:Wnm pp hs L M)(a:Adr)(t:Sto):sZ a [LS (srt pp),.dct (l9 M),.dct (nA L)] t=.ok (LS ((mi pp L).map nK)) (Sto.bump t):=by
 have B:Bok (t.add (.book pp L)) t.nx pp L:=W.bok (by rw[lR,if_pos rfl]);have p6:=W.w.p6;have h8:=W.w.h8;have Pu:M.map (·.1)=hs:=by rw[<-W.p.names,W.n]
 have hso:∀s:Sto,lC [.dct (l9 M)] s=.ok (LS (srt hs)) s:=fun s=>by
  have:hs.length<64:=by omega
  simp[lC,lsOf,dcOf,rA,Pu,this]
 have O3:∀h∈hs,mj L h=some (ent L h)/\vq (.hou h (ent L h))/\HR 5 (ent L h).held (lk M h)/\pj (l9 M) (ar h)=some (.dct (hP (lk M h))):=fun h hh=>by obtain⟨f1,f2,f3⟩:=B.find (h:=h) (by rw[W.n];exact hh);obtain⟨e,g1,g2,g3⟩:=wa W.p (h:=h) (by rw[Pu];exact hh);rw[f1] at g1;cases g1;have o:=W.ent_ok _ f3;exact⟨f1,⟨W.w.sm h (aB _ hh),o.th,o.mr,o.ls⟩,g2,g3⟩
 have sub:∀h∈srt hs,h∈hs:=fun h hh=>(lx hs).mem_iff.mp hh;have hl:(srt hs).length=hs.length:=lH hs;have er:(mi pp L).map nK=(srt pp).map uT++(srt hs).map (fun h=>xq h (ent L h))++((srt hs).map fun h=>wp h (lk M h) (srt ((lk M h).map (·.1)))).flatten:=by
  unfold mi;rw[W.n,ay,ay,aF,aF,List.map_flatten,aF]
  congr 2
  refine aR fun h hh=>?_;obtain⟨_,_,R,_⟩:=O3 h (sub h hh);show(oX L h).map nK=_;unfold oX wp;rw[aF];have:=R.shown;unfold My.shown at this;rw[this];rfl
 rw[er];generalize srt hs=H at *;have c1:=pf (s:=t) (cap:=[]) (e:=x2 (xC (.str (ac "person "))) (xVar 0) fAdd) PV.str (fun n=>.str (uT n)) (srt pp) (fun n hn=>by
  have:=(W.w.sm n (a7 _ ((lx pp).mem_iff.mp hn))).1;have l7:(ac "person ").length=7:=rfl;have e:fAdd (.str (ac "person ")) (.str n) t=.ok (.str (uT n)) t:=by show(if(ac "person ").length+n.length<=100000 then Out.ok (PV.str (ac "person "++n)) t else Out.bad)=_;rw[if_pos (by omega)];rfl
  simp only[x2,xC,xVar,Out.bind,ae,e])
 have em:(srt pp).map (fun n=>PV.str (uT n))=((srt pp).map uT).map .str:=by rw[aF];rfl
 rw[em] at c1;have d1:yx (xIter (xVar 0)) [] qV (x2 (xC (.str (ac "person "))) (xVar 0) fAdd) [some (LS (srt pp)),some (.dct (l9 M)),some (.dct (nA L)),none,none,none,none,none] t=.ok (.ref t.nx) (t.add (.lst (((srt pp).map uT).map .str))):=by unfold yx;have Q6:xIter (xVar 0) [some (LS (srt pp)),some (.dct (l9 M)),some (.dct (nA L)),none,none,none,none,none] t=.ok ((srt pp).map .str) t:=rfl;rw[Q6];simp only[Out.bind];rw[if_pos (by rw[af,lH];omega)];have c1':nc qV (x2 (xC (.str (ac "person "))) (xVar 0) fAdd) (my [] [some (LS (srt pp)),some (.dct (l9 M)),some (.dct (nA L)),none,none,none,none,none]) ((srt pp).map .str) t=_:=c1;rw[c1']
 obtain⟨ρ2,s2,lo2,rfl,o4,o5,rfl⟩:=vL (body:=lV (yName 4) (oR a)) (H.map .str)
  (fun k ρ s=>t.add (.lst (((srt pp).map uT++(H.take k).map (fun h=>xq h (ent L h))).map .str))=s/\∃o4 o5,ρ=[some (LS (srt pp)),some (.dct (l9 M)),some (.dct (nA L)),some (.ref t.nx),o4,o5,none,none])
  (fun k q ρ s hq hI=>by
   obtain⟨rfl,o4,o5,rfl⟩:=hI;rw[bu] at hq;obtain⟨h,hh,rfl⟩:=cM.mp hq;obtain⟨f1,ro,_,_⟩:=O3 h (sub h (bW hh));have st:=Ji (t:=t) a ro f1 (X:=(srt pp).map uT++(H.take k).map (fun h=>xq h (ent L h))) (by rw[aE,af,af,lH,ce];omega) (some (LS (srt pp))) (some (.dct (l9 M))) o5 none none;have et:(H.take (k+1)).map (fun h=>xq h (ent L h))=(H.take k).map (fun h=>xq h (ent L h))++[xq h (ent L h)]:=by rw[cI,hh,ay];rfl
   refine⟨_,_,st,?_,some (.str h),_,rfl⟩;rw[et,aO]) (ρ:=[some (LS (srt pp)),some (.dct (l9 M)),some (.dct (nA L)),some (.ref t.nx),none,none,none,none]) (s:=t.add (.lst (((srt pp).map uT).map .str))) ⟨by simp,none,none,rfl⟩
 rw[af,dU] at lo2;have Tl:∀k,(((H.take k).map fun h=>wp h (lk M h) (srt ((lk M h).map (·.1)))).flatten).length<=6*k/\k<=H.length\/H.length<k:=by
  intro k;induction k with
  |zero=>exact .inl ⟨ba _,ba _⟩
  |succ k ih =>
   by_cases z:k<H.length
   ·refine .inl ⟨?_,z⟩;rcases ih with ih|ih
    ·obtain⟨h,hh⟩:∃h,H[k]?=some h:=⟨_,br z⟩;obtain⟨_,_,R,_⟩:=O3 h (sub h (bW hh));rw[cI,hh,ay,ij,aE];have:(wp h (lk M h) (srt ((lk M h).map (·.1)))).length<=6:=by unfold wp;rw[af];refine aC (fA _ _) ?_;rw[af,lH,af];exact R.l2
     simp only[Option.toList_some,ap,bv,cn,iZ,bJ];omega
    ·omega
   ·exact .inr (by omega)
 obtain⟨ρ3,s3,lo3,rfl,u4,u5,u6,u7,rfl⟩:=vL (body:=lV (yName 4) (oQ a)) (H.map .str)
  (fun k ρ s=>t.add (.lst (((srt pp).map uT++H.map (fun h=>xq h (ent L h))++((H.take k).map fun h=>wp h (lk M h) (srt ((lk M h).map (·.1)))).flatten).map .str))=s/\∃o4 o5 o6 o7,ρ=[some (LS (srt pp)),some (.dct (l9 M)),some (.dct (nA L)),some (.ref t.nx),o4,o5,o6,o7])
  (fun k q ρ s hq hI=>by
   obtain⟨rfl,o4,o5,o6,o7,rfl⟩:=hI;rw[bu] at hq;obtain⟨h,hh,rfl⟩:=cM.mp hq;have hk:k<H.length:=(aY.mp hh).1;have Oo:=sub h (bW hh);obtain⟨f1,ro,R,hv⟩:=O3 h Oo;have hx:((srt pp).map uT++H.map (fun h=>xq h (ent L h))++((H.take k).map fun h=>wp h (lk M h) (srt ((lk M h).map (·.1)))).flatten).length+(srt ((lk M h).map (·.1))).length<1000:=by
    rw[aE,aE,af,af,lH,lH,af];have:=R.l2;rcases Tl k with z|z
    ·omega
    ·omega
   obtain⟨v5,v7,lp⟩:=zM (t:=t) a (W.w.sm h (aB _ Oo)) (lk M h) (fun n hn=>⟨R.sm n hn,by rw[<-R.q];exact JZ (R.fr n)⟩) (some (LS (srt pp))) (some (.dct (l9 M))) (some (.dct (nA L))) (srt ((lk M h).map (·.1))) ((srt pp).map uT++H.map (fun h=>xq h (ent L h))++((H.take k).map fun h=>wp h (lk M h) (srt ((lk M h).map (·.1)))).flatten) o5 o7 (fun n hn=>(lx _).mem_iff.mp hn) hx;have et:((H.take (k+1)).map fun h=>wp h (lk M h) (srt ((lk M h).map (·.1)))).flatten=((H.take k).map fun h=>wp h (lk M h) (srt ((lk M h).map (·.1)))).flatten++wp h (lk M h) (srt ((lk M h).map (·.1))):=by rw[cI,hh,ay,ij];simp
   generalize hXe:(srt pp).map uT++H.map (fun h=>xq h (ent L h))++((H.take k).map fun h=>wp h (lk M h) (srt ((lk M h).map (·.1)))).flatten=X at *;refine⟨[some (LS (srt pp)),some (.dct (l9 M)),some (.dct (nA L)),some (.ref t.nx),some (.str h),v5,some (.dct (hP (lk M h))),v7],t.add (.lst ((X++wp h (lk M h) (srt ((lk M h).map (·.1)))).map .str)),?_,?_,some (.str h),v5,some (.dct (hP (lk M h))),v7,rfl⟩
   ·show oQ a [some (LS (srt pp)),some (.dct (l9 M)),some (.dct (nA L)),some (.ref t.nx),some (.str h),o5,o6,o7] (t.add (.lst (X.map .str)))=_;unfold oQ;have iv:∀s:Sto,fIx (.dct (l9 M)) (.str h) s=.ok (.dct (hP (lk M h))) s:=fun s=>by simp[fIx,lsOf,dcOf,kyOf,hv]
    have so:∀s:Sto,lC [.dct (hP (lk M h))] s=.ok (LS (srt ((lk M h).map (·.1)))) s:=fun s=>by
     have:(lk M h).length<64:=by have:=R.l2;omega
     simp[lC,lsOf,dcOf,CO,this]
    refine(ly (ρ':=[some (LS (srt pp)),some (.dct (l9 M)),some (.dct (nA L)),some (.ref t.nx),some (.str h),o5,some (.dct (hP (lk M h))),o7]) (s':=t.add (.lst (X.map .str))) (lY ?_)).trans ?_
    ·simp only[x2,xVar,Out.bind,ae,ai,iv]
    ·exact pR (l:=(srt ((lk M h).map (·.1))).map .str) (s1:=t.add (.lst (X.map .str))) (by simp only[xIter,xB,xCons,xNil,xVar,Out.bind,ae,ai,so]) lp
   ·rw[et,<-aO,hXe]) (ρ:=[some (LS (srt pp)),some (.dct (l9 M)),some (.dct (nA L)),some (.ref t.nx),o4,o5,none,none]) (s:=t.add (.lst (((srt pp).map uT++H.map (fun h=>xq h (ent L h))).map .str))) ⟨by simp,o4,o5,none,none,rfl⟩
 rw[af,dU] at lo3;refine mO ?_;unfold ww;refine(ly (ρ':=[some (LS (srt pp)),some (.dct (l9 M)),some (.dct (nA L)),some (.ref t.nx),none,none,none,none]) (lY d1)).trans ?_;refine(ly (pR (l:=H.map .str) (s1:=t.add (.lst (((srt pp).map uT).map .str))) (by simp only[xIter,xB,xCons,xNil,xVar,Out.bind,ae,ai,hso]) lo2)).trans ?_;refine(ly (pR (l:=H.map .str) (by simp only[xIter,xB,xCons,xNil,xVar,Out.bind,ae,ai,hso]) lo3)).trans ?_;refine mv ?_;simp[xFrz,xVar,frz1,Out.bind,lR,GD]
end
def vb(U:Str->Int)(o:Str)(v:Int)(n:Str):Int:=if n=o then U n+v else U n
def qG(U:Str->Int):List Str->Int
 |[]=>0
 |x::l=>U x+qG U l
theorem uO(U:Str->Int):∀A B:List Str,qG U (A++B)=qG U A+qG U B
 |[],B=>by show _=0+_;rw[Int.zero_add];rfl
 |x::A,B=>by show U x+qG U (A++B)=U x+qG U A+qG U B;rw[uO,Int.add_assoc]
theorem wY(h:∀n,0<=U n):∀A:List Str,0<=qG U A
 |[]=>kR _
 |x::A=>Int.add_nonneg (h x) (wY h A)
def Hy(l:Hl)(o1 o2:Str)(q:Int×Int)(n:Str):lA (pz l o1 o2 q) n=if n=o2 then ng (if o2=o1 then ng (lA l o1) (-q.1,q.2) else lA l o2) q else if n=o1 then ng (lA l o1) (-q.1,q.2) else lA l n:=by
 unfold pz;generalize hr:ng (lA l o1) (-q.1,q.2)=r;simp only;have g1:∀m,lA (if r=(0,1) then tI l o1 else oF l o1 r) m=if m=o1 then r else lA l m:=fun m=>by
  by_cases rz:r=(0,1)
  ·rw[if_pos rz,xR,rz]
  ·rw[if_neg rz,mQ]
 rw[mQ,g1,g1]
def La{D:Int}{l:Hl}{U:Str->Int}{o1 o2:Str}{q:Int×Int}{v:Int}(h:∀n,On D (lA l n) (U n))(hq:On D q v)(n:Str):On D (lA (pz l o1 o2 q) n) (vb (vb U o1 (-v)) o2 v n):=by
 have h1:∀m,On D (if m=o1 then ng (lA l o1) (-q.1,q.2) else lA l m) (vb U o1 (-v) m):=fun m=>by
  unfold vb;by_cases e:m=o1
  ·rw[if_pos e,if_pos e,e];exact(h o1).add hq.neg
  ·rw[if_neg e,if_neg e];exact h m
 rw[Hy];unfold vb;by_cases e:n=o2
 ·rw[if_pos e,if_pos e,e];exact(h1 o2).add hq
 ·rw[if_neg e,if_neg e];exact h1 n
def On.of_zero{D u:Int}(h:On D (0,1) u):u=0:=by have:=h.ev;simp at this;omega
def On.pos{D u:Int}{q:Int×Int}(h:On D q u)(hD:0<D)(hu:0<u):0<q.1:=by have e:=h.ev;have p:0<u*q.2:=bE hu h.low.1;rw[<-e] at p;exact ke p hD
def On.sz{D u:Int}{q:Int×Int}(h:On D q u)(hD:0<D)(hB:Bt 8000 D)(h0:0<=u)(h1:u<=D):Sz q:=by
 have d2:=Int.le_of_dvd hD h.dvd;have q2:=h.low.1;have e:=h.ev;have l1:q.1<=q.2:=by refine cD (a:=D) ?_ hD;rw[e,bh q.2];exact aQ h1 (bB q2)
 have l0:0<=q.1:=by refine cD (a:=D) ?_ hD;rw[e,kD];exact f9 h0 (bB q2)
 have b:∀z:Int,0<=z->z<=D->Bt 8900 z:=fun z z0 z1=>by
  have hB:D.natAbs<2^8000:=hB;have hz:z.natAbs<=D.natAbs:=by omega
  exact(show Bt 8000 z from aM hz hB).mono (by decide)
 exact⟨h.low,b _ l0 (d8 l1 d2),b _ (bB q2) d2⟩
structure Hd(D:Int)(V:Str->Int)(l:Hl):Prop where
 on:∀n,On D (lA l n) (V n)
 nm:∀n,n∈l.map (·.1)↔0<V n
 nd:(l.map (·.1)).Nodup
def Hd.sale{D:Int}{V:Str->Int}{l:Hl}(h:Hd D V l)(hD:0<D)(nn:∀n,0<=V n){o1 o2:Str}{q:Int×Int}{u:Int}(hq:On D q u)(u0:0<u)(le:u<=V o1):Hd D (vb (vb V o1 (-u)) o2 u) (pz l o1 o2 q):=by
 have hr:=(h.on o1).add hq.neg;refine⟨La h.on hq,fun n=>?_,?_⟩
 ·have PL:o1∈l.map (·.1):=(h.nm o1).mpr (by omega);unfold pz;simp only;generalize ng (lA l o1) (-q.1,q.2)=r at hr;have k:∀n,n∈(if r=(0,1) then tI l o1 else oF l o1 r).map (·.1)↔0<vb V o1 (-u) n:=fun n=>by
   unfold vb;by_cases rz:r=(0,1)
   ·rw[if_pos rz,wb,cv,decide_eq_true_iff,h.nm];rw[rz] at hr;have z:=hr.of_zero;by_cases e:n=o1
    ·rw[if_pos e,e];exact⟨fun w=>absurd rfl w.2,fun w=>by omega⟩
    ·rw[if_neg e];exact⟨fun w=>w.1,fun w=>⟨w,e⟩⟩
   ·rw[if_neg rz,mF,if_pos PL,h.nm];by_cases e:n=o1
    ·rw[if_pos e,e];refine⟨fun _=>?_,fun _=>by omega⟩;by_cases z:V o1+-u=0
     ·rw[z] at hr;exact absurd (hr.uniq hD (zi D)) rz
     ·omega
    ·rw[if_neg e]
  generalize (if r=(0,1) then tI l o1 else oF l o1 r)=l1 at k;have p1:∀n,0<=vb V o1 (-u) n:=fun n=>by
   unfold vb;have:=nn n;split
   ·rename_i e;rw[e];omega
   ·exact this
  rw[mF];have e2:vb (vb V o1 (-u)) o2 u n=if n=o2 then vb V o1 (-u) n+u else vb V o1 (-u) n:=rfl
  rw[e2];by_cases e:n=o2
  ·rw[if_pos e];refine⟨fun _=>by have:=p1 n;omega,fun _=>?_⟩;rw[e];by_cases z:o2∈l1.map (·.1)
   ·rw[if_pos z];exact z
   ·rw[if_neg z];exact aB _ (au.mpr rfl)
  ·rw[if_neg e,<-k];by_cases z:o2∈l1.map (·.1)
   ·rw[if_pos z]
   ·rw[if_neg z,aJ];exact⟨fun y=>y.elim id fun y=>absurd (au.mp y) e,fun y=>.inl y⟩
 ·unfold pz;simp only;refine wB _ _ ?_;split
  ·exact Gs _ h.nd
  ·exact wB _ _ h.nd
def Hd.ok{D:Int}{V:Str->Int}{l:Hl}(h:Hd D V l)(hD:0<D)(hB:Bt 8000 D)(nn:∀n,0<=V n/\V n<=D){o1:Str}{q:Int×Int}{u:Int}(hq:On D q u)(u0:0<u)(le:u<=V o1)(hl:l.length<1000):SaleOk l o1 q/\¬nJ l o1 q:=by
 refine⟨⟨hl,fun n=>(h.on n).sz hD hB (nn n).1 (nn n).2,fun _=>((h.on o1).add hq.neg).sz hD hB (by omega) (by have:=(nn o1).2;omega)⟩,?_⟩
 rintro(z|z)
 ·exact z (hq.pos hD u0)
 ·have e1:=(h.on o1).ev;have e2:=hq.ev;refine absurd z (Int.not_lt.mpr (cD (a:=D) ?_ hD));have a1:q.1*(lA l o1).2*D=u*(q.2*(lA l o1).2):=by rw[aN,bh _ D,<-aN,e2,aN]
  have a2:(lA l o1).1*q.2*D=V o1*(q.2*(lA l o1).2):=by rw[aN,bh q.2 D,<-aN,e1,aN,bh (lA l o1).2]
  rw[a1,a2];exact aQ le (bB (bE hq.low.1 (h.on o1).low.1))
def Vat(U:Str->Int)(p0:Str)(D:Int)(A:List Str)(n:Str):Int:=(if n∈A then U n else 0)+if n=p0 then D-qG U A else 0
theorem wJ(nn:∀n,0<=U n):∀{A:List Str},x∈A->U x<=qG U A
 |y::A,h=>by
  have a:=wY nn A;have b:=nn y;show U x<=U y+qG U A;rcases aj.mp h with e|h
  ·rw[e];omega
  ·have:=wJ nn h;omega
def JB{U:Str->Int}{p0:Str}{D:Int}{A:List Str}(nn:∀n,0<=U n)(h:qG U A<=D)(n:Str):0<=Vat U p0 D A n/\Vat U p0 D A n<=D:=by
 have a:=wY nn A;have b:=nn n;unfold Vat;by_cases m:n∈A
 ·have:=wJ nn m;rw[if_pos m];split<;>omega
 ·rw[if_neg m];split<;>omega
def HZ{U:Str->Int}{p0 x:Str}{D:Int}{A:List Str}(hx:x∉A):vb (vb (Vat U p0 D A) p0 (-(U x))) x (U x)=Vat U p0 D (A++[x]):=by
 funext n
 have e:qG U (A++[x])=qG U A+U x:=by rw[uO];show _+(U x+0)=_;omega
 unfold vb Vat;rw[e];by_cases m:n=x
 ·subst m;rw[if_pos rfl,if_neg hx,if_pos (aB _ (au.mpr rfl))];split<;>omega
 ·rw[if_neg m];have:n∈A++[x]↔n∈A:=by rw[aJ,au];exact⟨fun z=>z.elim id fun z=>absurd z m,.inl⟩
  by_cases k:n∈A
  ·rw[if_pos k,if_pos (this.mpr k)];split<;>omega
  ·rw[if_neg k,if_neg (fun z=>k (this.mp z))];split<;>omega
def rbH(p0:Str)(l:Hl)(ns:List Str):Hl:=ns.foldl (fun h n=>pz h p0 n (lA l n)) [(p0,1,1)]
structure Tgt(N:List Str)(l:Hl)(D:Int)(U:Str->Int):Prop where
 nd:(l.map (·.1)).Nodup
 sub:∀n∈l.map (·.1),n∈N
 hD:0<D
 hB:Bt 8000 D
 on:∀n,On D (lA l n) (U n)
 nm:∀n,n∈l.map (·.1)↔0<U n
 nn:∀n,0<=U n
 all:qG U (srt (l.map (·.1)))=D
theorem CM:∀{A N:List Str},A.Nodup->(∀n∈A,n∈N)->A.length<=N.length
 |[],N,_,_=>ba _
 |x::A,N,h,s=>by have h':=az.mp h;have k:=CM (N:=N.erase x) h'.2 fun n hn=>(List.mem_erase_of_ne (a:=n) (b:=x) (fun z:n=x=>h'.1 (by rw[<-z];exact hn))).mpr (s n (ah _ hn));rw[List.length_erase_of_mem (s x ag)] at k;have:=List.length_pos_of_mem (s x ag);rw[aq];omega
def Tgt.at_{N:List Str}{l:Hl}{D:Int}{U:Str->Int}(T:Tgt N l D U){p0:Str}:∀A B:List Str,A++B=srt (l.map (·.1))->Hd D (Vat U p0 D A) (rbH p0 l A):=by
 intro A;generalize hk:A.length=k;induction k generalizing A with
 |zero =>
  intro B _;rw[bF hk];have g:∀n,lA [(p0,1,1)] n=if n=p0 then(1,1) else(0,1):=fun n=>by
   unfold lA lU;by_cases e:n=p0
   ·rw[if_pos e,e];simp
   ·rw[if_neg e];simp[fM e]
  refine⟨fun n=>?_,fun n=>?_,by simp[rbH]⟩
  ·show On D (lA [(p0,1,1)] n) _;rw[g];unfold Vat qG;by_cases e:n=p0
   ·rw[if_pos e,if_pos e,if_neg (by simp)];have:=FE D;rw[show(0:Int)+(D-0)=D by omega];exact this
   ·rw[if_neg e,if_neg e,if_neg (by simp)];exact zi D
  ·have:=T.hD;unfold Vat qG rbH;simp only[List.foldl_nil,ap,bv,au,bg,if_false];by_cases e:n=p0
   ·rw[if_pos e];exact⟨fun _=>by omega,fun _=>e⟩
   ·rw[if_neg e];exact⟨fun z=>absurd z e,fun z=>by omega⟩
 |succ k ih =>
  intro B hB;have Ot:A≠[]:=by intro z;rw[z] at hk;cases hk
  obtain⟨A',x,rfl⟩:∃A' x,A=A'++[x]:=⟨A.dropLast,A.getLast Ot,(List.dropLast_concat_getLast Ot).symm⟩;have hl:A'.length=k:=by rw[aE] at hk;simpa using hk
  rw[aO] at hB;have I:=ih A' hl ([x]++B) hB;have nd:(A'++([x]++B)).Nodup:=by rw[hB];exact(lx _).nodup_iff.mpr T.nd
  have hx:x∉A':=fun z=>(aW.mp nd).2.2 x z x (a7 _ (au.mpr rfl)) rfl;have hm:x∈l.map (·.1):=(lx _).mem_iff.mp (hB▸aB _ (a7 _ (au.mpr rfl)));have tot:qG U A'+(U x+qG U B)=D:=by have:=T.all;rw[<-hB,uO] at this;exact this
  have b0:=wY T.nn B;have x0:=T.nn x;have I2:=I.sale T.hD (fun n=>(JB T.nn (by omega) n).1) (T.on x) ((T.nm x).mp hm) (o2:=x) (o1:=p0) (by unfold Vat;rw[if_pos rfl];have:=T.nn p0;split<;>omega)
  rw[HZ hx] at I2;unfold rbH;rw[List.foldl_append];exact I2
def Tgt.step{N:List Str}{l:Hl}{D:Int}{U:Str->Int}(T:Tgt N l D U){p0 x:Str}(hp:p0∈N)(hN:N.length<900){A B:List Str}(h:A++x::B=srt (l.map (·.1))):SaleOk (rbH p0 l A) p0 (lA l x)/\¬nJ (rbH p0 l A) p0 (lA l x):=by
 have I:=T.at_ (p0:=p0) A (x::B) h;have hm:x∈l.map (·.1):=(lx _).mem_iff.mp (h▸aB _ ag);have tot:qG U A+(U x+qG U B)=D:=by have:=T.all;rw[<-h,uO] at this;exact this
 have b0:=wY T.nn B;have x0:=T.nn x;refine I.ok T.hD T.hB (JB T.nn (by omega)) (T.on x) ((T.nm x).mp hm) ?_ ?_
 ·unfold Vat;rw[if_pos rfl];have:=T.nn p0;split<;>omega
 ·have h1:((rbH p0 l A).map (·.1)).length<=N.length:=CM I.nd fun n hn=>by
   have:=(I.nm n).mp hn;unfold Vat at this;by_cases e:n=p0
   ·rw[e];exact hp
   ·rw[if_neg e] at this;split at this
    ·rename_i hA;exact T.sub n ((lx _).mem_iff.mp (h▸a7 _ hA))
    ·omega
  rw[af] at h1;omega
def Tgt.done{N:List Str}{l:Hl}{D:Int}{U:Str->Int}(T:Tgt N l D U){p0:Str}:((rbH p0 l (srt (l.map (·.1)))).map (·.1)).Nodup/\(∀n,n∈(rbH p0 l (srt (l.map (·.1)))).map (·.1)↔n∈l.map (·.1))/\∀n,lA (rbH p0 l (srt (l.map (·.1)))) n=lA l n:=by
 have I:=T.at_ (p0:=p0) (srt (l.map (·.1))) [] (bJ _);have e:∀n,Vat U p0 D (srt (l.map (·.1))) n=U n:=fun n=>by
  unfold Vat;rw[T.all];have h1:=T.nm n;have h2:=T.nn n;have h3:=(lx (l.map (·.1))).mem_iff (a:=n);by_cases m:n∈l.map (·.1)
  ·rw[if_pos (h3.mpr m)];split<;>omega
  ·rw[if_neg (fun z=>m (h3.mp z))];have:¬ 0<U n:=fun z=>m (h1.mpr z);split<;>omega
 exact⟨I.nd,fun n=>by rw[I.nm,e,T.nm],fun n=>(I.on n).uniq T.hD (by rw[e];exact T.on n)⟩
def AH(s:Sto)(i j:Int):fEq (.int i) (.int j) s=.ok (.bl (i==j)) s:=by show(match PV.data s 12 (.int i),PV.data s 12 (.int j) with|some d,some e=>Out.ok (PV.bl (if false=true then !bV d e else bV d e)) s|_,_=>.bad)=_;rw[nr,nr];simp only[re];rfl
def ne_int(s:Sto)(i j:Int):fNe (.int i) (.int j) s=.ok (.bl (!(i==j))) s:=by show(match PV.data s 12 (.int i),PV.data s 12 (.int j) with|some d,some e=>Out.ok (PV.bl (if true=true then !bV d e else bV d e)) s|_,_=>.bad)=_;rw[nr,nr];simp only[re];rfl
theorem Ea(hf:∀v d,f v=some d->d.canLay0=true):∀(l:List PV)(ds:List iE),rY f l=some ds->eO ds=true
 |[],_,h=>by cases h;rfl
 |p::l,ds,h=>by
  unfold rY at h;cases c:f p with
  |none=>rw[c] at h;cases h
  |some d =>
   rw[c] at h;cases c2:rY f l with
   |none=>rw[c2] at h;cases h
   |some r =>
    rw[c2] at h;cases h;unfold eO;rw[hf p d c,Ea hf l r c2];rfl
theorem zX(s:Sto):∀(k:Nat)(v:PV)(d:iE),PV.data s k v=some d->d.canLay0=true
 |0,_,_,h=>by cases h
 |k+1,v,d,h=>by
  have L:=Ea (zX s k);have lst:∀{l:List PV}{F:List iE->iE},(∀ds,(F ds).canLay0=eO ds)->(rY (PV.data s k) l).map F=some d->d.canLay0=true:=fun{l F} hF h=>by obtain⟨ds,h1,h2⟩:=cM.mp h;rw[<-h2,hF];exact L l ds h1
  cases v with
  |non=>cases h;rfl
  |bl=>cases h;rfl
  |int=>cases h;rfl
  |str x =>
   unfold PV.data at h;split at h
   ·rename_i hx;cases h;exact hx
   ·cases h
  |tup l=>unfold PV.data at h;exact lst (fun ds=>by unfold de;rfl) h
  |lst l=>unfold PV.data at h;exact lst (fun ds=>by unfold de;rfl) h
  |seq l=>unfold PV.data at h;exact lst (fun ds=>by unfold de;rfl) h
  |ref n =>
   unfold PV.data at h;split at h
   ·exact lst (fun ds=>by unfold de;rfl) h
   ·cases h
  |_=>unfold PV.data at h;cases h
def Gr(h:(PV.data s 12 v).isSome=true):fNe v v s=.ok (.bl false) s:=by obtain⟨d,h⟩:=bY.mp h;show(match PV.data s 12 v,PV.data s 12 v with|some d,some e=>Out.ok (PV.bl (if true=true then !bV d e else bV d e)) s|_,_=>.bad)=_;rw[h];simp only[jo d (zX s 12 v d h)];rfl
def zy(h:(PV.data s 12 v).isSome=true):fEq v v s=.ok (.bl true) s:=by obtain⟨d,h⟩:=bY.mp h;show(match PV.data s 12 v,PV.data s 12 v with|some d,some e=>Out.ok (PV.bl (if false=true then !bV d e else bV d e)) s|_,_=>.bad)=_;rw[h];simp only[jo d (zX s 12 v d h)];rfl
def xm(s:Sto)(l:List PV):fLen [.lst l] s=.ok (.int l.length) s:=rfl
def tV(s:Sto)(l:List PV)(k:Nat)(h:l[k]?=some v):fIx (.lst l) (.int (k:Int)) s=.ok v s:=by
 have hk:=(aY.mp h).1;have e:atI l (k:Int)=some v:=by unfold atI ixN;rw[if_pos (iH k),if_pos (by omega)];simpa using h
 unfold fIx;simp only[lsOf,e]
def ix_tup(s:Sto)(l:List PV)(k:Nat)(h:l[k]?=some v):fIx (.tup l) (.int (k:Int)) s=.ok v s:=by
 have hk:=(aY.mp h).1;have e:atI l (k:Int)=some v:=by unfold atI ixN;rw[if_pos (iH k),if_pos (by omega)];simpa using h
 unfold fIx;simp only[e]
def lW(h1:f ρ s=.ok v s1)(h2:g ρ s1=.ok w s2):x2 f g F ρ s=F v w s2:=by unfold x2;rw[h1];simp only[Out.bind];rw[h2]
def HM(h1:f ρ s=.ok false s1)(h2:g ρ s1=.ok b s2):xOr f g ρ s=.ok b s2:=by unfold xOr;rw[h1];exact h2
def xy(h1:f ρ s=.ok true s1)(h2:g ρ s1=.ok b s2):xAnd f g ρ s=.ok b s2:=by unfold xAnd;rw[h1];exact h2
def AT(h1:f ρ s=.ok false s1):xAnd f g ρ s=.ok false s1:=by unfold xAnd;rw[h1];rfl
def lu(h1:f ρ s=.ok v s1)(h2:fa ρ s1=.ok vs s2):xCons f fa ρ s=.ok (v::vs) s2:=by unfold xCons;rw[h1];simp only[Out.bind];rw[h2]
def vz(h1:fa ρ s=.ok vs s1)(hl:vs.length<=100000:=by exact b7 rfl):xTup fa ρ s=.ok (.tup vs) s1:=by unfold xTup;rw[h1];exact if_pos hl
def y4(x:Str)(c:Nat):fc x ⟨#[c]⟩=decide (x.cps.toList[0]?=some c):=by have h:=StrLaws.subAt_one x c 0;unfold fc;rw[bM,bG,decide_eq_true_iff,decide_eq_true_iff];exact h
def LJ(h:vc i):Bt 1400 i:=aA h (b7 rfl)
def oH(h:vc i):Shw i:=yz (k:=1400) (by decide) (LJ h)
def LI(h:vc i):∃y:Str,wc y=true/\y.length<=100000/\(if fc (lJ i) ⟨#[45]⟩=true then ii (lJ i) (some 1) none else lJ i)=y:=by
 cases i with
 |ofNat m =>
  obtain⟨h1,h2,h3⟩:=vj m;refine⟨lJ m,Gu h,aC (tO (k:=399) h) (by decide),?_⟩;rw[y4,if_neg]
  ·rfl
  ·rw[decide_eq_true_iff];intro z;have:=h1 45 (bW z);omega
 |negSucc k =>
  refine⟨lJ ((k+1:Nat):Int),Gu h,aC (tO (k:=399) h) (by decide),?_⟩;rw[y4,if_pos]
  ·exact CC (by rw[show(some (1:Int))=some ((1:Nat):Int) from rfl,EV,vi];rfl)
  ·rw[decide_eq_true_iff,vi];rfl
def tZ(a:Adr)(t:Sto)(h:vc i):mI a [.str (lJ i)] t=.ok (.int i) t:=by
 obtain⟨y,hy,hl,ey⟩:=LI h;obtain⟨r1,r2⟩:=vh h;have n1:(lJ i).length<=1000000:=aC r2 (by decide);have n2:(lJ i).length<=640:=aC r2 (by decide);have sh:=oH h;have nd:=ne_str t (wA i);have f1:Db [.str (lJ i)] t=.ok (.int i) t:=by unfold Db;simp only[r1,n2,if_true]
 have s1:nC [.int i] t=.ok (.str (lJ i)) t:=if_pos sh;refine mO ?_;unfold vO;refine(ly (pd (s1:=t) ?_)).trans ?_
 ·have e:xIfe (xTr (vy (xVar 0) (xCons (xC (.str "-")) xNil))) (Kp (xVar 0) (xPart (xC (.int 1))) xNoP) (xVar 0) [some (.str (lJ i)),none] t=.ok (.str y) t:=by
   rw[<-ey];show xIfe (xTr (vy (xVar 0) (xCons (xC (.str ⟨#[45]⟩)) xNil))) (Kp (xVar 0) (xPart (xC (.int 1))) xNoP) (xVar 0) [some (.str (lJ i)),none] t=_;cases hs:fc (lJ i) ⟨#[45]⟩
   ·simp[sem,og,lC,nN,vy,hs]
   ·simp[sem,og,lC,nN,vy,hs,Kp,N8,n1]
  have f:ny a [.str y] t=.ok (.bl true) t:=by unfold ny;simp only[hl,if_true,hy]
  show xNot (xTr (xCall 1 (ny a) (xCons _ xNil))) [some (.str (lJ i)),none] t=_;simp only[xNot,xTr,xCall,xCons,xNil,e,Out.bind,aq,aD,if_true,f];rfl
 refine(ly (ρ':=[some (.str (lJ i)),some (.int i)]) (s':=t) (lY ?_)).trans ?_
 ·show xB (xCons (xVar 0) xNil) Db [some (.str (lJ i)),none] t=_;simp only[xB,xCons,xNil,xVar,Out.bind,ae,f1]
 refine(ly (pd (s1:=t) ?_)).trans ?_
 ·simp only[xTr,x2,xB,xCons,xNil,xVar,Out.bind,ae,ai,s1,nd]
 ·exact mv rfl
def D9(i:Int):47∉(lJ i).cps.toList:=fu 47 ⟨by decide,by decide⟩ i
def D8(i:Int):32∉(lJ i).cps.toList:=fu 32 ⟨by decide,by decide⟩ i
def Gq(i:Int):10∉(lJ i).cps.toList:=fu 10 ⟨by decide,by decide⟩ i
def EW(q:Int×Int):lX q=b8 ⟨#[47]⟩ (if q.2=1 then [lJ q.1] else [lJ q.1,lJ q.2]):=by
 unfold lX;split
 ·rfl
 ·rfl
def Dj(q:Int×Int):eM (lX q) ⟨#[47]⟩=if q.2=1 then [lJ q.1] else [lJ q.1,lJ q.2]:=by
 rw[EW];refine vW ?_ ?_
 ·split<;>simp
 ·intro p hp;split at hp
  ·simp only[au] at hp;rw[hp];exact D9 _
  ·simp only[aj,bg,or_false] at hp;rcases hp with rfl|rfl<;>exact D9 _
structure F4Q(q:Int×Int):Prop where
 low:Low q
 t:vc q.1
 b:vc q.2
def F4Q.shw(h:F4Q q):ShwQ q:=⟨oH h.t,oH h.b⟩
def Hj(a:Adr)(t:Sto)(h:F4Q q):vd a [.int q.1,.int q.2] t=.ok (frP q) t:=by
 have g1:ms a [.int q.1,.int q.2] t=.ok (.int 1) t:=by unfold ms;have e:aL q.1 q.2=1:=h.low.2;simp only[h.low.1,if_true,e];rfl
 have d1:∀z:Int,fDiv (.int z) (.int 1) t=.ok (.int z) t:=fun z=>by simp[fDiv,Fs,show Bt 9000 1 from bt1 (by decide)]
 refine mO ?_;unfold Ej;refine(ly (ρ':=[some (.int q.1),some (.int q.2),some (.int 1)]) (s':=t) (lY ?_)).trans ?_
 ·show xCall 2 (ms a) (xCons (xVar 0) (xCons (xVar 1) xNil)) [some (.int q.1),some (.int q.2),none] t=_;simp only[xCall,xCons,xNil,xVar,Out.bind,ae,ai,aq,aD,if_true,g1]
 ·refine mv ?_;simp only[xTup,xCons,xNil,x2,xVar,Out.bind,ae,ai,d1];rfl
def Al(a:Adr)(t:Sto)(h:F4Q q):qE a [.str (lX q)] t=.ok (frP q) t:=by
 have ln:(lX q).length<=4000000:=aC (Bz h.shw) (by decide);have c1:(⟨#[47]⟩:Str).length=1:=rfl;have sp:∀ρ:En,ρ[0]?=some (some (.str (lX q)))->qx (xVar 0) (xCons (xC (.str "/")) xNil) ρ t=.ok (.lst ((if q.2=1 then [lJ q.1] else [lJ q.1,lJ q.2]).map PV.str)) t:=fun ρ hρ=>by show qx (xVar 0) (xCons (xC (.str ⟨#[47]⟩)) xNil) ρ t=_;simp only[qx,xVar,hρ,Out.bind,xCons,xC,xNil,c1,ln,and_self,if_true,Dj]
 have rd:∀(l:List Int),(∀i∈l,vc i)->nc qV (xCall 1 (mI a) (xCons (xVar 0) xNil)) [] (l.map fun i=>.str (lJ i)) t=.ok (l.map .int) t:=fun l hl=>pf (fun i=>.str (lJ i)) (fun i=>.int i) l fun i hi=>by simp only[xCall,xCons,xNil,xVar,Out.bind,ae,aq,aD,if_true,tZ a t (hl i hi)]
 refine mO ?_;show sM a [some (.str (lX q)),none] t=_;unfold sM;by_cases one:q.2=1
 ·have i0:fIx (.lst [.int q.1]) (.int 0) t=.ok (.int q.1) t:=tV t [.int q.1] 0 rfl;have e1:=AH t 1 1;refine(ly (ρ':=[some (.str (lX q)),some (.lst [.int q.1])]) (s':=t) (lY (oM (l:=[.str (lJ q.1)]) (s1:=t) ?_ (by simp) (rd [q.1] (by simpa using h.t))))).trans ?_
  ·simp only[xIter,sp [some (.str (lX q)),none] rfl,Out.bind,one,if_true,lsOf,ap,bv]
  refine vF ?_;refine(qS (s1:=t) ?_).trans (mv ?_)
  ·simp only[xTr,x2,xB,xCons,xNil,xVar,xC,Out.bind,ae,ai,xm,aq,aD];rfl
  ·rw[show frP q=.tup [.int q.1,.int 1] by unfold frP;rw[one]];simp only[xTup,xCons,xNil,x2,xVar,xC,Out.bind,ae,ai,i0];rfl
 ·have q2:2<=q.2:=by have:=h.low.1;omega
  have lw:=Hj a t h;have nq:fNe (frP q) (frP q) t=.ok (.bl false) t:=Gr rfl;have i0:fIx (.lst [.int q.1,.int q.2]) (.int 0) t=.ok (.int q.1) t:=tV t [.int q.1,.int q.2] 0 rfl;have i1:fIx (.lst [.int q.1,.int q.2]) (.int 1) t=.ok (.int q.2) t:=tV t [.int q.1,.int q.2] 1 rfl;have lt:fLt (.int q.2) (.int 2) t=.ok (.bl false) t:=by
   have:¬q.2<2:=by omega
   simp[fLt,fCmp,this]
  refine(ly (ρ':=[some (.str (lX q)),some (.lst [.int q.1,.int q.2])]) (s':=t) (lY (oM (l:=[.str (lJ q.1),.str (lJ q.2)]) (s1:=t) ?_ (by simp) (rd [q.1,q.2] (by simpa using ⟨h.t,h.b⟩))))).trans ?_
  ·simp only[xIter,sp [some (.str (lX q)),none] rfl,Out.bind,one,if_false,lsOf,ap,bv]
  refine(ly (pd (s1:=t) ?_)).trans ?_
  ·simp only[xTr,x2,xB,xCons,xNil,xVar,xC,Out.bind,ae,ai,xm,aq,aD];rfl
  have tp:xTup (xCons (x2 (xVar 1) (xC (.int 0)) fIx) (xCons (x2 (xVar 1) (xC (.int 1)) fIx) xNil)) [some (.str (lX q)),some (.lst [.int q.1,.int q.2])] t=.ok (frP q) t:=by simp only[xTup,xCons,xNil,x2,xVar,xC,Out.bind,ae,ai,i0,i1];rfl
  refine(ly (pd (s1:=t) ?_)).trans (mv tp);have cl:xCall 2 (vd a) (xCons (x2 (xVar 1) (xC (.int 0)) fIx) (xCons (x2 (xVar 1) (xC (.int 1)) fIx) xNil)) [some (.str (lX q)),some (.lst [.int q.1,.int q.2])] t=.ok (frP q) t:=by simp only[xCall,xCons,xNil,x2,xVar,xC,Out.bind,ae,ai,i0,i1,aq,aD,if_true,lw]
  have n3:=ne_int t 2 2;have c1:xTr (x2 (xB (xCons (xVar 1) xNil) fLen) (xC (.int 2)) fNe) [some (.str (lX q)),some (.lst [.int q.1,.int q.2])] t=.ok false t:=by simp only[xTr,x2,xB,xCons,xNil,xVar,xC,Out.bind,ae,ai,xm,aq,aD];rfl
  have c2:xTr (x2 (x2 (xVar 1) (xC (.int 1)) fIx) (xC (.int 2)) fLt) [some (.str (lX q)),some (.lst [.int q.1,.int q.2])] t=.ok false t:=by simp only[xTr,x2,xVar,xC,Out.bind,ae,ai,i1,lt]
  have c3:xTr (x2 (xCall 2 (vd a) (xCons (x2 (xVar 1) (xC (.int 0)) fIx) (xCons (x2 (xVar 1) (xC (.int 1)) fIx) xNil))) (xTup (xCons (x2 (xVar 1) (xC (.int 0)) fIx) (xCons (x2 (xVar 1) (xC (.int 1)) fIx) xNil))) fNe) [some (.str (lX q)),some (.lst [.int q.1,.int q.2])] t=.ok false t:=by unfold xTr;rw[lW cl tp,nq];rfl
  exact HM c1 (HM c2 c3)
def F4R:Row->Prop
 |.per n=>True
 |.hou h e=>vc e.th/\vc e.mr/\vc e.ls
 |.sha h q=>F4Q q.2
def nR:Row->List Str
 |.per n=>[ac "person",n]
 |.hou h e=>[ac "house",h,lJ e.th,lJ e.mr,lJ e.ls]
 |.sha h q=>[ac "share",h,q.1,lX q.2]
def xK(r:Row):nK r=b8 ⟨#[32]⟩ (nR r):=by
 cases r with
 |per n=>exact(D6 n).symm.trans (pF _ _)
 |hou h e=>exact pF _ _
 |sha h q=>exact pF _ _
def wR(h:pG x=true)(hc:c<97):c∉x.cps.toList:=fun z=>by unfold pG at h;rw[bG,cy] at h;have:=h.2 c z;unfold low at this;rw[bG,decide_eq_true_iff] at this;omega
def Em{x y:Str}{c:Nat}(h:c∉x.cps.toList)(g:c∉y.cps.toList):c∉(x++y).cps.toList:=fun z=>by rw[sB] at z;exact(aJ.mp z).elim h g
def EX(q:Int×Int){c:Nat}(hc:c=32\/c=10):c∉(lX q).cps.toList:=by
 have n:∀i:Int,c∉(lJ i).cps.toList:=fun i=>by
  rcases hc with rfl|rfl
  ·exact D8 i
  ·exact Gq i
 unfold lX;split
 ·exact n _
 ·refine Em (Em (n _) ?_) (n _);rcases hc with rfl|rfl<;>decide
def NmR:Row->Prop
 |.per n=>pG n=true
 |.hou h _=>pG h=true
 |.sha h q=>pG h=true/\pG q.1=true
def yX(h:NmR r)(hc:c=32\/c=10):∀p∈nR r,c∉p.cps.toList:=by
 have n:∀i:Int,c∉(lJ i).cps.toList:=fun i=>by
  rcases hc with rfl|rfl
  ·exact D8 i
  ·exact Gq i
 have S9:c<97:=by rcases hc with rfl|rfl<;>decide
 have w:c∉(ac "person").cps.toList/\c∉(ac "house").cps.toList/\c∉(ac "share").cps.toList:=by rcases hc with rfl|rfl<;>decide
 intro p hp;cases r with
 |per m =>
  simp only[nR,aj,bg,or_false] at hp;rcases hp with rfl|rfl
  ·exact w.1
  ·exact wR h S9
 |hou m e =>
  simp only[nR,aj,bg,or_false] at hp;rcases hp with rfl|rfl|rfl|rfl|rfl
  ·exact w.2.1
  ·exact wR h S9
  ·exact n _
  ·exact n _
  ·exact n _
 |sha m q =>
  simp only[nR,aj,bg,or_false] at hp;rcases hp with rfl|rfl|rfl|rfl
  ·exact w.2.2
  ·exact wR h.1 S9
  ·exact wR h.2 S9
  ·exact EX _ hc
def G4(h:NmR r):eM (nK r) ⟨#[32]⟩=nR r:=by rw[xK];exact vW (by cases r<;>simp[nR]) (yX h (.inl rfl))
theorem BL(hd:c≠d):∀l:List Str,(∀p∈l,c∉p.cps.toList)->c∉(b8 ⟨#[d]⟩ l).cps.toList
 |[],_=>by simp[b8,cS]
 |[x],h=>h x ag
 |x::y::l,h=>by
  rw[qR];intro z;rcases aJ.mp z with z|z
  ·exact h x ag z
  ·rcases aj.mp z with z|z
   ·exact hd z
   ·exact BL hd (y::l) (fun p hp=>h p (ah _ hp)) z
def Iy(h:NmR r):10∉(nK r).cps.toList:=by rw[xK];exact BL (by decide) _ (yX h (.inr rfl))
def Dm(a:Adr)(t:Sto)(h:NmR r)(o:vq r)(f:F4R r):p4 a [.str (nK r)] t=.ok (md r) t:=by
 have ln:(nK r).length<=4000000:=aC (ze o) (by decide);have c1:(⟨#[32]⟩:Str).length=1:=rfl;have sp:qx (xVar 0) (xCons (xC (.str " ")) xNil) [some (.str (nK r)),none] t=.ok (.lst ((nR r).map PV.str)) t:=by show qx (xVar 0) (xCons (xC (.str ⟨#[32]⟩)) xNil) [some (.str (nK r)),none] t=_;simp only[qx,xVar,Out.bind,xCons,xC,xNil,c1,ln,and_self,if_true,G4 h,ae]
 have ix:∀(k:Nat){z:Str},(nR r)[k]?=some z->x2 (xVar 1) (xC (.int (k:Int))) fIx [some (.str (nK r)),some (.lst ((nR r).map PV.str))] t=.ok (.str z) t:=fun k z hz =>
  lW rfl rfl |>.trans (tV t _ k (by rw[bu,hz];rfl))
 have ki:∀(k:Nat){z:Str}(w:String),(nR r)[k]?=some z->a9 z=true->xTr (x2 (x2 (xVar 1) (xC (.int (k:Int))) fIx) (xC (.str (ac w))) fEq) [some (.str (nK r)),some (.lst ((nR r).map PV.str))] t=.ok (z==ac w) t:=fun k z w hz hk=>by unfold xTr;rw[lW (ix k hz) rfl,vQ t hk (lz w)];rfl
 have kl:∀(k:Int),xTr (x2 (xB (xCons (xVar 1) xNil) fLen) (xC (.int k)) fEq) [some (.str (nK r)),some (.lst ((nR r).map PV.str))] t=.ok (((nR r).length:Int)==k) t:=fun k=>by
  unfold xTr;rw[lW (v:=.int ((nR r).length:Int)) (w:=.int k) (s1:=t) (s2:=t) ?_ rfl,AH]
  ·rfl
  ·simp only[xB,xCons,xNil,xVar,Out.bind,ae,ai,xm,af]
 have Tu:∀(k:Nat){i:Int},(nR r)[k]?=some (lJ i)->vc i->xCall 1 (mI a) (xCons (x2 (xVar 1) (xC (.int (k:Int))) fIx) xNil) [some (.str (nK r)),some (.lst ((nR r).map PV.str))] t=.ok (.int i) t:=fun k i hk hi=>by simp only[xCall,xCons,xNil,ix k hk,Out.bind,aq,aD,if_true,tZ a t hi]
 refine mO ?_;show we a [some (.str (nK r)),none] t=_;unfold we;refine(ly (ρ':=[some (.str (nK r)),some (.lst ((nR r).map PV.str))]) (s':=t) (lY sp)).trans ?_;cases r with
 |per n =>
  refine vF ((qS (s1:=t) (xy (ki 0 "person" rfl (lz _)) (kl 2))).trans (mv ?_));exact vz (lu rfl (lu (ix 1 (z:=n) rfl) rfl))
 |hou m e =>
  refine(ly (pd (s1:=t) (AT (ki 0 "person" rfl (lz _))))).trans ?_;refine vF ((qS (s1:=t) (xy (ki 0 "house" rfl (lz _)) (kl 5))).trans (mv ?_));have i1:=ix 1 (z:=m) rfl;have n2:=Tu 2 (i:=e.th) rfl f.1;have n3:=Tu 3 (i:=e.mr) rfl f.2.1;have n4:=Tu 4 (i:=e.ls) rfl f.2.2;exact vz (lu rfl (lu i1 (lu n2 (lu n3 (lu n4 rfl)))))
 |sha m q =>
  refine(ly (pd (s1:=t) (AT (ki 0 "person" rfl (lz _))))).trans ?_;refine(ly (pd (s1:=t) (AT (ki 0 "house" rfl (lz _))))).trans ?_;refine vF ((qS (s1:=t) (xy (ki 0 "share" rfl (lz _)) (kl 4))).trans (mv ?_));have rs:xCall 1 (qE a) (xCons (x2 (xVar 1) (xC (.int ((3:Nat):Int))) fIx) xNil) [some (.str (nK (.sha m q))),some (.lst ((nR (.sha m q)).map PV.str))] t=.ok (frP q.2) t:=by simp only[xCall,xCons,xNil,ix 3 (z:=lX q.2) rfl,Out.bind,aq,aD,if_true,Al a t f]
  exact vz (lu rfl (lu (ix 1 (z:=m) rfl) (lu (ix 2 (z:=q.1) rfl) (lu rs rfl))))
theorem BF(s:Sto)(k:Nat):∀(U:List Str),(∀x∈U,a9 x=true)->rY (PV.data s (k+1)) (U.map PV.str)=some (U.map PyData.str)
 |[],_=>rfl
 |x::r,h=>by
  rw[ap];unfold rY;rw[BF s k r fun y hy=>h y (ah _ hy)];have e:PV.data s (k+1) (.str x)=some (.str x):=by unfold PV.data;rw[if_pos (h x ag)]
  rw[e];rfl
def LX(s:Sto)(k:Nat)(h:∀x∈U,a9 x=true):PV.data s (k+2) (LS U)=some (.list (U.map PyData.str)):=by unfold PV.data;rw[BF s k U h];rfl
structure Rdb(pp:List Str)(L:List Ent):Prop where
 nd:(pp++L.map (·.nm)).Nodup
 nm:∀n∈pp++L.map (·.nm),pG n=true
 sm:∀n∈pp++L.map (·.nm),Sm n
 p6:pp.length<=6
 l8:L.length<=8
 ne:L≠[]->pp≠[]
 en:∀e∈L,EntOk e
 lo:∀e∈L,0<=e.ls/\vc e.th/\vc e.mr/\vc e.ls
 fq:∀e∈L,∀n∈e.held.map (·.1),F4Q (lA e.held n)
 tg:∀e∈L,∃D U,Tgt (pp++L.map (·.nm)) e.held D U
inductive Pts (a:Adr) (nb:Nat):List Row->Sto->Sto->Prop
 |nil {s:Sto}:Pts a nb [] s s
 |cons {r:Row}{rs:List Row}{s s1 s2:Sto}:De a [.ref nb,md r] s=.ok .non s1->Pts a nb rs s1 s2->Pts a nb (r::rs) s s2
def Pts.app(h:Pts a nb A s s1)(g:Pts a nb B s1 s2):Pts a nb (A++B) s s2:=by
 induction h with
 |nil=>exact g
 |cons h1 _ ih=>exact .cons h1 (ih g)
def Pts.loop(h:Pts a nb A s s1)(o0:Option PV):∀o2:Option PV,∃Ts,mL (lV (yName 2) (qa a)) (A.map md) [o0,some (.ref nb),o2] s=.nx [o0,some (.ref nb),Ts] s1:=by
 induction h with
 |nil=>exact fun o2=>⟨o2,rfl⟩
 |@cons r rs s s1 s2 h1 _ ih =>
  intro o2;obtain⟨Ts,e⟩:=ih (some (md r));refine⟨Ts,?_⟩;have hb:lV (yName 2) (qa a) (md r) [o0,some (.ref nb),o2] s=.nx [o0,some (.ref nb),some (md r)] s1:=by show qa a [o0,some (.ref nb),some (md r)] s=_;unfold qa;refine tJ (v:=.non) ?_;simp only[xCall,xCons,xNil,xVar,Out.bind,ae,ai,aq,aD,if_true,h1]
  show mL _ (md r::rs.map md) _ _=_;unfold mL;rw[hb];exact e
section
variable{t:Sto}{n:Nat}{pp:List Str}{L:List Ent}
def Eo(a:Adr)(hg:t.get n=some (.book pp L))(hs:srt pp=p0::r)(sm:∀n∈pp,Sm n):m9 a [.ref n] t=.ok (.str p0) t:=by
 have so:∀x∈p0::r,a9 x=true:=fun x hx=>qy (sm x ((lx pp).mem_iff.mp (hs▸hx)));have dl:=LX t 10 so;have ep:mn a [.ref n] t=.ok (LS (p0::r)) t:=by simp only[mn,lZ,hg,hs]
 have ne:fEq (LS (p0::r)) (.lst []) t=.ok (.bl false) t:=by
  show(match PV.data t 12 (LS (p0::r)),PV.data t 12 (.lst []) with|some d,some e=>Out.ok (PV.bl (if false=true then !bV d e else bV d e)) t|_,_=>.bad)=_;rw[dl];show Out.ok (PV.bl (if false=true then _ else bV (.list (.str p0::r.map .str)) (.list []))) t=_;have:bV (.list (.str p0::r.map .str)) (.list [])=false:=by unfold bV PyData.eqvAll;rfl
  rw[this];rfl
 refine mO ?_;show qL a [some (.ref n),none] t=_;unfold qL;refine(ly (ρ':=[some (.ref n),some (LS (p0::r))]) (s':=t) (lY ?_)).trans ?_
 ·simp only[xBM,xVar,xNil,Out.bind,ae,hg,aD,fX,if_true,ep]
 refine(ly (pd (s1:=t) ?_)).trans (mv ?_)
 ·unfold xTr;rw[lW (v:=LS (p0::r)) (w:=.lst []) (s1:=t) (s2:=t) rfl rfl,ne];rfl
 ·exact(lW (v:=LS (p0::r)) (w:=.int 0) (s1:=t) (s2:=t) rfl rfl).trans (tV t _ 0 rfl)
def xp(hk:a9 k=true)(w:String):xTr (x2 (x2 (xVar 1) (xC (.int 0)) fIx) (xC (.str (ac w))) fEq) [some (.ref n),some (.tup (.str k::l))] t=.ok (k==ac w) t:=by unfold xTr;rw[lW (v:=.str k) (w:=.str (ac w)) (s1:=t) (s2:=t) ((lW rfl rfl).trans (ix_tup t _ 0 rfl)) rfl,vQ t hk (lz w)];rfl
def rX(l:List PV)(k:Nat)(h:l[k]?=some v):x2 (xVar 1) (xC (.int (k:Int))) fIx [some (.ref n),some (.tup l)] t=.ok v t:=(lW rfl rfl).trans (ix_tup t _ k h)
def Kj(h:c ρ s=.ok false s1):xIf c A B ρ s=B ρ s1:=by unfold xIf;rw[h];rfl
def tY{f:XE}{fa:XA}{ρ:En}{s s1 s2:Sto}{k m:Nat}{D:XF}{pp:List Str}{L:List Ent}{vs:List PV}(h1:f ρ s=.ok (.ref k) s1)(h2:s1.get k=some (.book pp L))(h3:fa ρ s1=.ok vs s2)(h4:vs.length+1=m):xBM m D f fa ρ s=D (.ref k::vs) s2:=by unfold xBM;rw[h1];simp only[Out.bind,h2];rw[h3];simp only[h4,if_true]
def KP(a:Adr)(hg:t.get n=some (.book pp [])){x:Str}(h1:pG x=true)(h2:x∉pp)(h3:pp.length<6)(h4:Nm x):De a [.ref n,md (.per x)] t=.ok .non (t.set n (.book (pp++[x]) [])):=by
 have Q9:qp a pp [] x=none:=by
  have h5:(nB pp x||ni [] x)=false:=by
   rw[cC];intro z;rw[bT,nl,mM] at z;rcases z with z|z
   ·exact h2 z
   ·cases z
  have h6:¬ 6<=pp.length:=by omega
  unfold qp oJ;simp only[h1,h5,h6,f7,bX,if_false]
 have ep:m6 a [.ref n,.str x] t=.ok .non (t.set n (.book (pp++[x]) [])):=by simp only[m6,lZ,hg,Q9];rw[if_pos h4]
 refine FL (ρ:=[some (.ref n),some (md (.per x))]) ?_;show AY a [some (.ref n),some (md (.per x))] t=_;unfold AY;refine(qS (s1:=t) (xp (lz _) "person")).trans (tJ (v:=.non) ?_);exact(tY (s1:=t) rfl hg (lu (rX _ 1 rfl) rfl) rfl).trans ep
def KQ(a:Adr)(hg:t.get n=some (.book pp L)){p0:Str}{r:List Str}(hs:srt pp=p0::r)(sm:∀n∈pp,Sm n){e:Ent}(h1:pG e.nm=true)(h2:e.nm∉pp++L.map (·.nm))(h3:L.length<8)(h4:Nm e.nm)(h5:0<=e.ls) :
  De a [.ref n,md (.hou e.nm e)] t=.ok .non (t.set n (.book pp (L++[{ e with held:=[(p0,1,1)] }]))):=by
 have Qs:p0∈pp:=(lx pp).mem_iff.mp (hs▸ag);have Q9:qr a pp L e.nm p0 e.ls=none:=by
  have h6:(nB pp e.nm||ni L e.nm)=false:=by rw[cC];intro z;rw[bT,nl,mM] at z;exact h2 (aJ.mpr z)
  have h7:¬(nB pp p0||ni L p0)=false:=by rw[cY,bT,nl];exact .inl Qs
  have h8:¬ 8<=L.length:=by omega
  have h9:¬e.ls<0:=by omega
  unfold qr oJ;simp only[h1,h6,h7,h8,h9,f7,bX,if_false]
 have ep:pL a [.ref n,.str e.nm,.str p0,.int e.th,.int e.mr,.int e.ls] t=.ok .non (t.set n (.book pp (L++[{ e with held:=[(p0,1,1)] }]))):=by simp only[pL,lZ,hg,Q9];rw[if_pos ⟨h4,(sm p0 Qs).nm⟩]
 have fp:xCall 1 (m9 a) (xCons (xVar 0) xNil) [some (.ref n),some (md (.hou e.nm e))] t=.ok (.str p0) t:=by simp only[xCall,xCons,xNil,xVar,Out.bind,ae,aq,aD,if_true,Eo a hg hs sm]
 refine FL (ρ:=[some (.ref n),some (md (.hou e.nm e))]) ?_;show AY a [some (.ref n),some (md (.hou e.nm e))] t=_;unfold AY;have k1:xTr (x2 (x2 (xVar 1) (xC (.int 0)) fIx) (xC (.str (ac "person"))) fEq) [some (.ref n),some (md (.hou e.nm e))] t=.ok false t:=xp (lz _) "person";have k2:xTr (x2 (x2 (xVar 1) (xC (.int 0)) fIx) (xC (.str (ac "house"))) fEq) [some (.ref n),some (md (.hou e.nm e))] t=.ok true t:=xp (lz _) "house";refine(Kj k1).trans ((qS k2).trans (tJ (v:=.non) ?_));refine tY (s1:=t) rfl hg (lu (rX _ 1 rfl) (lu fp (lu (rX _ 2 rfl) (lu (rX _ 3 rfl) (lu (rX _ 4 rfl) rfl))))) rfl |>.trans ep
def KO(a:Adr){A B:List Ent}{e:Ent}(hg:t.get n=some (.book pp (A++e::B))){p0:Str}{r:List Str}(hs:srt pp=p0::r)(sm:∀n∈pp,Sm n)(nd:((A++e::B).map (·.nm)).Nodup)(ne:Nm e.nm){x:Str}{q:Int×Int}(hx:x∈pp++(A++e::B).map (·.nm))(nx:Nm x)(sq:Sz q)(so:SaleOk e.held p0 q)(nt:¬nJ e.held p0 q) :
  De a [.ref n,md (.sha e.nm (x,q))] t=.ok .non (t.set n (.book pp (A++{ e with held:=pz e.held p0 x q }::B))):=by
 have Qs:p0∈pp:=(lx pp).mem_iff.mp (hs▸ag);have PY:=nd;rw[ay,ap,aW] at PY;have n1:e.nm∉A.map (·.nm):=fun z=>PY.2.2 _ z _ ag rfl;have n2:e.nm∉B.map (·.nm):=(az.mp PY.2.1).1;have f1:=wS (B:=B) n1;have hS:SaleE (A++e::B) e.nm p0 x (q.1,q.2):=⟨nd,⟨ne,(sm p0 Qs).nm,nx⟩,sq,fun e' he=>by rw[f1] at he;cases he;exact so⟩;have h1:¬(nB pp p0||ni (A++e::B) p0)=false:=by rw[cY,bT,nl];exact .inl Qs
 have h2:¬(nB pp x||ni (A++e::B) x)=false:=by rw[cY,bT,nl,mM];exact aJ.mp hx
 have ep:pZ a [.ref n,.str e.nm,.str p0,.str x,frP q] t=.ok .non (t.set n (.book pp (A++{ e with held:=pz e.held p0 x q }::B))):=by simp only[pZ,lZ,hg,frP];rw[if_pos hS,f1];simp only[h1,h2,if_false,nt];rw[qQ _ n1 n2];rfl
 have fp:xCall 1 (m9 a) (xCons (xVar 0) xNil) [some (.ref n),some (md (.sha e.nm (x,q)))] t=.ok (.str p0) t:=by simp only[xCall,xCons,xNil,xVar,Out.bind,ae,aq,aD,if_true,Eo a hg hs sm]
 refine FL (ρ:=[some (.ref n),some (md (.sha e.nm (x,q)))]) ?_;show AY a [some (.ref n),some (md (.sha e.nm (x,q)))] t=_;unfold AY;have k1:xTr (x2 (x2 (xVar 1) (xC (.int 0)) fIx) (xC (.str (ac "person"))) fEq) [some (.ref n),some (md (.sha e.nm (x,q)))] t=.ok false t:=xp (lz _) "person";have k2:xTr (x2 (x2 (xVar 1) (xC (.int 0)) fIx) (xC (.str (ac "house"))) fEq) [some (.ref n),some (md (.sha e.nm (x,q)))] t=.ok false t:=xp (lz _) "house";refine(Kj k1).trans ((Kj k2).trans (tJ (v:=.non) ?_));exact(tY (s1:=t) rfl hg (lu (rX _ 1 rfl) (lu fp (lu (rX _ 2 rfl) (lu (rX _ 3 rfl) rfl)))) rfl).trans ep
def nO{L:List Ent}(hh:h∈L.map (·.nm)):mj L h=some (ent L h)/\(ent L h).nm=h/\ent L h∈L:=by
 obtain⟨x,hx,ex⟩:=ak.mp hh;obtain⟨e,he⟩:∃e,mj L h=some e:=bY.mp (eY.mpr ⟨x,hx,decide_eq_true ex⟩);have e1:ent L h=e:=by unfold ent;rw[he];rfl
 rw[e1];refine⟨he,?_,cW he⟩;simpa using dC he
def mU(l:Hl)(n:Str):lU l n=(n,lA l n):=by
 unfold lA lU;cases h:l.find? fun q=>decide (q.1=n) with
 |none=>rfl
 |some q =>
  have:q.1=n:=by simpa using dC h
  rw[<-this];rfl
def esL(L:List Ent):List Ent:=(srt (L.map (·.nm))).map (ent L)
def Dc(L:List Ent):(esL L).map (·.nm)=srt (L.map (·.nm)):=by
 unfold esL;rw[aF]
 conv=>rhs;rw[<-gY (srt (L.map (·.nm)))]
 exact aR fun h hh=>(nO ((lx _).mem_iff.mp hh)).2.1
def qu{L:List Ent}(h:e∈esL L):e∈L:=by obtain⟨x,hx,rfl⟩:=ak.mp h;exact(nO ((lx _).mem_iff.mp hx)).2.2
def uc(p0:Str)(e:Ent)(A:List Str):Ent:={ e with held:=rbH p0 e.held A }
theorem Ga(a:Adr):∀(ns A:List Str),(A++ns).Nodup->(A++ns).length<=6->(∀n∈ns,pG n=true/\Nm n)->Pts a t.nx (ns.map Row.per) (t.add (.book A [])) (t.add (.book (A++ns) []))
 |[],A,_,_,_=>by rw[bJ];exact .nil
 |x::ns,A,nd,hl,hn=>by
  have g:(t.add (.book A [])).get t.nx=some (.book A []):=by rw[lR,if_pos rfl]
  have h1:=KP a g (hn x ag).1 (fun z=>(aW.mp nd).2.2 x z x ag rfl) (by rw[aE,aq] at hl;omega) (hn x ag).2;rw[mX] at h1;refine .cons h1 ?_;have:=Ga a ns (A++[x]) (by rw[aO];exact nd) (by rw[aO];exact hl) fun n Pi=>hn n (ah _ Pi);rw[aO] at this;exact this
theorem Gc(a:Adr)(hs:srt pp=p0::r)(sm:∀n∈pp,Sm n):∀(es X:List Ent),(pp++(X++es).map (·.nm)).Nodup->(X++es).length<=8->(∀e∈es,pG e.nm=true/\Nm e.nm/\0<=e.ls)->Pts a t.nx (es.map fun e=>Row.hou e.nm e) (t.add (.book pp X)) (t.add (.book pp (X++es.map fun e=>uc p0 e [])))
 |[],X,_,_,_=>by rw[show X++([]:List Ent).map (fun e=>uc p0 e [])=X from bJ X];exact .nil
 |e::es,X,nd,hl,hn=>by
  have g:(t.add (.book pp X)).get t.nx=some (.book pp X):=by rw[lR,if_pos rfl]
  obtain⟨a1,a2,a3⟩:=hn e ag;have h1:=KQ a g hs sm a1 (fun z=>by rw[ay,ap,<-aO,aW] at nd;exact nd.2.2 _ z _ ag rfl) (by rw[aE,aq] at hl;omega) a2 a3
  rw[mX] at h1;refine .cons h1 ?_;have:=Gc a hs sm es (X++[uc p0 e []]) (by
   have e1:(X++[uc p0 e []]++es).map (·.nm)=(X++e::es).map (·.nm):=by simp[uc]
   rw[e1];exact nd) (by simpa using hl) fun n Pi=>hn n (ah _ Pi)
  rw[aO] at this;exact this
theorem F9(a:Adr){p0:Str}{r:List Str}(hs:srt pp=p0::r)(sm:∀n∈pp,Sm n){X Y:List Ent}{e:Ent}(nd:((X++e::Y).map (·.nm)).Nodup)(ne:Nm e.nm){N:List Str}{D:Int}{U:Str->Int}(T:Tgt N e.held D U)(hN:N.length<900)(hp:p0∈N)(hx:∀x∈e.held.map (·.1),x∈pp++(X++e::Y).map (·.nm)/\Nm x/\Sz (lA e.held x)):∀(B A:List Str),A++B=srt (e.held.map (·.1))->Pts a t.nx (B.map fun x=>Row.sha e.nm (x,lA e.held x)) (t.add (.book pp (X++uc p0 e A::Y))) (t.add (.book pp (X++uc p0 e (A++B)::Y)))
 |[],A,_=>by rw[bJ];exact .nil
 |x::B,A,hB=>by
  have g:(t.add (.book pp (X++uc p0 e A::Y))).get t.nx=some (.book pp (X++uc p0 e A::Y)):=by rw[lR,if_pos rfl]
  have hm:x∈e.held.map (·.1):=(lx _).mem_iff.mp (hB▸aB _ ag);obtain⟨s1,s2⟩:=T.step (p0:=p0) hp hN hB;have en:(X++uc p0 e A::Y).map (·.nm)=(X++e::Y).map (·.nm):=by simp[uc]
  have h1:=KO a (e:=uc p0 e A) g hs sm (by rw[en];exact nd) ne (x:=x) (q:=lA e.held x) (by rw[en];exact(hx x hm).1) (hx x hm).2.1 (hx x hm).2.2 s1 s2;rw[mX] at h1;refine .cons h1 ?_;have:=F9 a hs sm nd ne T hN hp hx B (A++[x]) (by rw[aO];exact hB);rw[aO] at this;have e2:uc p0 e (A++[x])={ uc p0 e A with held:=pz (uc p0 e A).held p0 x (lA e.held x) }:=by unfold uc rbH;rw[List.foldl_append];rfl
  rw[e2] at this;exact this
def shR(e:Ent):List Row:=(srt (e.held.map (·.1))).map fun x=>Row.sha e.nm (x,lA e.held x)
def fin(p0:Str)(e:Ent):Ent:=uc p0 e (srt (e.held.map (·.1)))
theorem F8(a:Adr)(hs:srt pp=p0::r)(sm:∀n∈pp,Sm n)(hN:N.length<900)(hp:p0∈N):∀(es X:List Ent),((X++es).map (·.nm)).Nodup->(∀e∈es,Nm e.nm)->(∀e∈es,∃D U,Tgt N e.held D U) ->
  (∀e∈es,∀x∈e.held.map (·.1),x∈pp++(X++es).map (·.nm)/\Nm x/\Sz (lA e.held x))->Pts a t.nx ((es.map shR).flatten) (t.add (.book pp (X++es.map fun e=>uc p0 e []))) (t.add (.book pp (X++es.map (fin p0))))
 |[],X,_,_,_,_=>.nil
 |e::es,X,nd,hn,hT,hx=>by
  obtain⟨D,U,T⟩:=hT e ag;have en:(X++e::es.map fun e=>uc p0 e []).map (·.nm)=(X++e::es).map (·.nm):=by simp[uc]
  have h1:=F9 (t:=t) a hs sm (X:=X) (Y:=es.map fun e=>uc p0 e []) (e:=e) (by rw[en];exact nd) (hn e ag) T hN hp (by rw[en];exact hx e ag) (srt (e.held.map (·.1))) [] rfl;rw[bI] at h1;rw[ap,cn];refine Pts.app h1 ?_;have en2:(X++[fin p0 e]++es).map (·.nm)=(X++e::es).map (·.nm):=by simp[fin,uc]
  have:=F8 a hs sm hN hp es (X++[fin p0 e]) (by rw[en2];exact nd) (fun e he=>hn e (ah _ he)) (fun e he=>hT e (ah _ he)) fun e he=>by rw[en2];exact hx e (ah _ he)
  rw[aO,aO] at this;exact this
def rbP(pp:List Str):Str:=(srt pp).headD cS
def rbL(pp:List Str)(L:List Ent):List Ent:=(esL L).map (fin (rbP pp))
def F4(pp:List Str)(L:List Ent):mi pp L=(srt pp).map Row.per++(esL L).map (fun e=>Row.hou e.nm e)++((esL L).map shR).flatten:=by
 unfold mi
 congr 1
 ·congr 1
  unfold esL;rw[aF];exact aR fun h hh=>by show _=Row.hou (ent L h).nm (ent L h);rw[(nO ((lx _).mem_iff.mp hh)).2.1]
 ·congr 1
  unfold esL;rw[aF];exact aR fun h hh=>by
   show oX L h=shR (ent L h);unfold oX shR;rw[aF,(nO ((lx _).mem_iff.mp hh)).2.1];exact aR fun n _=>by show Row.sha h (lU _ n)=_;rw[mU]
def Rdb.puts(R:Rdb pp L)(a:Adr)(t:Sto):Pts a t.nx (mi pp L) (t.add (.book [] [])) (t.add (.book (srt pp) (rbL pp L))):=by
 have pm:=lx pp;have pn:=lx (L.map (·.nm));have ndp:(srt pp).Nodup:=pm.nodup_iff.mpr (aW.mp R.nd).1;rw[F4];have h1:=Ga (t:=t) a (srt pp) [] ndp (by rw[bI,lH];exact R.p6) fun n hn=>⟨R.nm n (a7 _ (pm.mem_iff.mp hn)),(R.sm n (a7 _ (pm.mem_iff.mp hn))).nm⟩;rw[bI] at h1;rw[aO];refine Pts.app h1 ?_;by_cases hL:L=[]
 ·subst hL;exact .nil
 ·have hpp:=R.ne hL;obtain⟨p0,r,hs⟩:∃p0 r,srt pp=p0::r:=by
   cases h:srt pp with
   |nil=>exact absurd (bF (by rw[<-lH pp,h];rfl)) hpp
   |cons x r=>exact⟨x,r,rfl⟩
  have e0:rbP pp=p0:=by unfold rbP;rw[hs];rfl
  have hss:srt (srt pp)=p0::r:=by rw[mJ pm,hs]
  have Sr:∀n∈srt pp,Sm n:=fun n hn=>R.sm n (a7 _ (pm.mem_iff.mp hn));have Qs:p0∈pp:=pm.mem_iff.mp (hs▸ag);have nda:(srt pp++(esL L).map (·.nm)).Nodup:=by rw[Dc];exact(f8 pm pn).nodup_iff.mpr R.nd
  have mm:∀e∈esL L,e.nm∈pp++L.map (·.nm):=fun e he=>aB _ (ak.mpr ⟨e,qu he,rfl⟩);refine Pts.app (Gc a hss Sr (esL L) [] nda (by have:=congrArg b6 (Dc L);rw[af,lH,af] at this;rw[bI,this];exact R.l8) fun e he=>⟨R.nm _ (mm e he),(R.sm _ (mm e he)).nm,(R.lo e (qu he)).1⟩) ?_
  have h3:=F8 (t:=t) a hss Sr (N:=pp++L.map (·.nm)) (by have:=R.p6;have:=R.l8;rw[aE,af];omega) (a7 _ Qs) (esL L) [] (aW.mp nda).2.1 (fun e he=>(R.sm _ (mm e he)).nm) (fun e he=>R.tg e (qu he)) fun e he x hx=>by
   obtain⟨D,U,T⟩:=R.tg e (qu he);have Oo:=T.sub x hx;refine⟨?_,(R.sm x Oo).nm,(T.on x).sz T.hD T.hB (T.nn x) ?_⟩
   ·rw[bI,Dc];exact(f8 pm pn).mem_iff.mpr Oo
   ·rw[<-T.all];exact wJ T.nn ((lx _).mem_iff.mpr hx)
  unfold rbL;rw[e0];exact h3
def Jo{ns:List Str}{F:Str->Ent}(hF:∀n∈ns,(F n).nm=n){h:Str}(hh:h∈ns):mj (ns.map F) h=some (F h):=by
 induction ns with
 |nil=>cases hh
 |cons x r ih =>
  unfold mj;rw[ap,bw];by_cases e:x=h
  ·rw[<-e];have:(F x).nm=x:=hF x ag;simp[this]
  ·have:¬(F x).nm=h:=by rw[hF x ag];exact e
   rw[decide_eq_false this];exact ih (fun n hn=>hF n (ah _ hn)) ((aj.mp hh).resolve_left fun z=>e z.symm)
def uR{h:Str}(hh:h∈L.map (·.nm)):ent (rbL pp L) h=fin (rbP pp) (ent L h):=by
 have:mj (rbL pp L) h=some (fin (rbP pp) (ent L h)):=by unfold rbL esL;rw[aF];exact Jo (F:=fun n=>fin (rbP pp) (ent L n)) (fun n hn=>(nO ((lx _).mem_iff.mp hn)).2.1) ((lx _).mem_iff.mpr hh)
 unfold ent;unfold ent at this;rw[this];rfl
def wy(pp:List Str)(L:List Ent):(rbL pp L).map (·.nm)=srt (L.map (·.nm)):=by rw[<-Dc];unfold rbL;rw[aF];rfl
def Rdb.fin_ok(R:Rdb pp L)(he:e∈L):((fin (rbP pp) e).held.map (·.1)).Perm (e.held.map (·.1))/\∀n,lA (fin (rbP pp) e).held n=lA e.held n:=by obtain⟨D,U,T⟩:=R.tg e he;obtain⟨d1,d2,d3⟩:=T.done (p0:=rbP pp);exact⟨(dN d1 T.nd).mpr d2,d3⟩
def Rdb.rows_eq(R:Rdb pp L):(mi (srt pp) (rbL pp L)).map md=(mi pp L).map md/\(mi (srt pp) (rbL pp L)).map nK=(mi pp L).map nK:=by
 have e1:srt (srt pp)=srt pp:=mJ (lx pp);have e2:srt (srt (L.map (·.nm)))=srt (L.map (·.nm)):=mJ (lx _);have e3:(srt (L.map (·.nm))).map (oX (rbL pp L))=(srt (L.map (·.nm))).map (oX L):=aR fun h hh=>by
  have hm:=(lx _).mem_iff.mp hh;obtain⟨p,g⟩:=R.fin_ok (nO hm).2.2;unfold oX;rw[uR hm,mJ p]
  congr 1
  exact aR fun n _=>by rw[mU,mU,g]
 unfold mi;rw[wy,e1,e2,e3];have k:∀{α:Type}(f:Row->α),(∀h e e',e.th=e'.th->e.mr=e'.mr->e.ls=e'.ls->f (.hou h e)=f (.hou h e'))->(((srt pp).map Row.per++(srt (L.map (·.nm))).map fun h=>Row.hou h (ent (rbL pp L) h))++((srt (L.map (·.nm))).map (oX L)).flatten).map f=(((srt pp).map Row.per++(srt (L.map (·.nm))).map fun h=>Row.hou h (ent L h))++((srt (L.map (·.nm))).map (oX L)).flatten).map f:=fun{α} f hf=>by
  rw[ay,ay,ay,ay]
  congr 2
  rw[aF,aF];exact aR fun h hh=>by show f (.hou h _)=f (.hou h _);rw[uR ((lx _).mem_iff.mp hh)];exact hf _ _ _ rfl rfl rfl
 exact⟨k md fun h e e' h1 h2 h3=>by simp only[md,h1,h2,h3],k nK fun h e e' h1 h2 h3=>by simp only[nK,xq,h1,h2,h3]⟩
def Rdb.bok(R:Rdb pp L)(hg:t.get nb=some (.book pp L)):Bok t nb pp L:=⟨hg,fun n hn=>R.sm n (a7 _ hn),R.p6,R.l8,R.en⟩
def Rdb.bok2(R:Rdb pp L)(hg:t.get nb=some (.book (srt pp) (rbL pp L))):Bok t nb (srt pp) (rbL pp L):=by
 refine⟨hg,fun n hn=>R.sm n (a7 _ ((lx _).mem_iff.mp hn)),by rw[lH];exact R.p6,?_,fun e he=>?_⟩
 ·have:=congrArg b6 (wy pp L);rw[af,lH,af] at this;rw[this];exact R.l8
 ·obtain⟨e0,h0,rfl⟩:=ak.mp he;have hm:=qu h0;have E:=R.en e0 hm;obtain⟨p,g⟩:=R.fin_ok hm;refine⟨E.nm,?_,E.th,E.mr,E.ls,fun n hn=>?_⟩
  ·have:=p.length_eq;rw[af,af] at this;rw[this];exact E.len
  ·rw[g];exact E.sh n (p.mem_iff.mp hn)
def Iz(s:Sto)(k:Nat)(h:vq r):(PV.data s (k+5) (md r)).isSome=true:=by
 have st:∀(j:Nat){x:Str},a9 x=true->PV.data s (j+1) (.str x)=some (.str x):=fun j x hx=>by unfold PV.data;rw[if_pos hx]
 have it:∀(j:Nat)(i:Int),PV.data s (j+1) (.int i)=some (.int i):=fun _ _=>rfl;cases r with
 |per n =>
  show(PV.data s (k+5) (.tup [.str (ac "person"),.str n])).isSome=true;simp only[PV.data,rY,st _ (lz "person"),st _ (qy h)];rw[if_pos (lz "person"),if_pos (qy h)];rfl
 |hou m e =>
  show(PV.data s (k+5) (.tup [.str (ac "house"),.str m,.int e.th,.int e.mr,.int e.ls])).isSome=true;simp only[PV.data,rY];rw[if_pos (lz "house"),if_pos (qy h.1)];rfl
 |sha m q =>
  show(PV.data s (k+5) (.tup [.str (ac "share"),.str m,.str q.1,.tup [.int q.2.1,.int q.2.2]])).isSome=true;simp only[PV.data,rY];rw[if_pos (lz "share"),if_pos (qy h.1),if_pos (qy h.2.1)];rfl
theorem BG:∀(l:List PV),(∀v∈l,(f v).isSome=true)->(rY f l).isSome=true
 |[],_=>rfl
 |v::l,h=>by obtain⟨d,hd⟩:=bY.mp (h v ag);obtain⟨r,hr⟩:=bY.mp (BG l fun x hx=>h x (ah _ hx));unfold rY;rw[hd,hr];rfl
def G3(s:Sto){rs:List Row}(h:∀r∈rs,vq r):(PV.data s 12 (.lst (rs.map md))).isSome=true:=by
 have:(rY (PV.data s 11) (rs.map md)).isSome=true:=BG _ fun v hv=>by obtain⟨r,hr,rfl⟩:=ak.mp hv;exact Iz s 6 (h r hr)
 unfold PV.data;rw[ck];exact this
theorem Rdb.rows_ok(R:Rdb pp L):∀r∈mi pp L,vq r:=by have B:Bok ((⟨0,[]⟩:Sto).add (.book pp L)) 0 pp L:=R.bok (by rw[lR,if_pos rfl]);exact B.rows_ok
theorem Rdb.rows_len(R:Rdb pp L):(mi pp L).length<=200:=by have B:Bok ((⟨0,[]⟩:Sto).add (.book pp L)) 0 pp L:=R.bok (by rw[lR,if_pos rfl]);exact B.rows_len
def Rdb.book_of(R:Rdb pp L)(a:Adr)(t:Sto):vw a [.lst ((mi pp L).map md)] t=.ok (.ref t.nx) (t.add (.book (srt pp) (rbL pp L))):=by
 obtain⟨o2,lo⟩:=(R.puts a t).loop (some (.lst ((mi pp L).map md))) none;have g:(t.add (.book (srt pp) (rbL pp L))).get t.nx=some (.book (srt pp) (rbL pp L)):=by rw[lR,if_pos rfl]
 have ro:=(R.bok2 g).rows a;rw[R.rows_eq.1] at ro;have ns:=Gr (G3 (t.add (.book (srt pp) (rbL pp L))) R.rows_ok);generalize (mi pp L).map md=rs at *;refine mO ?_;show xS a [some (.lst rs),none,none] t=_;unfold xS;refine(ly (ρ':=[some (.lst rs),some (.ref t.nx),none]) (s':=t.add (.book [] [])) (lY rfl)).trans ?_;refine(ly (pR (l:=rs) (s1:=t.add (.book [] [])) rfl lo)).trans ?_;refine(ly (pd (s1:=t.add (.book (srt pp) (rbL pp L))) ?_)).trans (mv rfl);unfold xTr;rw[lW (v:=.lst rs) (w:=.lst rs) (s1:=t.add (.book (srt pp) (rbL pp L))) (s2:=t.add (.book (srt pp) (rbL pp L))) ?_ rfl,ns]
 ·rfl
 ·simp only[xCall,xCons,xNil,xVar,Out.bind,ae,ai,aq,aD,if_true,ro]
def txt(pp:List Str)(L:List Ent):Str:=cG (ac "\n") ((mi pp L).map nK)
def Rdb.rows_nm(R:Rdb pp L):∀r∈mi pp L,NmR r/\F4R r:=fun r hr=>by
 rw[F4] at hr;have mm:∀{e:Ent},e∈L->e.nm∈pp++L.map (·.nm):=fun{e} he=>aB _ (ak.mpr ⟨e,he,rfl⟩);rcases aJ.mp hr with hr|hr
 ·rcases aJ.mp hr with hr|hr
  ·obtain⟨n,hn,rfl⟩:=ak.mp hr;exact⟨R.nm n (a7 _ ((lx _).mem_iff.mp hn)),trivial⟩
  ·obtain⟨e,he,rfl⟩:=ak.mp hr;exact⟨R.nm _ (mm (qu he)),(R.lo e (qu he)).2⟩
 ·obtain⟨l,hl,hr⟩:=List.mem_flatten.mp hr;obtain⟨e,he,rfl⟩:=ak.mp hl;obtain⟨n,hn,rfl⟩:=ak.mp hr;have hm:=(lx _).mem_iff.mp hn;obtain⟨D,U,T⟩:=R.tg e (qu he);exact⟨⟨R.nm _ (mm (qu he)),R.nm _ (T.sub n hm)⟩,R.fq e (qu he) n hm⟩
def Rdb.text_ok(R:Rdb pp L):a9 (txt pp L)=true:=CL (lz _) _ fun x hx=>by obtain⟨r,hr,rfl⟩:=ak.mp hx;exact M0 (R.rows_ok r hr)
def Rdb.text_len(R:Rdb pp L):(txt pp L).length<=4000000:=by
 have:=zU (sep:=ac "\n") (k:=16000) (by decide) ((mi pp L).map nK) fun x hx=>by obtain⟨r,hr,rfl⟩:=ak.mp hx;exact ze (R.rows_ok r hr)
 have l:=R.rows_len;rw[af] at this;unfold txt;omega
def zo(h:x.cps.toList≠[]):(b8 ⟨#[c]⟩ (x::l)).cps.toList≠[]:=by
 cases l with
 |nil=>exact h
 |cons y l=>rw[qR];simp
def M4(r:Row):(nK r).cps.toList≠[]:=by
 rw[xK];cases r with
 |per n=>exact zo (by decide)
 |hou h e=>exact zo (by decide)
 |sha h q=>exact zo (by decide)
def Rdb.read(R:Rdb pp L)(a:Adr)(t:Sto):oC a [.str (txt pp L)] t=.ok (.ref t.nx) (t.add (.book (srt pp) (rbL pp L))):=by
 have bo:=R.book_of a t;have rr:nc qV (xCall 1 (p4 a) (xCons (xVar 0) xNil)) [] ((mi pp L).map fun r=>.str (nK r)) t=.ok ((mi pp L).map md) t:=pf (fun r=>.str (nK r)) md _ fun r hr=>by simp only[xCall,xCons,xNil,xVar,Out.bind,ae,aq,aD,if_true,Dm a t (R.rows_nm r hr).1 (R.rows_ok r hr) (R.rows_nm r hr).2]
 have es:=vQ t R.text_ok (lz "");have c1:(⟨#[10]⟩:Str).length=1:=rfl;have ln:=R.text_len;have rl:=R.rows_len;have mp:(mi pp L).map (fun r=>PV.str (nK r))=((mi pp L).map nK).map .str:=by rw[aF];rfl
 have e1:xIfe (xTr (x2 (xVar 0) (xC (.str (ac ""))) fEq)) (xLst xNil) (qx (xVar 0) (xCons (xC (.str (ac "\n"))) xNil)) [some (.str (txt pp L)),none,none] t=.ok (.lst ((mi pp L).map fun r=>.str (nK r))) t:=by
  have k1:xTr (x2 (xVar 0) (xC (.str (ac ""))) fEq) [some (.str (txt pp L)),none,none] t=.ok (txt pp L==ac "") t:=by unfold xTr;rw[lW rfl rfl,es];rfl
  unfold xIfe;rw[k1];by_cases z:mi pp L=[]
  ·have:txt pp L=ac "":=by unfold txt;rw[z];rw[pF];rfl
   rw[this,z];rfl
  ·have sp:eM (txt pp L) ⟨#[10]⟩=(mi pp L).map nK:=by
    unfold txt;rw[pF];exact vW (by simpa using z) fun p hp=>by obtain⟨r,hr,rfl⟩:=ak.mp hp;exact Iy (R.rows_nm r hr).1
   have nb:(txt pp L==ac "")=false:=by
    rw[beq_eq_false_iff_ne];intro w;cases hr:mi pp L with
    |nil=>exact z hr
    |cons r rs =>
     have ne:=zo (c:=10) (l:=rs.map nK) (M4 r);have e:(b8 ⟨#[10]⟩ (nK r::rs.map nK))=txt pp L:=by unfold txt;rw[hr,pF];rfl
     rw[e,w] at ne;exact ne rfl
   rw[nb];show qx (xVar 0) (xCons (xC (.str ⟨#[10]⟩)) xNil) [some (.str (txt pp L)),none,none] t=_;simp only[qx,xVar,Out.bind,ae,xCons,xC,xNil,c1,ln,and_self,if_true,sp,mp]
 refine mO ?_;show FK a [some (.str (txt pp L)),none,none] t=_;unfold FK;refine(ly (ρ':=[some (.str (txt pp L)),some (.lst ((mi pp L).map fun r=>.str (nK r))),none]) (s':=t) (lY e1)).trans ?_;have u:xRet (z9 1 (vw a) (xCons (nH (xIter (xVar 1)) [] qV (xCall 1 (p4 a) (xCons (xVar 0) xNil))) xNil)) [some (.str (txt pp L)),some (.lst ((mi pp L).map fun r=>.str (nK r))),none] t=.rt (.ref t.nx) (t.add (.book (srt pp) (rbL pp L))):=by refine mv ?_;have c:nH (xIter (xVar 1)) [] qV (xCall 1 (p4 a) (xCons (xVar 0) xNil)) [some (.str (txt pp L)),some (.lst ((mi pp L).map fun r=>.str (nK r))),none] t=.ok (.lst ((mi pp L).map md)) t:=oM (l:=(mi pp L).map fun r=>.str (nK r)) (s1:=t) rfl (by rw[af];omega) rr;unfold z9;rw[lu c rfl];exact bo
 unfold Mb;rw[u]
end
def JS(s:Sto)(b:Bool):fNe (.bl b) (.bl b) s=.ok (.bl false) s:=by cases b<;>rfl
def DU(a:Adr)(k:Nat)(s:Sto)(h:a9 x=true):lK a (k+1) [.str x,.str x] s=.ok (.bl true) s:=by
 have e:fEq (.str x) (.str x) s=.ok (.bl true) s:=by rw[vQ s h h,beq_self_eq_true]
 refine mO (N:=2) (g:=nv a (lK a k)) ?_;unfold nv;rw[ly (ρ':=[some (.str x),some (.str x)]) (s':=s) (by simp only[xIf,xOr,xTr,xIsiT,xVar,FU,Ee,Out.bind,Out.so,ae,ai,ap,bv,cg,bI,aq,aD,aT,bX,if_false,xEnd];rfl)];refine vF ?_;simp only[xIf,xTr,xIsiT,xVar,FU,Ee,Out.bind,Out.so,ae,ai,if_true,xRet,xAndV,x2,e]
def zP(a:Adr)(k:Nat)(s:Sto)(i:Int):lK a (k+1) [.int i,.int i] s=.ok (.bl true) s:=by
 have e:fEq (.int i) (.int i) s=.ok (.bl true) s:=by rw[AH,beq_self_eq_true]
 have w:sY a [.int i] s=.ok (.bl true) s:=by refine mO ?_;unfold wt;refine mv ?_;simp only[xAndV,xNotV,xIsiT,xVar,FU,Ee,Out.bind,ae,ap,cg];rfl
 refine mO (N:=2) (g:=nv a (lK a k)) ?_;unfold nv;rw[ly (ρ':=[some (.int i),some (.int i)]) (s':=s) (by simp only[xIf,xOr,xTr,xIsiT,xVar,FU,Ee,Out.bind,Out.so,ae,ai,ap,bv,cg,bI,aq,aD,aT,bX,if_false,xEnd];rfl)];rw[ly (ρ':=[some (.int i),some (.int i)]) (s':=s) (by simp only[xIf,xTr,xIsiT,xVar,FU,Ee,Out.bind,Out.so,ae,ai,bX,if_false,xEnd])];refine mv ?_;simp only[xAndV,xCall,xCons,xNil,xVar,Out.bind,ae,ai,aq,aD,if_true,w,x2,e]
def DX(a:Adr)(k:Nat)(s:Sto){v:PV}{l:List PV}(SM:FU s v=some .list\/FU s v=some .tuple)(hv:fLen [v] s=.ok (.int l.length) s)(TZ:∀(i:Nat)(p:PV),l[i]?=some p->fIx v (.int i) s=.ok p s)(hd:l.length<1000)(R4:∀p∈l,lK a k [p,p] s=.ok (.bl true) s):lK a (k+1) [v,v] s=.ok (.bl true) s:=by
 have hc:=xV (s:=s) (cap:=[some v,some v]) (c:=xNot (xTr (xCall 2 (lK a k) (xCons (x2 (xVar 1) (xVar 0) fIx) (xCons (x2 (xVar 2) (xVar 0) fIx) xNil))))) (e:=xVar 0) (fun _=>false) id (vG 0 l.length) (fun q hq=>by obtain⟨i,hi⟩:=List.mem_iff_getElem?.mp hq;obtain⟨Qy,rfl⟩:=DZ hi;have R7:l[i]?=some l[i]:=br Qy;have h1:=TZ i _ R7;have h3:=R4 l[i] (cR Qy);simp only[xNot,xTr,xCall,xCons,x2,xVar,xNil,Out.bind,ae,ai,h1,aq,aD,if_true,h3];rfl) (fun q hq z=>by cases z)
 have e0:(((vG 0 l.length).filter fun _=>false).map id)=[]:=by simp
 rw[e0] at hc;have hr:xRng1 (xCons (xB (xCons (xVar 1) xNil) fLen) xNil) [some v,some v] s=.ok (vG 0 l.length) s:=F6 (by simp only[xCons,xB,xVar,xNil,Out.bind,ae,ai,hv]) (by omega);have QL:=oM (ix:=[0,1]) (c:=xNot (xTr (xCall 2 (lK a k) (xCons (x2 (xVar 1) (xVar 0) fIx) (xCons (x2 (xVar 2) (xVar 0) fIx) xNil))))) (e:=xVar 0) hr (by rw[wK];omega) hc;refine mO (N:=2) (g:=nv a (lK a k)) ?_;show nv a (lK a k) [some v,some v] s=_;unfold nv;generalize (nH (xRng1 (xCons (xB (xCons (xVar 1) xNil) fLen) xNil)) [0,1] (xNot (xTr (xCall 2 (lK a k) (xCons (x2 (xVar 1) (xVar 0) fIx) (xCons (x2 (xVar 2) (xVar 0) fIx) xNil))))) (xVar 0))=C at QL ⊢;refine vF ?_;have hn1:=JS s false;have Rn:=JS s true;have hn3:fNe (.int (l.length:Int)) (.int (l.length:Int)) s=.ok (.bl false) s:=by rw[ne_int,beq_self_eq_true];rfl
 have e1:xIf (xOr (xTr (x2 (xIsiT .tuple (xVar 0)) (xIsiT .tuple (xVar 1)) fNe)) (xTr (x2 (xIsiT .list (xVar 0)) (xIsiT .list (xVar 1)) fNe))) (xRet (xC (.bl false))) xEnd [some v,some v] s=.nx [some v,some v] s:=by rcases SM with ht|ht<;>simp only[xIf,xOr,xTr,x2,xIsiT,xVar,Out.bind,Out.so,ae,ai,ht,Ee,hn1,Rn,bX,if_false,xEnd]
 have e2:xIf (xTr (x2 (xB (xCons (xVar 0) xNil) fLen) (xB (xCons (xVar 1) xNil) fLen) fNe)) (xRet (xC (.bl false))) xEnd [some v,some v] s=.nx [some v,some v] s:=by simp only[xIf,xTr,x2,xB,xCons,xNil,xVar,Out.bind,Out.so,ae,ai,hv,hn3,bX,if_false,xEnd]
 have e3:xRet (x2 (xB (xCons C xNil) fLen) (xC (.int 0)) fEq) [some v,some v] s=.rt (.bl true) s:=by
  refine mv ?_;have h0:fEq (.int 0) (.int 0) s=.ok (.bl true) s:=by rw[AH];rfl
  have h1:fLen [.lst ([]:List PV)] s=.ok (.int 0) s:=rfl;simp only[x2,xB,xCons,xNil,QL,Out.bind,h1,xC,h0]
 have e4:(xOr (xTr (xIsiT .tuple (xVar 1))) (xTr (xIsiT .list (xVar 1)))) [some v,some v] s=.ok true s:=by rcases SM with ht|ht<;>(simp only[xOr,xTr,xIsiT,xVar,Out.bind,ae,ai,ht,Ee];try rfl)
 rw[qS e4,ly e1,ly e2,e3]
def DY(a:Adr)(k:Nat)(s:Sto)(l:List PV)(hd:l.length<1000)(R4:∀p∈l,lK a k [p,p] s=.ok (.bl true) s):lK a (k+1) [.lst l,.lst l] s=.ok (.bl true) s :=
 DX a k s (.inl rfl) rfl (fun i p h=>tV s l i h) hd R4
def zO(a:Adr)(k:Nat)(s:Sto)(l:List PV)(hd:l.length<1000)(R4:∀p∈l,lK a k [p,p] s=.ok (.bl true) s):lK a (k+1) [.tup l,.tup l] s=.ok (.bl true) s :=
 DX a k s (.inr rfl) rfl (fun i p h=>ix_tup s l i h) hd R4
def F3(a:Adr)(s:Sto)(hd:l.length<1000)(h:∀x∈l,a9 x=true):lK a 4 [LS l,LS l] s=.ok (.bl true) s :=
 DY a 3 s _ (by rw[af];exact hd) fun p hp=>by obtain⟨x,hx,rfl⟩:=ak.mp hp;exact DU a 2 s (h x hx)
section
variable{t:Sto}{nb:Nat}{pp hs:List Str}{L:List Ent}{M:List (Str×Hl)}
def shP(l:Hl):List PV:=(srt (l.map (·.1))).map fun n=>tz (lU l n)
def By(a:Adr)(t:Sto)(R:HR c hl hm)(hc:c<=11)(hv:pj (l9 M) (ar h)=some (.dct (hP hm))):mW a [.dct (l9 M),.str h] t=.ok (.lst (shP hl)) t:=by
 have so:lC [.dct (hP hm)] t=.ok (LS (srt (hm.map (·.1)))) t:=by have l:=R.l2;show(match keysOf (hP hm) with|some ss=>if ss.length<64 then Out.ok (PV.lst ((srt ss).map PV.str)) t else .bad|none=>.bad)=_;rw[CO];simp only[af];rw[if_pos (by omega)]
 have i0:fIx (.dct (l9 M)) (.str h) t=.ok (.dct (hP hm)) t:=by simp[fIx,lsOf,dcOf,kyOf,hv]
 have i1:∀n∈hm.map (·.1),fIx (.dct (hP hm)) (.str n) t=.ok (frP (lA hm n)) t:=fun n hn=>by simp[fIx,lsOf,dcOf,kyOf,AG hm n hn]
 have i2:∀n,fIx (frP (lA hm n)) (.int 0) t=.ok (.int (lA hm n).1) t:=fun n=>ix_tup t _ 0 rfl;have gt:∀n,fGt (.int (lA hm n).1) (.int 0) t=.ok (.bl (decide (0<(lA hm n).1))) t:=fun n=>rfl;have cm:=wV (s:=t) (cap:=[some (.dct (hP hm))]) (c:=xTr (x2 (x2 (x2 (xVar 1) (xVar 0) fIx) (xC (.int 0)) fIx) (xC (.int 0)) fGt)) (e:=xTup (xCons (xVar 0) (xCons (x2 (xVar 1) (xVar 0) fIx) xNil))) PV.str (fun n=>decide (0<(lA hm n).1)) (fun n=>tz (lU hm n)) (srt (hm.map (·.1))) (fun n hn=>by
  simp only[xTr,x2,xVar,xC,Out.bind,ae,ai,i1 n ((lx _).mem_iff.mp hn),i2,gt]) (fun n hn _=>by
  rw[mU];simp only[xTup,xCons,xNil,x2,xVar,Out.bind,ae,ai,i1 n ((lx _).mem_iff.mp hn)];rfl)
 have e2:((srt (hm.map (·.1))).filter fun n=>decide (0<(lA hm n).1)).map (fun n=>tz (lU hm n))=shP hl:=by
  have:=R.shown;unfold My.shown at this;unfold shP;have e3:((srt (hm.map (·.1))).filter fun n=>decide (0<(lA hm n).1)).map (fun n=>lU hm n)=(srt (hl.map (·.1))).map (lU hl):=by rw[<-this,eA];rfl
  have e4:=congrArg (List.map tz) e3;rw[aF,aF] at e4;exact e4
 rw[e2] at cm;refine mO ?_;show rQ a [some (.dct (l9 M)),some (.str h),none] t=_;unfold rQ;refine(ly (ρ':=[some (.dct (l9 M)),some (.str h),some (.dct (hP hm))]) (s':=t) (lY ((lW rfl rfl).trans i0))).trans (mv ?_);have hl2:=R.l2;have SN:((srt (hm.map fun q=>q.1)).map PV.str).length<=100000:=by rw[af,lH,af];omega
 refine oM (s1:=t) ?_ SN cm;simp only[xIter,xB,xCons,xNil,xVar,Out.bind,ae,ai,so,lsOf]
def Iv(a:Adr)(t:Sto)(hl:l.length<=12)(h:∀n∈l.map (·.1),Sm n):lK a 4 [.lst (shP l),.lst (shP l)] t=.ok (.bl true) t :=
 DY a 3 t _ (by unfold shP;rw[af,lH,af];omega) fun p hp=>by
  obtain⟨n,hn,rfl⟩:=ak.mp hp;rw[mU];refine zO a 2 t _ (by simp) fun p hp=>?_;rcases aj.mp hp with rfl|hp
  ·exact DU a 1 t (qy (h n ((lx _).mem_iff.mp hn)))
  ·rw[au.mp hp];refine zO a 1 t _ (by simp) fun p hp=>?_;rcases aj.mp hp with rfl|hp
   ·exact zP a 0 t _
   ·rw[au.mp hp];exact zP a 0 t _
def Bn(p:A.Perm B):qG U A=qG U B:=by
 induction p with
 |nil=>rfl
 |cons x _ ih=>show U x+_=U x+_;rw[ih]
 |swap x y l=>show U y+(U x+_)=U x+(U y+_);omega
 |trans _ _ h1 h2=>exact h1.trans h2
theorem Bm:∀{A:List Str},(∀x∈A,U x=0)->qG U A=0
 |[],_=>rfl
 |x::r,h=>by show U x+_=0;rw[h x ag,Bm fun y hy=>h y (ah _ hy)];rfl
def Ig(na:A.Nodup)(nz:Z.Nodup)(sub:∀x∈A,x∈Z)(z:∀x∈Z,x∉A->U x=0):qG U A=qG U Z:=by
 have p:Z.Perm (A++Z.filter fun x=>decide (x∉A)):=by
  refine(dN nz (aW.mpr ⟨na,nz.filter _,fun x hx y hy e=>?_⟩)).mpr fun x=>?_
  ·have:=(cv.mp hy).2;rw[decide_eq_true_iff] at this;exact this (e▸hx)
  ·rw[aJ,cv,decide_eq_true_iff];constructor
   ·intro h;by_cases q:x∈A
    ·exact .inl q
    ·exact .inr ⟨h,q⟩
   ·rintro(h|h)
    ·exact sub x h
    ·exact h.1
 rw[Bn p,uO,Bm (A:=Z.filter _) fun x hx=>z x (cv.mp hx).1 (by have:=(cv.mp hx).2;rwa[decide_eq_true_iff] at this)];omega
def rv_on{D u:Int}{q:Int×Int}(h:On D q u):rv q*(D:Rat)=(u:Rat):=by
 have e:=h.ev;have p:=h.low.1;have e2:((q.1:Rat))*D=u*q.2:=by have:=congrArg (fun z:Int=>(z:Rat)) e;simp only[Rat.intCast_mul] at this;exact this
 have p2:((q.2:Int):Rat)≠0:=by
  intro z;have:q.2=0:=by exact_mod_cast z
  omega
 unfold rv;rw[Rat.divInt_eq_div]
 grind
theorem FX{D:Int}{U:Str->Int}{f:Str->Int×Int}(h:∀n,On D (f n) (U n)):∀ns:List Str,uN (ns.map fun n=>rv (f n))*(D:Rat)=(qG U ns:Rat)
 |[]=>by show(0:Rat)*D=((0:Int):Rat);simp
 |n::ns=>by
  show(rv (f n)+uN (ns.map fun n=>rv (f n)))*(D:Rat)=((U n+qG U ns:Int):Rat);have a:=rv_on (h n);have b:=FX h ns;rw[Rat.intCast_add,<-a,<-b]
  grind
def HR.tgt{c:Nat}{hl hm:Hl}(R:HR c hl hm)(hc:c<=11){N:List Str}(sub:∀n∈hm.map (·.1),n∈N):∃D U,Tgt N hl D U:=by
 obtain⟨D,U,d0,dB,on⟩:=R.dv;have SD:∀n,On D (lA hl n) (U n):=fun n=>by rw[R.q];exact on n
 have nn:∀n,0<=U n:=fun n=>by
  have e:=(SD n).ev;have f:=R.fr n;have z:0<=U n*(lA hl n).2:=by rw[<-e];exact f9 f.nn (bB d0)
  exact Int.nonneg_of_mul_nonneg_left z f.low.1
 have nm:∀n,n∈hl.map (·.1)↔0<U n:=fun n=>by
  rw[R.nm];refine⟨fun z=>?_,fun z=>(SD n).pos d0 z⟩;have e:=(SD n).ev;have y:0<U n*(lA hl n).2:=by rw[<-e];exact bE z d0
  exact ke y (R.fr n).low.1
 have im:∀n∈hl.map (·.1),n∈hm.map (·.1):=fun n hn=>R.had (by rw[<-R.q];exact(R.nm n).mp hn);refine⟨D,U,R.n1,fun n hn=>sub n (im n hn),d0,dB.mono (by omega),SD,nm,nn,?_⟩;have s1:qG U (hm.map (·.1))=D:=by
  have k:=FX on (hm.map (·.1));have o:uN ((hm.map (·.1)).map fun n=>rv (lA hm n))=1:=R.one;rw[o,Rat.one_mul] at k
  exact_mod_cast k.symm
 rw[Bn (lx _),<-s1];exact Ig R.n1 R.n2 im fun x _ hx=>by have:=nn x;have:¬ 0<U x:=fun z=>hx ((nm x).mpr z);omega
def Pairs.at_{L:List Ent}{M:List (Str×Hl)}(P:Pairs N c L M):∀e∈L,∃l,HR c e.held l/\(∀n∈l.map (·.1),n∈N)/\0<=e.ls:=by
 induction P with
 |nil=>intro e he;cases he
 |cons a1 a2 a3 a4 P ih =>
  intro x hx;rcases aj.mp hx with rfl|hx
  ·exact⟨_,a2,a3,a4⟩
  ·exact ih x hx
def xx(hk:k<=1300)(h:Bt k i):vc i:=aA (h.mono hk) (b7 rfl)
def Wnm.rdb(W:Wnm pp hs L M):Rdb pp L:=by
 have n:=W.n;refine⟨by rw[n];exact W.w.nd,by rw[n];exact W.w.nm,by rw[n];exact W.w.sm,W.w.p6,?_,fun _ z=>?_,W.ent_ok,fun e he=>?_,fun e he m hm=>?_,fun e he=>?_⟩
 ·have:=congrArg b6 n;rw[af] at this;rw[this];exact W.w.h8
 ·have:=W.w.p1;rw[z] at this;exact absurd this (by decide)
 ·obtain⟨s1,s2,s3⟩:=W.s e he;obtain⟨l,_,_,h0⟩:=W.p.at_ e he;exact⟨h0,xx (by decide) s1,xx (by decide) s2,xx (by decide) s3⟩
 ·obtain⟨l,R,_⟩:=W.p.at_ e he;have f:=R.fr m;exact⟨f.low,xx (by decide) f.top,xx (by decide) f.bb⟩
 ·obtain⟨l,R,s,_⟩:=W.p.at_ e he;rw[n];exact R.tgt (by decide) s
def Kw(W:Wnm pp hs L M)(a:Adr)(hg:t.get nb=some (.book (srt pp) (rbL pp L))):mS a [.ref nb,LS (srt pp),.dct (l9 M),.dct (nA L)] t=.ok (.bl true) t:=by
 have R:=W.rdb;have B:=R.bok2 hg;have Pu:M.map (·.1)=L.map (·.nm):=W.p.names.symm;have Sr:∀x∈srt pp,a9 x=true:=fun x hx=>qy (R.sm x (a7 _ ((lx _).mem_iff.mp hx)));have smh:∀x∈srt (L.map (·.nm)),a9 x=true:=fun x hx=>qy (R.sm x (aB _ ((lx _).mem_iff.mp hx)));have p6:=R.p6;have l8:=R.l8;have ep:mn a [.ref nb] t=.ok (LS (srt pp)) t:=by simp only[mn,lZ,hg];rw[mJ (lx pp)]
 have eh:nQ a [.ref nb] t=.ok (LS (srt (L.map (·.nm)))) t:=by simp only[nQ,lZ,hg];rw[wy,mJ (lx _)]
 have s1:=F3 a t (l:=srt pp) (by rw[lH];omega) Sr;have s2:=F3 a t (l:=srt (L.map (·.nm))) (by rw[lH,af];omega) smh;have so:lC [.dct (l9 M)] t=.ok (LS (srt (L.map (·.nm)))) t:=by show(match keysOf (l9 M) with|some ss=>if ss.length<64 then Out.ok (PV.lst ((srt ss).map PV.str)) t else .bad|none=>.bad)=_;rw[rA,Pu];simp only[af];rw[if_pos (by omega)]
 have step:∀h∈L.map (·.nm),pV a [some (.ref nb),some (LS (srt pp)),some (.dct (l9 M)),some (.dct (nA L)),some (.str h)] t=.nx [some (.ref nb),some (LS (srt pp)),some (.dct (l9 M)),some (.dct (nA L)),some (.str h)] t:=fun h hh=>by
  obtain⟨f1,f2,f3⟩:=nO hh;obtain⟨e,g1,UA,g3⟩:=wa W.p (h:=h) (by rw[Pu];exact hh);rw[f1] at g1;cases g1;have fb:mj (rbL pp L) h=some (fin (rbP pp) (ent L h)):=by
   have h2:h∈(rbL pp L).map (·.nm):=by rw[wy];exact(lx _).mem_iff.mpr hh
   rw[(nO h2).1,uR hh]
  have nh:Nm h:=(R.sm h (aB _ hh)).nm;obtain⟨pm,gq⟩:=R.fin_ok f3;have E:=R.en _ f3;have eo:EK a [.ref nb,.str h] t=.ok (.tup [.int (ent L h).th,.int (ent L h).mr,.int (ent L h).ls]) t:=by simp only[EK,lZ,hg];rw[if_pos nh,fb];rfl
  have es:mf a [.ref nb,.str h] t=.ok (.lst (shP (ent L h).held)) t:=by
   simp only[mf,lZ,hg];rw[if_pos nh,fb];have l1:(fin (rbP pp) (ent L h)).held.length<64:=by have:=pm.length_eq;rw[af,af] at this;have:=E.len;omega
   simp only[l1,if_true];unfold w5 shP;rw[mJ pm]
   congr 2
   exact aR fun n _=>by rw[mU,mU,gq]
  have el:=By a t UA (by decide) g3;have v1:fIx (.dct (nA L)) (.str h) t=.ok (.lst [.int (ent L h).th,.int (ent L h).mr,.int (ent L h).ls]) t:=by simp[fIx,lsOf,dcOf,kyOf,Gp f1]
  have tu:fTuple [.lst [.int (ent L h).th,.int (ent L h).mr,.int (ent L h).ls]] t=.ok (.tup [.int (ent L h).th,.int (ent L h).mr,.int (ent L h).ls]) t:=rfl;have q1:=zO a 3 t [.int (ent L h).th,.int (ent L h).mr,.int (ent L h).ls] (by simp) fun p hp=>by simp only[aj,bg,or_false] at hp;rcases hp with rfl|rfl|rfl<;>exact zP a 2 t _
  have q2:=Iv a t E.len fun n hn=>(E.sh n hn).1;unfold pV;refine(ly (pd (s1:=t) ?_)).trans (pd (s1:=t) ?_)
  ·simp only[xNot,xTr,xCall,xCons,xNil,xBM,xB,x2,xVar,Out.bind,ae,ai,hg,aq,aD,if_true,eo,v1,tu,q1];rfl
  ·simp only[xNot,xTr,xCall,xCons,xNil,xBM,xVar,Out.bind,ae,ai,hg,aq,aD,if_true,es,el,q2];rfl
 obtain⟨ρ',s',lo,o4,rfl,rfl⟩:=vL (body:=lV (yName 4) (pV a)) ((L.map (·.nm)).map .str)
  (fun k ρ s=>∃o4,ρ=[some (.ref nb),some (LS (srt pp)),some (.dct (l9 M)),some (.dct (nA L)),o4]/\t=s)
  (fun k q ρ s hq hI=>by obtain⟨o4,rfl,rfl⟩:=hI;rw[bu] at hq;obtain⟨w,hw,rfl⟩:=cM.mp hq;exact⟨_,_,step w (bW hw),some (.str w),rfl,rfl⟩) (ρ:=[some (.ref nb),some (LS (srt pp)),some (.dct (l9 M)),some (.dct (nA L)),none]) (s:=t) ⟨none,rfl,rfl⟩
 have ek:((l9 M).map fun kv=>BJ kv.1)=(L.map (·.nm)).map PV.str:=by rw[<-Pu];unfold l9;simp[BJ]
 refine mO ?_;show uC a [some (.ref nb),some (LS (srt pp)),some (.dct (l9 M)),some (.dct (nA L)),none] t=_;unfold uC;refine(ly (pd (s1:=t) (HM (s1:=t) ?_ ?_))).trans ?_
 ·simp only[xNot,xTr,xCall,xCons,xNil,xBM,xVar,Out.bind,ae,ai,hg,aq,aD,fX,if_true,ep,s1];rfl
 ·simp only[xNot,xTr,xCall,xCons,xNil,xBM,xB,xVar,Out.bind,ae,ai,hg,aq,aD,fX,if_true,eh,so,s2];rfl
 refine(ly (pR (l:=(L.map (·.nm)).map .str) (s1:=t) (by simp[sem,og,lC,nN,ek]) lo)).trans (mv rfl)
end
def DC(h:mE c b n ρ s=.nx ρ' s'):vx c b ρ s=.nx ρ' s':=(Bf h (by intro z;cases z)).trans rfl
def oK(hx:Bt 1500 x)(hy:Bt 1500 y)(s:Sto):fMul (.int x) (.int y) s=.ok (.int (x*y)) s:=by have:wO x y:=.inl ⟨hx.mono (by decide),hy.mono (by decide)⟩;exact if_pos this
def AO{k n:Nat}(h:n<2^k):Bt k (n:Int):=h
def lim:Nat:=10^29
def KU(s:Sto)(ρ:En):x2 (xC (.int 10)) (xC (.int 29)) fPow ρ s=.ok (.int (lim:Int)) s:=by refine(lW rfl rfl).trans ?_;show(if(0:Int)<=29/\(29:Int)<=1000000/\(10:Int).natAbs<2^64 then Out.ok (PV.int ((10:Int)^(29:Int).toNat)) s else .bad)=_;rw[if_pos (by decide)];rfl
def AF{n:Nat}(h:n<lim):Bt 1500 (n:Int):=AO (aA h (b7 rfl))
def HP(i j:Int)(s:Sto):fLt (.int i) (.int j) s=.ok (.bl (decide (i<j))) s:=rfl
def IF(a:Adr)(s:Sto)(hp:2<=p)(hK:1<=K)(h1:p^K<lim)(h2:¬p^K*p<lim)(o0 o1 o2:Option PV):∀n j,j+n=K->mE (xTr (x2 (x2 (xVar 4) (xVar 3) fMul) (x2 (xC (.int 10)) (xC (.int 29)) fPow) fLt)) (oA a) (n+1) [o0,o1,o2,some (.int (p:Int)),some (.int ((p^j:Nat):Int))] s=.nx [o0,o1,o2,some (.int (p:Int)),some (.int ((p^K:Nat):Int))] s:=by
 have Ry:∀j,j<=K->xTr (x2 (x2 (xVar 4) (xVar 3) fMul) (x2 (xC (.int 10)) (xC (.int 29)) fPow) fLt) [o0,o1,o2,some (.int (p:Int)),some (.int ((p^j:Nat):Int))] s=.ok (decide (p^j*p<lim)) s:=fun j hj=>by
  have b1:Bt 1500 ((p^j:Nat):Int):=AF (aM (bD (by omega) hj) h1);have b2:Bt 1500 (p:Int):=AF (aM (by have:=bD (n:=p) (by omega) hK;rwa[kL] at this) h1)
  have m1:x2 (xVar 4) (xVar 3) fMul [o0,o1,o2,some (.int (p:Int)),some (.int ((p^j:Nat):Int))] s=.ok (.int (((p^j*p:Nat)):Int)) s:=(lW rfl rfl).trans ((oK b1 b2 s).trans (by rw[cX]));unfold xTr;rw[lW m1 (KU s _),HP,show decide (((p^j*p:Nat):Int)<(lim:Int))=decide (p^j*p<lim) from decide_eq_decide.mpr Int.ofNat_lt];simp only[Out.bind]
 intro n;induction n with
 |zero =>
  intro j hj;have hj:j=K:=by omega
  subst hj;unfold mE;rw[Ry j (ax _),decide_eq_false h2];rfl
 |succ n ih =>
  intro j hj;have t1:=Ry j (by omega);have lt:p^j*p<lim:=by rw[<-fg];exact aM (bD (by omega) (by omega)) h1
  rw[decide_eq_true lt] at t1;unfold mE;rw[t1];have b1:Bt 1500 ((p^j:Nat):Int):=AF (aM (bD (by omega) (by omega)) h1);have b2:Bt 1500 (p:Int):=AF (aM (by have:=bD (n:=p) (i:=1) (j:=K) (by omega) (by omega);rwa[kL] at this) h1)
  have bd:oA a [o0,o1,o2,some (.int (p:Int)),some (.int ((p^j:Nat):Int))] s=.nx [o0,o1,o2,some (.int (p:Int)),some (.int ((p^(j+1):Nat):Int))] s:=by unfold oA;refine lY ((lW rfl rfl).trans ((oK b1 b2 s).trans ?_));rw[fg,cX]
  show(match oA a _ s with|.nx ρ' s'=>_|.ct ρ' s'=>_|.bk ρ' s'=>_|o=>o)=_;rw[bd];exact ih (j+1) (by omega)
structure PK(pk:Nat×Nat):Prop where
 p2:2<=pk.1
 k1:1<=pk.2
 lo:pk.1^pk.2<lim
 hi:¬pk.1^pk.2*pk.1<lim
def Fw(q:Int×Int):List (Nat×Nat)->Int×Int
 |[]=>q
 |pk::l=>Fw (q.1*((pk.1^pk.2:Nat):Int)+q.2,q.2*((pk.1^pk.2:Nat):Int)) l
def pw(pk:Nat×Nat):PV:=.int ((pk.1^pk.2:Nat):Int)
theorem zg(a:Adr)(s:Sto)(o0:Option PV):∀(l:List (Nat×Nat))(X:List PV)(q:Int×Int)(o3 o4:Option PV),(∀pk∈l,PK pk)->X.length+l.length<1000->(∀A B,l=A++B->Bt 1500 (Fw q A).1/\Bt 1500 (Fw q A).2) ->
  ∃u3 u4,mL (lV (yName 3) (oz a)) (l.map fun pk=>.int (pk.1:Int)) [o0,some (frP q),some (.ref s.nx),o3,o4] (s.add (.lst X))=.nx [o0,some (frP (Fw q l)),some (.ref s.nx),u3,u4] (s.add (.lst (X++l.map pw)))
 |[],X,q,o3,o4,_,_,_=>⟨o3,o4,by rw[bv,bv,bJ];rfl⟩
 |pk::l,X,q,o3,o4,hk,hX,hB=>by
  have P:=hk pk ag;obtain⟨b1,b2⟩:=hB [] _ rfl;have bx:Bt 1500 ((pk.1^pk.2:Nat):Int):=AF P.lo;obtain⟨u3,u4,ih⟩:=zg a s o0 l (X++[pw pk]) (q.1*((pk.1^pk.2:Nat):Int)+q.2,q.2*((pk.1^pk.2:Nat):Int)) (some (.int (pk.1:Int))) (some (pw pk)) (fun z hz=>hk z (ah _ hz)) (by rw[aE];rw[aq] at hX;show X.length+1+_<_;omega) fun A B e=>hB (pk::A) B (by rw[e];rfl);refine⟨u3,u4,?_⟩;rw[aq] at hX;have O1:X.length<100000:=by omega
  have w:=IF a (s.add (.lst X)) P.p2 P.k1 P.lo P.hi o0 (some (frP q)) (some (.ref s.nx)) (pk.2-1) 1 (by have:=P.k1;omega);rw[kL] at w;have i0:∀t:Sto,fIx (frP q) (.int 0) t=.ok (.int q.1) t:=fun t=>ix_tup t _ 0 rfl;have i1:∀t:Sto,fIx (frP q) (.int 1) t=.ok (.int q.2) t:=fun t=>ix_tup t _ 1 rfl;have hb:lV (yName 3) (oz a) (.int (pk.1:Int)) [o0,some (frP q),some (.ref s.nx),o3,o4] (s.add (.lst X))=.nx [o0,some (frP (q.1*((pk.1^pk.2:Nat):Int)+q.2,q.2*((pk.1^pk.2:Nat):Int))),some (.ref s.nx),some (.int (pk.1:Int)),some (pw pk)] (s.add (.lst (X++[pw pk]))):=by
   show oz a [o0,some (frP q),some (.ref s.nx),some (.int (pk.1:Int)),o4] (s.add (.lst X))=_;unfold oz;refine(ly (ρ':=[o0,some (frP q),some (.ref s.nx),some (.int (pk.1:Int)),some (.int (pk.1:Int))]) (s':=s.add (.lst X)) (lY rfl)).trans ?_;refine(ly (DC w)).trans ?_;refine(ly (ρ':=[o0,some (frP q),some (.ref s.nx),some (.int (pk.1:Int)),some (pw pk)]) (s':=s.add (.lst (X++[pw pk]))) (tJ (v:=.non) ?_)).trans ?_
   ·simp only[xAppend,xVar,xCons,xNil,Out.bind,ae,ai,lR,if_true,O1,mX,pw]
   ·refine lY (vz (lu (v:=.int (q.1*((pk.1^pk.2:Nat):Int)+q.2)) (s1:=s.add (.lst (X++[pw pk]))) ?_ (lu (v:=.int (q.2*((pk.1^pk.2:Nat):Int))) (s1:=s.add (.lst (X++[pw pk]))) ?_ rfl)))
    ·have m:=oK b1 bx (s.add (.lst (X++[pw pk])));exact(lW ((lW ((lW rfl rfl).trans (i0 _)) rfl).trans m) ((lW rfl rfl).trans (i1 _))).trans rfl
    ·have m:=oK b2 bx (s.add (.lst (X++[pw pk])));exact(lW ((lW rfl rfl).trans (i1 _)) rfl).trans m
  rw[ap,ap];unfold mL;rw[hb];rw[aO] at ih;exact ih
theorem Ev:∀(k m:Nat),10^k<=m->k+1<=(cP 10 m).length
 |0,m,h=>by
  by_cases z:m<10
  ·rw[cK z];exact ax 1
  ·have hm:m%10<10:=Nat.mod_lt m (by decide);have t:cP 10 (m/10)++cP 10 (m%10)=cP 10 (10*(m/10)+m%10):=fS (by decide) (by omega) hm;rw[ju] at t;rw[<-t,aE,cK hm];show 0+1<=_+1;omega
 |k+1,m,h=>by have p:0<10^k:=Nat.pow_pos (by decide);rw[fg] at h;have hm:m%10<10:=Nat.mod_lt m (by decide);have t:cP 10 (m/10)++cP 10 (m%10)=cP 10 (10*(m/10)+m%10):=fS (by decide) (by omega) hm;rw[ju] at t;have:=Ev k (m/10) (by omega);rw[<-t,aE,cK hm];show _<=_+1;omega
def Lk{k m:Nat}(h:10^k<=m):k+1<=(lJ m).length:=by have e:(lJ m).cps.toList=_:=gQ m;have:=congrArg b6 e;rw[af] at this;show _<=(lJ m).cps.size;rw[<-bS,this];exact Ev k m h
def pcs:List (Nat×Nat):=[(3,60),(5,41),(7,34),(11,27),(13,26),(17,23),(19,22),(23,21),(29,19),(31,19),(37,18),(41,17),(43,17),(47,17)]
instance (pk:Nat×Nat):Decidable (PK pk):=decidable_of_iff (2<=pk.1/\1<=pk.2/\pk.1^pk.2<lim/\¬pk.1^pk.2*pk.1<lim) ⟨fun⟨a,b,c,d⟩=>⟨a,b,c,d⟩,fun⟨a,b,c,d⟩=>⟨a,b,c,d⟩⟩
def Nn:∀pk∈pcs,PK pk:=by decide +kernel
def B0:Nat:=(Fw (0,1) pcs).2.toNat
def T0:Nat:=(Fw (0,1) pcs).1.toNat
def J6:Fw (0,1) pcs=((T0:Int),(B0:Int)):=by decide +kernel
def J7:∀k,k<=14->(Fw (0,1) (pcs.take k)).1.natAbs<2^1500/\(Fw (0,1) (pcs.take k)).2.natAbs<2^1500:=by decide +kernel
def b0_lo:B0*2^9<10^399:=by decide +kernel
def b0_hi:10^399<=B0*2^10/\B0*2^10<10^400:=by decide +kernel
def FH(h1:fa ρ s=.ok vs s1)(hl:vs.length<=100000:=by exact b7 rfl):xLst fa ρ s=.ok (.lst vs) s1:=by unfold xLst;rw[h1];exact if_pos hl
def Kn(hj:j<=10):B0*2^j<10^400:=aM (eg _ (bD (by decide) hj)) b0_hi.2
def MG:Bt 1500 (B0:Int):=AO (aA (aM (iU (Nat.mul_one _).symm) (Kn (ba _))) (b7 rfl))
def C0(hj:j<=10):Bt 1500 ((2^j:Nat):Int):=AO (kM (by decide) (by omega))
def Ep(s:Sto)(o2 o3:Option PV)(hj:j<=10):xTr (x2 (xB (xCons (xB (xCons (x2 (x2 (xVar 1) (xC (.int 1)) fIx) (xVar 4) fMul) xNil) nC) xNil) fLen) (xVar 0) fLt) [some (.int 400),some (frP ((T0:Int),(B0:Int))),o2,o3,some (.int ((2^j:Nat):Int))] s=.ok (decide (j<10)) s:=by
 have m:=oK MG (C0 hj) s;have e:(B0:Int)*((2^j:Nat):Int)=((B0*2^j:Nat):Int):=(cX _ _).symm;rw[e] at m;have f:vc ((B0*2^j:Nat):Int):=Kn hj;have i1:fIx (frP ((T0:Int),(B0:Int))) (.int 1) s=.ok (.int (B0:Int)) s:=ix_tup s _ 1 rfl;have st:nC [.int ((B0*2^j:Nat):Int)] s=.ok (.str (lJ ((B0*2^j:Nat):Int))) s:=if_pos (oH f);have le:=tO (k:=399) (m:=B0*2^j) (Kn hj);have ln:fLen [.str (lJ ((B0*2^j:Nat):Int))] s=.ok (.int ((lJ ((B0*2^j:Nat):Int)).length:Int)) s:=if_pos (aC le (by decide));have k:decide (((lJ ((B0*2^j:Nat):Int)).length:Int)<400)=decide (j<10):=by
  rw[decide_eq_decide];by_cases z:j<10
  ·have:B0*2^j<10^(398+1):=aM (eg _ (bD (by decide) (by omega))) b0_lo;have l2:=tO (k:=398) (m:=B0*2^j) this;exact⟨fun _=>z,fun _=>by omega⟩
  ·have:j=10:=by omega
   subst this;have l2:=Lk (k:=399) b0_hi.1;exact⟨fun y=>by omega,fun y=>absurd y (by decide)⟩
 have a1:x2 (x2 (xVar 1) (xC (.int 1)) fIx) (xVar 4) fMul [some (.int 400),some (frP ((T0:Int),(B0:Int))),o2,o3,some (.int ((2^j:Nat):Int))] s=.ok (.int ((B0*2^j:Nat):Int)) s:=(lW ((lW rfl rfl).trans i1) rfl).trans m;have a2:xB (xCons (xB (xCons (x2 (x2 (xVar 1) (xC (.int 1)) fIx) (xVar 4) fMul) xNil) nC) xNil) fLen [some (.int 400),some (frP ((T0:Int),(B0:Int))),o2,o3,some (.int ((2^j:Nat):Int))] s=.ok (.int ((lJ ((B0*2^j:Nat):Int)).length:Int)) s:=by
  have a3:xB (xCons (x2 (x2 (xVar 1) (xC (.int 1)) fIx) (xVar 4) fMul) xNil) nC [some (.int 400),some (frP ((T0:Int),(B0:Int))),o2,o3,some (.int ((2^j:Nat):Int))] s=.ok (.str (lJ ((B0*2^j:Nat):Int))) s:=by unfold xB;rw[lu a1 rfl];exact st
  unfold xB;unfold xB at a3;rw[lu a3 rfl];exact ln
 unfold xTr;rw[lW a2 rfl,HP,k];rfl
def Ib(a:Adr)(s:Sto)(o2 o3:Option PV):∀n j,j+n=10->mE (xTr (x2 (xB (xCons (xB (xCons (x2 (x2 (xVar 1) (xC (.int 1)) fIx) (xVar 4) fMul) xNil) nC) xNil) fLen) (xVar 0) fLt)) (oy a) (n+1) [some (.int 400),some (frP ((T0:Int),(B0:Int))),o2,o3,some (.int ((2^j:Nat):Int))] s=.nx [some (.int 400),some (frP ((T0:Int),(B0:Int))),o2,o3,some (.int ((2^10:Nat):Int))] s:=by
 intro n;induction n with
 |zero =>
  intro j hj;have:j=10:=by omega
  subst this;have t1:=Ep s o2 o3 (j:=10) (ax _);unfold mE;rw[t1];rfl
 |succ n ih =>
  intro j hj;have t1:=Ep s o2 o3 (j:=j) (by omega);rw[decide_eq_true (by omega)] at t1;unfold mE;rw[t1];have bd:oy a [some (.int 400),some (frP ((T0:Int),(B0:Int))),o2,o3,some (.int ((2^j:Nat):Int))] s=.nx [some (.int 400),some (frP ((T0:Int),(B0:Int))),o2,o3,some (.int ((2^(j+1):Nat):Int))] s:=by unfold oy;refine lY ((lW rfl rfl).trans ((oK (C0 (by omega)) (AO (k:=1500) (n:=2) (b7 rfl)) s).trans ?_));rw[fg,cX]
  show(match oy a _ s with|.nx ρ' s'=>_|.ct ρ' s'=>_|.bk ρ' s'=>_|o=>o)=_;rw[bd];exact ih (j+1) (by omega)
def TT:Nat:=T0*2^10+B0
def BB:Nat:=B0*2^10
def parts:List Nat:=pcs.map (fun pk=>pk.1^pk.2)++[2^10]
def t0_bt:Bt 1500 (T0:Int):=by have:=(J7 14 (by decide)).1;have e:pcs.take 14=pcs:=rfl;rw[e,J6] at this;exact this
def Ln(a:Adr)(s:Sto):∃s',uL a [.int 400] s=.ok (.lst [.lst (parts.map fun x:Nat=>PV.int (x:Int)),frP ((TT:Int),(BB:Int))]) s'/\s'.nx=s.nx+1/\∀k,k<s.nx->s'.get k=s.get k:=by
 obtain⟨u3,u4,lo⟩:=zg a s (some (.int 400)) pcs [] (0,1) none none Nn (by decide) (fun A B e=>by
  have hA:A=pcs.take A.length:=by rw[e,List.take_left'];rfl
  have hl:A.length<=14:=by have:=congrArg b6 e;rw[aE] at this;have:pcs.length=14:=rfl;omega
  have:=J7 A.length hl;rw[<-hA] at this;exact this)
 rw[J6,bI] at lo;have w:=Ib a (s.add (.lst (pcs.map pw))) (some (.ref s.nx)) u3 9 1 rfl;have i0:∀t:Sto,fIx (frP ((T0:Int),(B0:Int))) (.int 0) t=.ok (.int (T0:Int)) t:=fun t=>ix_tup t _ 0 rfl;have i1:∀t:Sto,fIx (frP ((T0:Int),(B0:Int))) (.int 1) t=.ok (.int (B0:Int)) t:=fun t=>ix_tup t _ 1 rfl;refine⟨s.add (.lst (pcs.map pw)),mO ?_,rfl,fun k hk=>by rw[lR,if_neg (by omega)]⟩;show uE a [some (.int 400),none,none,none,none] s=_;unfold uE;refine(ly (ρ':=[some (.int 400),some (frP (0,1)),none,none,none]) (s':=s) (lY (vz (lu rfl (lu rfl rfl))))).trans ?_;refine(ly (ρ':=[some (.int 400),some (frP (0,1)),some (.ref s.nx),none,none]) (s':=s.add (.lst [])) (lY rfl)).trans ?_;refine(ly (pR (l:=pcs.map fun pk=>.int (pk.1:Int)) (s1:=s.add (.lst [])) rfl lo)).trans ?_;refine(ly (ρ':=[some (.int 400),some (frP ((T0:Int),(B0:Int))),some (.ref s.nx),u3,some (.int ((2^1:Nat):Int))]) (s':=s.add (.lst (pcs.map pw))) (lY rfl)).trans ?_;refine(ly (DC w)).trans (mv ?_);have g:(s.add (.lst (pcs.map pw))).get s.nx=some (.lst (pcs.map pw)):=by rw[lR,if_pos rfl]
 have mT:=oK t0_bt (C0 (j:=10) (by decide)) (s.add (.lst (pcs.map pw)));have mB:=oK MG (C0 (j:=10) (by decide)) (s.add (.lst (pcs.map pw)));have eT:(T0:Int)*((2^10:Nat):Int)+(B0:Int)=(TT:Int):=by unfold TT;rw[Int.natCast_add,cX]
 have eB:(B0:Int)*((2^10:Nat):Int)=(BB:Int):=by unfold BB;rw[cX]
 have ad:fAdd (.ref s.nx) (.lst [.int ((2^10:Nat):Int)]) (s.add (.lst (pcs.map pw)))=.ok (.lst (parts.map fun x:Nat=>PV.int (x:Int))) (s.add (.lst (pcs.map pw))):=by show(match lsOf (s.add (.lst (pcs.map pw))) (.ref s.nx),lsOf (s.add (.lst (pcs.map pw))) (.lst [.int ((2^10:Nat):Int)]) with|some l,some k=>if l.length+k.length<=100000 then Out.ok (PV.lst (l++k)) (s.add (.lst (pcs.map pw))) else .bad|_,_=>.bad)=_;simp only[lsOf,g];rw[if_pos (by rw[af];decide)];unfold parts;rw[ay,aF];rfl
 have l1:∀ρ:En,ρ[4]?=some (some (.int ((2^10:Nat):Int)))->xLst (xCons (xVar 4) xNil) ρ (s.add (.lst (pcs.map pw)))=.ok (.lst [.int ((2^10:Nat):Int)]) (s.add (.lst (pcs.map pw))):=fun ρ h=>by
  have:xVar 4 ρ (s.add (.lst (pcs.map pw)))=.ok (.int ((2^10:Nat):Int)) (s.add (.lst (pcs.map pw))):=by unfold xVar;rw[h]
  unfold xLst;rw[lu this rfl];rfl
 refine FH (lu ((lW rfl (l1 _ rfl)).trans ad) (lu (vz (lu (v:=.int (TT:Int)) (s1:=s.add (.lst (pcs.map pw))) ?_ (lu (v:=.int (BB:Int)) (s1:=s.add (.lst (pcs.map pw))) ?_ rfl))) rfl))
 ·refine(lW ((lW ((lW rfl rfl).trans (i0 _)) rfl).trans mT) ((lW rfl rfl).trans (i1 _))).trans ?_;show Out.ok (PV.int _) _=_;rw[eT]
 ·rw[<-eB];exact(lW ((lW rfl rfl).trans (i1 _)) rfl).trans mB
section
variable{t:Sto}{n nb:Nat}{pp:List Str}{L:List Ent}
def KG(a:Adr)(hg:t.get n=some (.book pp (A++e::B)))(ho:o1∈pp++(A++e::B).map (·.nm))(n1':Nm o1)(nd:((A++e::B).map (·.nm)).Nodup)(ne:Nm e.nm)(hx:x∈pp++(A++e::B).map (·.nm))(nx:Nm x)(sq:Sz q)(so:SaleOk e.held o1 q)(nt:¬nJ e.held o1 q) :
  pZ a [.ref n,.str e.nm,.str o1,.str x,frP q] t=.ok .non (t.set n (.book pp (A++{ e with held:=pz e.held o1 x q }::B))):=by
 have PY:=nd;rw[ay,ap,aW] at PY;have n1:e.nm∉A.map (·.nm):=fun z=>PY.2.2 _ z _ ag rfl;have n2:e.nm∉B.map (·.nm):=(az.mp PY.2.1).1;have f1:=wS (B:=B) n1;have hS:SaleE (A++e::B) e.nm o1 x (q.1,q.2):=⟨nd,⟨ne,n1',nx⟩,sq,fun e' he=>by rw[f1] at he;cases he;exact so⟩;have h1:¬(nB pp o1||ni (A++e::B) o1)=false:=by rw[cY,bT,nl,mM];exact aJ.mp ho
 have h2:¬(nB pp x||ni (A++e::B) x)=false:=by rw[cY,bT,nl,mM];exact aJ.mp hx
 simp only[pZ,lZ,hg,frP];rw[if_pos hS,f1];simp only[h1,h2,if_false,nt];rw[qQ _ n1 n2];rfl
def sa:Str:=ac "a"
def sb:Str:=ac "b"
def sh:Str:=ac "h"
def Kb:¬sa=sb:=by decide
def qP:∀x∈[sb,sa,sh],Sm x/\pG x=true:=by
 have k:∀x∈[sb,sa,sh],x.length<=9/\(∀c∈x.cps.toList,c<128)/\pG x=true:=by decide
 exact fun x hx=>⟨⟨(k x hx).1,(k x hx).2.1⟩,(k x hx).2.2⟩
def VV(S:Nat)(n:Str):Int:=if n=sa then(BB:Int)-S else if n=sb then(S:Int) else 0
def bb0:0<BB:=by decide +kernel
def Km:Bt 8000 (BB:Int):=by have:BB<10^400:=b0_hi.2;exact AO (aA this (b7 rfl))
def J9(h:S<=BB)(n:Str):0<=VV S n/\VV S n<=(BB:Int):=by
 unfold VV;split
 ·omega
 ·split<;>omega
def Kr(S u:Nat):vb (vb (VV S) sa (-(u:Int))) sb (u:Int)=VV (S+u):=by
 funext n
 unfold vb VV;by_cases e:n=sa
 ·have:¬n=sb:=fun z=>Kb (e.symm.trans z);rw[if_neg this,if_pos e,if_pos e,if_pos e];omega
 ·by_cases f:n=sb
  ·rw[if_pos f,if_neg e,if_neg e,if_pos f,if_neg e,if_pos f];omega
  ·rw[if_neg f,if_neg e,if_neg e,if_neg f,if_neg e,if_neg f]
def K5(h0:0<x)(hx:x∣BB):On (BB:Int) (1,(x:Int)) ((BB/x:Nat):Int):=by refine⟨⟨by show(0:Int)<(x:Int);omega,by show aL 1 (x:Int)=1;simp⟩,?_⟩;show 1*(BB:Int)=((BB/x:Nat):Int)*(x:Int);rw[<-cX,Nat.div_mul_cancel hx,Int.one_mul]
def hd0:Hd (BB:Int) (VV 0) [(sa,1,1)]:=by
 have b:=bb0;have g:∀n,lA [(sa,1,1)] n=if n=sa then(1,1) else(0,1):=fun n=>by
  unfold lA lU;by_cases e:n=sa
  ·rw[if_pos e,e];simp
  ·rw[if_neg e];simp[fM e]
 refine⟨fun n=>?_,fun n=>?_,by simp⟩
 ·rw[g];unfold VV;by_cases e:n=sa
  ·rw[if_pos e,if_pos e];have:=FE (BB:Int);rw[show(BB:Int)-((0:Nat):Int)=(BB:Int) by omega];exact this
  ·rw[if_neg e,if_neg e];have z:(if n=sb then((0:Nat):Int) else 0)=0:=by split<;>rfl
   rw[z];exact zi _
 ·unfold VV;simp only[ap,bv,au];by_cases e:n=sa
  ·rw[if_pos e];exact⟨fun _=>by omega,fun _=>e⟩
  ·rw[if_neg e];refine⟨fun z=>absurd z e,fun z=>?_⟩;split at z<;>omega
def lE(h:Hl):Ent:=⟨sh,1,2,3,h⟩
def FJ(H:Hd (BB:Int) (VV S) h):h.length<=2:=by
 have:=CM (N:=[sa,sb]) H.nd fun n hn=>by
  have z:=(H.nm n).mp hn;unfold VV at z;split at z
  ·rename_i e;rw[e];simp
  ·split at z
   ·rename_i e;rw[e];simp
   ·omega
 rw[af] at this;exact this
theorem zd(a:Adr)(t:Sto)(o0 o1 o3 o5:Option PV):∀(l:List Nat)(h:Hl)(S:Nat)(o4:Option PV),Hd (BB:Int) (VV S) h->(∀x∈l,(0<x/\x<2^200)/\x∣BB)->S+(l.map fun x=>BB/x).sum<=BB ->
  ∃h' u4,Hd (BB:Int) (VV (S+(l.map fun x=>BB/x).sum)) h'/\mL (lV (yName 4) (mK a)) (l.map fun x:Nat=>PV.int (x:Int)) [o0,o1,some (.ref t.nx),o3,o4,o5] (t.add (.book [sb,sa] [lE h]))=.nx [o0,o1,some (.ref t.nx),o3,u4,o5] (t.add (.book [sb,sa] [lE h']))
 |[],h,S,o4,H,_,_=>⟨h,o4,H,rfl⟩
 |x::l,h,S,o4,H,hx,hS=>by
  rw[ap,jQ] at hS ⊢;obtain⟨⟨x0,xs⟩,xd⟩:=hx x ag;have b:=bb0;have on:=K5 x0 xd;have u0:0<BB/x:=Nat.div_pos (Nat.le_of_dvd b xd) x0;have le:((BB/x:Nat):Int)<=VV S sa:=by unfold VV;rw[if_pos rfl];omega
  have hl:=FJ H;have H2:=H.sale (o1:=sa) (o2:=sb) (by omega) (fun n=>(J9 (by omega) n).1) on (by omega) le;obtain⟨so,nt⟩:=H.ok (by omega) Km (J9 (by omega)) on (by omega) le (by omega);rw[Kr] at H2;obtain⟨h',u4,H3,lo⟩:=zd a t o0 o1 o3 o5 l (pz h sa sb (1,(x:Int))) (S+BB/x) (some (.int (x:Int))) H2 (fun y hy=>hx y (ah _ hy)) (by omega);refine⟨h',u4,by rw[Nat.add_assoc] at H3;exact H3,?_⟩;have g:(t.add (.book [sb,sa] [lE h])).get t.nx=some (.book [sb,sa] ([]++lE h::[])):=by rw[lR,if_pos rfl];rfl
  have sq:Sz (1,(x:Int)):=on.sz (by omega) Km (by omega) (by have:=Nat.div_le_self BB x;omega);have sl:=KG a g (o1:=sa) (x:=sb) (q:=(1,(x:Int))) (show sa∈[sb,sa,sh] by decide) (qP sa (by decide)).1.nm (show [sh].Nodup by decide) (qP sh (by decide)).1.nm (show sb∈[sb,sa,sh] by decide) (qP sb (by decide)).1.nm sq so nt;rw[mX] at sl;have hb:lV (yName 4) (mK a) (.int (x:Int)) [o0,o1,some (.ref t.nx),o3,o4,o5] (t.add (.book [sb,sa] [lE h]))=.nx [o0,o1,some (.ref t.nx),o3,some (.int (x:Int)),o5] (t.add (.book [sb,sa] [lE (pz h sa sb (1,(x:Int)))])):=by show mK a [o0,o1,some (.ref t.nx),o3,some (.int (x:Int)),o5] (t.add (.book [sb,sa] [lE h]))=_;unfold mK;exact tJ (v:=.non) ((tY (s1:=t.add (.book [sb,sa] [lE h])) rfl g (lu rfl (lu rfl (lu rfl (lu (vz (lu rfl (lu rfl rfl))) rfl)))) rfl).trans sl)
  rw[ap];unfold mL;rw[hb];exact lo
def IR:∀x∈parts,(0<x/\x<2^200)/\x∣BB:=by decide +kernel
def G8:(parts.map fun x=>BB/x).sum=TT:=by decide +kernel
def EN:0<TT/\TT<BB:=by decide +kernel
def MM:Nat.gcd TT BB=1:=by decide +kernel
def Kv:Nat.gcd (BB-TT) BB=1:=by decide +kernel
def Ec(H:Hd (BB:Int) (VV TT) h):(h.map (·.1)).Perm [sa,sb]:=(dN H.nd (by decide)).mpr fun n=>by
 have:=EN;rw[H.nm];unfold VV;simp only[aj,bg,or_false];by_cases e:n=sa
 ·rw[if_pos e];exact⟨fun _=>.inl e,fun _=>by omega⟩
 ·rw[if_neg e];by_cases f:n=sb
  ·rw[if_pos f];exact⟨fun _=>.inr f,fun _=>by omega⟩
  ·rw[if_neg f];exact⟨fun z=>by omega,fun z=>(z.elim e f).elim⟩
def FI(H:Hd (BB:Int) (VV TT) h):srt (h.map (·.1))=[sa,sb]:=(mJ (Ec H)).trans (by decide)
def Mv(H:Hd (BB:Int) (VV TT) h):lA h sb=((TT:Int),(BB:Int)):=by
 have b:=bb0;refine(H.on sb).uniq (by omega) ⟨⟨by show(0:Int)<(BB:Int);omega,?_⟩,?_⟩
 ·show aL (TT:Int) (BB:Int)=1;rw[kf];exact MM
 ·unfold VV;rw[if_neg (fun z=>Kb z.symm),if_pos rfl]
def Mw(H:Hd (BB:Int) (VV TT) h):lA h sa=((BB:Int)-(TT:Int),(BB:Int)):=by
 have b:=bb0;have c:=EN;refine(H.on sa).uniq (by omega) ⟨⟨by show(0:Int)<(BB:Int);omega,?_⟩,?_⟩
 ·show aL ((BB:Int)-(TT:Int)) (BB:Int)=1;rw[show(BB:Int)-(TT:Int)=((BB-TT:Nat):Int) by omega,kf];exact Kv
 ·unfold VV;rw[if_pos rfl]
def NC(H:Hd (BB:Int) (VV TT) h):Rdb [sb,sa] [lE h]:=by
 have b:=bb0;have c:=EN;have pm:=Ec H;have bl:BB<10^400:=b0_hi.2;have fq:∀n∈h.map (·.1),F4Q (lA h n):=fun n hn=>by
  have hn:=pm.mem_iff.mp hn;simp only[aj,bg,or_false] at hn;have low:=(H.on n).low;rcases hn with rfl|rfl
  ·refine⟨low,?_,?_⟩
   ·rw[Mw H];show((BB:Int)-(TT:Int)).natAbs<10^400;omega
   ·rw[Mw H];show((BB:Int)).natAbs<10^400;omega
  ·refine⟨low,?_,?_⟩
   ·rw[Mv H];show((TT:Int)).natAbs<10^400;omega
   ·rw[Mv H];show((BB:Int)).natAbs<10^400;omega
 have f:∀i:Int,i.natAbs<4->vc i:=fun i hi=>aA hi (b7 rfl);have sm:∀n∈[sb,sa]++[lE h].map (·.nm),Sm n/\pG n=true:=qP;refine⟨(show [sb,sa,sh].Nodup by decide),fun n hn=>(sm n hn).2,fun n hn=>(sm n hn).1,by decide,(show(1:Nat)<=8 by decide),fun _=>by decide,?_,?_,?_,?_⟩
 ·intro e he;rw[au.mp he];refine⟨(qP sh (by decide)).1,by have:=FJ H;show h.length<=12;omega,oH (f 1 (by decide)),oH (f 2 (by decide)),oH (f 3 (by decide)),fun n hn=>⟨?_,(fq n hn).shw⟩⟩;have hn:=pm.mem_iff.mp hn;simp only[aj,bg,or_false] at hn;rcases hn with rfl|rfl
  ·exact(qP _ (by decide)).1
  ·exact(qP _ (by decide)).1
 ·intro e he;rw[au.mp he];exact⟨(show(0:Int)<=3 by decide),f 1 (by decide),f 2 (by decide),f 3 (by decide)⟩
 ·intro e he;rw[au.mp he];exact fq
 ·intro e he;rw[au.mp he];refine⟨(BB:Int),VV TT,H.nd,fun n hn=>?_,by omega,Km,H.on,H.nm,fun n=>(J9 (by omega) n).1,?_⟩
  ·have hn:=pm.mem_iff.mp hn;simp only[aj,bg,or_false] at hn;rcases hn with rfl|rfl
   ·exact(show sa∈[sb,sa,sh] by decide)
   ·exact(show sb∈[sb,sa,sh] by decide)
  ·show qG (VV TT) (srt (h.map (·.1)))=_;rw[FI H];show VV TT sa+(VV TT sb+0)=_;unfold VV;rw[if_pos rfl,if_neg (fun z=>Kb z.symm),if_pos rfl];omega
def Fy(h:Shw i)(s:Sto):nC [.int i] s=.ok (.str (lJ i)) s:=if_pos h
def Lp(H:Hd (BB:Int) (VV TT) h):mi [sb,sa] [lE h]=[.per sa,.per sb,.hou sh (lE h),.sha sh (sa,(BB:Int)-(TT:Int),(BB:Int)),.sha sh (sb,(TT:Int),(BB:Int))]:=by
 have e1:srt [sb,sa]=[sa,sb]:=by decide
 have e2:([lE h]:List Ent).map (·.nm)=[sh]:=rfl;have e3:srt [sh]=[sh]:=by decide
 have e4:ent [lE h] sh=lE h:=by unfold ent mj;simp[lE]
 unfold mi;rw[e1,e2,e3];unfold oX;simp only[ap,bv,e4];rw[show(lE h).held=h from rfl,FI H];simp only[ap,bv,mU,Mw H,Mv H];rfl
def Lo(H:Hd (BB:Int) (VV TT) h)(a:Adr)(t:Sto):pM a [frP ((TT:Int),(BB:Int))] t=.ok (.str (txt [sb,sa] [lE h])) t:=by
 have b:=bb0;have c:=EN;have bl:BB<10^400:=b0_hi.2;have f1:vc ((BB:Int)-(TT:Int)):=by show((BB:Int)-(TT:Int)).natAbs<10^400;omega
 have f2:vc (BB:Int):=by show((BB:Int)).natAbs<10^400;omega
 have f3:vc (TT:Int):=by show((TT:Int)).natAbs<10^400;omega
 have s1:nC [.int ((BB:Int)-(TT:Int))] t=.ok (.str (lJ ((BB:Int)-(TT:Int)))) t:=Fy (oH f1) t;have s2:nC [.int (BB:Int)] t=.ok (.str (lJ (BB:Int))) t:=Fy (oH f2) t;have s3:nC [.int (TT:Int)] t=.ok (.str (lJ (TT:Int))) t:=Fy (oH f3) t;have n1:=(vh f1).2;have n2:=(vh f2).2;have n3:=(vh f3).2;have add:∀{x y:Str},x.length<=1000->y.length<=1000->fAdd (.str x) (.str y) t=.ok (.str (x++y)) t:=fun{x y} hx hy=>if_pos (by omega);have la:(ac "share h a ").length=10:=rfl;have lb:(ac "share h b ").length=10:=rfl;have ls:(ac "/").length=1:=rfl;generalize hA:lJ ((BB:Int)-(TT:Int))=xA at *;generalize hB:lJ (BB:Int)=xB' at *;generalize hT:lJ (TT:Int)=xT at *;have line:∀{p:Str}{x:Str}{ρ:En}{e1 e2:XE},p.length=10->x.length<=401->xB (xCons e1 xNil) nC ρ t=.ok (.str x) t->xB (xCons e2 xNil) nC ρ t=.ok (.str xB') t->x2 (x2 (x2 (xC (.str p)) (xB (xCons e1 xNil) nC) fAdd) (xC (.str (ac "/"))) fAdd) (xB (xCons e2 xNil) nC) fAdd ρ t=.ok (.str (p++x++ac "/"++xB')) t:=fun{p x ρ e1 e2} hp hx h1 h2=>by
  have k1:(p++x).length<=1000:=by rw[me];omega
  have k2:(p++x++ac "/").length<=1000:=by rw[me,me];omega
  refine(lW ((lW ((lW rfl h1).trans (add (by omega) (by omega))) rfl).trans (add k1 (by omega))) h2).trans (add k2 (by omega))
 have tx:txt [sb,sa] [lE h]=cG (ac "\n") [ac "person a",ac "person b",ac "house h 1 2 3",ac "share h a "++xA++ac "/"++xB',ac "share h b "++xT++ac "/"++xB']:=by
  unfold txt;rw[Lp H];have nb:¬(BB:Int)=1:=by
   have:1<BB:=by omega
   omega
  have shl:∀(z:Str)(i:Int)(w:String),ac "share"++ac " "++(sh++ac " "++(z++ac " "))=ac w->EY sh (z,i,(BB:Int))=ac w++lJ i++ac "/"++lJ (BB:Int):=fun z i w hw=>by unfold EY lX;rw[if_neg nb,pF,<-hw];show ac "share"++ac " "++(sh++ac " "++(z++ac " "++(lJ i++ac "/"++lJ (BB:Int))))=_;simp only[HI]
  have r1:=shl sa ((BB:Int)-(TT:Int)) "share h a " (by decide);have r2:=shl sb (TT:Int) "share h b " (by decide);rw[hA,hB] at r1;rw[hT,hB] at r2;show cG _ [uT sa,uT sb,xq sh (lE h),EY sh _,EY sh _]=_;rw[r1,r2,show uT sa=ac "person a" by decide,show uT sb=ac "person b" by decide,show xq sh (lE h)=ac "house h 1 2 3" by show xq sh ⟨sh,1,2,3,h⟩=_;rfl]
 rw[tx];refine mO ?_;show pH a [some (frP ((TT:Int),(BB:Int))),none,none,none] t=_;unfold pH;refine(ly (ρ':=[some (frP ((TT:Int),(BB:Int))),some (.int (TT:Int)),some (.int (BB:Int)),none]) (s':=t) rfl).trans ?_;have b1:∀o3:Option PV,xB (xCons (x2 (xVar 2) (xVar 1) fSub) xNil) nC [some (frP ((TT:Int),(BB:Int))),some (.int (TT:Int)),some (.int (BB:Int)),o3] t=.ok (.str xA) t:=fun o3=>by have:x2 (xVar 2) (xVar 1) fSub [some (frP ((TT:Int),(BB:Int))),some (.int (TT:Int)),some (.int (BB:Int)),o3] t=.ok (.int ((BB:Int)-(TT:Int))) t:=(lW rfl rfl).trans rfl;unfold xB;rw[lu this rfl];exact s1
 have b2:∀o3:Option PV,xB (xCons (xVar 2) xNil) nC [some (frP ((TT:Int),(BB:Int))),some (.int (TT:Int)),some (.int (BB:Int)),o3] t=.ok (.str xB') t:=fun o3=>by unfold xB;rw[lu (v:=.int (BB:Int)) (s1:=t) rfl rfl];exact s2
 have b3:∀o3:Option PV,xB (xCons (xVar 1) xNil) nC [some (frP ((TT:Int),(BB:Int))),some (.int (TT:Int)),some (.int (BB:Int)),o3] t=.ok (.str xT) t:=fun o3=>by unfold xB;rw[lu (v:=.int (TT:Int)) (s1:=t) rfl rfl];exact s3
 refine(ly (ρ':=[some (frP ((TT:Int),(BB:Int))),some (.int (TT:Int)),some (.int (BB:Int)),some (LS [ac "person a",ac "person b",ac "house h 1 2 3",ac "share h a "++xA++ac "/"++xB'])]) (s':=t) (lY (FH (lu rfl (lu rfl (lu rfl (lu (line la n1 (b1 none) (b2 none)) rfl))))))).trans (mv ?_);refine rZ (k:=1000) (l:=[ac "person a",ac "person b",ac "house h 1 2 3",ac "share h a "++xA++ac "/"++xB',ac "share h b "++xT++ac "/"++xB']) ?_ (by decide) (fun x hx=>?_) (show(1000+1)*5<=16777216 by decide)
 ·refine(lW rfl (FH (lu (line lb n3 (b3 _) (b2 _)) rfl))).trans ?_;exact if_pos (e:=Out.bad) (show(4+1:Nat)<=100000 by decide)
 ·simp only[aj,bg,or_false] at hx;rcases hx with rfl|rfl|rfl|rfl|rfl
  ·decide
  ·decide
  ·decide
  ·rw[me,me,me];omega
  ·rw[me,me,me];omega
def xL(a:Adr)(hg:t.get n=some (.book pp L))(h1:pG x=true)(h2:x∉pp++L.map (·.nm))(h3:pp.length<6)(h4:Nm x):m6 a [.ref n,.str x] t=.ok .non (t.set n (.book (pp++[x]) L)):=by
 have Q9:qp a pp L x=none:=by
  have h5:(nB pp x||ni L x)=false:=by rw[cC];intro z;rw[bT,nl,mM] at z;exact h2 (aJ.mpr z)
  have h6:¬ 6<=pp.length:=by omega
  unfold qp oJ;simp only[h1,h5,h6,f7,bX,if_false]
 simp only[m6,lZ,hg,Q9];rw[if_pos h4]
def Rdb.shares2(R:Rdb pp L)(a:Adr)(hg:t.get nb=some (.book (srt pp) (rbL pp L)))(hh:h∈L.map (·.nm)):mf a [.ref nb,.str h] t=.ok (.lst (shP (ent L h).held)) t:=by
 obtain⟨f1,f2,f3⟩:=nO hh;have fb:mj (rbL pp L) h=some (fin (rbP pp) (ent L h)):=by
  have h2:h∈(rbL pp L).map (·.nm):=by rw[wy];exact(lx _).mem_iff.mpr hh
  rw[(nO h2).1,uR hh]
 have nh:Nm h:=(R.sm h (aB _ hh)).nm;obtain⟨pm,gq⟩:=R.fin_ok f3;have E:=R.en _ f3;simp only[mf,lZ,hg];rw[if_pos nh,fb];have l1:(fin (rbP pp) (ent L h)).held.length<64:=by have:=pm.length_eq;rw[af,af] at this;have:=E.len;omega
 simp only[l1,if_true];unfold w5 shP;rw[mJ pm]
 congr 2
 exact aR fun n _=>by rw[mU,mU,gq]
end
def ou{D:XF}{fa:XA}{ρ:En}{s s1:Sto}{vs:List PV}{n:Nat}{o:Out PV}(h1:fa ρ s=.ok vs s1)(hn:vs.length=n)(h2:D vs s1=o):xCall n D fa ρ s=o:=by unfold xCall;rw[h1];simp only[Out.bind];rw[if_pos hn];exact h2
def zH(h1:f ρ s=.ok (.bl true) s1)(h2:g ρ s1=o):xAndV f g ρ s=o:=by unfold xAndV;rw[h1];exact h2
def Cw(a:Adr)(s:Sto):∃s',oj a [] s=.ok (.bl true) s'/\s.nx<=s'.nx/\∀k,k<s.nx->s'.get k=s.get k:=by
 obtain⟨s1,e1,PD,g1⟩:=Ln a s;have g0:(s1.add (.book [] [])).get s1.nx=some (.book [] []):=by rw[lR,if_pos rfl]
 have p1:=xL a g0 (x:=sb) (by decide) (by decide) (by decide) (qP sb (by decide)).1.nm;rw[mX] at p1;have g2:(s1.add (.book [sb] [])).get s1.nx=some (.book [sb] []):=by rw[lR,if_pos rfl]
 have p2:=xL a g2 (x:=sa) (by decide) (by decide) (by decide) (qP sa (by decide)).1.nm;rw[mX] at p2;have g3:(s1.add (.book [sb,sa] [])).get s1.nx=some (.book [sb,sa] []):=by rw[lR,if_pos rfl]
 have ho:pL a [.ref s1.nx,.str sh,.str sa,.int 1,.int 2,.int 3] (s1.add (.book [sb,sa] []))=.ok .non (s1.add (.book [sb,sa] [lE [(sa,1,1)]])):=by
  have Q9:qr a [sb,sa] [] sh sa 3=none:=by
   have h1:pG sh=true:=by decide
   have h6:(nB [sb,sa] sh||ni [] sh)=false:=by decide
   have h7:¬(nB [sb,sa] sa||ni [] sa)=false:=by decide
   unfold qr oJ;simp only[h1,h6,h7,f7,bX,if_false];rfl
  simp only[pL,lZ,g3,Q9];rw[if_pos ⟨(qP sh (by decide)).1.nm,(qP sa (by decide)).1.nm⟩,mX];rfl
 have tl:=EN;have sm:=G8;obtain⟨h,u4,H,lo⟩:=zd a s1 (some (.lst (parts.map fun x:Nat=>PV.int (x:Int)))) (some (frP ((TT:Int),(BB:Int)))) (some (.str sa)) none parts [(sa,1,1)] 0 none hd0 IR (by rw[sm];omega);rw[sm,fX] at H;have R:=NC H;have gB:(s1.add (.book [sb,sa] [lE h])).get s1.nx=some (.book [sb,sa] [lE h]):=by rw[lR,if_pos rfl]
 have tx:=Lo H a (s1.add (.book [sb,sa] [lE h]));have sw:=(R.bok gB).shown a;have rd:=R.read a (s1.add (.book [sb,sa] [lE h]));have tok:=R.text_ok;have eqt:=vQ (s1.add (.book [sb,sa] [lE h])) tok tok;rw[beq_self_eq_true] at eqt;have mh:sh∈([lE h]:List Ent).map (·.nm):=au.mpr rfl;have el:ent [lE h] sh=lE h:=by unfold ent mj;simp[lE]
 have Ss:shP (ent [lE h] sh).held=[tz (sa,(BB:Int)-(TT:Int),(BB:Int)),tz (sb,(TT:Int),(BB:Int))]:=by rw[el];unfold shP;rw[show(lE h).held=h from rfl,FI H];simp only[ap,bv,mU,Mw H,Mv H]
 have es1:∀t:Sto,t.get s1.nx=some (.book [sb,sa] [lE h])->mf a [.ref s1.nx,.str sh] t=.ok (.lst (shP (ent [lE h] sh).held)) t:=fun t ht=>by
  have f1:mj [lE h] sh=some (lE h):=by unfold mj;simp[lE]
  have l1:(lE h).held.length<64:=by have:=FJ H;show h.length<64;omega
  simp only[mf,lZ,ht];rw[if_pos (qP sh (by decide)).1.nm,f1,el];simp only[l1,if_true];rfl
 have dat:∀t:Sto,(PV.data t 12 (.lst (shP (ent [lE h] sh).held))).isSome=true/\(PV.data t 12 (tz (sb,(TT:Int),(BB:Int)))).isSome=true:=fun t=>by
  rw[Ss];have oa:a9 sa=true:=lz _;have ob:a9 sb=true:=lz _;constructor
  ·show(PV.data t 12 (.lst [.tup [.str sa,.tup [.int _,.int _]],.tup [.str sb,.tup [.int _,.int _]]])).isSome=true;simp only[PV.data,rY,oa,ob,if_true];rfl
  ·show(PV.data t 12 (.tup [.str sb,.tup [.int _,.int _]])).isSome=true;simp only[PV.data,rY,ob,if_true];rfl
 have pq:tz (sb,(TT:Int),(BB:Int))=.tup [.str sb,frP ((TT:Int),(BB:Int))]:=rfl;rw[pq] at Ss;have Re:∀t:Sto,(PV.data t 12 (.lst (shP (ent [lE h] sh).held))).isSome=true/\(PV.data t 12 (.tup [.str sb,frP ((TT:Int),(BB:Int))])).isSome=true:=fun t=>dat t;clear dat pq;generalize hP:(parts.map fun x:Nat=>PV.int (x:Int))=Pv at e1 lo;generalize hQ:frP ((TT:Int),(BB:Int))=Qv at e1 lo tx Ss Re;have Tt:s1.nx≠(s1.add (.book [sb,sa] [lE h])).nx:=by show s1.nx≠s1.nx+1;omega
 generalize hS:s1.add (.book [sb,sa] [lE h])=S at *;have gR:(S.add (.book (srt [sb,sa]) (rbL [sb,sa] [lE h]))).get S.nx=some (.book (srt [sb,sa]) (rbL [sb,sa] [lE h])):=by rw[lR,if_pos rfl]
 have gO:(S.add (.book (srt [sb,sa]) (rbL [sb,sa] [lE h]))).get s1.nx=some (.book [sb,sa] [lE h]):=by rw[lR,if_neg (fun z=>Tt z.symm)];exact gB
 have Tn:=R.shares2 a gR mh;have kS:∀k,k<s.nx->(S.add (.book (srt [sb,sa]) (rbL [sb,sa] [lE h]))).get k=s.get k:=fun k hk=>by
  have n1:s1.nx=s.nx+1:=PD;have n2:S.nx=s1.nx+1:=by rw[<-hS];rfl
  rw[lR,if_neg (by omega),<-hS,lR,if_neg (by omega)];exact g1 k hk
 have nS:s.nx<=(S.add (.book (srt [sb,sa]) (rbL [sb,sa] [lE h]))).nx:=by
  have n1:s1.nx=s.nx+1:=PD;have n2:S.nx=s1.nx+1:=by rw[<-hS];rfl
  show s.nx<=S.nx+1;omega
 generalize hS2:S.add (.book (srt [sb,sa]) (rbL [sb,sa] [lE h]))=S2 at *;refine⟨S2,mO ?_,nS,kS⟩;show pI a [none,none,none,none,none,none] s=_;unfold pI;refine(ly (ρ':=[some (.lst Pv),some Qv,none,none,none,none]) (s':=s1) (by simp[sem,og,lC,nN,e1])).trans ?_;refine(ly (ρ':=[some (.lst Pv),some Qv,some (.ref s1.nx),none,none,none]) (s':=s1.add (.book [] [])) (lY rfl)).trans ?_;refine(ly (pR (ρ':=[some (.lst Pv),some Qv,some (.ref s1.nx),some (.str sa),none,none]) (s':=s1.add (.book [sb,sa] [])) (l:=[.str sb,.str sa]) (s1:=s1.add (.book [] [])) rfl ?_)).trans ?_
 ·have hb:∀(x:Str)(o3:Option PV)(pp Qn:List Str),m6 a [.ref s1.nx,.str x] (s1.add (.book pp []))=.ok .non (s1.add (.book Qn []))->lV (yName 3) (nj a) (.str x) [some (.lst Pv),some Qv,some (.ref s1.nx),o3,none,none] (s1.add (.book pp []))=.nx [some (.lst Pv),some Qv,some (.ref s1.nx),some (.str x),none,none] (s1.add (.book Qn [])):=fun x o3 pp Qn hp=>by show nj a [some (.lst Pv),some Qv,some (.ref s1.nx),some (.str x),none,none] (s1.add (.book pp []))=_;unfold nj;exact tJ (v:=.non) ((tY (s1:=s1.add (.book pp [])) (pp:=pp) (L:=[]) rfl (by rw[lR,if_pos rfl]) (lu rfl rfl) rfl).trans hp)
  unfold mL;rw[hb sb none [] [sb] p1];show mL _ [.str sa] _ _=_;unfold mL;rw[hb sa _ [sb] [sb,sa] p2];rfl
 refine(ly (ρ':=[some (.lst Pv),some Qv,some (.ref s1.nx),some (.str sa),none,none]) (s':=s1.add (.book [sb,sa] [lE [(sa,1,1)]])) (tJ (v:=.non) ((tY (s1:=s1.add (.book [sb,sa] [])) rfl g3 (lu rfl (lu rfl (lu rfl (lu rfl (lu rfl rfl))))) rfl).trans ho))).trans ?_;refine(ly (pR (l:=Pv) (s1:=s1.add (.book [sb,sa] [lE [(sa,1,1)]])) rfl lo)).trans ?_;refine(ly (ρ':=[some (.lst Pv),some Qv,some (.ref s1.nx),some (.str sa),u4,some (.str (txt [sb,sa] [lE h]))]) (s':=S) (lY ?_)).trans (mv ?_)
 ·exact ou (lu rfl rfl) rfl tx
 ·generalize hρ:[some (.lst Pv),some Qv,some (.ref s1.nx),some (.str sa),u4,some (.str (txt [sb,sa] [lE h]))]=ρ;have v1:∀z:Sto,xVar 1 ρ z=.ok Qv z:=fun z=>by rw[<-hρ];rfl
  have v2:∀z:Sto,xVar 2 ρ z=.ok (.ref s1.nx) z:=fun z=>by rw[<-hρ];rfl
  have v5:∀z:Sto,xVar 5 ρ z=.ok (.str (txt [sb,sa] [lE h])) z:=fun z=>by rw[<-hρ];rfl
  have c1:xCall 1 (rh a) (xCons (xVar 2) xNil) ρ S=.ok (.str (txt [sb,sa] [lE h])) S:=by unfold xCall;rw[lu (v2 S) rfl];exact sw
  have c2:xCall 1 (oC a) (xCons (xVar 5) xNil) ρ S=.ok (.ref S.nx) S2:=by unfold xCall;rw[lu (v5 S) rfl];exact rd
  have k1:xBM 2 (mf a) (xCall 1 (oC a) (xCons (xVar 5) xNil)) (xCons (xC (.str (ac "h"))) xNil) ρ S=.ok (.lst (shP (ent [lE h] sh).held)) S2:=(tY c2 gR (lu rfl rfl) rfl).trans Tn;have k2:xBM 2 (mf a) (xVar 2) (xCons (xC (.str (ac "h"))) xNil) ρ S2=.ok (.lst (shP (ent [lE h] sh).held)) S2:=(tY (v2 S2) gO (lu rfl rfl) rfl).trans (es1 S2 gO);have k3:x2 (xBM 2 (mf a) (xVar 2) (xCons (xC (.str (ac "h"))) xNil)) (xC (.int 1)) fIx ρ S2=.ok (.tup [.str sb,Qv]) S2:=(lW k2 rfl).trans (tV S2 _ 1 (by rw[Ss];rfl));have k4:xTup (xCons (xC (.str (ac "b"))) (xCons (xVar 1) xNil)) ρ S2=.ok (.tup [.str sb,Qv]) S2:=vz (lu rfl (lu (v1 S2) rfl));refine zH ((lW c1 (v5 S)).trans eqt) (zH ((lW k1 k2).trans (zy (Re S2).1)) ((lW k3 k4).trans (zy (Re S2).2)))
def Lu(s:Sto)(p n:Nat)(pp:List Str)(L:List Ent)(x y:Int):(kst s p n pp L x y).get (s.nx+1)=some (.book pp L):=by show oo ((s.nx+1,Cell.book pp L)::_) _=_;rw[sk,if_pos rfl]
def GC{s:Sto}{n k:Nat}(h:k≠n):(s.del n).get k=s.get k:=uB h
section
variable{t:Sto}{nb:Nat}{pp hs:List Str}{L:List Ent}{M:List (Str×Hl)}
def Dr(a:Adr)(s:Sto)(hs0:s.nx=1)(hP:IsPurse s 0):∃pp hs L M nb t',Wnm pp hs L M/\t'.get nb=some (.book pp L)/\nb<t'.nx/\IsPurse t' 0/\0<t'.nx/\qk a [.ref 0] s=.ok (.lst [.ref nb,LS (srt pp),.dct (l9 M),.dct (nA L)]) t':=by
 obtain⟨n,pp,hs,L,M,x,y,hn,Wd,Pr,Nm,e1⟩:=Jx a s 0 (by omega) hP;have g0:=Lu s 0 n pp L x y;have hpu:IsPurse (kst s 0 n pp L x y) 0:=Bp hP (fun q hq=>by cases au.mp hq;exact fun z=>by simp only at z;omega) x y;have RP:(kst s 0 n pp L x y).nx=n:=rfl;have Ot:(0:Nat)≠s.nx+1:=by omega
 have Pu:M.map (·.1)=hs:=by rw[<-Pr.names,Nm]
 have ek:((l9 M).map fun kv=>BJ kv.1)=hs.map PV.str:=by rw[<-Pu];unfold l9;simp[BJ]
 generalize kst s 0 n pp L x y=t at *;generalize s.nx+1=nb at *;have H0:Nst 0 nb t.nx pp ([]++L) (nA []) (t.add (.dct [])):=by
  refine⟨by rw[lR,if_neg (by omega)];exact g0,?_,by rw[lR,if_pos rfl];rfl,?_,?_,?_,Ot,by omega,by omega⟩
  ·obtain⟨x,y,e⟩:=hpu;exact⟨x,y,by rw[lR,if_neg (by omega)];exact e⟩
  ·show 0<t.nx+1;omega
  ·show nb<t.nx+1;omega
  ·show t.nx<t.nx+1;omega
 obtain⟨L',u5,u6,u7,t',q1,q2,q3,q4,q5⟩:=Nst.loop a (some (LS (srt pp))) (some (.dct (l9 M))) L [] _ none none none H0 (by rw[bI,Nm];exact(aW.mp Wd.nd).2.1) (fun e he=>Wd.sm _ (aB _ (by rw[<-Nm];exact ak.mpr ⟨e,he,rfl⟩))) (by have:=congrArg b6 Nm;rw[af] at this;have:=Wd.h8;rw[aD];omega)
 rw[bI] at q5;refine⟨pp,hs,L',M,nb,t'.del t.nx,⟨Wd,Pr.renum L' q1 q2 fun e he=>(q3 e he).2.2.2,q1.trans Nm,fun e he=>⟨(q3 e he).1,(q3 e he).2.1,(q3 e he).2.2.1⟩⟩,(GC (fun z=>q5.n2 z.symm)).trans q5.g,q5.hn,(let⟨x,y,e⟩:=q5.ps;⟨x,y,(GC q5.n3).trans e⟩),q5.hp,mO ?_⟩;unfold tE;refine(ly (ρ':=[some (.ref 0),some (.ref nb),some (LS (srt pp)),some (.dct (l9 M)),none,none,none,none]) (s':=t) (by simp[sem,og,lC,nN,e1])).trans ?_;refine(ly (ρ':=[some (.ref 0),some (.ref nb),some (LS (srt pp)),some (.dct (l9 M)),some (.ref t.nx),none,none,none]) (s':=t.add (.dct [])) (by simp[sem,og,lC,nN])).trans ?_;rw[Nm] at q4;refine(ly (pR (l:=hs.map .str) (s1:=t.add (.dct [])) (by simp[sem,og,lC,nN,ek]) q4)).trans ?_;refine mv ?_;have fz:frz1 (.ref t.nx) t'=.ok (.dct (nA L')) (t'.del t.nx):=by simp only[frz1,q5.d]
 have n4:(0+1+1+1+1:Nat)<=100000:=by decide
 simp only[xLst,xCons,xNil,xFrz,xVar,Out.bind,ae,ai,fz,aq,aD,n4,if_true]
def Dv{L:List Ent}(hg:∀e,(g e).nm=e.nm)(hk:k≠h):mj (qZ L h g) k=mj L k:=by
 unfold mj qZ;induction L with
 |nil=>rfl
 |cons e L ih =>
  rw[ap,bw,bw,ih];by_cases z:e.nm=h
  ·rw[if_pos z,hg];have:¬e.nm=k:=fun w=>hk (w.symm.trans z);simp[this]
  ·rw[if_neg z]
def GY{L:List Ent}(hg:∀e,(g e).nm=e.nm):(qZ L h g).map (·.nm)=L.map (·.nm):=by
 unfold qZ;rw[aF];exact aR fun e _=>by
  show(if e.nm=h then g e else e).nm=e.nm;split
  ·exact hg e
  ·rfl
def MY(a:Adr)(hg:t.get n=some (.book pp L))(nd:(L.map (·.nm)).Nodup)(n1:Nm h)(n2:Nm o1)(n3:Nm x)(f:mj L h=some e)(h1:o1∈pp++L.map (·.nm))(h2:x∈pp++L.map (·.nm))(sq:Sz q)(so:SaleOk e.held o1 q)(nt:¬nJ e.held o1 q) :
  pZ a [.ref n,.str h,.str o1,.str x,frP q] t=.ok .non (t.set n (.book pp (qZ L h fun z=>{ z with held:=pz z.held o1 x q }))):=by
 have hS:SaleE L h o1 x (q.1,q.2):=⟨nd,⟨n1,n2,n3⟩,sq,fun e' he=>by rw[f] at he;cases he;exact so⟩;have k1:¬(nB pp o1||ni L o1)=false:=by rw[cY,bT,nl,mM];exact aJ.mp h1
 have k2:¬(nB pp x||ni L x)=false:=by rw[cY,bT,nl,mM];exact aJ.mp h2
 simp only[pZ,lZ,hg,frP];rw[if_pos hS,f];simp only[k1,k2,if_false,nt];rfl
def NB(a:Adr)(hg:t.get n=some (.book pp L))(nh:Nm h)(hh:h∈L.map (·.nm))(v:Int):yI a [.ref n,.str h,.int v] t=.ok .non (t.set n (.book pp (qZ L h fun x=>{ x with mr:=v }))):=by
 have h1:ni L h=true:=by rw[mM];exact hh
 have h2:¬(false=true/\v<0):=fun z=>by cases z.1
 show zK a (fun n x=>{ x with mr:=n }) false [.ref n,.str h,.int v] t=_;simp only[zK,lZ,hg];rw[if_pos nh,if_pos h1,if_neg h2]
structure Fnd(pp:List Str)(L:List Ent)(done:List Str)(Lc:List Ent):Prop where
 nm:Lc.map (·.nm)=srt (L.map (·.nm))
 f:∀h∈L.map (·.nm),h∉done->mj Lc h=some (fin (rbP pp) (ent L h))
def Fnd.set(F:Fnd pp L done Lc)(hg:∀e,(g e).nm=e.nm):Fnd pp L (h::done) (qZ Lc h g):=by refine⟨by rw[GY hg];exact F.nm,fun k hk hd=>?_⟩;rw[Dv hg (fun z:k=h=>hd (by rw[z];exact ag))];exact F.f k hk fun z=>hd (ah _ z)
def pow28(s:Sto)(ρ:En):x2 (xC (.int 10)) (xC (.int 28)) fPow ρ s=.ok (.int ((10^28:Nat):Int)) s:=by refine(lW rfl rfl).trans ?_;show(if(0:Int)<=28/\(28:Int)<=1000000/\(10:Int).natAbs<2^64 then Out.ok (PV.int ((10:Int)^(28:Int).toNat)) s else .bad)=_;rw[if_pos (by decide)];rfl
def LD(W:Wnm pp hs L M)(a:Adr)(hg:t.get n=some (.book (srt pp) Lc))(F:Fnd pp L done Lc)(hh:h∈L.map (·.nm))(hd:h∉done)(o0 o1 o2 o3 o5 o6 o8 OJ OE:Option PV) :
  ∃Pc QF Sl t',vU a [o0,o1,o2,o3,some (.dct (l9 M)),o5,o6,some (.ref n),o8,some (.str h),OJ,OE] t=.nx [o0,o1,o2,o3,some (.dct (l9 M)),o5,o6,some (.ref n),o8,some (.str h),Pc,QF] t'/\Fnd pp L (h::done) Sl/\t'.get n=some (.book (srt pp) Sl)/\t'.nx=t.nx/\∀k,k≠n->t'.get k=t.get k:=by
 have R:=W.rdb;have Pu:M.map (·.1)=L.map (·.nm):=W.p.names.symm;obtain⟨f1,f2,f3⟩:=nO hh;obtain⟨e,g1,UA,g3⟩:=wa W.p (h:=h) (by rw[Pu];exact hh);rw[f1] at g1;cases g1;obtain⟨pm,gq⟩:=R.fin_ok f3;obtain⟨D,U,T⟩:=R.tg _ f3;have E:=R.en _ f3;have ff:=F.f h hh hd;obtain⟨w,r,hw⟩:∃w r,srt ((ent L h).held.map (·.1))=w::r:=by
  cases z:srt ((ent L h).held.map (·.1)) with
  |nil =>
   have:=T.all;rw[z] at this;have h0:=T.hD;rw[<-this] at h0;exact absurd h0 (Int.lt_irrefl 0)
  |cons w r=>exact⟨w,r,rfl⟩
 have Oo:w∈(ent L h).held.map (·.1):=(lx _).mem_iff.mp (hw▸ag);have sh:=By a t UA (by decide) g3;have sP:shP (ent L h).held=tz (w,lA (ent L h).held w)::r.map fun n=>tz (lU (ent L h).held n):=by unfold shP;rw[hw,ap,mU]
 have i0:fIx (.lst (shP (ent L h).held)) (.int 0) t=.ok (tz (w,lA (ent L h).held w)) t:=tV t _ 0 (by rw[sP];rfl);generalize hq:lA (ent L h).held w=q at *;have Hd1:Hd D U (fin (rbP pp) (ent L h)).held:=⟨fun m=>by rw[gq];exact T.on m,fun m=>by rw[pm.mem_iff];exact T.nm m,pm.nodup_iff.mpr T.nd⟩;have onq:On D q (U w):=by rw[<-hq];exact T.on w
 have u0:=(T.nm w).mp Oo;have leD:∀m,U m<=D:=fun m=>by
  by_cases z:m∈(ent L h).held.map (·.1)
  ·rw[<-T.all];exact wJ T.nn ((lx _).mem_iff.mpr z)
  ·have h1:=T.nn m;have h2:¬ 0<U m:=fun y=>z ((T.nm m).mpr y);have:=T.hD;omega
 have Q4:(fin (rbP pp) (ent L h)).held.length<1000:=by have:=pm.length_eq;rw[af,af] at this;have:=E.len;omega
 obtain⟨so,nt⟩:=Hd1.ok T.hD T.hB (fun m=>⟨T.nn m,leD m⟩) (o1:=w) onq u0 (kR _) Q4;have sq:=onq.sz T.hD T.hB (T.nn w) (leD w);have nmc:Lc.map (·.nm)=srt (L.map (·.nm)):=F.nm;have ndc:(Lc.map (·.nm)).Nodup:=by rw[nmc];exact(lx _).nodup_iff.mpr (aW.mp R.nd).2.1
 have mem:∀x∈pp++L.map (·.nm),x∈srt pp++Lc.map (·.nm):=fun x hx=>by rw[nmc];exact(f8 (lx pp) (lx _)).mem_iff.mpr hx
 have hwN:=T.sub w Oo;have hhN:h∈pp++L.map (·.nm):=aB _ hh;have nh:=(R.sm h hhN).nm;have sl:=MY a hg (h:=h) (o1:=w) (x:=h) (q:=q) ndc nh (R.sm w hwN).nm nh ff (mem w hwN) (mem h hhN) sq so nt;have as:xAsg (x2 (xCall 2 (mW a) (xCons (xVar 4) (xCons (xVar 9) xNil))) (xC (.int 0)) fIx) (yTup 2 (yCons (yName 10) (yCons (yName 11) yNil))) [o0,o1,o2,o3,some (.dct (l9 M)),o5,o6,some (.ref n),o8,some (.str h),OJ,OE] t=.nx [o0,o1,o2,o3,some (.dct (l9 M)),o5,o6,some (.ref n),o8,some (.str h),some (.str w),some (frP q)] t:=by have c0:xCall 2 (mW a) (xCons (xVar 4) (xCons (xVar 9) xNil)) [o0,o1,o2,o3,some (.dct (l9 M)),o5,o6,some (.ref n),o8,some (.str h),OJ,OE] t=.ok (.lst (shP (ent L h).held)) t:=ou (lu rfl (lu rfl rfl)) rfl sh;have c1:x2 (xCall 2 (mW a) (xCons (xVar 4) (xCons (xVar 9) xNil))) (xC (.int 0)) fIx [o0,o1,o2,o3,some (.dct (l9 M)),o5,o6,some (.ref n),o8,some (.str h),OJ,OE] t=.ok (tz (w,q)) t:=(lW c0 rfl).trans i0;unfold xAsg;rw[c1];rfl
 have tst:xTr (x2 (x2 (xVar 11) (xC (.int 1)) fIx) (x2 (xC (.int 10)) (xC (.int 28)) fPow) fLt) [o0,o1,o2,o3,some (.dct (l9 M)),o5,o6,some (.ref n),o8,some (.str h),some (.str w),some (frP q)] t=.ok (decide (q.2<((10^28:Nat):Int))) t:=by unfold xTr;rw[lW ((lW rfl rfl).trans (ix_tup t [.int q.1,.int q.2] 1 rfl)) (pow28 t _),HP];rfl
 have mk:∀{z:Sto}{Lz:List Ent},z.get n=some (.book (srt pp) Lz)->Lz.map (·.nm)=srt (L.map (·.nm))->xDo (xBM 3 (yI a) (xVar 7) (xCons (xVar 9) (xCons (x1 (xC (.int 7)) fNeg) xNil))) [o0,o1,o2,o3,some (.dct (l9 M)),o5,o6,some (.ref n),o8,some (.str h),some (.str w),some (frP q)] z=.nx [o0,o1,o2,o3,some (.dct (l9 M)),o5,o6,some (.ref n),o8,some (.str h),some (.str w),some (frP q)] (z.set n (.book (srt pp) (qZ Lz h fun x=>{ x with mr:=-7 }))):=fun{z Lz} hz hn=>tJ (v:=.non) ((tY (s1:=z) rfl hz (lu rfl (lu rfl rfl)) rfl).trans (NB a hz nh (by rw[hn];exact(lx _).mem_iff.mpr hh) (-7)));have keep:∀{z:Sto}{c:Cell}{k:Nat},k≠n->(z.set n c).get k=z.get k:=fun hk=>mC hk;refine⟨some (.str w),some (frP q),?_⟩;unfold vU;by_cases z:q.2<((10^28:Nat):Int)
 ·rw[decide_eq_true z] at tst;have F1:=F.set (h:=h) (g:=fun z=>{ z with held:=pz z.held w h q }) fun _=>rfl;have F2:=F1.set (h:=h) (g:=fun x=>{ x with mr:=-7 }) fun _=>rfl;have g2:(t.set n (.book (srt pp) (qZ Lc h fun z=>{ z with held:=pz z.held w h q }))).get n=some (.book (srt pp) (qZ Lc h fun z=>{ z with held:=pz z.held w h q })):=qY hg;refine⟨_,_,(ly as).trans ((ly ((qS (B:=xEnd) tst).trans (tJ (v:=.non) ((tY (s1:=t) rfl hg (lu rfl (lu rfl (lu rfl (lu rfl rfl)))) rfl).trans sl)))).trans (mk g2 F1.nm)),⟨F2.nm,fun k hk hd=>F2.f k hk fun y=>hd ?_⟩,qY g2,rfl,fun k hk=>(keep hk).trans (keep hk)⟩;rcases aj.mp y with y|y
  ·rw[y];exact ag
  ·exact y
 ·rw[decide_eq_false z] at tst;have F2:=F.set (h:=h) (g:=fun x=>{ x with mr:=-7 }) fun _=>rfl;exact⟨_,_,(ly as).trans ((ly (pd tst)).trans (mk hg F.nm)),F2,qY hg,rfl,fun k hk=>keep hk⟩
theorem Gw(W:Wnm pp hs L M)(a:Adr)(o0 o1 o2 o3 o5 o6 o8:Option PV):∀(ns done:List Str)(Lc:List Ent)(t:Sto)(o9 OJ OE:Option PV),(done++ns).Nodup->(∀h∈ns,h∈L.map (·.nm))->t.get n=some (.book (srt pp) Lc)->(∀h∈ns,h∉done)->Fnd pp L done Lc ->
  ∃u9 Pc QF Sl t' Sg,mL (lV (yName 9) (vU a)) (ns.map .str) [o0,o1,o2,o3,some (.dct (l9 M)),o5,o6,some (.ref n),o8,o9,OJ,OE] t=.nx [o0,o1,o2,o3,some (.dct (l9 M)),o5,o6,some (.ref n),o8,u9,Pc,QF] t'/\Fnd pp L Sg Sl/\t'.get n=some (.book (srt pp) Sl)/\t'.nx=t.nx/\∀k,k≠n->t'.get k=t.get k
 |[],done,Lc,t,o9,OJ,OE,_,_,hg,_,F=>⟨o9,OJ,OE,Lc,t,done,rfl,F,hg,rfl,fun _ _=>rfl⟩
 |h::ns,done,Lc,t,o9,OJ,OE,nd,hm,hg,hnd,F=>by
  obtain⟨Pc,QF,Lc1,t1,e1,F1,g1,x1,k1⟩:=LD W a hg F (hm h ag) (hnd h ag) o0 o1 o2 o3 o5 o6 o8 OJ OE;have PY:=(aW.mp nd).2.1;obtain⟨v9,Tg,v11,Lc2,t2,d2,e2,F2,g2,Pp,k2⟩:=Gw W a o0 o1 o2 o3 o5 o6 o8 ns (h::done) Lc1 t1 (some (.str h)) Pc QF (by
   have:(h::done++ns).Perm (done++h::ns):=by rw[cg];exact List.perm_middle.symm
   exact this.nodup_iff.mpr nd) (fun x hx=>hm x (ah _ hx)) g1 (fun x hx z=>by
   rcases aj.mp z with z|z
   ·exact(az.mp PY).1 (z▸hx)
   ·exact hnd x (ah _ hx) z) F1
  refine⟨v9,Tg,v11,Lc2,t2,d2,?_,F2,g2,Pp.trans x1,fun k hk=>(k2 k hk).trans (k1 k hk)⟩;have hb:lV (yName 9) (vU a) (.str h) [o0,o1,o2,o3,some (.dct (l9 M)),o5,o6,some (.ref n),o8,o9,OJ,OE] t=.nx [o0,o1,o2,o3,some (.dct (l9 M)),o5,o6,some (.ref n),o8,some (.str h),Pc,QF] t1:=by rw[<-e1];generalize vU a=u;rfl
  rw[ap];unfold mL;rw[hb];exact e2
theorem Bl:∀U:List Str,toVs (U.map PV.str)=some (U.map V.str)
 |[]=>rfl
 |x::r=>by rw[ap];unfold toVs;rw[Bl r];rfl
def Jh(n:Str)(U:List Str):inV (.str n) (U.map V.str)=decide (n∈U):=by
 unfold inV;rw[gC,bM,dX,decide_eq_true_iff];constructor
 ·rintro⟨x,hx,e⟩
  have e:(x==n)=true:=e;rw[<-eq_of_beq e];exact hx
 ·intro h;exact⟨n,h,beq_self_eq_true n⟩
def Fe(n:Str)(V:List Str)(s:Sto):pS (.str n) (.lst (V.map .str)) s=.ok (.bl (!decide (n∈V))) s:=by simp[pS,og,dcOf,toV,lsOf,Bl,JA,Jh]
def zq:Str:=ac "zq"
def zr:Str:=ac "zr"
def Ff(W:Wnm pp hs L M)(n:Str)(s:Sto):pS (.str n) (.dct (l9 M)) s=.ok (.bl (!decide (n∈L.map (·.nm)))) s:=by
 have Pu:M.map (·.1)=L.map (·.nm):=W.p.names.symm;show Out.ok (PV.bl (JA true (pj (l9 M) (ar n)).isSome)) s=_
 congr 2
 show(!(pj (l9 M) (ar n)).isSome)=_
 congr 1
 rw[bM,decide_eq_true_iff,<-Pu];unfold pj l9;rw[ck,eY];constructor
 ·rintro⟨x,hx,e⟩
  obtain⟨m,hm,rfl⟩:=ak.mp hx;have e:(ar m.1:Key)=ar n:=by simpa using e
  cases e;exact ak.mpr ⟨m,hm,rfl⟩
 ·intro h;obtain⟨m,hm,rfl⟩:=ak.mp h;exact⟨_,ak.mpr ⟨m,hm,rfl⟩,by simp⟩
def Hz(W:Wnm pp hs L M):∃x r,[zq,zr].filter (fun n=>!decide (n∈srt pp)&&!decide (n∈L.map (·.nm)))=x::r/\x∉pp++L.map (·.nm)/\(x=zq\/x=zr):=by
 have key:¬(zq∈pp++L.map (·.nm)/\zr∈pp++L.map (·.nm)):=fun⟨h1,h2⟩=>by rw[W.n] at h1 h2;exact absurd (W.w.fl zq h1 zr h2 (by decide)) (by decide)
 have e:∀n,(!decide (n∈srt pp)&&!decide (n∈L.map (·.nm)))=decide (n∉pp++L.map (·.nm)):=fun n=>by rw[bM,bG,decide_eq_true_iff,aJ,not_or];simp[(lx pp).mem_iff]
 rw[show(fun n=>!decide (n∈srt pp)&&!decide (n∈L.map (·.nm)))=fun n=>decide (n∉pp++L.map (·.nm)) from funext e];by_cases h1:zq∈pp++L.map (·.nm)
 ·have h2:zr∉pp++L.map (·.nm):=fun z=>key ⟨h1,z⟩;refine⟨zr,[],?_,h2,.inr rfl⟩;rw[dW,if_neg (by rw[decide_eq_true_iff];exact fun z=>z h1),dW,if_pos (decide_eq_true h2)];rfl
 ·refine⟨zq,[zr].filter fun n=>decide (n∉pp++L.map (·.nm)),?_,h1,.inl rfl⟩;rw[dW,if_pos (decide_eq_true h1)]
def rdb0:Rdb [] []:=⟨gW,(by intro n hn;cases hn),(by intro n hn;cases hn),by decide,by decide,(fun h=>absurd rfl h),(by intro e he;cases he),(by intro e he;cases he),(by intro e he;cases he),(by intro e he;cases he)⟩
def Mg(a:Adr)(t:Sto):oC a [.str (ac "")] t=.ok (.ref t.nx) (t.add (.book [] [])):=by
 have h:=rdb0.read a t;have e:txt [] []=ac "":=by unfold txt;rw[pF];rfl
 rw[e] at h;exact h
def ND(a:Adr)(l:List Int)(hl:l.length<=63):∃s',Df a [.seq (l.map .int)] ⟨0,[]⟩=.ok (.bl true) s':=by
 obtain⟨x0,y0,e0⟩:=ID a ⟨0,[]⟩ l hl;have hP:IsPurse ((⟨0,[]⟩:Sto).add (.lst [.int x0,.int y0])) 0:=⟨x0,y0,rfl⟩;have Tt:((⟨0,[]⟩:Sto).add (.lst [.int x0,.int y0])).nx=1:=rfl;generalize (⟨0,[]⟩:Sto).add (.lst [.int x0,.int y0])=s1 at *;obtain⟨pp,hs,L,M,nb,t0,W,hg,hnb,hP0,Ru,e1⟩:=Dr a s1 Tt hP;have R:=W.rdb;have Pu:M.map (·.1)=L.map (·.nm):=W.p.names.symm;obtain⟨r,x,y,r0,r4,e2⟩:=vB a t0 0 4 hP0 (by decide) (by show(4:Int).natAbs<2^9000;exact aA (by decide:4<2^3) (bD (by decide) (by decide)));obtain⟨t1,c1⟩:∃t1,∀ρ:En,ρ[1]?=some (some (.ref 0))->xAnd (xTr (x2 (xCall 2 (lB a) (xCons (xVar 1) (xCons (xC (.int 4)) xNil))) (xC (.int 1)) fEq)) (xNot (xTr (CZ (oj a)))) ρ t0=.ok false t1:=by
  have k:∀ρ:En,ρ[1]?=some (some (.ref 0))->xTr (x2 (xCall 2 (lB a) (xCons (xVar 1) (xCons (xC (.int 4)) xNil))) (xC (.int 1)) fEq) ρ t0=.ok (r==1) (t0.set 0 (.lst [.int x,.int y])):=fun ρ hρ=>by
   have v:xVar 1 ρ t0=.ok (.ref 0) t0:=by unfold xVar;rw[hρ]
   have c:xCall 2 (lB a) (xCons (xVar 1) (xCons (xC (.int 4)) xNil)) ρ t0=_:=ou (lu v (lu rfl rfl)) rfl e2;unfold xTr;rw[lW c rfl,AH];rfl
  by_cases z:r=1
  ·obtain⟨s',g1,_,_⟩:=Cw a (t0.set 0 (.lst [.int x,.int y]));refine⟨s',fun ρ hρ=>xy (s1:=t0.set 0 (.lst [.int x,.int y])) ?_ ?_⟩
   ·rw[k ρ hρ,z];rfl
   ·unfold xNot xTr CZ;rw[g1];rfl
  ·exact⟨t0.set 0 (.lst [.int x,.int y]),fun ρ hρ=>AT (by rw[k ρ hρ,beq_eq_false_iff_ne.mpr z])⟩
 have e3:=W.lines a t1;have len:=R.rows_len;have Of:∀x∈(mi pp L).map nK,x.length<=16000:=fun x hx=>by obtain⟨r,hr,rfl⟩:=ak.mp hx;exact ze (R.rows_ok r hr)
 generalize Sto.bump t1=t2 at *;have rd1:=R.read a t2;have rd2:=R.read a (t2.add (.book (srt pp) (rbL pp L)));have n3:(t2.add (.book (srt pp) (rbL pp L))).nx=t2.nx+1:=rfl;have gf:((t2.add (.book (srt pp) (rbL pp L))).add (.book (srt pp) (rbL pp L))).get t2.nx=some (.book (srt pp) (rbL pp L)):=by rw[lR,if_neg (by omega),lR,if_pos rfl]
 have go:((t2.add (.book (srt pp) (rbL pp L))).add (.book (srt pp) (rbL pp L))).get (t2.nx+1)=some (.book (srt pp) (rbL pp L)):=by rw[lR,if_pos n3]
 rw[n3] at rd2;generalize t2.add (.book (srt pp) (rbL pp L))=t3 at *;generalize t3.add (.book (srt pp) (rbL pp L))=t4 at *;generalize Qg:t2.nx=nf at *;have sh:∀{z:Sto}{k:Nat},z.get k=some (.book (srt pp) (rbL pp L))->rh a [.ref k] z=.ok (.str (txt pp L)) z:=fun{z k} hz=>by have:=(R.bok2 hz).shown a;rw[R.rows_eq.2] at this;exact this
 have tok:=R.text_ok;have tl:∀{z:Sto}{k:Nat},z.get k=some (.book (srt pp) (rbL pp L))->mS a [.ref k,LS (srt pp),.dct (l9 M),.dct (nA L)] z=.ok (.bl true) z:=fun{z k} hz=>Kw W a hz;have F0:Fnd pp L [] (rbL pp L):=⟨wy pp L,fun h hh _=>by
  have h2:h∈(rbL pp L).map (·.nm):=by rw[wy];exact(lx _).mem_iff.mpr hh
  rw[(nO h2).1,uR hh]⟩
 have ndn:(srt (L.map (·.nm))).Nodup:=(lx _).nodup_iff.mpr (aW.mp R.nd).2.1;obtain⟨u9,Pc,QF,Lc,t5,done,lo,F5,g5,x5,k5⟩:=Gw W a (n:=nf) (some (.seq (l.map .int))) (some (.ref 0)) (some (.ref nb)) (some (LS (srt pp))) (some (.dct (nA L))) (some (.str (txt pp L))) (some (.ref (nf+1))) ((srt (L.map (·.nm))).take 3) [] (rbL pp L) t4 none none none (ndn.sublist (dI _ _)) (fun h hh=>(lx _).mem_iff.mp (gX hh)) gf (fun _ _ z=>by cases z) F0;have go5:t5.get (nf+1)=some (.book (srt pp) (rbL pp L)):=(k5 _ (by omega)).trans go;have l8:=R.l8;have p6:=R.p6;have so:lC [.dct (l9 M)] t4=.ok (LS (srt (L.map (·.nm)))) t4:=by show(match keysOf (l9 M) with|some ss=>if ss.length<64 then Out.ok (PV.lst ((srt ss).map PV.str)) t4 else .bad|none=>.bad)=_;rw[rA,Pu];simp only[af];rw[if_pos (by omega)]
 have cut:yj ((srt (L.map (·.nm))).map PV.str) none (some 3)=((srt (L.map (·.nm))).take 3).map PV.str:=by unfold yj;rw[fI];simp[HT.sIx]
 obtain⟨xn,xr,fx,nx,zz⟩:=Hz W;have xok:pG xn=true/\Nm xn:=by
  have k:∀x∈[zq,zr],pG x=true/\x.length<=9/\∀c∈x.cps.toList,c<128:=by decide
  have:=k xn (by rcases zz with rfl|rfl<;>simp);exact⟨this.1,Sm.nm ⟨this.2.1,this.2.2⟩⟩
 generalize hρ:[some (PV.seq (l.map .int)),some (.ref 0),some (.ref nb),some (LS (srt pp)),some (.dct (l9 M)),some (.dct (nA L)),some (.str (txt pp L)),some (.ref nf),some (.ref (nf+1)),u9,Pc,QF]=ρ at lo;have v3:∀z:Sto,xVar 3 ρ z=.ok (LS (srt pp)) z:=fun z=>by rw[<-hρ];rfl
 have v4:∀z:Sto,xVar 4 ρ z=.ok (.dct (l9 M)) z:=fun z=>by rw[<-hρ];rfl
 have v5:∀z:Sto,xVar 5 ρ z=.ok (.dct (nA L)) z:=fun z=>by rw[<-hρ];rfl
 have v6:∀z:Sto,xVar 6 ρ z=.ok (.str (txt pp L)) z:=fun z=>by rw[<-hρ];rfl
 have v7:∀z:Sto,xVar 7 ρ z=.ok (.ref nf) z:=fun z=>by rw[<-hρ];rfl
 have v8:∀z:Sto,xVar 8 ρ z=.ok (.ref (nf+1)) z:=fun z=>by rw[<-hρ];rfl
 have cap:my [3,4] ρ=[some (LS (srt pp)),some (.dct (l9 M))]:=by rw[<-hρ];rfl
 obtain⟨t6,Rz,go6⟩:∃t6,xIf (xTr (x2 (xB (xCons (xVar 3) xNil) fLen) (xC (.int 6)) fLt)) (xDo (xBM 2 (m6 a) (xVar 7) (xCons (x2 (nH (xIter (xLst (xCons (xC (.str (ac "zq"))) (xCons (xC (.str (ac "zr"))) xNil)))) [3,4] (xAnd (xTr (x2 (xVar 0) (xVar 1) pS)) (xTr (x2 (xVar 0) (xVar 2) pS))) (xVar 0)) (xC (.int 0)) fIx) xNil))) xEnd ρ t5=.nx ρ t6/\t6.get (nf+1)=some (.book (srt pp) (rbL pp L)):=by
  have tst:xTr (x2 (xB (xCons (xVar 3) xNil) fLen) (xC (.int 6)) fLt) ρ t5=.ok (decide ((((srt pp).map PV.str).length:Int)<6)) t5:=by
   have c:xB (xCons (xVar 3) xNil) fLen ρ t5=.ok (.int (((srt pp).map PV.str).length:Int)) t5:=by unfold xB;rw[lu (v3 t5) rfl];exact xm t5 _
   unfold xTr;rw[lW c rfl,HP];rfl
  by_cases z:(((srt pp).map PV.str).length:Int)<6
  ·rw[decide_eq_true z] at tst;have cm:=wV (s:=t5) (cap:=[some (LS (srt pp)),some (.dct (l9 M))]) (c:=xAnd (xTr (x2 (xVar 0) (xVar 1) pS)) (xTr (x2 (xVar 0) (xVar 2) pS))) (e:=xVar 0) PV.str (fun n=>!decide (n∈srt pp)&&!decide (n∈L.map (·.nm))) PV.str [zq,zr] (fun n _=>by
    have a1:xTr (x2 (xVar 0) (xVar 1) pS) [some (.str n),some (LS (srt pp)),some (.dct (l9 M))] t5=.ok (!decide (n∈srt pp)) t5:=by unfold xTr;rw[lW rfl rfl,Fe];rfl
    have a2:xTr (x2 (xVar 0) (xVar 2) pS) [some (.str n),some (LS (srt pp)),some (.dct (l9 M))] t5=.ok (!decide (n∈L.map (·.nm))) t5:=by unfold xTr;rw[lW rfl rfl,Ff W];rfl
    cases b:(!decide (n∈srt pp)) with
    |true=>rw[b] at a1;exact(xy a1 a2).trans (by rw[da])
    |false=>rw[b] at a1;exact(AT a1).trans (by rw[cB])) (fun n _ _=>rfl)
   rw[fx] at cm;have cc:nH (xIter (xLst (xCons (xC (.str (ac "zq"))) (xCons (xC (.str (ac "zr"))) xNil)))) [3,4] (xAnd (xTr (x2 (xVar 0) (xVar 1) pS)) (xTr (x2 (xVar 0) (xVar 2) pS))) (xVar 0) ρ t5=.ok (.lst ((xn::xr).map PV.str)) t5:=oM (l:=[zq,zr].map PV.str) (s1:=t5) rfl (by decide) (by rw[cap];exact cm);have ci:=(lW cc (rfl:xC (.int 0) ρ t5=.ok (.int 0) t5) (F:=fIx)).trans (tV t5 _ 0 rfl);have pa:=xL a g5 (x:=xn) xok.1 (fun y=>nx (by rw[F5.nm] at y;exact(f8 (lx pp) (lx _)).mem_iff.mp y)) (by rw[af] at z;omega) xok.2
   exact⟨_,(qS tst).trans (tJ (v:=.non) ((tY (v7 t5) g5 (lu ci rfl) rfl).trans pa)),(mC (by omega)).trans go5⟩
  ·rw[decide_eq_false z] at tst;exact⟨t5,pd tst,go5⟩
 have rd6:=R.read a t6;have g7:(t6.add (.book (srt pp) (rbL pp L))).get t6.nx=some (.book (srt pp) (rbL pp L)):=by rw[lR,if_pos rfl]
 have tl7:=tl g7;generalize t6.add (.book (srt pp) (rbL pp L))=t7 at *;have rd8:=Mg a t7;have g8:(t7.add (.book [] [])).get t7.nx=some (.book [] []):=by rw[lR,if_pos rfl]
 generalize t7.add (.book [] [])=t8 at *;have rd9:=Mg a t8;have g9:(t8.add (.book [] [])).get t8.nx=some (.book [] []):=by rw[lR,if_pos rfl]
 generalize t8.add (.book [] [])=t9 at *;have hh8:nQ a [.ref t7.nx] t8=.ok (.lst []) t8:=by simp only[nQ,lZ,g8];rfl
 have pp9:mn a [.ref t8.nx] t9=.ok (.lst []) t9:=by simp only[mn,lZ,g9];rfl
 have nq:∀z:Sto,fNe (.str (txt pp L)) (.str (txt pp L)) z=.ok (.bl false) z:=fun z=>ne_str z tok;have cond:∀{w:Nat}{z:Sto}{f:XE}{ρ':En},f ρ' z=.ok (.ref w) z->xVar 3 ρ' z=.ok (LS (srt pp)) z->xVar 4 ρ' z=.ok (.dct (l9 M)) z->xVar 5 ρ' z=.ok (.dct (nA L)) z->xVar 6 ρ' z=.ok (.str (txt pp L)) z->z.get w=some (.book (srt pp) (rbL pp L))->xOr (xNot (xTr (xCall 4 (mS a) (xCons f (xCons (xVar 3) (xCons (xVar 4) (xCons (xVar 5) xNil))))))) (xTr (x2 (xCall 1 (rh a) (xCons f xNil)) (xVar 6) fNe)) ρ' z=.ok false z:=fun{w z f ρ'} h1 h3 h4 h5 h6 hz=>by
  have c1:xCall 4 (mS a) (xCons f (xCons (xVar 3) (xCons (xVar 4) (xCons (xVar 5) xNil)))) ρ' z=.ok (.bl true) z:=ou (lu h1 (lu h3 (lu h4 (lu h5 rfl)))) rfl (tl hz);have c2:xCall 1 (rh a) (xCons f xNil) ρ' z=.ok (.str (txt pp L)) z:=ou (lu h1 rfl) rfl (sh hz);refine HM (s1:=z) ?_ ?_
  ·unfold xNot xTr;rw[c1];rfl
  ·unfold xTr;rw[lW c2 h6,nq z];rfl
 refine⟨t9,mO ?_⟩;show Kk a [some (.seq (l.map .int)),none,none,none,none,none,none,none,none,none,none,none] ⟨0,[]⟩=_;unfold Kk;refine(ly (ρ':=[some (.seq (l.map .int)),some (.ref 0),none,none,none,none,none,none,none,none,none,none]) (s':=s1) (lY (ou (lu rfl rfl) rfl e0))).trans ?_;refine(ly (ρ':=[some (.seq (l.map .int)),some (.ref 0),some (.ref nb),some (LS (srt pp)),some (.dct (l9 M)),some (.dct (nA L)),none,none,none,none,none,none]) (s':=t0) (by simp[sem,og,lC,nN,e1])).trans ?_;refine(ly (pd (c1 _ rfl))).trans ?_;refine(ly (ρ':=[some (.seq (l.map .int)),some (.ref 0),some (.ref nb),some (LS (srt pp)),some (.dct (l9 M)),some (.dct (nA L)),some (.str (txt pp L)),none,none,none,none,none]) (s':=t2) (lY (rZ (k:=16000) (l:=(mi pp L).map nK) (ou (lu rfl (lu rfl (lu rfl rfl))) rfl e3) (by decide) Of (by rw[af];omega)))).trans ?_;refine(ly (ρ':=[some (.seq (l.map .int)),some (.ref 0),some (.ref nb),some (LS (srt pp)),some (.dct (l9 M)),some (.dct (nA L)),some (.str (txt pp L)),some (.ref nf),none,none,none,none]) (s':=t3) (lY (ou (lu rfl rfl) rfl rd1))).trans ?_;refine(ly (ρ':=[some (.seq (l.map .int)),some (.ref 0),some (.ref nb),some (LS (srt pp)),some (.dct (l9 M)),some (.dct (nA L)),some (.str (txt pp L)),some (.ref nf),some (.ref (nf+1)),none,none,none]) (s':=t4) (lY (ou (lu rfl rfl) rfl rd2))).trans ?_;refine(ly (pd (cond (w:=nf) (z:=t4) rfl rfl rfl rfl rfl gf))).trans ?_;refine(ly (pR (l:=((srt (L.map (·.nm))).take 3).map .str) (s1:=t4) ?_ lo)).trans ?_
 ·have b:xB (xCons (xVar 4) xNil) lC [some (.seq (l.map .int)),some (.ref 0),some (.ref nb),some (LS (srt pp)),some (.dct (l9 M)),some (.dct (nA L)),some (.str (txt pp L)),some (.ref nf),some (.ref (nf+1)),none,none,none] t4=.ok (LS (srt (L.map (·.nm)))) t4:=by unfold xB;rw[lu rfl rfl];exact so
  unfold xIter xSl;rw[b];show Out.ok (yj ((srt (L.map (·.nm))).map PV.str) none (some 3)) t4=_;rw[cut]
 refine(ly Rz).trans ?_;refine(ly (pd (cond (v8 t6) (v3 t6) (v4 t6) (v5 t6) (v6 t6) go6))).trans (mv ?_);have f1:xCall 1 (oC a) (xCons (xVar 6) xNil) ρ t6=.ok (.ref t6.nx) t7:=ou (lu (v6 t6) rfl) rfl rd6;have f2:xCall 4 (mS a) (xCons (xCall 1 (oC a) (xCons (xVar 6) xNil)) (xCons (xVar 3) (xCons (xVar 4) (xCons (xVar 5) xNil)))) ρ t6=.ok (.bl true) t7:=ou (lu f1 (lu (v3 t7) (lu (v4 t7) (lu (v5 t7) rfl)))) rfl tl7;have f3:xCall 1 (oC a) (xCons (xC (.str (ac ""))) xNil) ρ t7=.ok (.ref t7.nx) t8:=ou (lu rfl rfl) rfl rd8;have f4:xCall 1 (oC a) (xCons (xC (.str (ac ""))) xNil) ρ t8=.ok (.ref t8.nx) t9:=ou (lu rfl rfl) rfl rd9;have f5:xBM 1 (nQ a) (xCall 1 (oC a) (xCons (xC (.str (ac ""))) xNil)) xNil ρ t7=.ok (.lst []) t8:=(tY f3 g8 rfl rfl).trans hh8;have f6:xBM 1 (mn a) (xCall 1 (oC a) (xCons (xC (.str (ac ""))) xNil)) xNil ρ t8=.ok (.lst []) t9:=(tY f4 g9 rfl rfl).trans pp9;exact zH f2 (zH ((lW f5 rfl).trans (zy rfl)) ((lW f6 rfl).trans (zy rfl)))
def Ls{K:aa}{a:Adr}{H:Hp}{c:al}{ns:List Int}{Q:VK}{E:XK}(hl:ns.length<=63)(ht:bU K bi "rules"=some none)(hO:Ma H)(hS:SqL K H c (ns.map V.int))(k:∀v H',v=.bl true->Q v H'):spD K a.Book 1 (Df a) [.ref c] H Q E:=by
 obtain⟨s',e⟩:=ND a ns hl;have S0:SR K a.Book H ⟨fun _=>c,fun _=>[],[]⟩ ⟨0,[]⟩:=by refine⟨gW,(by intro n hn;cases hn),(by intro q hq;cases hq),(by intro n hn;cases hn),(by intro n hn;cases hn),(by intro z hz;cases hz),fun P q t=>?_⟩;obtain⟨x,hx,c',h1,h2⟩:=t;simp only[EI,au] at hx;subst hx;unfold PySem.W.tabIn at h1;rw[ht] at h1;cases h1
 have R0:∀(l:List Int),Reps K H ⟨fun _=>c,fun _=>[],[]⟩ ⟨0,[]⟩ (l.map V.int) (l.map PV.int):=fun l=>by
  induction l with
  |nil=>exact .nil
  |cons x r ih=>exact .cons .int ih
 have pu:Pur (⟨fun _=>c,fun _=>[],[]⟩:Mp) ⟨0,[]⟩ c:=⟨(by intro z;cases z),by intro n hn;cases hn⟩;have hr:Rep K H ⟨fun _=>c,fun _=>[],[]⟩ ⟨0,[]⟩ (.ref c) (.seq (ns.map .int)):=by
  refine .seq ?_ (R0 ns);rcases hS with(h|h)|h
  ·rcases hO c with z|⟨o,xs,z⟩
   ·rw[z] at h;cases h
   ·rw[z] at h;cases h
  ·exact .inl ⟨h,pu⟩
  ·exact .inr h
 refine⟨rfl,[.seq (ns.map .int)],⟨0,[]⟩,_,.cons hr .nil,S0,?_⟩;rw[e];intro u H' m' _ _ r;cases r;exact k _ _ rfl
end
open PyProof.Rows
def all_mk{l:gj}{w:aX}{K:aa}{h:bA}{mg:Str->Option am}{fa:al}(X:K.In h)(G:h.Ns bi mg)(hfa:mg "law"=some (.ref fa)){O9 BK:al}(x0z:Gx K "OwnError")(x1z:Gx K "NoName")(x2z:Gx K "Twice")(x3z:Gx K "TooMany")(x4z:Gx K "NoHolder")(x5z:Gx K "NoHouse")(x6z:Gx K "NoLoss")(x7z:Gx K "NoShare")(P5:bU K bi "NoText"=some (some (.ref O9)))(cb:Gb K BK)(c0z:Gt K "ZERO" 0 1)(c1z:Gt K "ONE" 1 1)(u0z:Gi K "LONGEST_NAME" 8)(u1z:Gi K "MOST_PERSONS" 6)(u2z:Gi K "MOST_HOUSES" 8)(u3z:Gi K "MOST_FIGURES" 400)(z0z:Gz K "len")(z1z:Gz K "range")(z2z:Gz K "all")(z3z:Gz K "int")(z4z:Gz K "abs")(z5z:Gz K "sorted")(z6z:Gz K "tuple")(z7z:Gz K "list")(z8z:Gz K "str")(z9z:Gz K "bool")(Tf:Gz K "isinstance")(Te:Gz K "ValueError")(Td:Gz K "any")(Tc:Gz K "set")(Tb:Gz K "max")(j0:Gf K "is_name" vf)(j1:Gf K "need_loss" uh)(j2:Gf K "common_divisor" pA)(j3:Gf K "is_figures" qB)(j4:Gf K "plus" FB)(j5:Gf K "minus" CI)(j6:Gf K "is_above" vY)(j7:Gm K BK "__init__" "Book.__init__" ux)(j8:Gm K BK "is_house" "Book.is_house" qg)(j9:Gm K BK "is_holder" "Book.is_holder" pE)(j10:Gm K BK "need_house" "Book.need_house" oN)(j11:Gm K BK "need_holder" "Book.need_holder" oE)(j12:Gm K BK "need_new_name" "Book.need_new_name" nT)(j13:Gm K BK "person" "Book.person" rM)(j14:Gm K BK "house" "Book.house" sL)(j15:Gm K BK "sale" "Book.sale" uu)(j16:Gm K BK "persons" "Book.persons" qK)(j17:Gm K BK "houses" "Book.houses" rN)(j18:Gm K BK "of" "Book.of" xJ)(j19:Gm K BK "shares" "Book.shares" pQ)(j20:Gm K BK "things" "Book.things" rL)(j21:Gm K BK "mark" "Book.mark" uv)(j22:Gm K BK "loss" "Book.loss" uw)(j23:Gf K "_law_take" ul)(j24:Gf K "_law_divisor" qJ)(j25:Gf K "_law_lowest" rK)(j26:Gf K "_law_plus" uq)(j27:Gf K "_law_times" sG)(j28:Gf K "_law_purse" sH)(j29:Gf K "_law_names" sI)(j30:Gf K "_law_part" ur)(j31:Gf K "_law_built" sK)(j32:Gf K "lowest" zQ)(j33:Gf K "rows_of" xH)(j34:Gf K "shown_share" rG)(j35:Gf K "shown_row" ug)(j36:Gf K "shown" CH)(j37:Gf K "read_number" rH)(j38:Gf K "read_share" sE)(j39:Gf K "read_row" vX)(j40:Gf K "first_person" qI)(j41:Gf K "put" Kc)(j42:Gf K "book_of" xI)(j43:Gf K "read" FA)(j44:Gf K "_law_whole" sF)(RG:Gf K "_law_same" um)(j46:Gf K "_law_numbered" qd)(j47:Gf K "_law_fraction" qe)(j48:Gf K "_law_lines" sJ)(j49:Gf K "_law_shares" rJ)(j50:Gf K "_law_told" uk)(j51:Gf K "_law_long" ut)(j52:Gf K "_law_long_text" pB)(j53:Gf K "_law_long_good" pC)(j54:Gf K "law" Kd)(zr:Gz K "rules")
  :∃(a:Adr)(fd:bQ),bU K bi "rules"=some none/\(∀(s:aw)(v:am),js s fd ⟨[v],[]⟩ [("_law_script",v)])/\∀base:bA,K.In base->base.Ns bi mg->FnOk l.prog w K mg base (CXo l.prog w) 9 fa fd ["_law_script"] (spD K a.Book 1 (Df a)):=by
 have g:=fun{x v}=>@jk _ _ _ x v X G;obtain⟨Pm,n0,e0⟩:=x0z;obtain⟨Qc,n1,e1⟩:=x1z;obtain⟨QC,n2,e2⟩:=x2z;obtain⟨PP,n3,e3⟩:=x3z;obtain⟨Pn,n4,e4⟩:=x4z;obtain⟨PU,n5,e5⟩:=x5z;obtain⟨Qd,n6,e6⟩:=x6z;obtain⟨PQ,n7,e7⟩:=x7z;obtain⟨o0,_,_,_,_,_,p0,l0⟩:=c0z;obtain⟨o1,_,_,_,_,_,p1,l1⟩:=c1z;obtain⟨t0,y0⟩:=u0z;obtain⟨t1,y1⟩:=u1z;obtain⟨t2,y2⟩:=u2z;obtain⟨t3,y3⟩:=u3z;obtain⟨f,fd,n,U⟩:=j54;cases hfa.symm.trans (g n);have y3:=g y3;let a:Adr:=⟨Pm,Qc,QC,PP,Pn,PU,Qd,PQ,O9,BK,BK,o0,o1,BK,t0,t1,t2,fun _ _=>false⟩;have T:Txt K mg a:=⟨z0z.at_ X G,z1z.at_ X G,z2z.at_ X G,z3z.at_ X G,z4z.at_ X G,z5z.at_ X G,z6z.at_ X G,z7z.at_ X G,z8z.at_ X G,z9z.at_ X G,Tf.at_ X G,Te.at_ X G,Td.at_ X G,Tc.at_ X G,Tb.at_ X G,g n0,g n1,g n2,g n3,g n4,g n5,g n6,g n7,g P5,e0,e1,e2,e3,e4,e5,e6,e7,g y0,g y1,g y2,g p0,g p1,
  ⟨_,_,_,l0,rfl,rfl,(show 2<=aH by decide),.cons ⟨_,rfl⟩ (.cons ⟨_,rfl⟩ .nil)⟩,⟨_,_,_,l1,rfl,rfl,(show 2<=aH by decide),.cons ⟨_,rfl⟩ (.cons ⟨_,rfl⟩ .nil)⟩,⟨cb.p,cb.h,cb.o,cb.s⟩,cb.a,cb.b,cb.c,cb.d,cb.e⟩
 refine⟨a,fd,zr.z,fun s v=>?_,fun base _ _=>?_⟩
 ·obtain⟨_,_,_,_,_,_,_,_,_,rfl,_,_⟩:=U.ex;exact .of_eq rfl
 have Y:Yz K mg a:=⟨T,_,X,G⟩;have N:=fun{x st k ps sp}=>@Gf.fn l.prog w K mg base _ x st ps sp k X G;have M:=fun{x q st k ps sp}=>@Gm.mt l.prog w K mg base x q st BK ps sp k T.cl;have r0:=N j0 fun U=>Fc U T ;have r1:=N j1 fun U=>Cp U T ;have r2:=N j2 fun U=>Ny U T ;have d2:=Fn.imp r2 (KA (K:=K) (a:=a));have r3:=N j3 fun U=>Av U T y3;have d3:=Fn.imp r3 (yJ (K:=K) (a:=a));have r4:=N j4 fun U=>Lf U T r2;have r5:=N j5 fun U=>IV U T r4;have r6:=N j6 fun U=>IX U T ;have k0:=j7.bk (P:=l.prog) (w:=w) (base:=base) X G cb fun U=>Li U T;have r8:=M j8 fun U=>Dq U T ;have r9:=M j9 fun U=>Cq U T r8;have QG:=M j10 fun U=>Au U T r8;have Sv:=M j11 fun U=>yU U T r9;have r12:=M j12 fun U=>Dp U T r0 r9;have r13:=M j13 fun U=>Hc U T r12;have S8:=Mt.imp r13 (ES (a:=a));have r14:=M j14 fun U=>IW U T r12 Sv r1;have Uv:=Mt.imp r14 (GV (a:=a));have r15:=M j15 fun U=>Ld U T QG Sv r6 r5 r4;have S7:=Mt.imp r15 (Ij (a:=a));have r16:=M j16 fun U=>Fb U T ;have S6:=Mt.imp r16 (Di (a:=a));have r17:=M j17 fun U=>Hf U T ;have Uu:=Mt.imp r17 (ET (a:=a));have r18:=M j18 fun U=>ok_of U T QG;have d18:=Mt.imp r18 (MS (a:=a));have r19:=M j19 fun U=>Hb U T QG;have Ut:=Mt.imp r19 (EQ (a:=a));have Tq:=M j20 fun U=>Ha U T QG;have d20:=Mt.imp Tq (EO (a:=a));have Tp:=M j21 fun U=>Lg U T QG;have d21:=Mt.imp Tp (Ik (a:=a));have r22:=M j22 fun U=>Lh U T QG r1;have d22:=Mt.imp r22 (Il (a:=a));have Sh:n8 l.prog w K mg base a:=Cs Y j23 ;have d24:qO l.prog w K mg base a:=yt Y j24 ;have Us:oB l.prog w K mg base a:=yW Y j25 d24;have d26:uH l.prog w K mg base a:=Ct Y j26 Us;have d27:sS l.prog w K mg base a:=Ay Y j27 Us;have d28:sT l.prog w K mg base a:=Az Y j28 ;have d29:sU l.prog w K mg base a:=AA Y j29 Sh;have d30:uI l.prog w K mg base a:=Cu Y j30 Us Sh;have d31:sW l.prog w K mg base a:=AC Y j31 d29 k0 S8 Uv Sh d27 d30 S7 d26;have d32:z6 l.prog w K mg base a:=He Y j32 d2;have d33:vt l.prog w K mg base a:=Fa Y j33 Uu S6 d18 Ut;have d34:rS l.prog w K mg base a:=yS Y j34 ;have d35:uF l.prog w K mg base a:=Co Y j35 d34;have d36:zI l.prog w K mg base a:=IU Y j36 d35 d33;have d37:pW l.prog w K mg base a:=yT Y j37 d3;have d38:sQ l.prog w K mg base a:=At Y j38 d37 d32;have d39:wj l.prog w K mg base a:=Do Y j39 d37 d38;have d40:qN l.prog w K mg base a:=yr Y j40 S6;have d41:Ko l.prog w K mg base a:=Nw Y j41 S8 Uv S7 d40;have d42:xZ l.prog w K mg base a:=Fd Y j42 k0 d41 d33;have d43:Dd l.prog w K mg base a:=Le Y j43 d42 d39;have SZ:sR l.prog w K mg base a:=Ax Y j44 ;have s0:rD l.prog w K mg base a 0:=N RG fun _=>NM rfl;have s1:=qC Y RG SZ 0 s0;have s2:=qC Y RG SZ 1 s1;have s3:=qC Y RG SZ 2 s2;have s4:=qC Y RG SZ 3 s3;have d46:qi l.prog w K mg base a:=xh Y j46 d31 d20 d21 d22 Sh;have d47:qj l.prog w K mg base a:=xj Y j47 ;have d48:sV l.prog w K mg base a:=AB Y j48 d47;have d49:pX l.prog w K mg base a:=yV Y j49 ;have d50:uG l.prog w K mg base a:=Cr Y j50 s4 S6 Uu d18 Ut d49;have d51:uJ l.prog w K mg base a:=Cv Y j51 ;have d52:pJ l.prog w K mg base a:=wn Y j52 ;have d53:pK l.prog w K mg base a:=wo Y j53 d51 k0 Uv d52 S8 S7 d36 Ut d43;exact Nx T U d28 d46 d43 d48 d21 S8 d50 Sh d53 d36 d49 S7 Uu S6
def JH(K:aa):Sp:=fun vs H Q E=>∃(c:al)(ns:List Int),vs=[.ref c]/\ns.length<=63/\Ma H/\SqL K H c (ns.map V.int)/\(∀v H',v=.bl true->Q v H')
def NN{K:aa}{a:Adr}(ht:bU K bi "rules"=some none)(vs:List V)(H:Hp)(Q:VK)(E:XK)(h:JH K vs H Q E):spD K a.Book 1 (Df a) vs H Q E:=by obtain⟨c,ns,rfl,hl,hO,hS,k⟩:=h;exact Ls hl ht hO hS k
def walk{l:gj}{q:aI}{OW:List Str}{XP:(Str->Option am)->bA->Prop}{YP:aX->bA->Prop}{d:DefRec}{K:Params->aa}(hn:l.most=some 63)(R5:d.params.defaults=[])(hY:∀(w:aX)(h:bA),YP w h->(K w.params).In h)(F:∀(w:aX)(mg:Str->Option am)(fa:al)(h:bA),(K w.params).In h->h.Ns bi mg->mg d.name=some (.ref fa) ->
   ∃(a:Adr)(fd:bQ),bU (K w.params) bi "rules"=some none/\(∀(s:aw)(u:am),js s fd ⟨[u],[]⟩ [("_law_script",u)])/\∀base:bA,(K w.params).In base->base.Ns bi mg->FnOk l.prog w (K w.params) mg base (CXo l.prog w) 9 fa fd ["_law_script"] (spD (K w.params) a.Book 1 (Df a))) :
  kJ q OW XP YP l.row.toRowW d [] (fun f vs=>kG f vs) :=
 L2.walk_of (n:=63) (k:=9) (x:="_law_script") (CX:=fun w=>CXo l.prog w) (sp:=fun w=>JH (K w.params)) hn (by decide) R5 ⟨rfl,by decide,by decide⟩ hY
  (fun w mg fa h X G hm=>let⟨a,fd,h0,h1,h2⟩:=F w mg fa h X G hm;⟨fd,h1,fun base b1 b2=>(h2 base b1 b2).imp (NN h0)⟩)
  (fun _ _ c ns hl hO hS=>⟨c,ns,rfl,hl,hO,hS,fun _ _ e=>e⟩) fun _ _ _ _ _ z=>by
  obtain⟨_,_,_,_,_,_,_,_,_,_,_,_,_,z⟩:=z;exact z
end My
namespace PySem.W.Fast
def tw10001966869924214366:=()
def tw10161616600199453943:=()
def tw10370320265912370107:=()
def tw10398979490985439561:=()
def tw10407678343479012694:=()
def tw10438249641266348481:=()
def tw10455507278899453353:=()
def tw10479039363751818424:=()
def tw10562800838188410485:=()
def tw10576191237510364687:=()
def tw10585951880133333365:=()
def tw10647639795236077079:=()
def tw10703347961577700827:=()
def tw10713253523094462859:=()
def tw10752778615456396823:=()
def tw10811482797746551446:=()
def tw1083614571338696673:=()
def tw10976088600725480182:=()
def tw11010824784305730405:=()
def tw11012153996405941084:=()
def tw1111889221142840724:=()
def tw11438820529035489955:=()
def tw11551310130295800355:=()
def tw11751419403782485099:=()
def tw11830888450614557848:=()
def tw11893307877721649070:=()
def tw12038433211600173871:=()
def tw12189538130570863733:=()
def tw12248866186434329880:=()
def tw12279404422941813425:=()
def tw12350510138343123671:=()
def tw12425308216259762600:=()
def tw12462341706372336525:=()
def tw1254968518434655399:=()
def tw12552082988551010555:=()
def tw12563395919067478533:=()
def tw12566575529312214991:=()
def tw12567716274427533389:=()
def tw12578230622565604314:=()
def tw1272177819818020307:=()
def tw12816474342131035377:=()
def tw12982307073755385054:=()
def tw13039599644678534339:=()
def tw13046495233020433721:=()
def tw13059368397347532639:=()
def tw13066834901070018474:=()
def tw13119554432836404130:=()
def tw13136676072100307494:=()
def tw13238640177030468577:=()
def tw1344477469299121743:=()
def tw1358522900511496137:=()
def tw13693135225733834259:=()
def tw13773796896887125585:=()
def tw13885587223958123026:=()
def tw13933277753346550491:=()
def tw13938198244704932251:=()
def tw13954609061092771441:=()
def tw14025758547623588340:=()
def tw14029557583547084837:=()
def tw14055810532577378579:=()
def tw14232736257165153371:=()
def tw14244580800267114942:=()
def tw14296769721988732443:=()
def tw14339652207824031387:=()
def tw14418157162134554034:=()
def tw14421496299304800184:=()
def tw14475147764117378926:=()
def tw145988734857908783:=()
def tw14605146343372724950:=()
def tw14736994722033876902:=()
def tw14879178867869578633:=()
def tw14978107515627083110:=()
def tw15070022826595944028:=()
def tw1511144036578849078:=()
def tw15178699912166093370:=()
def tw15264619194200800088:=()
def tw1527777068485363008:=()
def tw15293289048851227797:=()
def tw15458708792320714403:=()
def tw15578094914510946834:=()
def tw15607224596232764008:=()
def tw15687388312575513037:=()
def tw15703897237385899463:=()
def tw15721395375246271200:=()
def tw15744688353474271080:=()
def tw15759736133126813809:=()
def tw15775524064406018491:=()
def tw15781513823043699585:=()
def tw15800443887422562950:=()
def tw15808855076514191610:=()
def tw15824688943050193375:=()
def tw15878640296466263771:=()
def tw15879357505318875625:=()
def tw15973256134891352818:=()
def tw16252549848095548394:=()
def tw162928525916176504:=()
def tw16331538374500674139:=()
def tw16337421170964946269:=()
def tw16397005372727731614:=()
def tw16475607983475621240:=()
def tw16499945658730128214:=()
def tw16676161993593091688:=()
def tw16693731109781976016:=()
def tw16771358560465260961:=()
def tw16852976999378792008:=()
def tw16876084234571904032:=()
def tw17062811104361515074:=()
def tw17190886894824801507:=()
def tw17231267112463294925:=()
def tw17295920617186494816:=()
def tw17375479781360847905:=()
def tw17395886392561707718:=()
def tw17481242654406481881:=()
def tw17494776989148894201:=()
def tw17536834441316959940:=()
def tw17550535965924202642:=()
def tw17581108620128518581:=()
def tw17594907368652729983:=()
def tw1769180458591903596:=()
def tw17734813860009537803:=()
def tw17751110727233915438:=()
def tw17779187855920843486:=()
def tw17878015232509254194:=()
def tw17948265503312097833:=()
def tw18012983561388532253:=()
def tw18192183878755954497:=()
def tw18256364568175161453:=()
def tw1827631458682093868:=()
def tw1827642929185543898:=()
def tw18394320749566850419:=()
def tw18396796144098448609:=()
def tw2111106454594140975:=()
def tw2158608563796456562:=()
def tw2173542271362392229:=()
def tw2311269878750936337:=()
def tw2319663289492053131:=()
def tw2480969733612595628:=()
def tw2518328601294221508:=()
def tw2635634141738050901:=()
def tw2728755861376290970:=()
def tw2739112287202407257:=()
def tw2800428842294144609:=()
def tw286093930740624989:=()
def tw2875429415283277845:=()
def tw2955802810987460702:=()
def tw2957729095762938593:=()
def tw3073467723798504383:=()
def tw316107686303478180:=()
def tw3277279330074388401:=()
def tw3325896610897686012:=()
def tw3612690653782558708:=()
def tw3708533196844628521:=()
def tw3765141317839286068:=()
def tw3869792475837765120:=()
def tw3918661276705355195:=()
def tw3929716387642327249:=()
def tw3978457876591863093:=()
def tw3984002990572927936:=()
def tw4122818479859527549:=()
def tw4159282951851881281:=()
def tw4439042009319361168:=()
def tw4485327801721628973:=()
def tw4486653466229758488:=()
def tw449779523898701839:=()
def tw4499608688950007058:=()
def tw4525866418378615112:=()
def tw4539199382093215816:=()
def tw4550717287490959949:=()
def tw4651240393890654294:=()
def tw4721541286014309203:=()
def tw4753342031259892903:=()
def tw4822872525762454233:=()
def tw4862059177564822183:=()
def tw4933225159103839956:=()
def tw496827475250972129:=()
def tw5062314102919904108:=()
def tw5124469903785228106:=()
def tw5235220043463222697:=()
def tw5255147725742209540:=()
def tw5367227634586230688:=()
def tw5377420562230627360:=()
def tw5461880146315648235:=()
def tw5566322295441774983:=()
def tw5615520037960835696:=()
def tw5685050118559003256:=()
def tw5749316622495859621:=()
def tw576391183734859965:=()
def tw5825784279608267139:=()
def tw591233414921465186:=()
def tw5935575108012141333:=()
def tw5949524013797163600:=()
def tw5953908567156081738:=()
def tw5973477588015650938:=()
def tw5995705383459011728:=()
def tw6080748167638925406:=()
def tw6116080506742492090:=()
def tw6140303017933779976:=()
def tw6270207305851998812:=()
def tw6361817448007998147:=()
def tw643161909355765689:=()
def tw66259744118524588:=()
def tw6628822771486815800:=()
def tw6879604794635884712:=()
def tw6955027315517193304:=()
def tw7010601071923715375:=()
def tw7191677387750860931:=()
def tw7324408782972612206:=()
def tw7331524960140075354:=()
def tw7332578054853143811:=()
def tw7380532903400434401:=()
def tw7396547562560087998:=()
def tw7454718800685640042:=()
def tw7580161953815366075:=()
def tw758749294858781572:=()
def tw7606701973794459663:=()
def tw772130583472208108:=()
def tw7729779850440435437:=()
def tw7756228774988923114:=()
def tw7779762175716365116:=()
def tw7788095363454033610:=()
def tw7792309898953520010:=()
def tw7804540254605782853:=()
def tw7822292913928156185:=()
def tw7922377945319023473:=()
def tw8042645011541096746:=()
def tw806786102658701703:=()
def tw8160929937958048959:=()
def tw8236475624044593692:=()
def tw8378231323441478909:=()
def tw838946358864362720:=()
def tw8496952778084895686:=()
def tw8525311672081396845:=()
def tw8978020398011629043:=()
def tw9142372923901861074:=()
def tw9186759055265160456:=()
def tw9260029184615929599:=()
def tw9275229391980358322:=()
def tw9312244464162732795:=()
def tw9317236361154683586:=()
def tw9432469016981643022:=()
def tw9476473919025935434:=()
def tw951593386442044559:=()
def tw9522347475955210083:=()
def tw9695199235685514210:=()
def tw9792997204635452143:=()
end PySem.W.Fast
open PySem.W
set_option maxRecDepth 100000 in
set_option maxHeartbeats 0 in
theorem PySem.Challenge.cw_wholeowners_k72_read_holds : PySem.Challenge.rw_wholeowners_k72_read.Holds := by
 w_on;o_law;k_head;(case hw=>w_witness2)
 k_fill
 refine My.walk (l:=PySem.Challenge.rw_wholeowners_k72_read) rfl rfl (fun w h Y=>PySem.W.kIn_of Y) ?F
 case F =>
  intro w mg fa h KX G RR;apply My.all_mk KX G RR
  all_goals first
   |(apply L2.gf<;>k_is)
   |(apply L2.gm<;>k_is)
   |(apply L2.gx;(focus k_is);(focus k_exc);all_goals k_is)
   |(apply L2.gt<;>k_is)
   |(apply L2.gi;k_is)
   |(apply L2.Gz.mk;k_is)
   |(apply L2.Gb.mk<;>k_is)
   |k_is

