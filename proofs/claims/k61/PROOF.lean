import PyProof.Rows.All
import Wide.All
import OpenK.AllK
import Wide.FinOn
import Lean
import PyProof.EqAt
import PyProof.EqKinds
import PyProof.TupleCall
import KE.KLam
import KE.KNest
import PySem.Challenge.RW_wholeowners_k61_whom_a_house_reaches
import KE.KNestM
import KE.KIsAll
import PyProof.EnumFor
import PyProof.EnumStmt
import PyProof.EnumMake
import PyProof.StrOps2
open PySem.W renaming Frag->aa,findIn->aM,kitOne->bu,nsIn->bv,kia_one->bG,fnOf->bO,mroIn->bU,emptyDict->bW,keepIn->b5,instObj->cz,kitAny->cR,specialIn->dE,plainGet->dS,codeIn->eL,hasDictIn->eV,OpenLaw->fw,isFn->fA,takesIn->fD,hideAll->fE,lookIn->fU,plainGet_of->gc,excIn->gg,callWith_K->gp,plainOver->gy,methodObj->gz,looks_findIn->gA,kitx_list->gB,takerIn->gW,makesIn->gX,Looks->hU,mg_of->ij,cellsFrom_some->iC,looks_mroIn->iP,hideAll_get->iT,of_hideAll->i8,kitx_tuple->i9,kitx_none->jk,kitx_dict->jl,handedIn->ju,WalkO->jv,kia_tup->jE
open PySem renaming Addr->ac,Value->ae,Shared->ah,wpAny_bind->ao,starEach->ar,Program->az,sizeLine->aB,wpAny_pure->aH,Expr->aN,wpAny->aP,mainGlobals->aS,World->aU,Heap->ba,bootBuiltins->bj,wpAny_mono->bo,Around->bx,compareOp->bI,FuncData->bJ,Stmt->bM,backTo->bV,foldedSetIterable->bY,assignEach->b8,behindInMarks->ce,attributeBase->cy,Scope->cA,mem_of_lookup->cF,lookup_relabel_local->cG,binaryOp->cH,wpAny_passesOwn->cV,swapsWith->cW,wpAny_truthy_bool->cY,wpAny_newObj_type->cZ,sysModules->du,Spec->dA,wpAny_holding->dJ,cLine->dL,NameKind->dM,wpAny_execs_nil->dO,wpAny_Call_Name_kw->dQ,tupleKind_room_in1->dR,keywordEach->dX,Paired->eM,wpAny_standAt->eQ,codeAny->eR,sliceBounds->eT,bindArgs->eU,Keyword->fg,wpAny_comprehension_free->fR,swapsWithSole->fS,swappedStores->fT,reprText->f8,backToKw->f9,codeAny_mono->gn,letOwnedTupleGo->gv,strIterType->gI,IntMulOk->gK,valueAt->gN,tupleKind->gO,getItem->gP,wpAny_execs_cons->gU,CmpOp->gY,call_meets->g8,builtinsNs->g9,wpAny_pyIter_list->ib,wpAny_assign_Name->ie,standAt->ig,callerA->ii,BindsTo->io,getMethod->iB,Result->iD,IsPart->iE,Arguments->iG,sizeLine_eq->iJ,Within->iO,notedBy->iS,bindName->i6,atKey->i7,GenState->jb,call->js,assignInOrder->jt,bindL->jC,bindC->jD,Builtin->jG
open List renaming length_map->af,mem_map->ai,mem_cons->aj,mem_cons_of_mem->ak,mem_singleton->al,mem_cons_self->ap,mem_append_right->aw,map_append->ax,mem_append->aA,nodup_cons->aD,map_cons->aG,length_append->aI,size_toArray->aJ,replicate->aK,map_map->aL,mem_append_left->aW,getElem?_map->aY,getElem?_eq_getElem->bc,range->bi,map_congr_left->bC,getElem?_eq_some_iff->bD,lookup_cons->bF,nodup_append->bH,eq_nil_of_length_eq_zero->bK,find?_cons->bP,length_cons->bR,find?_eq_none->bS,length->b7,replicate_succ->ck,lookup->cm,pairwise_cons->cw,getElem?_append_right->cx,append_nil->cB,any_eq_true->cI,all_eq_true->cJ,mem_filter->cN,length_singleton->cP,length_replicate->cQ,flatten_cons->cT,mem_range->cX,map_nil->da,length_take->db,getElem_mem->de,getElem?_append_left->dk,filterMap_cons->dq,length_filter_le->d6,any_cons->ej,mem_of_getElem?->eB,getElem?_set_ne->eE,filter_map->eJ,getElem?_range->eP,find?_map->eX,mem_of_find?_eq_some->fb,drop_eq_getElem_cons->fc,take_add_one->ft,find?_isSome->fu,take_length->fG,not_mem_nil->fH,getElem?_replicate->fI,getElem?_cons_zero->fJ,filter_cons->fK,drop_eq_nil_of_le->fP,any_map->fQ,find?_some->fW,length_pos_iff->gw,all_cons->gE,mem_filterMap->gH,getElem?_set->gR,find?_append->gS,map_fst_zip->g5,length_drop->g7,of_mem_zip->hX,nil_append->hZ,length_set->ia,perm_ext_iff_of_nodup->iy,nodup_nil->iz,getElem?_cons_succ->iR,range_succ_eq_map->iY,getElem?_set_self->iZ,mem_iff_getElem?->jg,getElem?_eq_none->jh,cons_lt_cons_iff->ji,mem_of_mem_take->jo,map_id->jp,drop_eq_nil_iff->jq,filter_eq_self->jz,foldl->jK
open And renaming intro->ag
open Sum renaming inr->am,inl->gT
open Nat renaming le_refl->aq,lt_of_lt_of_le->au,le_trans->aC,ne_of_lt->aT,lt_of_le_of_lt->aZ,zero_le->a6,pow_le_pow_right->cD,lt_irrefl->cO,lt_succ_of_lt->cU,lt_succ_self->di,two_pow_pos->dD,le_of_lt->dU,le_of_not_lt->ei,le_succ->eG,eq_of_mul_eq_mul_left->fk,lt_trans->fV,le_antisymm->ip,ne_of_gt->jd,le_of_eq->je,add_comm->jf,le_of_ble_eq_true->jn,mul_le_mul_left->jI,add_le_add_left->jJ
open PySem.Heap renaming get?_push_of_some->av,lt_size->aE,get?_push_size->a7,SameBut->gQ,get?_update_other->iV,FlyingW->iW
open Int renaming gcd->ay,mul_le_mul_of_nonneg_right->aQ,mul_assoc->aX,mul_pos->br,mul_comm->bz,le_of_lt->bA,gcd_pos_of_ne_zero_right->bN,emod_lt_of_pos->b6,gcd_dvd_right->ci,emod_nonneg->cC,mul_ediv_cancel_left->dC,mul_right_comm->dG,mul_nonpos_of_nonneg_of_nonpos->dH,mul_left_comm->dW,natAbs_dvd_natAbs->d8,gcd_dvd_left->eA,eq_of_mul_eq_mul_right->eY,ofNat_le->fX,le_trans->fY,neg_mul->gr,natAbs_neg->gs,natAbs_mul->gu,natAbs_natCast->gL,mul_nonpos_of_nonpos_of_nonneg->gM,gcd_mul_left->hR,ediv_eq_of_eq_mul_right->iA,mul_nonneg->iH,le_of_mul_le_mul_right->iI,zero_mul->jj,mul_one->jA
open PySem.Str renaming ofString->aF,empty->cq
open Option.some renaming inj->aO
open Bool renaming false_ne_true->aR,eq_iff_iff->bQ,and_eq_true->bT,eq_false_iff->cg,false_and->dP,or_eq_true->fZ,true_and->gF
open PySem.Value renaming ref->aV,str->fC,int->gh,none->gC,bool->ik,float->ja
open False renaming elim->bh
open PySem.NameKind renaming free->bw,cell->ge
open PySem.Builtin.Int renaming intBits->bL
open Option renaming isSome_map->bX,isSome_eq_false_iff->eS,isNone_iff_eq_none->eW,isSome_iff_exists->e9,map_eq_none_iff->fF,getD_none->jH
open True renaming intro->bZ
open Ne renaming symm->cj
open Classical renaming propDecidable->cE
open PySem.PyData renaming strOk->cK,eqv->dy,str->dY,eqvAll->eZ,canLay0->f6,depth->gG,canLayAll0->jx
open PyProof.Rows renaming slot_tuple_getitem->cL,envOfC->dF,callWith_type1->dZ,AllBare->fO,subscriptTail->gZ,assignInOrder_cons->hJ
open PySem.Builtin.Slice renaming slicePlaces->cM,sliceAdjust->eg,sliceApplied->gD
open PySem.Builtin.Tuple renaming tupleExact->cS
open ForInStep renaming yield->dg
open Sum.inr renaming inj->dw
open PySem.Calls renaming spliced_cons->dB,callWith_builtin->dN,evalArgs_plain->ee,spliced_nil->e8,Name_function_global->im,Constant_str->jy
open Or renaming inl->dI,inr->f7
open PySem.Spec renaming ltCps->ed
open PySem.Builtin.List renaming listTooLong->eI
open Array renaming length_toList->eK,getElem?_toList->i0,append_assoc->jB
open PySem.F renaming excBase_ValueError->eO,plainAttrs_list->fj,slot_dict_get->fL,slot_dict_getitem->hV,plainAttrs_dict->ir,args_dict_get_3->iu,entry_dict_get->iF,slot_dict_pop->iM,slot_list_append->jc,slot_list_clear->jm,slot_list_pop->jF
open PySem.PassesOwn renaming never->fz
open PySem.W.WData renaming int->fB,weightAll->fM
open PySem.Expr renaming Subscript->gj
open PySem.Obj renaming mapSeq->gJ
open PySem.Paired renaming length->iq,snoc->iU
open Nat.succ renaming inj->iw
open PySem.SeqAt.EqAt renaming str_int->iK,int_str->iL
open PySem.Around renaming under->iN
open PySem.W.Looks renaming ld->iQ
open PySem.Code renaming isFrame->iX
open PySem.SeqAt renaming EqAt->jw
open List.cons renaming inj->jL
noncomputable section
set_option Elab.async false
set_option linter.all false
set_option maxRecDepth 100000
namespace L2
open PySem PySem.Spec PyProof.Rows
abbrev Key:=Sum Int Str
def uQ:Key->ae->Bool
 |.inl k,v=>Value.isInt k v
 |.inr x,v=>Value.isStrOf x v
def keyH(w:aU):Key->Int
 |.inl k=>hashInt k
 |.inr x=>hashStr w x
def ku:∀{k:Key}{v:ae},uQ k v=true->(∃i t,k=gT i/\v=gh i t)\/(∃x t,k=am x/\v=fC x t)
 |.inl i,v,h=>by
  obtain⟨t,e⟩:=Value.isInt_shape (k:=i) (v:=v) h;exact .inl ⟨i,t,rfl,e⟩
 |.inr x,v,h=>by obtain⟨t,e⟩:=Value.isStrOf_shape (x:=x) (v:=v) h;exact .inr ⟨x,t,rfl,e⟩
def Ad(i:Int)(t:Tok):uQ (.inl i) (.int i t)=true:=by simp[uQ,Value.isInt]
def Ac(x:Str)(t:Tok):uQ (.inr x) (.str x t)=true:=by simp[uQ,Value.isStrOf]
def Gc(a b:Int):decide ((gT a:Key)=gT b)=(a==b):=by
 by_cases e:a=b
 ·subst e;simp
 ·have h:¬(gT a:Key)=gT b:=fun q=>e (Sum.inl.inj q);rw[decide_eq_false h];exact(beq_eq_false_iff_ne.mpr e).symm
def uG(a b:Str):decide ((am a:Key)=am b)=decide (a=b):=by
 by_cases e:a=b
 ·subst e;simp
 ·have h:¬(am a:Key)=am b:=fun q=>e (dw q);rw[decide_eq_false h,decide_eq_false e]
def Ga(a:Int)(b:Str):decide ((gT a:Key)=am b)=false:=decide_eq_false (fun q=>nomatch q)
def F9(a:Str)(b:Int):decide ((am a:Key)=gT b)=false:=decide_eq_false (fun q=>nomatch q)
def kG(prog:az)(w:aU):PySem.KeyKind prog w Key where
 is:=uQ
 hash:=keyH w
 inj:=fun v a b ha hb=>by
  rcases ku ha with⟨i,t,rfl,rfl⟩|⟨x,t,rfl,rfl⟩
  ·rcases ku hb with⟨j,u,rfl,e⟩|⟨y,u,rfl,e⟩
   ·injection e with e1 _;rw[e1]
   ·exact nomatch e
  ·rcases ku hb with⟨j,u,rfl,e⟩|⟨y,u,rfl,e⟩
   ·exact nomatch e
   ·injection e with e1 _;rw[e1]
 byValue:=fun k v h=>by rcases ku h with⟨i,t,rfl,rfl⟩|⟨x,t,rfl,rfl⟩<;>rfl
 pyHash:=fun hv h=>by
  rcases ku hv with⟨i,t,rfl,rfl⟩|⟨x,t,rfl,rfl⟩
  ·exact wpAny_pyHash_int h
  ·exact wpAny_pyHash_str h
 eqBool:=fun hu hv h=>by
  rcases ku hu with⟨i,t,rfl,rfl⟩|⟨x,t,rfl,rfl⟩
  ·rcases ku hv with⟨j,u,rfl,rfl⟩|⟨y,u,rfl,rfl⟩
   ·rw[Gc] at h;exact wpAny_eqBool_int h
   ·rw[Ga] at h;exact iL i t y u _ _ _ _ h
  ·rcases ku hv with⟨j,u,rfl,rfl⟩|⟨y,u,rfl,rfl⟩
   ·rw[F9] at h;exact iK x t j u _ _ _ _ h
   ·rw[uG] at h;exact wpAny_eqBool_str h
 «strs»:=fun k x t v h=>by
  rcases ku h with⟨i,u,rfl,e⟩|⟨y,u,rfl,e⟩
  ·exact nomatch e
  ·injection e with e1 _
   subst e1;cases v<;>rfl
def wT(prog:az)(w:aU)(i:Int)(t:Tok):(kG prog w).is (.inl i) (.int i t)=true:=Ad i t
def wS(prog:az)(w:aU)(x:Str)(t:Tok):(kG prog w).is (.inr x) (.str x t)=true:=Ac x t
inductive V where
 |non|bl (b:Bool)|int (i:Int)|str (x:Str)|byt (b:Array UInt8)|flt (b:UInt64)|ref (a:ac)|ty (n:String)
 deriving DecidableEq
def RelV:V->ae->Prop
 |.non,u=>u=gC
 |.bl b,u=>u=ik b
 |.int i,u=>∃t,u=gh i t
 |.str x,u=>∃t,u=fC x t
 |.byt b,u=>∃t,u=Value.bytes b t
 |.flt b,u=>∃t,u=ja b t
 |.ref a,u=>u=aV a
 |.ty n,u=>u=Value.type n
abbrev Vals:List V->List ae->Prop:=eM RelV
theorem Vals.length{xs:List V}{us:List ae}(r:Vals xs us):xs.length=us.length:=iq r
theorem Vals.get:∀{xs:List V}{us:List ae}{i:Nat}{x:V},Vals xs us->xs[i]?=some x->∃u,us[i]?=some u/\RelV x u
 |_,_,_,_,.nil,e=>by simp at e
 |_,_,0,_,.cons r _,e=>by simp at e;subst e;exact⟨_,rfl,r⟩
 |_,_,i+1,x,.cons _ t,e=>by obtain⟨u,h1,h2⟩:=Vals.get (i:=i) (x:=x) t (by simpa using e);exact⟨u,by simpa using h1,h2⟩
theorem Vals.set{x:V}{u:ae}(r:RelV x u):∀{xs:List V}{us:List ae}(i:Nat),Vals xs us->Vals (xs.set i x) (us.set i u)
 |_,_,_,.nil=>.nil
 |_,_,0,.cons _ t=>.cons r t
 |_,_,i+1,.cons q t=>.cons q (Vals.set r i t)
theorem Vals.append:∀{xs ys:List V}{us ws:List ae},Vals xs us->Vals ys ws->Vals (xs++ys) (us++ws)
 |_,_,_,_,.nil,s=>s
 |_,_,_,_,.cons r t,s=>.cons r (Vals.append t s)
theorem Vals.take:∀{xs:List V}{us:List ae}(n:Nat),Vals xs us->Vals (xs.take n) (us.take n)
 |_,_,0,_=>.nil
 |_,_,_+1,.nil=>.nil
 |_,_,n+1,.cons r t=>.cons r (Vals.take n t)
theorem Vals.drop:∀{xs:List V}{us:List ae}(n:Nat),Vals xs us->Vals (xs.drop n) (us.drop n)
 |_,_,0,r=>r
 |_,_,_+1,.nil=>.nil
 |_,_,n+1,.cons _ t=>Vals.drop n t
def RelO:Option V->Option ae->Prop
 |some v,some u=>RelV v u
 |none,none=>True
 |_,_=>False
def KV{κ:Type}:List (κ×V)->List (κ×ae)->Prop:=eM fun(p:κ×V)(q:κ×ae)=>p.1=q.1/\RelV p.2 q.2
def kV:Key->V
 |.inl i=>.int i
 |.inr x=>.str x
inductive HO where
 /-- a list -/
 |lst (xs:List V)
 /-- a tuple (never changes) -/
 |tup (xs:List V)
 /-- a dict whose keys are ints and texts;one whose keys are tuples of ints and texts (the empty one is both) -/
 |dK (kvs:List (Key×V))|dT (kvs:List (List Key×V))
 /-- a set of ints: its members,its size -/
 |set (S:Int->Bool) (n:Nat)
 /-- an instance of the class at C,its dict at dx,its attributes -/
 |ins (C dx:ac) (fs:List (Str×V))
 /-- the dict of the instance at x -/
 |own (x:ac)
 /-- the dict of an exception -/
 |xd (fs:List (Str×V))
 /-- a bound method,f of x -/
 |met (f x:ac)
 /-- a range object lo,lo+1,.. below hi -/
 |rng (lo hi:Int)
 /-- a thing that is known to the object (the script;a dict while a JD walks it): read,never written while it is so -/
 |frz (o:Obj) (u:HO)
 /-- a code object's table -/
 |tbl (ps:Array ae)
 /-- any IG thing,by what is true of its one object (a def of one's own: SetO a S n:=HO.ext fun h=>..) -/
 |ext (φ:ba->Prop)
abbrev Hp:=ac->Option HO
def upd(H:Hp)(a:ac)(o:HO):Hp:=fun b=>if b=a then some o else H b
def jR{H:Hp}{a:ac}{o:HO}:upd H a o a=some o:=by unfold upd;rw[if_pos rfl]
def jN{H:Hp}{a b:ac}{o:HO}(h:b≠a):upd H a o b=H b:=by unfold upd;rw[if_neg h]
def CV{H:Hp}{a:ac}{o u:HO}:upd (upd H a o) a u=upd H a u:=by
 funext b;unfold upd;split<;>rfl
def yq{H:Hp}{a b:ac}{o u:HO}(h:H a=some o)(h':H b=some u)(d:o≠u):a≠b:=by intro e;subst e;rw[h] at h';exact d (aO h')
def jY{H:Hp}{a b:ac}{o:HO}(h:H a=some o)(h':H b=none):a≠b:=by intro e;subst e;rw[h] at h';cases h'
section
variable(P:az)(w:aU)
def ObjOk(H:Hp)(h:ba)(a:ac):HO->Prop
 |.lst xs=>xs.length<=aB/\∃(its:List ae)(n:Nat),Vals xs its/\h.get? a=some { cls:=.type "list",data:=.seq its.toArray n }
 |.tup xs=>xs.length<=aB/\∃its:List ae,Vals xs its/\IsTup h a its.toArray
 |.dK kvs=>kvs.length<=aB/\(a==du)=false/\∃vs,KV kvs vs/\h.DictOf (kG P w) a vs
 |.dT kvs=>kvs.length<=aB/\(a==du)=false/\∃xs:List (List Key×ac×ae),
   eM (fun(p:List Key×V)(q:List Key×ac×ae)=>p.1=q.1/\H q.2.1=some (.tup (p.1.map kV))/\RelV p.2 q.2.2) kvs xs /\
   ∃o es ep,h.get? a=some o/\o.ExactDict/\o.data=.dict es ep/\es.toList=xs.map (entryOfKey (gO (kG P w)))/\(xs.map (·.1)).Nodup
 |.set S n=>h.SetOf (intKind P w) a S n
 |.ins C dx fs=>H dx=some (.own a)/\fs.length<=1000/\dx≠a/\h.get? a=some (cz C dx) /\
   ∃mA,h.Ns1 dx mA/\(∀f,RelO (fs.lookup f) (mA f))/\iO mA (fs.map (·.1))
 |.own _=>∃o,h.get? a=some o
 |.xd fs=>∃mA,h.Ns1 a mA/\∀f,RelO (fs.lookup f) (mA f)
 |.rng lo hi=>∃t u v,h.get? a=some { cls:=.type "range",data:=.fields #[.int lo t,.int hi u,.int 1 v] }
 |.frz o u=>h.get? a=some o/\ObjOk H h a u
 |.tbl ps=>h.get? a=some { cls:=.none,data:=.fields ps }
 |.met f x=>h.get? a=some (gz (.ref f) (.ref x))
 |.ext φ=>φ h/\(∃o,h.get? a=some o)/\∀h1 h2:ba,φ h1->(∀o,h1.get? a=some o->h2.get? a=some o)->φ h2
def HOk(H:Hp)(h:ba):Prop:=∀a o,H a=some o->ObjOk P w H h a o
end
section
variable{P:az}{w:aU}{H H':Hp}{h h':ba}{a:ac}{o:HO}
theorem ObjOk.lt(x:ObjOk P w H h a o):a<h.objs.size:=by
 cases o with
 |lst xs=>obtain⟨_,_,_,_,e⟩:=x;exact aE e
 |tup xs=>obtain⟨_,_,_,p⟩:=x;exact p.lt
 |dK kvs=>obtain⟨_,_,_,_,o,_,_,e,_⟩:=x;exact aE e
 |dT kvs=>obtain⟨_,_,_,_,o,_,_,e,_⟩:=x;exact aE e
 |set S n=>obtain⟨o,_,_,_,e,_⟩:=x;exact aE e
 |ins C dx fs=>obtain⟨_,_,_,e,_⟩:=x;exact aE e
 |own y=>obtain⟨_,e⟩:=x;exact aE e
 |xd fs=>obtain⟨_,⟨_,_,_,e,_⟩,_⟩:=x;exact aE e
 |rng lo hi=>obtain⟨_,_,_,e⟩:=x;exact aE e
 |frz ob u=>obtain⟨e,_⟩:=x;exact aE e
 |tbl ps=>exact aE (show h.get? a=some _ from x)
 |met f y=>exact aE (show h.get? a=some _ from x)
 |ext φ=>obtain⟨_,⟨_,e⟩,_⟩:=x;exact aE e
theorem eM.mapP{α β:Type}{F G:α->β->Prop}:∀{la1:List α}{la2:List β},eM F la1 la2->(∀a b,F a b->G a b)->eM G la1 la2
 |_,_,.nil,_=>.nil
 |_,_,.cons r t,f=>.cons (f _ _ r) (eM.mapP t f)
def ObjOk.stay(x:ObjOk P w H h a o)(k:∀b u,(b=a\/H b=some (.own a))->h.get? b=some u->h'.get? b=some u)(ho:∀b,H b=some (.own a)->H' b=some (.own a))(ht:∀b xs,H b=some (.tup xs)->H' b=some (.tup xs)):ObjOk P w H' h' a o:=by
 induction o with
 |lst xs=>obtain⟨z,its,n,r,e⟩:=x;exact⟨z,its,n,r,k _ _ (.inl rfl) e⟩
 |tup xs=>obtain⟨z,its,r,ob,e,c⟩:=x;exact⟨z,its,r,ob,k _ _ (.inl rfl) e,c⟩
 |dK kvs=>obtain⟨z,y,vs,r,ob,es,ep,e,c⟩:=x;exact⟨z,y,vs,r,ob,es,ep,k _ _ (.inl rfl) e,c⟩
 |dT kvs =>
  obtain⟨z,y,xs,r,ob,es,ep,e,c⟩:=x;exact⟨z,y,xs,eM.mapP r fun p q z=>⟨z.1,ht _ _ z.2.1,z.2.2⟩,ob,es,ep,k _ _ (.inl rfl) e,c⟩
 |set S n=>obtain⟨ob,es,ep,t,e,c⟩:=x;exact⟨ob,es,ep,t,k _ _ (.inl rfl) e,c⟩
 |ins C dx fs =>
  obtain⟨d,z,ne,e,mA,⟨od,es,ep,e2,c⟩,r⟩:=x;exact⟨ho _ d,z,ne,k _ _ (.inl rfl) e,mA,⟨od,es,ep,k _ _ (.inr d) e2,c⟩,r⟩
 |own y=>obtain⟨ob,e⟩:=x;exact⟨ob,k _ _ (.inl rfl) e⟩
 |xd fs=>obtain⟨mA,⟨od,es,ep,e,c⟩,r⟩:=x;exact⟨mA,⟨od,es,ep,k _ _ (.inl rfl) e,c⟩,r⟩
 |rng lo hi=>obtain⟨t,u,v,e⟩:=x;exact⟨t,u,v,k _ _ (.inl rfl) e⟩
 |frz ob u ih=>obtain⟨e,q⟩:=x;exact⟨k _ _ (.inl rfl) e,ih q⟩
 |tbl ps =>
  have e:h.get? a=some { cls:=.none,data:=.fields ps }:=x;show h'.get? a=some { cls:=.none,data:=.fields ps };exact k a _ (.inl rfl) e
 |met f y =>
  have e:h.get? a=some (gz (.ref f) (.ref y)):=x;show h'.get? a=some (gz (.ref f) (.ref y));exact k a _ (.inl rfl) e
 |ext φ=>obtain⟨p,⟨o,e⟩,st⟩:=x;exact⟨st _ _ p fun o q=>k _ _ (.inl rfl) q,⟨o,k _ _ (.inl rfl) e⟩,st⟩
theorem HOk.lt(x:HOk P w H h)(e:H a=some o):a<h.objs.size:=(x a o e).lt
def HOk.fresh(x:HOk P w H h)(e:h.objs.size<=a):H a=none:=by
 cases q:H a with
 |none=>rfl
 |some u=>exact absurd (au (x.lt q) e) (cO _)
def HOk.kept(x:HOk P w H h)(k:∀b u,h.get? b=some u->h'.get? b=some u):HOk P w H h':=fun a o e =>
 (x a o e).stay (fun b u _ q=>k b u q) (fun _ q=>q) fun _ _ q=>q
def HOk.laid(x:HOk P w H h)(k:∀b u,h.get? b=some u->h'.get? b=some u)(hp:h.objs.size<=a)(new:ObjOk P w (upd H a o) h' a o):HOk P w (upd H a o) h':=fun b u e=>by
 have hn:=x.fresh hp;by_cases hb:b=a
 ·subst hb;rw[jR] at e;cases e;exact new
 ·rw[jN hb] at e;exact(x b u e).stay (fun c v _ q=>k c v q) (fun c q=>by rw[jN (jY q hn)];exact q) fun c xs q=>by rw[jN (jY q hn)];exact q
end
def Rd(H:Hp)(a:ac)(u:HO):Prop:=H a=some u\/∃o,H a=some (.frz o u)
def Rd.ok{P:az}{w:aU}{H:Hp}{h:ba}{a:ac}{u:HO}(r:Rd H a u)(x:HOk P w H h):ObjOk P w H h a u:=by
 rcases r with r|⟨o,r⟩
 ·exact x a u r
 ·obtain⟨_,q⟩:=x a _ r;exact q
def Mut:Option HO->Prop
 |some (.lst _)=>True
 |some (.dK _)=>True
 |some (.dT _)=>True
 |some (.set _ _)=>True
 |some (.ins _ _ _)=>True
 |some (.ext _)=>True
 |_=>False
section
variable{P:az}{w:aU}{H:Hp}{h h':ba}{x e:ac}{o':HO}
def HOk.write(ok:HOk P w H h)(mu:Mut (H x))(he:e=x\/H e=some (.own x))(k:∀b u,b≠e->h.get? b=some u->h'.get? b=some u)(J5:∃u,h'.get? e=some u)(new:ObjOk P w (upd H x o') h' x o'):HOk P w (upd H x o') h':=fun b u q=>by
 have Kj:∀c y,H c=some (.own y)->c≠x:=fun c y r z=>by subst z;rw[r] at mu;exact mu
 have LR:∀c xs,H c=some (.tup xs)->c≠x:=fun c xs r z=>by subst z;rw[r] at mu;exact mu
 by_cases hb:b=x
 ·subst hb;rw[jR] at q;cases q;exact new
 ·rw[jN hb] at q;by_cases hbe:b=e
  ·have q':H b=some (.own x):=by
    rcases he with z|z
    ·exact absurd (hbe.trans z) hb
    ·rw[hbe];exact z
   rw[q] at q';cases q';obtain⟨v,hv⟩:=J5;exact⟨v,by rw[hbe];exact hv⟩
  ·refine(ok b u q).stay (fun c v hc r=>k c v ?_ r) (fun c r=>by rw[jN (Kj c b r)];exact r) fun c xs r=>by rw[jN (LR c xs r)];exact r
   rcases hc with rfl|hc
   ·exact hbe
   ·rintro rfl
    rcases he with z|z
    ·exact Kj c b hc z
    ·rw[hc] at z;cases z;exact hb rfl
end
structure Un(fs ex:List ac)(H H':Hp)(h h':ba):Prop where
 keep:∀b o,h.get? b=some o->H b=none->b∉fs->b∉ex->h'.get? b=some o
 slot:∀b o,h.get? b=some o->H b=none->b∈fs->b∉ex->∃sl,h'.get? b=some { o with slots:=sl }
 free:∀b o,h.get? b=some o->H b=none->b∉ex->H' b=none
 there:∀b o,h.get? b=some o->b∉ex->∃o',h'.get? b=some o'
 tups:∀b xs,H b=some (.tup xs)->H' b=some (.tup xs)
 frzs:∀b o u,H b=some (.frz o u)->H' b=some (.frz o u)
 tbls:∀b ps,H b=some (.tbl ps)->∃more,H' b=some (.tbl (ps++more))
section
variable{fs JV ex Lu:List ac}{H H1 H2:Hp}{h h1 h2 h':ba}{a x e:ac}{o:HO}
def Un.any(u:Un fs ex H H1 h h1){b:ac}{ob:Obj}(q:h.get? b=some ob)(n:H b=none)(hx:b∉ex):∃sl,h1.get? b=some { ob with slots:=sl }:=by
 by_cases hb:b∈fs
 ·exact u.slot b ob q n hb hx
 ·exact⟨ob.slots,u.keep b ob q n hb hx⟩
def Un.kept(k:∀b u,h.get? b=some u->h'.get? b=some u):Un fs ex H H h h' :=
 ⟨fun b ob q _ _ _=>k b ob q,fun b ob q _ _ _=>⟨ob.slots,k b ob q⟩,fun _ _ _ n _=>n,fun b ob q _=>⟨ob,k b ob q⟩,fun _ _ q=>q,fun _ _ _ q=>q,fun _ ps q=>⟨#[],by rw[q];simp⟩⟩
def Un.refl:Un fs ex H H h h:=Un.kept fun _ _ q=>q
def Un.laid(k:∀b u,h.get? b=some u->h'.get? b=some u)(hp:h.objs.size<=a)(hn:H a=none):Un fs ex H (upd H a o) h h' where
 keep:=fun b u q _ _ _=>k b u q
 slot:=fun b u q _ _ _=>⟨u.slots,k b u q⟩
 free:=fun b u q n _=>by rw[jN (aT (au (aE q) hp))];exact n
 there:=fun b u q _=>⟨u,k b u q⟩
 tups:=fun b xs q=>by rw[jN (jY q hn)];exact q
 frzs:=fun b u xs q=>by rw[jN (jY q hn)];exact q
 tbls:=fun b ps q=>⟨#[],by rw[jN (jY q hn),q];simp⟩
def Un.write(mu:Mut (H x))(he:e=x\/H e=some (.own x))(k:∀b u,b≠e->h.get? b=some u->h'.get? b=some u)(J5:∃u,h'.get? e=some u):Un fs ex H (upd H x o) h h':=by
 have hx:∀b,H b=none->b≠x:=fun b n z=>by subst z;rw[n] at mu;exact mu
 have hb:∀b,H b=none->b≠e:=fun b n z=>by
  subst z;rcases he with r|r
  ·exact hx b n r
  ·rw[n] at r;cases r
 have hm:∀b u,H b=some u->¬Mut (some u)->b≠x:=fun b u q nm z=>by subst z;rw[q] at mu;exact nm mu
 refine⟨fun b u q n _ _=>k b u (hb b n) q,fun b u q n _ _=>⟨u.slots,k b u (hb b n) q⟩,fun b u q n _=>by rw[jN (hx b n)];exact n,fun b u q _=>?_,
  fun b xs q=>by rw[jN (hm b _ q fun z=>z)];exact q,fun b u xs q=>by rw[jN (hm b _ q fun z=>z)];exact q,fun b ps q=>⟨#[],by rw[jN (hm b _ q fun z=>z),q];simp⟩⟩
 by_cases hbe:b=e
 ·subst hbe;exact J5
 ·exact⟨u,k b u hbe q⟩
end
def trk(h:ba)(H:Hp):List ac:=(bi h.objs.size).filter fun a=>(H a).isSome
def yA(h:ba)(H:Hp):ba:=fE h (trk h H)
def Ag(h:ba)(H:Hp):(yA h H).objs.size=h.objs.size:=PySem.W.hideAll_size _ _
def Bu{h:ba}{H:Hp}{b:ac}{o:Obj}(e:h.get? b=some o)(n:H b=none):(yA h H).get? b=some o :=
 iT _ e fun hm=>by have q:(H b).isSome=true:=(cN.mp hm).2;rw[n] at q;simp at q
def Dz{h:ba}{H:Hp}{b:ac}{o:Obj}(e:(yA h H).get? b=some o):h.get? b=some o/\H b=none:=by
 have e':h.get? b=some o:=i8 (trk h H) e;refine⟨e',?_⟩;cases q:H b with
 |none=>rfl
 |some x =>
  have hm:b∈trk h H:=cN.mpr ⟨cX.mpr (aE e'),by simp[q]⟩;have z:(yA h H).get? b=none:=PySem.W.hideAll_none (trk h H) hm;rw[z] at e;cases e
def EE(g h:ba)(L:ac):List (ac×Obj):=(bi h.objs.size).filterMap fun a=>if a=L\/(g.get? a).isSome=true then none else(h.get? a).map fun o=>(a,o)
def lY(g h:ba)(L d:ac):List (ac×Obj):=(EE g h L).filter fun p=>decide (p.1≠d)
structure Mod(K:aa)(mg:Str->Option ae)(base:ba):Prop where
 kin:K.In base
 glob:base.Ns aS mg
 blt:∃mb,base.Ns g9 mb/\∀x:Str,x≠"__name__"->mb x=bj x
 nolimit:base.NoLimit
structure Cx where
 prog:az
 w:aU
 K:aa
 mg:Str->Option ae
 base:ba
 A:bx
 N:List Str
 sa0:ah
 Ha0:Hp
 env:Env
 outer:List Env
 stack:List Env
 ex:List ac
 fn:Str->Bool
 calm:Bool
 pn:List (ac×Obj)
 xe:ae->ah->Prop
def frs(l:List Env):List ac:=l.filterMap (·.frame)
abbrev Cx.fs(X:Cx):List ac:=frs X.outer
def Vis(sc:cA)(x:Str):Prop:=sc.names.lookup x=some .local\/sc.names.lookup x=some .cell\/sc.names.lookup x=some .free
def Loc(sc:cA)(x:Str):Prop:=sc.names.lookup x=some .local\/sc.names.lookup x=some .cell
def Look(env:Env)(h:ba)(m:Str->Option ae)(x:Str)(u:ae):Prop :=
 (env.kindOf x=some .local/\m x=some u)\/((env.kindOf x=some .cell\/env.kindOf x=some .free)/\∃c,env.cells.lookup x=some c/\h.IsCell c (some u))
structure Cx.Ok(X:Cx):Prop where
 mod:Mod X.K X.mg X.base
 kind:X.env.scope.kind=.function
 glob:X.env.globals=aS
 blt:X.env.builtins=g9
 above:X.sa0.heap.objs.size<=X.env.locals
 inj:∀x y c,X.env.cells.lookup x=some c->X.env.cells.lookup y=some c->x=y
 has:∀x,(X.env.kindOf x=some .cell\/X.env.kindOf x=some .free)->∃c,X.env.cells.lookup x=some c
 cab:∀x c,X.fn x=true->X.env.cells.lookup x=some c->X.sa0.heap.objs.size<=c
 hd:X.calm=true->X.A.handled=none
 frames:X.A.frames=some X.stack
 stk:X.stack=X.outer\/(X.stack=X.env::X.outer/\X.env.frame=some X.env.locals)
 exf:∀b∈X.ex,b≠X.env.locals/\∀x c,X.env.cells.lookup x=some c->c≠b
 bs:∀b o,X.base.get? b=some o->X.sa0.heap.get? b=some o/\X.Ha0 b=none
 bsz:X.base.objs.size<=X.sa0.heap.objs.size
 noex:∀b o,X.base.get? b=some o->b∉X.ex
 exfs:∀b∈X.ex,b∉X.fs
 funs:X.sa0.heap.FunFrames X.base X.outer
 frf:∀b∈X.fs,X.Ha0 b=none
structure Inv(X:Cx)(GX:List (ac×Obj))(σ:List (Option V))(H:Hp)(s:ah):Prop where
 ok:X.Ok
 os:s.os=X.sa0.os
 bare:fO s.gens
 base:Un X.fs X.ex X.Ha0 H X.sa0.heap s.heap
 loc:∃m,s.heap.Ns X.env.locals m/\∀(i:Nat)(x:Str)(v:V),X.N[i]?=some x->σ[i]?=some (some v)->Vis X.env.scope x->∃u,RelV v u/\Look X.env s.heap m x u
 cell:∀x c,X.env.cells.lookup x=some c->∃v,s.heap.IsCell c v
 free:H X.env.locals=none
 freeC:∀x c,X.env.cells.lookup x=some c->H c=none
 pin:∀p∈X.pn++GX,s.heap.get? p.1=some p.2/\H p.1=none/\p.1≠X.env.locals/\p.1∉X.fs/\∀v,p.2.data≠.cell v
 hok:HOk X.prog X.w H s.heap
 len:σ.length=X.N.length
section
variable{X:Cx}{GX:List (ac×Obj)}{σ:List (Option V)}{H H':Hp}{s:ah}{h':ba}
def Cx.Ok.nofr(ok:X.Ok){b:ac}{o:Obj}(e:X.base.get? b=some o):b∉X.fs:=fun hb=>by have:=(ok.funs.mem hb).1;rw[e] at this;cases this
theorem Inv.bs(I:Inv X GX σ H s):∀b o,X.base.get? b=some o->s.heap.get? b=some o/\H b=none:=fun b o e =>
 ⟨I.base.keep b o (I.ok.bs b o e).1 (I.ok.bs b o e).2 (I.ok.nofr e) (I.ok.noex b o e),I.base.free b o (I.ok.bs b o e).1 (I.ok.bs b o e).2 (I.ok.noex b o e)⟩
def Inv.bk(I:Inv X GX σ H s):∀b o,X.base.get? b=some o->s.heap.get? b=some o:=fun b o e=>(I.bs b o e).1
theorem Inv.mod(I:Inv X GX σ H s):Mod X.K X.mg X.base:=I.ok.mod
def Inv.kIn(I:Inv X GX σ H s):X.K.In s.heap:=I.ok.mod.kin.keeps I.bk
theorem Inv.lt(I:Inv X GX σ H s):X.env.locals<s.heap.objs.size:=let⟨_,hn,_⟩:=I.loc;hn.lt
def Inv.sz(I:Inv X GX σ H s):X.sa0.heap.objs.size<=s.heap.objs.size:=aC I.ok.above (dU I.lt)
def Inv.nofs(I:Inv X GX σ H s){a:ac}(h:s.heap.objs.size<=a):a∉X.fs:=fun hb=>by obtain⟨_,o,ho,_⟩:=I.ok.funs.mem hb;exact absurd (au (aE ho) (aC I.sz h)) (cO _)
def Inv.cne(I:Inv X GX σ H s):∀x c,X.env.cells.lookup x=some c->c≠X.env.locals:=fun x c e z=>by obtain⟨v,o,ho,hd⟩:=I.cell x c e;obtain⟨m,⟨o',es,ep,Jg,MD,_⟩,_⟩:=I.loc;rw[z,Jg] at ho;cases ho;rw[MD] at hd;cases hd
theorem Inv.funs(I:Inv X GX σ H s):s.heap.FunFrames X.base X.outer:=by
 have all:∀(l:List Env),(∀b∈frs l,b∈X.fs)->X.sa0.heap.FunFrames X.base l->s.heap.FunFrames X.base l:=by
  intro l;induction l with
  |nil=>intro _ _;trivial
  |cons env r ih =>
   intro hs hl;obtain⟨hk,⟨L,o,hf,hn,ho,hd⟩,hr⟩:=hl;have hL:L∈X.fs:=hs L (by unfold frs;rw[dq,hf];exact ap);obtain⟨sl,e⟩:=I.base.slot L o ho (I.ok.frf L hL) hL fun z=>I.ok.exfs L z hL;exact⟨hk,⟨L,_,hf,hn,e,hd⟩,ih (fun b hb=>hs b (by unfold frs;rw[dq,hf];exact ak _ hb)) hr⟩
 exact all X.outer (fun _ hb=>hb) I.ok.funs
theorem Inv.stack(I:Inv X GX σ H s):s.heap.FunFrames X.base X.stack:=by
 rcases I.ok.stk with e|⟨e,hf⟩
 ·rw[e];exact I.funs
 ·rw[e];obtain⟨m,hn,_⟩:=I.loc;refine .cons (by rw[I.ok.kind];decide) hf hn ?_ I.funs;exact Heap.get?_none_of_le (aC I.ok.bsz I.ok.above)
def Inv.stkSub(I:Inv X GX σ H s):∀b∈frs X.stack,b∈X.env.locals::X.fs:=fun b hb=>by
 rcases I.ok.stk with e|⟨e,hf⟩
 ·rw[e] at hb;exact ak _ hb
 ·rw[e] at hb;unfold frs at hb;rw[dq,hf] at hb;exact hb
def Inv.stkFree(I:Inv X GX σ H s):∀b∈frs X.stack,H b=none:=fun b hb=>by
 rcases aj.mp (I.stkSub b hb) with e|hb
 ·rw[e];exact I.free
 ·obtain⟨_,o,ho,_⟩:=I.ok.funs.mem hb;exact I.base.free b o ho (I.ok.frf b hb) fun z=>I.ok.exfs b z hb
def Inv.step{g':Array jb}{t':Nat}{d':Drawn}{ch:List ac}(I:Inv X GX σ H s)(IF:∀b∈ch,(b∈X.ex\/X.sa0.heap.objs.size<=b)/\b≠X.env.locals/\(∀x c,X.env.cells.lookup x=some c->c≠b)/\∀p∈X.pn++GX,p.1≠b)(keep:∀b o,b≠X.env.locals->b∉X.fs->b∉ch->s.heap.get? b=some o->H b=none->h'.get? b=some o)(slot:∀b o,b≠X.env.locals->b∈X.fs->b∉ch->s.heap.get? b=some o->H b=none->∃sl,h'.get? b=some { o with slots:=sl })(free:∀b o,b∉ch->s.heap.get? b=some o->H b=none->H' b=none)(there:∀b o,b∉ch->s.heap.get? b=some o->∃o',h'.get? b=some o')(tups:∀b xs,H b=some (.tup xs)->H' b=some (.tup xs))(frzs:∀b o u,H b=some (.frz o u)->H' b=some (.frz o u))(tbls:∀b ps,H b=some (.tbl ps)->∃more,H' b=some (.tbl (ps++more)))(ns:∀m,s.heap.Ns X.env.locals m->h'.Ns X.env.locals m)(hok:HOk X.prog X.w H' h')(hg:fO g') :
  Inv X GX σ H' { s with heap:=h',gens:=g',drawn:=d',toks:=t' }:=by
 have neL:∀b o,X.sa0.heap.get? b=some o->b≠X.env.locals:=fun b o e=>aT (au (aE e) I.ok.above);have Lh:∀b o,X.sa0.heap.get? b=some o->b∉X.ex->b∉ch:=fun b o e hx hb=>by
  rcases(IF b hb).1 with z|z
  ·exact hx z
  ·exact absurd (au (aE e) z) (cO _)
 have Jz:∀x c,X.env.cells.lookup x=some c->∀v,s.heap.IsCell c v->h'.IsCell c v:=fun x c e v ⟨o,ho,hd⟩=>by
  have Km:c∉ch:=fun z=>(IF c z).2.2.1 x c e rfl;by_cases hc:c∈X.fs
  ·obtain⟨sl,q⟩:=slot c o (I.cne x c e) hc Km ho (I.freeC x c e);exact⟨_,q,hd⟩
  ·exact⟨o,keep c o (I.cne x c e) hc Km ho (I.freeC x c e),hd⟩
 refine⟨I.ok,I.os,hg,⟨fun b o e n hb hx=>?_,fun b o e n hb hx=>?_,fun b o e n hx=>?_,fun b o e hx=>?_,fun b xs e=>tups b xs (I.base.tups b xs e),fun b o xs e=>frzs b o xs (I.base.frzs b o xs e),fun b ps e=>?_⟩,?_,fun x c e=>?_,?_,fun x c e=>?_,fun p hp=>?_,hok,I.len⟩
 ·exact keep b o (neL b o e) hb (Lh b o e hx) (I.base.keep b o e n hb hx) (I.base.free b o e n hx)
 ·obtain⟨sl,e1⟩:=I.base.slot b o e n hb hx;obtain⟨sl',e2⟩:=slot b _ (neL b o e) hb (Lh b o e hx) e1 (I.base.free b o e n hx);exact⟨sl',e2⟩
 ·obtain⟨o',e1⟩:=I.base.there b o e hx;exact free b o' (Lh b o e hx) e1 (I.base.free b o e n hx)
 ·obtain⟨o',e1⟩:=I.base.there b o e hx;exact there b o' (Lh b o e hx) e1
 ·obtain⟨m1,e1⟩:=I.base.tbls b ps e;obtain⟨m2,e2⟩:=tbls b _ e1;exact⟨m1++m2,by rw[e2,jB]⟩
 ·obtain⟨m,hn,hl⟩:=I.loc;refine⟨m,ns m hn,fun i x v e1 e2 e3=>?_⟩;obtain⟨u,r,l⟩:=hl i x v e1 e2 e3;refine⟨u,r,?_⟩;rcases l with l|⟨k,c,e,z⟩
  ·exact .inl l
  ·exact .inr ⟨k,c,e,Jz x c e _ z⟩
 ·obtain⟨v,z⟩:=I.cell x c e;exact⟨v,Jz x c e v z⟩
 ·obtain⟨m,⟨o,_,_,ho,_⟩,_⟩:=I.loc;exact free _ o (fun z=>(IF _ z).2.1 rfl) ho I.free
 ·obtain⟨v,o,ho,hd⟩:=I.cell x c e;exact free c o (fun z=>(IF c z).2.2.1 x c e rfl) ho (I.freeC x c e)
 ·obtain⟨e,n,ne,nf,d⟩:=I.pin p hp;have Km:p.1∉ch:=fun z=>(IF p.1 z).2.2.2 p hp rfl;exact⟨keep p.1 p.2 ne nf Km e n,free p.1 p.2 Km e n,ne,nf,d⟩
def Inv.un{t':Nat}(I:Inv X GX σ H s)(u:Un X.fs [] H H' s.heap h')(hok:HOk X.prog X.w H' h'):Inv X GX σ H' { s with heap:=h',toks:=t' }:=by
 obtain⟨m,⟨o,es,ep,ho,r⟩,_⟩:=id I.loc;obtain⟨sl,hL⟩:=u.any ho I.free (by simp);exact I.step (g':=s.gens) (d':=s.drawn) (ch:=[]) (fun _ z=>nomatch z) (fun b o _ hb _ e n=>u.keep b o e n hb (by simp)) (fun b o _ hb _ e n=>u.slot b o e n hb (by simp)) (fun b o _ e n=>u.free b o e n (by simp)) (fun b o _ e=>u.there b o e (by simp)) u.tups u.frzs u.tbls (fun m' hm=>by obtain⟨o',MT,Lv,Jg,r'⟩:=hm;rw[ho] at Jg;cases Jg;exact⟨_,MT,Lv,hL,r'⟩) hok I.bare
def Inv.call{g':Array jb}{t':Nat}{d':Drawn}{ch:List ac}(I:Inv X GX σ H s)(u:Un (frs X.stack) ch H H' s.heap h')(hok:HOk X.prog X.w H' h')(hg:fO g')(IF:∀b∈ch,(b∈X.ex\/X.sa0.heap.objs.size<=b)/\b≠X.env.locals/\(∀x c,X.env.cells.lookup x=some c->c≠b)/\∀p∈X.pn++GX,p.1≠b) :
  Inv X GX σ H' { s with heap:=h',gens:=g',drawn:=d',toks:=t' }:=by
 obtain⟨m,⟨o,es,ep,ho,r⟩,_⟩:=id I.loc;obtain⟨sl,hL⟩:=u.any ho I.free fun z=>(IF _ z).2.1 rfl;exact I.step (ch:=ch) IF (fun b o hL hb hc e n=>u.keep b o e n (fun z=>(aj.mp (I.stkSub b z)).elim hL hb) hc) (fun b o _ _ hc e n=>u.any e n hc) (fun b o hc e n=>u.free b o e n hc) (fun b o hc e=>u.there b o e hc) u.tups u.frzs u.tbls (fun m' hm=>by obtain⟨o',MT,Lv,Jg,r'⟩:=hm;rw[ho] at Jg;cases Jg;exact⟨_,MT,Lv,hL,r'⟩) hok hg
def Inv.turned{t':Nat}{it:ac}(I:Inv X GX σ H s)(k:∀b o,b≠it->s.heap.get? b=some o->h'.get? b=some o)(hn:H it=none)(hL:it≠X.env.locals)(h1:it∈X.ex\/X.sa0.heap.objs.size<=it)(h2:∀x c,X.env.cells.lookup x=some c->c≠it)(h3:∀p∈X.pn++GX,p.1≠it):Inv X GX σ H { s with heap:=h',toks:=t' }:=by
 have Kl:∀b u,H b=some u->b≠it:=fun b u e z=>by rw[z,hn] at e;cases e
 refine I.step (g':=s.gens) (d':=s.drawn) (ch:=[it]) (fun b hb=>?_) (fun b o _ _ hc e _=>k b o (fun z=>hc (by simp[z])) e) (fun b o _ _ hc e _=>⟨o.slots,k b o (fun z=>hc (by simp[z])) e⟩) (fun _ _ _ _ n=>n)
  (fun b o hc e=>⟨o,k b o (fun z=>hc (by simp[z])) e⟩) (fun _ _ e=>e) (fun _ _ _ e=>e) (fun b ps e=>⟨#[],by rw[e];simp⟩) (fun m hm=>?_) (fun b u e=>?_) I.bare
 ·have e:b=it:=by simpa using hb
  subst e;exact⟨h1,hL,h2,h3⟩
 ·obtain⟨o,es,ep,ho,r⟩:=hm;exact⟨o,es,ep,k _ o (cj hL) ho,r⟩
 ·refine(I.hok b u e).stay (fun c v hc q=>k c v ?_ q) (fun _ q=>q) fun _ _ q=>q;rcases hc with z|z
  ·rw[z];exact Kl b u e
  ·exact Kl c _ z
def Inv.tok(I:Inv X GX σ H s)(t:Nat):Inv X GX σ H { s with toks:=t }:=I.un (h':=s.heap) (t':=t) Un.refl I.hok
theorem Inv.kept{t':Nat}(I:Inv X GX σ H s)(k:∀b u,s.heap.get? b=some u->h'.get? b=some u):Inv X GX σ H { s with heap:=h',toks:=t' }:=I.un (Un.kept k) (I.hok.kept k)
theorem Inv.laid{a:ac}{o:HO}{t':Nat}(I:Inv X GX σ H s)(k:∀b u,s.heap.get? b=some u->h'.get? b=some u)(hp:s.heap.objs.size<=a)(new:ObjOk X.prog X.w (upd H a o) h' a o) :
  Inv X GX σ (upd H a o) { s with heap:=h',toks:=t' }:=I.un (Un.laid k hp (I.hok.fresh hp)) (I.hok.laid k hp new)
theorem Inv.write{x e:ac}{o:HO}{t':Nat}(I:Inv X GX σ H s)(mu:Mut (H x))(he:e=x\/H e=some (.own x))(k:∀b u,b≠e->s.heap.get? b=some u->h'.get? b=some u)(J5:∃u,h'.get? e=some u)(new:ObjOk X.prog X.w (upd H x o) h' x o):Inv X GX σ (upd H x o) { s with heap:=h',toks:=t' }:=I.un (Un.write mu he k J5) (I.hok.write mu he k J5 new)
def Inv.pins_of{Jr:List (ac×Obj)}(I:Inv X GX σ H s)(h:∀p∈Jr,s.heap.get? p.1=some p.2/\H p.1=none/\p.1≠X.env.locals/\p.1∉X.fs/\∀v,p.2.data≠.cell v):Inv X Jr σ H s :=
 ⟨I.ok,I.os,I.bare,I.base,I.loc,I.cell,I.free,I.freeC,fun p hp=>(aA.mp hp).elim (fun z=>I.pin p (aW _ z)) (h p),I.hok,I.len⟩
def tY{N:List Str}(hN:N.Nodup){i j:Nat}{x:Str}(a:N[i]?=some x)(b:N[j]?=some x):i=j:=by obtain⟨h1,e1⟩:=bD.mp a;obtain⟨h2,e2⟩:=bD.mp b;exact(List.getElem_inj hN).mp (e1.trans e2.symm)
def rn{M:Model}{A:bx}{E:ae->ah->Prop}{i:Nat}{x:Str}{v:V}{u:ae}{Q:Unit->ah->Prop}(I:Inv X GX σ H s)(hN:X.N.Nodup)(hi:X.N[i]?=some x)(hx:Loc X.env.scope x)(r:RelV v u)(h:∀s',Inv X GX (σ.set i (some v)) H s'->(∃a,gQ a s.heap s'.heap/\(a=X.env.locals\/X.env.cells.lookup x=some a))->Q () s')(hf:X.fn x=true\/X.env.scope.names.lookup x=some .local:=by first|exact .inl rfl|exact .inr rfl|assumption):aP M A (storeName X.env x u) Q E s:=by
 obtain⟨m,hn,hl⟩:=id I.loc;have Jm:(X.env.scope.kind==.class||(X.env.scope.kind==.module&&X.env.locals != X.env.globals))=false:=by rw[I.ok.kind];rfl
 have hiσ:i<σ.length:=by rw[I.len];exact(bD.mp hi).1
 have cne:=I.cne;have Iw:∀{a:ac}{h':ba},(∃o,s.heap.get? a=some o/\H a=none)->gQ a s.heap h'->HOk X.prog X.w H h':=fun{a h'} ha hs b ob e=>by
  obtain⟨_,_,Jx⟩:=ha;refine(I.hok b ob e).stay (fun c w' hc q=>(hs.2 c ?_).trans q) (fun _ q=>q) fun _ _ q=>q
  rintro rfl
  rcases hc with rfl|hc
  ·rw[Jx] at e;cases e
  ·rw[Jx] at hc;cases hc
 rcases hx with hk|hk
 ·refine wpAny_storeName_local hk hn (fun h' IK hs=>?_) Jm;obtain⟨oL,_,_,J1,_⟩:=id hn;refine h _ ⟨I.ok,I.os,I.bare,⟨fun b o e n hb hx=>?_,fun b o e n hb hx=>?_,I.base.free,fun b o e hx=>?_,I.base.tups,I.base.frzs,I.base.tbls⟩,⟨_,IK,fun j y v' e1 e2 e3=>?_⟩,fun y c e=>?_,I.free,I.freeC,fun p hp=>?_,Iw ⟨oL,J1,I.free⟩ hs,by simpa using I.len⟩ ⟨_,hs,.inl rfl⟩
  ·exact(hs.2 b (aT (au (aE e) I.ok.above))).trans (I.base.keep b o e n hb hx)
  ·obtain⟨sl,e1⟩:=I.base.slot b o e n hb hx;exact⟨sl,(hs.2 b (aT (au (aE e) I.ok.above))).trans e1⟩
  ·obtain⟨o',e1⟩:=I.base.there b o e hx;exact⟨o',(hs.2 b (aT (au (aE e) I.ok.above))).trans e1⟩
  ·by_cases hj:j=i
   ·subst hj;rw[hi] at e1;cases e1;rw[iZ hiσ] at e2;cases e2;exact⟨u,r,.inl ⟨hk,by simp⟩⟩
   ·rw[eE (cj hj)] at e2;obtain⟨u',r',q⟩:=hl j y v' e1 e2 e3;refine⟨u',r',?_⟩;rcases q with⟨k,e⟩|⟨k,c,e,z⟩
    ·refine .inl ⟨k,?_⟩;have:y≠x:=fun e=>hj (tY hN e1 (e▸hi));simp[this,e]
    ·exact .inr ⟨k,c,e,z.sameBut hs (cne y c e)⟩
  ·obtain⟨w',z⟩:=I.cell y c e;exact⟨w',z.sameBut hs (cne y c e)⟩
  ·obtain⟨e,n,ne,nf,d⟩:=I.pin p hp;exact⟨(hs.2 p.1 ne).trans e,n,ne,nf,d⟩
 ·have JQ:X.fn x=true:=by
   rcases hf with z|z
   ·exact z
   ·rw[z] at hk;cases hk
  obtain⟨c,hc⟩:=I.ok.has x (.inl hk);obtain⟨w',z⟩:=I.cell x c hc;refine wpAny_storeName_cell I.ok.kind hk hc z (fun h' hc' hs=>?_);obtain⟨oc,hoc,Mh⟩:=id z;refine h { s with heap:=h' } ⟨I.ok,I.os,I.bare,⟨fun b o e n hb hx=>?_,fun b o e n hb hx=>?_,I.base.free,fun b o e hx=>?_,I.base.tups,I.base.frzs,I.base.tbls⟩,⟨m,hn.sameBut hs (cj (cne x c hc)),fun j y v' e1 e2 e3=>?_⟩,fun y c' e=>?_,I.free,I.freeC,fun p hp=>?_,Iw ⟨oc,hoc,I.freeC x c hc⟩ hs,by simpa using I.len⟩ ⟨c,hs,.inr hc⟩
  ·exact(hs.2 b (aT (au (aE e) (I.ok.cab x c JQ hc)))).trans (I.base.keep b o e n hb hx)
  ·obtain⟨sl,e1⟩:=I.base.slot b o e n hb hx;exact⟨sl,(hs.2 b (aT (au (aE e) (I.ok.cab x c JQ hc)))).trans e1⟩
  ·obtain⟨o',e1⟩:=I.base.there b o e hx;exact⟨o',(hs.2 b (aT (au (aE e) (I.ok.cab x c JQ hc)))).trans e1⟩
  ·by_cases hj:j=i
   ·subst hj;rw[hi] at e1;cases e1;rw[iZ hiσ] at e2;cases e2;exact⟨u,r,.inr ⟨.inl hk,c,hc,hc'⟩⟩
   ·rw[eE (cj hj)] at e2;obtain⟨u',r',q⟩:=hl j y v' e1 e2 e3;refine⟨u',r',?_⟩;rcases q with q|⟨k,c',e,z'⟩
    ·exact .inl q
    ·refine .inr ⟨k,c',e,z'.sameBut hs ?_⟩
     rintro rfl
     exact hj (tY hN e1 (I.ok.inj _ _ _ e hc▸hi))
  ·by_cases hcc:c'=c
   ·subst hcc;exact⟨_,hc'⟩
   ·obtain⟨w2,z2⟩:=I.cell y c' e;exact⟨w2,z2.sameBut hs hcc⟩
  ·obtain⟨e,n,ne,nf,d⟩:=I.pin p hp;refine⟨(hs.2 p.1 ?_).trans e,n,ne,nf,d⟩;intro q;rw[q,hoc] at e;have q':oc=p.2:=aO e;exact d w' (by rw[<-q'];exact Mh)
def o7{M:Model}{A:bx}{E:ae->ah->Prop}{i:Nat}{x:Str}{v:V}{u:ae}{Q:Unit->ah->Prop}(I:Inv X GX σ H s)(hN:X.N.Nodup)(hi:X.N[i]?=some x)(hx:Loc X.env.scope x)(r:RelV v u)(h:∀s',Inv X GX (σ.set i (some v)) H s'->Q () s')(hf:X.fn x=true\/X.env.scope.names.lookup x=some .local:=by first|exact .inl rfl|exact .inr rfl|assumption):aP M A (storeName X.env x u) Q E s :=
 rn I hN hi hx r (fun s' I' _=>h s' I') hf
def Inv.call'{s':ah}{ch:List ac}(I:Inv X GX σ H s)(ho:s'.os=s.os)(u:Un (frs X.stack) ch H H' s.heap s'.heap)(hok:HOk X.prog X.w H' s'.heap)(hg:fO s'.gens)(IF:∀b∈ch,(b∈X.ex\/X.sa0.heap.objs.size<=b)/\b≠X.env.locals/\(∀x c,X.env.cells.lookup x=some c->c≠b)/\∀p∈X.pn++GX,p.1≠b):Inv X GX σ H' s':=by
 obtain⟨h',g',d',t',o'⟩:=s';have e:o'=s.os:=ho;subst e;exact I.call (g':=g') (t':=t') (d':=d') u hok hg IF
end
abbrev XK:=ae->Option ac->Hp->Prop
abbrev St:=List (Option V)
abbrev VK:=V->Hp->Prop
abbrev TE:=St->Hp->VK->Prop
abbrev TT:=St->Hp->(Bool->Hp->Prop)->Prop
abbrev TA:=St->Hp->(List V->Hp->Prop)->Prop
structure Ends where
 nx:St->Hp->Prop
 rt:VK
 bk:St->Hp->Prop:=fun _ _=>False
 ct:St->Hp->Prop:=fun _ _=>False
abbrev TS:=Ends->St->Hp->Prop
def EP(X:Cx)(GX:List (ac×Obj))(σ:St)(Q:VK)(u:ae)(s':ah):Prop:=∃v H',Inv X GX σ H' s'/\RelV v u/\Q v H'
def TP(X:Cx)(GX:List (ac×Obj))(σ:St)(Q:Bool->Hp->Prop)(b:Bool)(s':ah):Prop:=∃H',Inv X GX σ H' s'/\Q b H'
def AP(X:Cx)(GX:List (ac×Obj))(σ:St)(Q:List V->Hp->Prop)(us:List ae)(s':ah):Prop:=∃vs H',Inv X GX σ H' s'/\Vals vs us/\Q vs H'
def SP(X:Cx)(GX:List (ac×Obj))(D:Ends)(f:Flow)(s':ah):Prop :=
 match f with
 |.next=>∃σ' H',Inv X GX σ' H' s'/\D.nx σ' H'
 |.brk=>∃σ' H',Inv X GX σ' H' s'/\D.bk σ' H'
 |.cont=>∃σ' H',Inv X GX σ' H' s'/\D.ct σ' H'
 |.ret u=>∃v σ' H',Inv X GX σ' H' s'/\RelV v u/\D.rt v H'
def PE(X:Cx)(e:aN)(t:TE):Prop :=
 ∀(GX:List (ac×Obj))(s:ah)(σ:St)(H:Hp)(Q:VK),Inv X GX σ H s->t σ H Q->aP (model X.prog X.w) X.A (eval e X.env) (EP X GX σ Q) X.xe s
def PT(X:Cx)(e:aN)(t:TT):Prop :=
 ∀(GX:List (ac×Obj))(s:ah)(σ:St)(H:Hp)(Q:Bool->Hp->Prop),Inv X GX σ H s->t σ H Q->aP (model X.prog X.w) X.A (isTrue e X.env (eval e X.env)) (TP X GX σ Q) X.xe s
def PW(X:Cx)(e:aN)(t:TT):Prop :=
 ∀(HD:Sem ae)(GX:List (ac×Obj))(s:ah)(σ:St)(H:Hp)(Q:Bool->Hp->Prop),Inv X GX σ H s->t σ H Q->aP (model X.prog X.w) X.A (isTrue e X.env HD) (TP X GX σ Q) X.xe s
def PW.pt{X:Cx}{e:aN}{t:TT}(h:PW X e t):PT X e t:=h _
def PA(X:Cx)(es:List aN)(t:TA):Prop :=
 ∀(pos:Pos)(GX:List (ac×Obj))(s:ah)(σ:St)(H:Hp)(Q:List V->Hp->Prop),Inv X GX σ H s->t σ H Q->aP (model X.prog X.w) X.A (spliced (bV pos (ar es X.env))) (AP X GX σ Q) X.xe s
def PS(X:Cx)(st:bM)(t:TS):Prop :=
 ∀(GX:List (ac×Obj))(s:ah)(σ:St)(H:Hp)(D:Ends),Inv X GX σ H s->t D σ H->aP (model X.prog X.w) X.A (exec st X.env) (SP X GX D) X.xe s
def PSs(X:Cx)(st:List bM)(t:TS):Prop :=
 ∀(GX:List (ac×Obj))(s:ah)(σ:St)(H:Hp)(D:Ends),Inv X GX σ H s->t D σ H->aP (model X.prog X.w) X.A (execs st X.env) (SP X GX D) X.xe s
def thn{α:Type}{t:Sem α}{Q Q':α->ah->Prop}{M:Model}{A:bx}{E:ae->ah->Prop}{s:ah}(h:aP M A t Q E s)(hQ:∀a s,Q a s->Q' a s):aP M A t Q' E s:=bo h hQ fun _ _ x=>x
section
variable{X:Cx}
def Ay(i:Nat):TE:=fun σ H Q=>∃v,σ[i]?=some (some v)/\Q v H
def tC(v:V):TE:=fun _ H Q=>Q v H
abbrev NDb(x:Str):Prop:=(x==("__debug__":Str))=false
def yX{i:Nat}{x:Str}{pos:Pos}(hN:X.N[i]?=some x)(hv:Vis X.env.scope x)(hd:NDb x:=by decide)(Ie:(x==("__classdict__":Str))=false:=by decide):PE X (.Name x pos) (Ay i):=by
 intro GX s σ H Q I h;obtain⟨v,e,h⟩:=h;obtain⟨m,hn,hl⟩:=I.loc;obtain⟨u,r,l⟩:=hl i x v hN e hv;have Hd:EP X GX σ Q u s:=⟨v,H,I,r,h⟩;rcases l with⟨hk,hm⟩|⟨hk,c,hc,HU⟩
 ·exact wpAny_Name (wpAny_loadName_local I.ok.kind hk hn hm Hd) hd
 ·rcases hk with hk|hk
  ·exact wpAny_Name (wpAny_loadName_cell I.ok.kind hk hc HU Hd) hd
  ·exact wpAny_Name (wpAny_loadName_free I.ok.kind hk hc HU Hd Ie) hd
def pe_int{i j pos}:PE X (.Constant (.int i) j pos) (tC (.int i)):=fun _ _ _ H _ I h=>wpAny_Constant_int ⟨.int i,H,I.tok _,⟨_,rfl⟩,h⟩
def pe_bl{b j pos}:PE X (.Constant (.bool b) j pos) (tC (.bl b)):=fun _ _ _ H _ I h=>Constant_bool ⟨.bl b,H,I,rfl,h⟩
def pe_non{j pos}:PE X (.Constant .none j pos) (tC .non):=fun _ _ _ H _ I h=>Constant_none ⟨.non,H,I,rfl,h⟩
def pe_str{x j pos}:PE X (.Constant (.str x) j pos) (tC (.str x)):=fun _ _ _ H _ I h=>jy ⟨.str x,H,I.tok _,⟨_,rfl⟩,h⟩
def Gl(X:Cx)(x:Str):Prop:=X.env.kindOf x=some .globalImplicit
def pV{E:ae->ah->Prop}{GX:List (ac×Obj)}{s:ah}{σ:St}{H:Hp}{x:Str}{u:ae}{pos:Pos}{Q:ae->ah->Prop}(I:Inv X GX σ H s)(hg:Gl X x)(hm:X.mg x=some u)(h:Q u s)(hd:NDb x:=by decide):aP (model X.prog X.w) X.A (eval (.Name x pos) X.env) Q E s :=
 im I.ok.kind hg (Calls.loadGlobal_global (by rw[I.ok.glob];exact I.mod.glob.keeps I.bk) hm h) hd
def uF{E:ae->ah->Prop}{GX:List (ac×Obj)}{s:ah}{σ:St}{H:Hp}{x:Str}{u:ae}{pos:Pos}{Q:ae->ah->Prop}(I:Inv X GX σ H s)(hg:Gl X x)(hm:X.mg x=none)(hv:bj x=some u)(h:Q u s)(hn:x≠"__name__":=by decide)(hd:NDb x:=by decide):aP (model X.prog X.w) X.A (eval (.Name x pos) X.env) Q E s:=by
 obtain⟨mb,h1,h2⟩:=I.mod.blt;exact im I.ok.kind hg (Calls.loadGlobal_builtin (by rw[I.ok.glob];exact I.mod.glob.keeps I.bk) hm (by rw[I.ok.blt];exact h1.keeps I.bk) ((h2 x hn).trans hv) h) hd
def mi{x:Str}{v:V}{u:ae}{pos:Pos}(hg:Gl X x)(hm:X.mg x=some u)(r:RelV v u)(hd:NDb x:=by decide):PE X (.Name x pos) (tC v) :=
 fun _ _ _ H _ I h=>pV I hg hm ⟨v,H,I,r,h⟩ hd
def zl{x:Str}{v:V}{u:ae}{pos:Pos}(hg:Gl X x)(hm:X.mg x=none)(hv:bj x=some u)(r:RelV v u)(hn:x≠"__name__":=by decide)(hd:NDb x:=by decide):PE X (.Name x pos) (tC v) :=
 fun _ _ _ H _ I h=>uF I hg hm hv ⟨v,H,I,r,h⟩ hn hd
variable{a b:aN}{ta tb:TE}{pos:Pos}
def PC(X:Cx)(op:gY)(a b:aN)(t:TE):Prop :=
 ∀(GX:List (ac×Obj))(s:ah)(σ:St)(H:Hp)(Q:VK),Inv X GX σ H s->t σ H Q ->
  aP (model X.prog X.w) X.A (eval a X.env) (fun v G6=>aP (model X.prog X.w) X.A (eval b X.env) (fun u IB=>aP (model X.prog X.w) X.A (bI op v u) (EP X GX σ Q) X.xe IB) X.xe G6) X.xe s
def Bg(b:aN){op:gY}(h:op≠.In)(h2:op≠.NotIn):ce op b=false:=by
 have e1:(op==CmpOp.In)=false:=by cases op<;>first|rfl|exact absurd rfl h
 have e2:(op==CmpOp.NotIn)=false:=by cases op<;>first|rfl|exact absurd rfl h2
 cases b<;>simp[ce,e1,e2]
def tB(t:TE):TT:=fun σ H Q=>t σ H fun x H1=>∃c,x=.bl c/\Q c H1
def Cg{op:gY}{t:TE}(h:PC X op a b t)(h1:ce op b=false:=by first|exact Bg _ (by decide) (by decide)|rfl):PE X (.Compare a [op] [b] pos) t:=fun GX s σ H Q I hw=>wpAny_Compare1 (h GX s σ H Q I hw) h1
def qz{e:aN}{t:TE}(h:PE X e t)(he:∀HD,isTrue e X.env HD=(do let v <-HD;ig e.pos;holding [v] (truthy v)):=by intro _;rfl):PT X e (tB t):=by intro GX s σ H Q I hw;refine isTrue_plain (thn (h GX s σ H _ I hw) fun v s1 ⟨x,H1,I1,r1,q1⟩=>?_) (he _);obtain⟨d,rfl,q⟩:=q1;cases r1;exact cY ⟨H1,I1,q⟩
variable{tA K6:TT}{lY:List aN}
def tAnd(t u:TT):TT:=fun σ H Q=>t σ H fun c H1=>if c=true then u σ H1 Q else Q false H1
def tOr(t u:TT):TT:=fun σ H Q=>t σ H fun c H1=>if c=true then Q true H1 else u σ H1 Q
def tNot(t:TT):TT:=fun σ H Q=>t σ H fun c H1=>Q (!c) H1
def Dd(ha:PT X a tA):PW X (.BoolOp .And [a] pos) tA:=by
 intro wh GX s σ H Q I h;refine isTrue_and (thn (ha GX s σ H Q I h) fun c s1 e=>?_);cases c with
 |true=>exact isTrue_and_nil e
 |false=>exact e
def Cc(ha:PT X a tA):PW X (.BoolOp .Or [a] pos) tA:=by
 intro wh GX s σ H Q I h;refine isTrue_or (thn (ha GX s σ H Q I h) fun c s1 e=>?_);cases c with
 |false=>exact isTrue_or_nil e
 |true=>exact e
def FC(ha:PT X a tA)(hb:PW X (.BoolOp .And (b::lY) pos) K6):PW X (.BoolOp .And (a::b::lY) pos) (tAnd tA K6):=by
 intro wh GX s σ H Q I h;refine isTrue_and (thn (ha GX s σ H _ I h) fun c s1 ⟨H1,I1,q1⟩=>?_);cases c with
 |true=>exact hb wh GX s1 σ H1 Q I1 q1
 |false=>exact⟨H1,I1,q1⟩
def EW(ha:PT X a tA)(hb:PW X (.BoolOp .Or (b::lY) pos) K6):PW X (.BoolOp .Or (a::b::lY) pos) (tOr tA K6):=by
 intro wh GX s σ H Q I h;refine isTrue_or (thn (ha GX s σ H _ I h) fun c s1 ⟨H1,I1,q1⟩=>?_);cases c with
 |true=>exact⟨H1,I1,q1⟩
 |false=>exact hb wh GX s1 σ H1 Q I1 q1
def uq(ha:PT X a tA):PT X (.UnaryOp .Not a pos) (tNot tA):=by intro GX s σ H Q I h;exact isTrue_not (ha GX s σ H (fun c H1=>Q (!c) H1) I h)
def tAndV(ta tb:TE):TE:=fun σ H Q=>ta σ H fun x H1=>∃c,x=.bl c/\if c=true then tb σ H1 Q else Q (.bl false) H1
def tOrV(ta tb:TE):TE:=fun σ H Q=>ta σ H fun x H1=>∃c,x=.bl c/\if c=true then Q (.bl true) H1 else tb σ H1 Q
def yY{op}{t:TE}(h:PE X a t):PE X (.BoolOp op [a] pos) t:=fun GX s σ H Q I hw=>BoolOp_one (h GX s σ H Q I hw)
def Ci(ha:PE X a ta)(hb:PE X (.BoolOp .And (b::lY) pos) tb):PE X (.BoolOp .And (a::b::lY) pos) (tAndV ta tb):=by
 intro GX s σ H Q I h;refine BoolOp_and (thn (ha GX s σ H _ I h) fun v s1 ⟨x,H1,I1,r1,q1⟩=>?_);obtain⟨c,rfl,q1⟩:=q1;cases r1;refine cY ?_;cases c with
 |true=>exact hb GX s1 σ H1 Q I1 q1
 |false=>exact⟨.bl false,H1,I1,rfl,q1⟩
def pe_or(ha:PE X a ta)(hb:PE X (.BoolOp .Or (b::lY) pos) tb):PE X (.BoolOp .Or (a::b::lY) pos) (tOrV ta tb):=by
 intro GX s σ H Q I h;refine BoolOp_or (thn (ha GX s σ H _ I h) fun v s1 ⟨x,H1,I1,r1,q1⟩=>?_);obtain⟨c,rfl,q1⟩:=q1;cases r1;refine cY ?_;cases c with
 |false=>exact hb GX s1 σ H1 Q I1 q1
 |true=>exact⟨.bl true,H1,I1,rfl,q1⟩
end
def SqL(K:aa)(H:Hp)(a:ac)(xs:List V):Prop :=
 Rd H a (.lst xs) \/
  ∃(o:Obj)(its:Array ae)(n:Nat),K.lookup a=some o/\o.cls=.type "list"/\o.dict=none/\o.data=.seq its n/\its.size<=aB/\Vals xs its.toList
def SqT(K:aa)(H:Hp)(a:ac)(xs:List V):Prop :=
 Rd H a (.tup xs) \/
  ∃(o:Obj)(its:Array ae)(n:Nat),K.lookup a=some o/\o.cls=.type "tuple"/\o.data=.seq its n/\its.size<=aB/\Vals xs its.toList
def absV:ae->Option V
 |.none=>some .non
 |.bool b=>some (.bl b)
 |.int i _=>some (.int i)
 |.str x _=>some (.str x)
 |.bytes b _=>some (.byt b)
 |.float b _=>some (.flt b)
 |.ref a=>some (.ref a)
 |.type n=>some (.ty n)
 |_=>none
def RelV.abs{x:V}{u:ae}(r:RelV x u):absV u=some x:=by
 cases x with
 |non=>cases r;rfl
 |bl _=>cases r;rfl
 |int _=>obtain⟨t,rfl⟩:=r;rfl
 |str _=>obtain⟨t,rfl⟩:=r;rfl
 |byt _=>obtain⟨t,rfl⟩:=r;rfl
 |flt _=>obtain⟨t,rfl⟩:=r;rfl
 |ref _=>cases r;rfl
 |ty _=>cases r;rfl
def RelV.inj{x y:V}{u:ae}(r:RelV x u)(q:RelV y u):x=y:=aO (r.abs.symm.trans q.abs)
theorem Vals.inj:∀{xs ys:List V}{us:List ae},Vals xs us->Vals ys us->xs=ys
 |_,_,_,.nil,.nil=>rfl
 |_,_,_,.cons r t,.cons r' t'=>by rw[r.inj r',Vals.inj t t']
section
variable{X:Cx}{GX:List (ac×Obj)}{σ:St}{H:Hp}{s:ah}{a:ac}{xs ys:List V}
def SqL.of{K:aa}(h:H a=some (.lst xs)):SqL K H a xs:=.inl (.inl h)
def SqT.of{K:aa}(h:H a=some (.tup xs)):SqT K H a xs:=.inl (.inl h)
def Inv.list(I:Inv X GX σ H s)(h:SqL X.K H a xs):∃its:List ae,Vals xs its/\PlainL s.heap a its.toArray/\xs.length<=aB:=by
 rcases h with h|⟨o,its,n,hk,hc,hd,hs,hz,r⟩
 ·obtain⟨z,its,n,r,e⟩:=h.ok I.hok;exact⟨its,r,⟨_,n,e,rfl,rfl,rfl⟩,z⟩
 ·refine⟨its.toList,r,⟨o,n,I.kIn a o hk,hc,hd,by simpa using hs⟩,?_⟩;have e:=r.length;simp only[eK] at e;omega
def Inv.tuple(I:Inv X GX σ H s)(h:SqT X.K H a xs):∃its:List ae,Vals xs its/\IsTup s.heap a its.toArray/\xs.length<=aB:=by
 rcases h with h|⟨o,its,n,hk,hc,hs,hz,r⟩
 ·obtain⟨z,its,r,p⟩:=h.ok I.hok;exact⟨its,r,p,z⟩
 ·refine⟨its.toList,r,⟨o,I.kIn a o hk,hc,n,by simpa using hs⟩,?_⟩;have e:=r.length;simp only[eK] at e;omega
def Inv.list_inj(I:Inv X GX σ H s)(h:SqL X.K H a xs)(h':SqL X.K H a ys):xs=ys:=by
 obtain⟨its,r,⟨o,n,e,_,_,d⟩,_⟩:=I.list h;obtain⟨its',r',⟨o',n',e',_,_,d'⟩,_⟩:=I.list h';rw[e] at e';cases e';rw[d] at d';injection d' with d1 _
 have:its=its':=by simpa using congrArg Array.toList d1
 subst this;exact r.inj r'
def Inv.tuple_inj(I:Inv X GX σ H s)(h:SqT X.K H a xs)(h':SqT X.K H a ys):xs=ys:=by
 obtain⟨its,r,⟨o,e,_,n,d⟩,_⟩:=I.tuple h;obtain⟨its',r',⟨o',e',_,n',d'⟩,_⟩:=I.tuple h';rw[e] at e';cases e';rw[d] at d';injection d' with d1 _
 have:its=its':=by simpa using congrArg Array.toList d1
 subst this;exact r.inj r'
end
abbrev Cx.wish(X:Cx)(E:ae->ah->Prop):Cx:={ X with xe:=E }
abbrev Cx.nox(X:Cx):Cx:=X.wish fun _ _=>False
theorem Cx.Ok.wish{X:Cx}(ok:X.Ok)(E:ae->ah->Prop):(X.wish E).Ok :=
 ⟨ok.mod,ok.kind,ok.glob,ok.blt,ok.above,ok.inj,ok.has,ok.cab,ok.hd,ok.frames,ok.stk,ok.exf,ok.bs,ok.bsz,ok.noex,ok.exfs,ok.funs,ok.frf⟩
def Cx.Ok.unwish{X:Cx}{E:ae->ah->Prop}(ok:(X.wish E).Ok):X.Ok :=
 ⟨ok.mod,ok.kind,ok.glob,ok.blt,ok.above,ok.inj,ok.has,ok.cab,ok.hd,ok.frames,ok.stk,ok.exf,ok.bs,ok.bsz,ok.noex,ok.exfs,ok.funs,ok.frf⟩
section
variable{X:Cx}{GX:List (ac×Obj)}{σ:St}{H:Hp}{s:ah}{E:ae->ah->Prop}
theorem Inv.wish(I:Inv X GX σ H s)(E:ae->ah->Prop):Inv (X.wish E) GX σ H s:=⟨I.ok.wish E,I.os,I.bare,I.base,I.loc,I.cell,I.free,I.freeC,I.pin,I.hok,I.len⟩
theorem Inv.unwish(I:Inv (X.wish E) GX σ H s):Inv X GX σ H s:=⟨I.ok.unwish,I.os,I.bare,I.base,I.loc,I.cell,I.free,I.freeC,I.pin,I.hok,I.len⟩
theorem SP.unwish{D:Ends}{f:Flow}{s':ah}(h:SP (X.wish E) GX D f s'):SP X GX D f s':=by
 cases f with
 |next=>obtain⟨σ',H',I,q⟩:=h;exact⟨σ',H',I.unwish,q⟩
 |brk=>obtain⟨σ',H',I,q⟩:=h;exact⟨σ',H',I.unwish,q⟩
 |cont=>obtain⟨σ',H',I,q⟩:=h;exact⟨σ',H',I.unwish,q⟩
 |ret u=>obtain⟨v,σ',H',I,r,q⟩:=h;exact⟨v,σ',H',I.unwish,r,q⟩
theorem PSs.nox{st:List bM}{t:TS}(h:PSs X.nox st t):PSs X st t:=fun GX s σ H D I hw =>
 bo (h GX s σ H D (I.wish _) hw) (fun _ _ q=>q.unwish) fun _ _ z=>bh z
end
section
variable{X:Cx}{st:bM}{lY:List bM}{t u:TS}{e:aN}{te:TE}{pos:Pos}
def tNext:TS:=fun D σ H=>D.nx σ H
def tSeq(t u:TS):TS:=fun D σ H=>t { D with nx:=u D } σ H
def pss_nil:PSs X [] tNext:=fun _ _ σ H _ I h=>dO ⟨σ,H,I,h⟩
def kf(h1:PS X st t)(h2:PSs X lY u):PSs X (st::lY) (tSeq t u):=by
 intro GX s σ H D I h;refine gU (thn (h1 GX s σ H { D with nx:=u D } I h) fun f s1 q=>?_);cases f with
 |next =>
  obtain⟨σ',H',I',q⟩:=q;exact h2 GX s1 σ' H' D I' q
 |ret v=>exact q
 |brk=>exact q
 |cont=>exact q
def km(h1:PS X st t):PSs X [st] t:=by
 intro GX s σ H D I h;refine gU (thn (h1 GX s σ H D I h) fun f s1 q=>?_);cases f with
 |next=>exact dO q
 |ret v=>exact q
 |brk=>exact q
 |cont=>exact q
def Inv.quiet{GX:List (ac×Obj)}{σ:St}{H:Hp}{s:ah}(I:Inv X GX σ H s):interactive X.env=false:=by simp[interactive,I.ok.kind]
def EM(te:TE):TS:=fun D σ H=>te σ H fun _ H1=>D.nx σ H1
def mh(he:PE X e te)(hs:cW e none pos.line X.env=pure false:=by rfl):PS X (.Expr e pos) (EM te):=by intro GX s σ H D I h;exact wpAny_Expr_any (thn (he GX s σ H _ I h) fun v s1 ⟨x,H1,I1,r1,q1⟩=>⟨σ,H1,I1,q1⟩) I.quiet hs
def tRet(te:TE):TS:=fun D σ H=>te σ H D.rt
def oC(he:PE X e te):PS X (.Return (some e) pos) (tRet te):=by intro GX s σ H D I h;exact wpAny_Return_some (thn (he GX s σ H _ I h) fun v s1 ⟨x,H1,I1,r1,q1⟩=>⟨x,σ,H1,I1,r1,q1⟩)
def tRetN:TS:=fun D _ H=>D.rt .non H
def ps_retN:PS X (.Return none pos) tRetN:=fun _ _ σ H _ I h=>wpAny_Return_none ⟨.non,σ,H,I,rfl,h⟩
def tIfS(c:TT)(t u:TS):TS:=fun D σ H=>c σ H fun b H1=>if b=true then t D σ H1 else u D σ H1
def qK{c:aN}{a b:List bM}{tc:TT}(hc:PT X c tc)(ha:PSs X a t)(hb:PSs X b u):PS X (.If c a b pos) (tIfS tc t u):=by
 intro GX s σ H D I h;refine wpAny_If (thn (hc GX s σ H _ I h) fun d s1 ⟨H1,I1,q1⟩=>?_);cases d with
 |true=>exact ha GX s1 σ H1 D I1 q1
 |false=>exact hb GX s1 σ H1 D I1 q1
abbrev TG:=V->St->Hp->(St->Hp->Prop)->Prop
abbrev TGs:=List V->St->Hp->(St->Hp->Prop)->Prop
def PG(X:Cx)(Hw:aN)(t:TG):Prop :=
 ∀(GX:List (ac×Obj))(s:ah)(σ:St)(H:Hp)(v:V)(u:ae)(Q:St->Hp->Prop),Inv X GX σ H s->RelV v u->t v σ H Q ->
  aP (model X.prog X.w) X.A (assign Hw X.env u) (fun _ s'=>∃σ' H',Inv X GX σ' H' s'/\Q σ' H') X.xe s
def PGs(X:Cx)(ts:List aN)(t:TGs):Prop :=
 ∀(GX:List (ac×Obj))(s:ah)(σ:St)(H:Hp)(vs:List V)(us:List ae)(Q:St->Hp->Prop),Inv X GX σ H s->Vals vs us->t vs σ H Q ->
  aP (model X.prog X.w) X.A (jt ((b8 ts X.env).map (·.2)) us) (fun _ s'=>∃σ' H',Inv X GX σ' H' s'/\Q σ' H') X.xe s
abbrev Fi:=V->V->V->Hp->(Hp->Prop)->Prop
def PSet(X:Cx)(t:Fi):Prop :=
 ∀(GX:List (ac×Obj))(s:ah)(σ:St)(H:Hp)(o i v:V)(ov iv u:ae)(Q:Hp->Prop),Inv X GX σ H s->RelV o ov->RelV i iv->RelV v u->t o i v H Q ->
  aP (model X.prog X.w) X.A (setItem ov iv u) (fun _ s'=>∃H',Inv X GX σ H' s'/\Q H') X.xe s
def yH(i:Nat):TG:=fun v σ H Q=>Q (σ.set i (some v)) H
def zi{i:Nat}{x:Str}(hN:X.N.Nodup)(hi:X.N[i]?=some x)(hx:Loc X.env.scope x)(hf:X.fn x=true\/X.env.scope.names.lookup x=some .local:=by first|exact .inl rfl|exact .inr rfl|assumption):PG X (.Name x pos) (yH i):=by intro GX s σ H v u Q I r h;exact ie (o7 I hN hi hx r (fun s' I'=>⟨_,H,I',h⟩) hf)
def gNil:TGs:=fun vs σ H Q=>vs=[]/\Q σ H
def gCons(t:TG)(u:TGs):TGs:=fun vs σ H Q=>∃v r,vs=v::r/\t v σ H fun σ' H'=>u r σ' H' Q
def pgs_nil:PGs X [] gNil:=by intro GX s σ H vs us Q I r h;obtain⟨e,h⟩:=h;subst e;cases r;exact assignInOrder_nil ⟨σ,H,I,h⟩
def AY{e:aN}{es:List aN}{t:TG}{u:TGs}(h1:PG X e t)(h2:PGs X es u)(hs:(b8 (e::es) X.env).map (·.2)=assign e X.env::(b8 es X.env).map (·.2):=by rfl):PGs X (e::es) (gCons t u):=by
 intro GX s σ H vs us Q I r h;obtain⟨v,vr,e1,h⟩:=h;subst e1;cases r with
 |cons r rr =>
  rw[hs];refine hJ (thn (h1 GX s σ H _ _ _ I r h) fun _ s1 ⟨σ1,H1,I1,q1⟩=>?_);exact h2 GX s1 σ1 H1 _ _ Q I1 rr q1
def gTup(K:aa)(n:Nat)(t:TGs):TG:=fun v σ H Q=>∃a xs,v=.ref a/\SqT K H a xs/\xs.length=n/\t xs σ H Q
def FI{es:List aN}{k:Nat}{t:TGs}{n:Nat}(hc:X.calm=true)(h:PGs X es t)(hn:(b8 es X.env).length=n:=by rfl)(Ic:(b8 es X.env).findIdx? (·.1)=none:=by rfl):PG X (.Tuple es k pos) (gTup X.K n t):=by
 intro GX s σ H v u Q I r hw;obtain⟨a,xs,e1,hq,hl,hw⟩:=hw;subst e1;cases r;obtain⟨its,rv,ht,hz⟩:=I.tuple hq;refine assign_Tuple_tuple (I.ok.hd hc) ht (by simp[hn,<-hl,rv.length]) Ic fun h' hx=>?_;have I1:Inv X GX σ H { s with heap:=h' }:=I.kept (t':=s.toks) fun b o e=>hx b o (aT (aE e)) e;exact h GX _ σ H xs _ Q I1 (by simpa using rv) hw
def gSub(to ti:TE)(t:Fi):TG:=fun v σ H Q=>to σ H fun o H1=>ti σ H1 fun i H2=>t o i v H2 fun H3=>Q σ H3
def FJ{o i:aN}{to ti:TE}{t:Fi}(ho:PE X o to)(hi:PE X i ti)(hs:PSet X t)(ha:∀v,assign (.Subscript o i pos) X.env v=(do
   let ov <-holding [v] (eval o X.env);let iv <-holding [v,ov] (eval i X.env)
   ig pos
   holding [v,ov,iv] (setItem ov iv v)
   release [v,ov,iv] []):=by intro _;rfl):PG X (.Subscript o i pos) (gSub to ti t):=by
 intro GX s σ H v u Q I r h;rw[ha];refine ao (dJ (thn (ho GX s σ H _ I h) fun ov s1 ⟨x,H1,I1,r1,q1⟩=>?_));refine ao (dJ (thn (hi GX s1 σ H1 _ I1 q1) fun iv s2 ⟨y,H2,I2,r2,q2⟩=>?_));refine ao (eQ (ao (dJ (thn (hs GX s2 σ H2 x y v ov iv u _ I2 r1 r2 r q2) fun _ s3 ⟨H3,I3,q3⟩=>?_))));exact wpAny_release ⟨σ,H3,I3,q3⟩
def EO(te:TE)(g:TG):TS:=fun D σ H=>te σ H fun x H1=>g x σ H1 D.nx
def Ce{tg e:aN}{te:TE}{g:TG}(he:PE X e te)(hg:PG X tg g)(hs:fS [tg] e pos.line X.env=pure false:=by rfl)(hw:fT [tg] e X.env=pure none:=by rfl)(h1:(b8 [tg] X.env).map (·.2)=[assign tg X.env]:=by rfl):PS X (.Assign [tg] e pos) (EO te g):=by
 intro GX s σ H D I h;refine wpAny_Assign_stores (thn (he GX s σ H _ I h) fun v s1 ⟨x,H1,I1,r1,q1⟩=>?_) hs hw;rw[h1];exact thn (hg GX s1 σ H1 x v _ I1 r1 q1) fun _ s2 q=>q
def nF{i:Nat}{x:Str}{e:aN}{te:TE}{Hg:Pos}(hN:X.N.Nodup)(hi:X.N[i]?=some x)(hx:Loc X.env.scope x)(he:PE X e te)(hs:cW e (some (.Name x Hg)) pos.line X.env=pure false:=by rfl)(hf:X.fn x=true\/X.env.scope.names.lookup x=some .local:=by first|exact .inl rfl|exact .inr rfl|assumption) :
  PS X (.Assign [.Name x Hg] e pos) (EO te (yH i)):=by
 intro GX s σ H D I h;refine wpAny_Assign_Name (thn (he GX s σ H _ I h) fun v s1 ⟨y,H1,I1,r1,q1⟩=>?_) hs;exact o7 I1 hN hi hx r1 (fun s2 I2=>⟨_,H1,I2,q1⟩) hf
def tPar(i j:Nat)(ta:TA):TS:=fun D σ H=>ta σ H fun vs H1=>∃v w,vs=[v,w]/\D.nx ((σ.set i (some v)).set j (some w)) H1
def FG{i j:Nat}{x y:Str}{a b:aN}{ta:TA}{px py pt:Pos}{kt k2 pt2}(hc:X.calm=true)(hN:X.N.Nodup)(hi:X.N[i]?=some x)(hj:X.N[j]?=some y)(KH:i≠j)(hx:X.env.scope.names.lookup x=some .local)(hy:X.env.scope.names.lookup y=some .local)(ha:PA X [a,b] ta)(hw:fT [.Tuple [.Name x px,.Name y py] kt pt] (.Tuple [a,b] k2 pt2) X.env=pure (some [x,y]))(hs:fS [.Tuple [.Name x px,.Name y py] kt pt] (.Tuple [a,b] k2 pt2) pos.line X.env=pure false:=by rfl) :
  PS X (.Assign [.Tuple [.Name x px,.Name y py] kt pt] (.Tuple [a,b] k2 pt2) pos) (tPar i j ta):=by
 intro GX s σ H D I h;rw[exec_Assign_arm];refine ao (eQ ?_);rw[hs];refine ao (aH ?_);rw[if_neg (by decide)];refine ao (Tuple_ (thn (ha _ GX s σ H _ I h) fun us s1 ⟨vs,H1,I1,r1,q1⟩=>?_));obtain⟨v,w,e1,q1⟩:=q1;subst e1;obtain⟨u1,u2,rfl,rv,HG⟩:∃u1 u2,us=[u1,u2]/\RelV v u1/\RelV w u2:=by
  cases r1 with
  |cons p q =>
   cases q with
   |cons p' q' =>
    cases q';exact⟨_,_,rfl,p,p'⟩
 refine cZ ?_ (by show 2<=aB;decide);have I2:Inv X GX σ H1 { s1 with heap:=s1.heap.push { cls:=.type "tuple",data:=.seq [u1,u2].toArray } }:=I1.kept (t':=s1.toks) fun b o e=>av _ e;rw[hw];refine ao (aH ?_);show aP (model X.prog X.w) X.A (do rule "assign.swapped-stores";let items <-unpackItems (.ref s1.heap.objs.size) 2 none;jt [fun v=>i6 X.env y v,fun v=>i6 X.env x v] items.reverse;pure Flow.next) _ _ _;refine ao (wpAny_rule (ao (unpackItems_tuple (items:=#[u1,u2]) (I.ok.hd hc) (IsTup.new s1.heap _) fun h' Lj=>?_)));have I3:=I2.kept (h':=h') (t':=s1.toks) fun b o e=>Lj b o (aT (aE e)) e;show aP _ _ (jt [fun v=>i6 X.env y v,fun v=>i6 X.env x v] [u2,u1] >>= fun _=>pure Flow.next) _ _ _;refine ao (hJ (wpAny_bindName (o7 I3 hN hj (.inl hy) HG (fun s2 I4=>?_) (.inr hy))));refine hJ (wpAny_bindName (o7 I4 hN hi (.inl hx) rv (fun s3 I5=>assignInOrder_nil (aH ?_)) (.inr hx)));rw[List.set_comm _ _ (cj KH)] at I5;exact⟨_,H1,I5,q1⟩
def Fm(c:TT)(tb:TS):TS:=fun D σ H=>∃W:Nat->St->Hp->Prop,(∃m,W m σ H)/\∀m σ H,W m σ H ->
 c σ H fun b H1=>if b=true then ∃N:St->Hp->Prop,(∀σ' H',N σ' H'->∃m',m'<m/\W m' σ' H')/\tb { D with nx:=N,ct:=N,bk:=D.nx } σ H1 else D.nx σ H1
def xr{c:aN}{body:List bM}{tc:TT}{tb:TS}(hp:PassesOwn (model X.prog X.w) X.A X.env X.xe)(hc:PT X c tc)(hb:PSs X body tb):PS X (.While c body [] pos) (Fm tc tb):=by
 intro GX s σ H D I h;obtain⟨W,⟨m0,w0⟩,Im⟩:=h;refine wpAny_While (codeAny_whileLoop (fun n s'=>∃σ' H',Inv X GX σ' H' s'/\W n σ' H') ?_ m0 ⟨σ,H,I,w0⟩)
 rintro n s1 ⟨σ1,H1,I1,w1⟩
 refine cV hp (thn (hc GX s1 σ1 H1 _ I1 (Im n σ1 H1 w1)) fun b s2 ⟨H2,I2,q2⟩=>?_);cases b with
 |true =>
  obtain⟨N,hN,q2⟩:=q2;rw[if_pos rfl];refine cV hp (thn (hb GX s2 σ1 H2 _ I2 q2) fun f s3 q3=>?_);cases f with
  |next =>
   obtain⟨σ3,H3,I3,n3⟩:=q3;obtain⟨m',hm,w3⟩:=hN σ3 H3 n3;exact⟨m',hm,σ3,H3,I3,w3⟩
  |cont =>
   obtain⟨σ3,H3,I3,n3⟩:=q3;obtain⟨m',hm,w3⟩:=hN σ3 H3 n3;exact⟨m',hm,σ3,H3,I3,w3⟩
  |brk=>exact q3
  |ret v=>exact q3
 |false =>
  rw[if_neg aR];exact dO ⟨σ1,H2,I2,q2⟩
end
structure It where
 go:Nat->Hp->Prop
 yld:Nat->Hp->V->Hp->Prop
 stop:Nat->Hp->Prop
def vI(X:Cx)(GX:List (ac×Obj))(H:Hp)(b:ac):Prop :=
 H b=none/\b≠X.env.locals/\b∉X.fs/\(b∈X.ex\/X.sa0.heap.objs.size<=b)/\(∀x c,X.env.cells.lookup x=some c->c≠b)/\∀p∈X.pn++GX,p.1≠b
def Inv.fpOk{X:Cx}{GX:List (ac×Obj)}{σ:St}{H H':Hp}{s:ah}{b:ac}(I:Inv X GX σ H s)(hb:s.heap.objs.size<=b)(hn:H' b=none):vI X GX H' b:=by
 refine⟨hn,jd (au I.lt hb),I.nofs hb,.inr (aC I.sz hb),fun x c e z=>?_,fun p hp z=>?_⟩
 ·obtain⟨v,q⟩:=I.cell x c e;exact absurd (au q.lt (by rw[z];exact hb)) (cO _)
 ·exact absurd (au (aE (I.pin p hp).1) (by rw[z];exact hb)) (cO _)
structure Turn(P:az)(w:aU)(K:aa)(tg:aN)(J:It)(fp:List ac)(it:ac)(tn:Nat->ba->Prop):Prop where
 mem:it∈fp
 obj:∀i h,tn i h->∀b∈fp,∃o,h.get? b=some o/\∀v,o.data≠.cell v
 keep:∀i h h',tn i h->(∀b∈fp,∀o,h.get? b=some o->h'.get? b=some o)->tn i h'
 item:∀(X:Cx),X.prog=P->X.w=w->X.K=K->X.calm=true->∀(i:Nat)(GX:List (ac×Obj))(s:ah)(σ:St)(H:Hp)(E:ae->ah->Prop),Inv X GX σ H s->(∀b∈fp,vI X GX H b)->tn i s.heap->J.go i H ->
  aP (model P w) X.A (pyNext (.ref it)) (fun r s1=>∃u,r=some u /\
   aP (model P w) X.A (gv tg (.ref it) u) (fun _ s2=>∃x H',Inv X GX σ H' s2/\RelV x u/\J.yld i H x H'/\tn (i+1) s2.heap/\∀b∈fp,H' b=none) E s1) E s
 done:∀(X:Cx),X.prog=P->X.w=w->X.K=K->X.calm=true->∀(i:Nat)(GX:List (ac×Obj))(s:ah)(σ:St)(H:Hp)(E:ae->ah->Prop),Inv X GX σ H s->(∀b∈fp,vI X GX H b)->tn i s.heap->J.stop i H ->
  aP (model P w) X.A (pyNext (.ref it)) (fun r s1=>r=none/\Inv X GX σ H s1) E s
 self:∀(A:bx)(i:Nat)(s:ah)(Q:ae->ah->Prop)(E:ae->ah->Prop),tn i s.heap->Q (.ref it) s->aP (model P w) A (pyIter (.ref it)) Q E s
abbrev TI:=St->Hp->(It->Hp->Prop)->Prop
def PIE(X:Cx)(GX:List (ac×Obj))(σ:St)(tg:aN)(R:It->Hp->Prop)(Ko:ae)(s2:ah):Prop :=
 ∃(it:ac)(fp:List ac)(tn:Nat->ba->Prop)(J:It)(H':Hp),Ko=.ref it/\Inv X GX σ H' s2/\Turn X.prog X.w X.K tg J fp it tn/\tn 0 s2.heap/\(∀b∈fp,vI X GX H' b)/\R J H'
def PI(X:Cx)(tg iter:aN)(wi:TI):Prop :=
 ∀(GX:List (ac×Obj))(s:ah)(σ:St)(H:Hp)(R:It->Hp->Prop),Inv X GX σ H s->wi σ H R ->
  aP (model X.prog X.w) X.A (eval iter X.env) (fun v s1=>aP (model X.prog X.w) X.A (pyIter v) (PIE X GX σ tg R) X.xe s1) X.xe s
def yC{M:Model}{A:bx}{E:ae->ah->Prop}{s:ah}{tg:aN}{it:ac}{u:ae}{o:Obj}{n:String}{vs:Array ae}{Q:Unit->ah->Prop}(ho:s.heap.get? it=some o)(hc:o.cls=.type n)(hd:o.data=.fields vs)(hn:["enumerate","zip","dict_itemiterator","dict_reverseitemiterator","odict_iterator","itertools.zip_longest","itertools.pairwise"].contains n=false)(hQ:Q () s):aP M A (gv tg (.ref it) u) Q E s:=by
 unfold gv;cases tg<;>first
  |exact aH hQ
  | (cases u<;>first
    |exact aH hQ
    | (refine ao (wpAny_load ho ?_)
       rw[hc,hd];show aP M A (if(["enumerate","zip","dict_itemiterator","dict_reverseitemiterator","odict_iterator","itertools.zip_longest","itertools.pairwise"].contains n&&vs[0]?==some (rawInt _))=true then _ else _) Q E s;rw[if_neg (by intro h;rw[hn,dP] at h;cases h)];exact aH hQ))
def Itl(K:aa)(a:ac):It :=
 ⟨fun i H=>∃xs x,SqL K H a xs/\xs[i]?=some x,fun i H x H'=>H'=H/\∀xs,SqL K H a xs->xs[i]?=some x,fun i H=>∃xs,SqL K H a xs/\xs.length<=i⟩
def Itt(K:aa)(a:ac):It :=
 ⟨fun i H=>∃xs x,SqT K H a xs/\xs[i]?=some x,fun i H x H'=>H'=H/\∀xs,SqT K H a xs->xs[i]?=some x,fun i H=>∃xs,SqT K H a xs/\xs.length<=i⟩
def Itr(lo:Int)(n:Nat):It:=⟨fun i _=>i<n,fun i H x H'=>H'=H/\x=.int (lo+i),fun i _=>n<=i⟩
def va{P:az}{w:aU}{K:aa}{tg:aN}(a it:ac):Turn P w K tg (Itl K a) [it] it (fun i h=>h.IsListIter it a i) where
 mem:=by simp
 obj:=fun i h st b hb=>by
  have e:b=it:=by simpa using hb
  subst e;obtain⟨o,e,c,d⟩:=st;exact⟨o,e,fun v z=>by rw[d] at z;cases z⟩
 keep:=fun i h h' st k=>st.at fun o e=>k it (by simp) o e
 item:=by intro X hP hw hK hc i GX s σ H E I hf st hg;subst hP hw hK;obtain⟨xs,x,hq,hx⟩:=hg;obtain⟨its,rv,p,hz⟩:=I.list hq;obtain⟨u,hu,ru⟩:=rv.get hx;obtain⟨f0,f1,f2,f3,f4,f5⟩:=hf it (by simp);refine wpAny_pyNext_list_item st p.isList (x:=u) (by simpa using hu) fun h' Ij sb=>?_;have I1:Inv X GX σ H { s with heap:=h' }:=I.turned (t':=s.toks) (fun b o hb e=>(sb.2 b hb).trans e) f0 f1 f3 f4 f5;obtain⟨o,e,c,d⟩:=id Ij;exact⟨u,rfl,yC (s:={ s with heap:=h' }) e c d (by decide) ⟨x,H,I1,ru,⟨rfl,fun ys hy=>by rw[I.list_inj hy hq];exact hx⟩,Ij,fun b hb=>(hf b hb).1⟩⟩
 done:=by intro X hP hw hK hc i GX s σ H E I hf st hg;subst hP hw hK;obtain⟨xs,hq,hx⟩:=hg;obtain⟨its,rv,p,hz⟩:=I.list hq;obtain⟨f0,f1,f2,f3,f4,f5⟩:=hf it (by simp);have hl:=rv.length;exact wpAny_pyNext_list_end (I.ok.hd hc) st p.isList (by simp;omega) fun h' eb=>⟨rfl,I.turned (t':=s.toks) (fun b o hb e=>eb b o hb e) f0 f1 f3 f4 f5⟩
 self:=fun _ _ _ _ _ st h=>wpAny_pyIter_listiter st h
def xV{P:az}{w:aU}{K:aa}{tg:aN}(a it:ac):Turn P w K tg (Itt K a) [it] it (fun i h=>h.IsTupleIter it a i) where
 mem:=by simp
 obj:=fun i h st b hb=>by
  have e:b=it:=by simpa using hb
  subst e;obtain⟨o,e,c,d⟩:=st;exact⟨o,e,fun v z=>by rw[d] at z;cases z⟩
 keep:=fun i h h' st k=>st.at fun o e=>k it (by simp) o e
 item:=by intro X hP hw hK hc i GX s σ H E I hf st hg;subst hP hw hK;obtain⟨xs,x,hq,hx⟩:=hg;obtain⟨its,rv,p,hz⟩:=I.tuple hq;obtain⟨u,hu,ru⟩:=rv.get hx;obtain⟨f0,f1,f2,f3,f4,f5⟩:=hf it (by simp);refine wpAny_pyNext_tuple_item st (show s.heap.IsTuple a its.toArray from p) (x:=u) (by simpa using hu) fun h' Ij sb=>?_;have I1:Inv X GX σ H { s with heap:=h' }:=I.turned (t':=s.toks) (fun b o hb e=>(sb.2 b hb).trans e) f0 f1 f3 f4 f5;obtain⟨o,e,c,d⟩:=id Ij;exact⟨u,rfl,yC (s:={ s with heap:=h' }) e c d (by decide) ⟨x,H,I1,ru,⟨rfl,fun ys hy=>by rw[I.tuple_inj hy hq];exact hx⟩,Ij,fun b hb=>(hf b hb).1⟩⟩
 done:=by intro X hP hw hK hc i GX s σ H E I hf st hg;subst hP hw hK;obtain⟨xs,hq,hx⟩:=hg;obtain⟨its,rv,p,hz⟩:=I.tuple hq;obtain⟨f0,f1,f2,f3,f4,f5⟩:=hf it (by simp);have hl:=rv.length;exact wpAny_pyNext_tuple_end (I.ok.hd hc) st (show s.heap.IsTuple a its.toArray from p) (by simp;omega) fun h' eb=>⟨rfl,I.turned (t':=s.toks) (fun b o hb e=>eb b o hb e) f0 f1 f3 f4 f5⟩
 self:=fun _ _ _ _ _ st h=>wpAny_pyIter_tupleiter st h
def xW{P:az}{w:aU}{K:aa}{tg:aN}(it:ac)(lo:Int)(n:Nat):Turn P w K tg (Itr lo n) [it] it (fun i h=>IsRangeIter h it (lo+(i:Nat)*1) ((n:Int)-(i:Nat)) 1) where
 mem:=by simp
 obj:=fun i h st b hb=>by
  have e:b=it:=by simpa using hb
  subst e;exact⟨_,st,fun v z=>by have z':Data.fields _=Data.cell v:=z;cases z'⟩
 keep:=fun i h h' st k=>k it (by simp) _ st
 item:=by intro X hP hw hK hc i GX s σ H E I hf st hg;subst hP hw hK;obtain⟨f0,f1,f2,f3,f4,f5⟩:=hf it (by simp);have W:=Walks.range (prog:=X.prog) (w:=X.w) (I.ok.hd hc) it lo 1 n;refine W.item i s _ _ hg st fun v h' tk hv Ij kk=>?_;obtain⟨t,rfl⟩:=hv;have I1:Inv X GX σ H { s with heap:=h',toks:=tk }:=I.turned (fun b o hb e=>kk b o (by simpa using hb) e) f0 f1 f3 f4 f5;refine⟨_,rfl,yC (s:={ s with heap:=h',toks:=tk }) (n:="range_iterator") Ij rfl rfl (by decide) ⟨.int (lo+i),H,I1,⟨t,?_⟩,⟨rfl,rfl⟩,Ij,fun b hb=>(hf b hb).1⟩⟩;rw[jA]
 done:=by intro X hP hw hK hc i GX s σ H E I hf st hg;subst hP hw hK;obtain⟨f0,f1,f2,f3,f4,f5⟩:=hf it (by simp);exact wpAny_pyNext_range_end (I.ok.hd hc) st (by have:n<=i:=hg;omega) fun h' eb=>⟨rfl,I.turned (t':=s.toks) (fun b o hb e=>eb b o hb e) f0 f1 f3 f4 f5⟩
 self:=fun _ _ _ _ _ st h=>wpAny_pyIter_rangeiter st h
section
variable{X:Cx}{tg:aN}
def iList(K:aa)(tl:TE):TI:=fun σ H R=>tl σ H fun x H1=>∃a,x=.ref a/\(∃xs,SqL K H1 a xs)/\R (Itl K a) H1
def Dh{l:aN}{tl:TE}(hl:PE X l tl):PI X tg l (iList X.K tl):=by
 intro GX s σ H R I h;refine thn (hl GX s σ H _ I h) fun v s1 ⟨x,H1,I1,r1,q1⟩=>?_;obtain⟨a,e,⟨xs,hq⟩,q⟩:=q1;subst e;cases r1;obtain⟨its,rv,p,hz⟩:=I1.list hq;refine ib p.isList ?_;refine⟨s1.heap.objs.size,[s1.heap.objs.size],_,_,H1,rfl,I1.kept (t':=s1.toks) fun b o e=>av _ e,va a _,⟨_,a7 _ rfl,rfl,rfl⟩,fun b hb=>?_,q⟩;have e:b=s1.heap.objs.size:=by simpa using hb
 subst e;exact I1.fpOk (aq _) (I1.hok.fresh (aq _))
def AR{GX:List (ac×Obj)}{σ:St}{H:Hp}{s:ah}{R:It->Hp->Prop}{E:ae->ah->Prop}{lo hi:Int}{t u v:Tok}{tk:Nat}(I:Inv X GX σ H s)(h1:-(2^62)<=lo)(h2:lo<2^62)(h3:-(2^62)<=hi)(h4:hi<2^62)(q:R (Itr lo (hi-lo).toNat) H):aP (model X.prog X.w) X.A (pyIter (.ref s.heap.objs.size)) (PIE X GX σ tg R) E { s with heap:=s.heap.push { cls:=.type "range",data:=.fields #[.int lo t,.int hi u,.int 1 v] },toks:=tk }:=by
 refine wpAny_pyIter_range (IsRange.new ..) (small_one h1 h2 h3 h4) ?_;have I1:Inv X GX σ H { s with heap:=s.heap.push { cls:=.type "range",data:=.fields #[.int lo t,.int hi u,.int 1 v] },toks:=tk }:=I.kept fun b o e=>av _ e;refine⟨(s.heap.push { cls:=.type "range",data:=.fields #[.int lo t,.int hi u,.int 1 v] }).objs.size,[(s.heap.push { cls:=.type "range",data:=.fields #[.int lo t,.int hi u,.int 1 v] }).objs.size],_,_,H,rfl,
  I1.kept (t':=tk) fun b o e=>av _ e,xW _ lo (hi-lo).toNat,?_,fun b hb=>?_,q⟩
 ·have e1:lo+((0:Nat):Int)*1=lo:=by simp
  have e2:(((hi-lo).toNat:Nat):Int)-((0:Nat):Int)=Builtin.Range.rangeSize lo hi 1:=by rw[rangeSize_one];split<;>omega
  show IsRangeIter _ _ (lo+((0:Nat):Int)*1) ((((hi-lo).toNat:Nat):Int)-((0:Nat):Int)) 1;rw[e1,e2];exact a7 _ rfl
 ·have e:b=(s.heap.push { cls:=.type "range",data:=.fields #[.int lo t,.int hi u,.int 1 v] }).objs.size:=by simpa using hb
  subst e;exact I1.fpOk (aq _) (I1.hok.fresh (aq _))
def iRng1(ta:TA):TI:=fun σ H R=>ta σ H fun vs H1=>∃j:Int,vs=[.int j]/\-(2^62)<=j/\j<2^62/\R (Itr 0 j.toNat) H1
def zT{a:aN}{ta:TA}{p pos:Pos}(hg:Gl X "range")(hm:X.mg "range"=none)(ha:PA X [a] ta)(hs:ar [a] X.env=[(false,eval a X.env)]:=by rfl):PI X tg (.Call (.Name "range" p) [a] [] pos) (iRng1 ta):=by
 intro GX s σ H R I h;refine Call_ (uF I hg hm boot_range (dZ (thn (ha pos GX s σ H _ I h) fun us s1 ⟨vs,H1,I1,r1,q1⟩=>?_) hs rfl));obtain⟨j,e,q1,q2,q⟩:=q1;subst e;cases r1 with
 |cons r rr =>
  cases rr;obtain⟨t,rfl⟩:=r;exact call_range_1 (AR I1 (by omega) (by omega) q1 q2 (by simpa using q))
def tFor(wi:TI)(g:TG)(tb:TS):TS:=fun D σ H=>wi σ H fun J H1=>∃W:Nat->Nat->St->Hp->Prop,(∃m,W 0 m σ H1)/\∀i m σ H,W i m σ H ->
 (J.stop i H/\D.nx σ H)\/(J.go i H/\∃N:St->Hp->Prop,(∀σ' H',N σ' H'->∃m',m'<m/\W (i+1) m' σ' H')/\∀x H',J.yld i H x H'->g x σ H' fun σ2 H2=>tb { D with nx:=N,ct:=N,bk:=D.nx } σ2 H2)
def uv(fp:List ac)(h:ba):List (ac×Obj):=fp.filterMap fun b=>(h.get? b).map fun o=>(b,o)
def oh{fp:List ac}{h:ba}{b:ac}{o:Obj}(hb:b∈fp)(e:h.get? b=some o):(b,o)∈uv fp h:=gH.mpr ⟨b,hb,by rw[e];rfl⟩
def z5{fp:List ac}{h:ba}{p:ac×Obj}(hp:p∈uv fp h):p.1∈fp/\h.get? p.1=some p.2:=by
 obtain⟨b,hb,e⟩:=gH.mp hp;cases q:h.get? b with
 |none=>rw[q] at e;cases e
 |some o =>
  rw[q] at e;have e':(b,o)=p:=aO e;subst e';exact⟨hb,q⟩
def Inv.pinned{GX:List (ac×Obj)}{σ:St}{H:Hp}{s:ah}{fp:List ac}(I:Inv X GX σ H s)(hf:∀b∈fp,vI X GX H b)(ho:∀b∈fp,∃o,s.heap.get? b=some o/\∀v,o.data≠.cell v):Inv X (GX++uv fp s.heap) σ H s :=
 I.pins_of fun p hp=>(aA.mp hp).elim (fun z=>I.pin p (aw _ z)) fun z=>by obtain⟨hb,e⟩:=z5 z;obtain⟨f0,f1,f2,_⟩:=hf p.1 hb;obtain⟨o,e',d⟩:=ho p.1 hb;rw[e] at e';cases e';exact⟨e,f0,f1,f2,d⟩
def Inv.unpinned{GX pl:List (ac×Obj)}{σ:St}{H:Hp}{s:ah}(I:Inv X (GX++pl) σ H s):Inv X GX σ H s:=I.pins_of fun p hp=>I.pin p (aw _ (aW _ hp))
def Cd{iter:aN}{body:List bM}{wi:TI}{g:TG}{tb:TS}{pos:Pos}(hp:PassesOwn (model X.prog X.w) X.A X.env X.xe)(hc:X.calm=true)(hi:PI X tg iter wi)(hg:PG X tg g)(hb:PSs X body tb)(hs:∀x,bY iter X.env x=pure x:=by intro _;rfl):PS X (.For tg iter body [] pos) (tFor wi g tb):=by
 intro GX s σ H D I h;refine wpAny_For (thn (hi GX s σ H _ I h) fun v s1 h1=>thn h1 fun Ko s2 h2=>?_) hs;obtain⟨it,fp,tn,J,H2,e,I2,T,Ir,f2,W,⟨m0,w0⟩,Im⟩:=h2;subst e;have Iq:∀{H':Hp},(∀b∈fp,H' b=none)->∀b∈fp,vI X GX H' b:=fun hn b hb=>⟨hn b hb,(f2 b hb).2⟩;refine codeAny_forLoop_any (fun n s'=>∃i σ' H',Inv X GX σ' H' s'/\tn i s'.heap/\(∀b∈fp,H' b=none)/\W i n σ' H') ?_ m0 ⟨0,σ,H2,I2,Ir,fun b hb=>(f2 b hb).1,w0⟩
 rintro n s3 ⟨i,σ3,H3,I3,Ke,fr3,w3⟩
 rcases Im i n σ3 H3 w3 with⟨stop,qn⟩|⟨go,N,hN,step⟩
 ·refine cV hp (thn (T.done X rfl rfl rfl hc i GX s3 σ3 H3 X.xe I3 (Iq fr3) Ke stop) fun r s4 ⟨hr,I4⟩=>?_);subst hr;exact dO ⟨σ3,H3,I4,qn⟩
 ·refine cV hp (thn (T.item X rfl rfl rfl hc i GX s3 σ3 H3 X.xe I3 (Iq fr3) Ke go) fun r s4 ⟨u,hr,h4⟩=>?_);subst hr;refine cV hp (thn h4 fun _ s5 ⟨x,H5,I5,r5,y5,st5,fr5⟩=>?_);have I5':=I5.pinned (Iq fr5) (T.obj _ _ st5);refine cV hp (thn (hg _ s5 σ3 H5 x u _ I5' r5 (step x H5 y5)) fun _ s6 ⟨σ6,H6,I6,q6⟩=>?_);refine cV hp (thn (hb _ s6 σ6 H6 _ I6 q6) fun f s7 q7=>?_);have again:∀{σ7:St}{H7:Hp},Inv X (GX++uv fp s5.heap) σ7 H7 s7->N σ7 H7->∃m,m<n/\∃i σ' H',Inv X GX σ' H' s7/\tn i s7.heap/\(∀b∈fp,H' b=none)/\W i m σ' H':=fun{σ7 H7} I7 n7=>by obtain⟨m',hm,w7⟩:=hN σ7 H7 n7;refine⟨m',hm,i+1,σ7,H7,I7.unpinned,T.keep _ _ _ st5 fun b hb o e=>(I7.pin (b,o) (aw _ (aw _ (oh hb e)))).1,fun b hb=>?_,w7⟩;obtain⟨o,e,d⟩:=T.obj _ _ st5 b hb;exact(I7.pin (b,o) (aw _ (aw _ (oh hb e)))).2.1
  cases f with
  |next=>obtain⟨σ7,H7,I7,n7⟩:=q7;exact again I7 n7
  |cont=>obtain⟨σ7,H7,I7,n7⟩:=q7;exact again I7 n7
  |brk=>obtain⟨σ7,H7,I7,q7⟩:=q7;exact⟨σ7,H7,I7.unpinned,q7⟩
  |ret v=>obtain⟨x7,σ7,H7,I7,r7,q7⟩:=q7;exact⟨x7,σ7,H7,I7.unpinned,r7,q7⟩
end
abbrev R2:=V->V->Hp->VK->Prop
def OpR(X:Cx)(f:ae->ae->Sem ae)(r:R2):Prop :=
 ∀(GX:List (ac×Obj))(s:ah)(σ:St)(H:Hp)(x y:V)(v u:ae)(Q:VK),Inv X GX σ H s->RelV x v->RelV y u->r x y H Q ->
  aP (model X.prog X.w) X.A (f v u) (EP X GX σ Q) X.xe s
def UnR(X:Cx)(f:ae->Sem ae)(r:V->Hp->VK->Prop):Prop :=
 ∀(GX:List (ac×Obj))(s:ah)(σ:St)(H:Hp)(x:V)(v:ae)(Q:VK),Inv X GX σ H s->RelV x v->r x H Q ->
  aP (model X.prog X.w) X.A (f v) (EP X GX σ Q) X.xe s
def CallR(X:Cx)(f:ae)(r:List V->Hp->VK->Prop):Prop :=
 ∀(GX:List (ac×Obj))(s:ah)(σ:St)(H:Hp)(xs:List V)(us:List ae)(Q:VK),Inv X GX σ H s->Vals xs us->r xs H Q ->
  aP (model X.prog X.w) X.A (call f us) (EP X GX σ Q) X.xe s
def tOp(r:R2)(ta tb:TE):TE:=fun σ H Q=>ta σ H fun x H1=>tb σ H1 fun y H2=>r x y H2 Q
def tUn(r:V->Hp->VK->Prop)(ta:TE):TE:=fun σ H Q=>ta σ H fun x H1=>r x H1 Q
def rI(C:Int->Int->Prop)(g:Int->Int->V):R2:=fun x y H Q=>∃i j,x=.int i/\y=.int j/\C i j/\Q (g i j) H
def rI0(g:Int->Int->V):R2:=fun x y H Q=>∃i j,x=.int i/\y=.int j/\Q (g i j) H
def rU(g:Int->V):V->Hp->VK->Prop:=fun x H Q=>∃i,x=.int i/\Q (g i) H
section
variable{X:Cx}{a b c:aN}{ta tb tc:TE}{pos:Pos}
def GW(ha:PE X a ta)(hb:PE X b tb){GX:List (ac×Obj)}{s:ah}{σ:St}{H:Hp}{R:V->V->Hp->Prop}(I:Inv X GX σ H s)(h:ta σ H fun x H1=>tb σ H1 fun y H2=>R x y H2){Q:ae->ah->Prop}{f:ae->ae->Sem ae}(hf:∀v u s2 x y H2,Inv X GX σ H2 s2->RelV x v->RelV y u->R x y H2->aP (model X.prog X.w) X.A (f v u) Q X.xe s2) :
  aP (model X.prog X.w) X.A (eval a X.env) (fun v G6=>aP (model X.prog X.w) X.A (eval b X.env) (fun u IB=>aP (model X.prog X.w) X.A (f v u) Q X.xe IB) X.xe G6) X.xe s:=by
 refine thn (ha GX s σ H _ I h) fun v s1 ⟨x,H1,I1,r1,q1⟩=>?_;refine thn (hb GX s1 σ H1 _ I1 q1) fun u s2 ⟨y,H2,I2,r2,q2⟩=>?_;exact hf v u s2 x y H2 I2 r1 r2 q2
def oE{op:Operator}{r:R2}(ho:OpR X (cH op) r)(ha:PE X a ta)(hb:PE X b tb):PE X (.BinOp a op b pos) (tOp r ta tb):=by intro GX s σ H Q I h;exact wpAny_BinOp (GW ha hb I h fun v u s2 x y H2 I2 rx ry q=>ho GX s2 σ H2 x y v u Q I2 rx ry q)
def pe_un{op:UnaryOp}{r:V->Hp->VK->Prop}(ho:UnR X (unaryOp op) r)(ha:PE X a ta):PE X (.UnaryOp op a pos) (tUn r ta):=by intro GX s σ H Q I h;exact UnaryOp_ (thn (ha GX s σ H _ I h) fun v s1 ⟨x,H1,I1,r1,q1⟩=>ho GX s1 σ H1 x v Q I1 r1 q1)
def opI{f:ae->ae->Sem ae}{C:Int->Int->Prop}{g:Int->Int->Int}(rule:∀(i j:Int)(t u:Tok)(s:ah)(Q:ae->ah->Prop)(E:ae->ah->Prop),C i j->Q (.int (g i j) s.toks) { s with toks:=s.toks+1 }->aP (model X.prog X.w) X.A (f (.int i t) (.int j u)) Q E s) :
  OpR X f (rI C fun i j=>.int (g i j)):=by
 intro GX s σ H x y v u Q I rx ry h;obtain⟨i,j,rfl,rfl,hc,q⟩:=h;obtain⟨t,rfl⟩:=rx;obtain⟨t',rfl⟩:=ry;exact rule i j t t' s _ _ hc ⟨.int (g i j),H,I.tok _,⟨_,rfl⟩,q⟩
def opI0{f:ae->ae->Sem ae}{g:Int->Int->Int}(rule:∀(i j:Int)(t u:Tok)(s:ah)(Q:ae->ah->Prop)(E:ae->ah->Prop),Q (.int (g i j) s.toks) { s with toks:=s.toks+1 }->aP (model X.prog X.w) X.A (f (.int i t) (.int j u)) Q E s) :
  OpR X f (rI0 fun i j=>.int (g i j)):=by
 intro GX s σ H x y v u Q I rx ry h;obtain⟨i,j,rfl,rfl,q⟩:=h;obtain⟨t,rfl⟩:=rx;obtain⟨t',rfl⟩:=ry;exact rule i j t t' s _ _ ⟨.int (g i j),H,I.tok _,⟨_,rfl⟩,q⟩
def E2{f:ae->ae->Sem ae}{g:Int->Int->Bool}(rule:∀(i j:Int)(t u:Tok)(s:ah)(Q:ae->ah->Prop)(E:ae->ah->Prop),Q (.bool (g i j)) s->aP (model X.prog X.w) X.A (f (.int i t) (.int j u)) Q E s) :
  OpR X f (rI0 fun i j=>.bl (g i j)):=by
 intro GX s σ H x y v u Q I rx ry h;obtain⟨i,j,rfl,rfl,q⟩:=h;obtain⟨t,rfl⟩:=rx;obtain⟨t',rfl⟩:=ry;exact rule i j t t' s _ _ ⟨.bl (g i j),H,I,rfl,q⟩
def CPow(i j:Int):Prop:=0<=j/\j<=1000000/\i.natAbs<2^64
def CMul(i j:Int):Prop:=(-(2^64)<i/\i<2^64)\/(-(2^64)<j/\j<2^64)
def CMul.ok{i j:Int}(h:CMul i j):gK i j:=by
 rcases h with⟨h1,h2⟩|⟨h1,h2⟩
 ·exact .of_left (intBits_le_64 h1 h2)
 ·exact .of_right (intBits_le_64 h1 h2)
def op_add:OpR X (cH .Add) (rI0 fun i j=>.int (i+j)):=opI0 fun _ _ _ _ _ _ _ q=>add_int q
def FN:OpR X (cH .Sub) (rI0 fun i j=>.int (i-j)):=opI0 fun _ _ _ _ _ _ _ q=>sub_int q
def FR:OpR X (cH .Mult) (rI CMul fun i j=>.int (i*j)):=opI fun _ _ _ _ _ _ _ hc q=>mul_int q hc.ok
def Ck:OpR X (cH .Mod) (rI (fun _ j=>0<j) fun i j=>.int (i%j)):=opI fun i j _ _ _ _ _ hc q=>by have h1:(0:Int)<j:=hc;exact mod_int' (by omega) (by rw[Int.fmod_eq_emod_of_nonneg i (by omega)];exact q)
def FP:OpR X (cH .Pow) (rI CPow fun i j=>.int (i^j.toNat)):=opI fun _ _ _ _ _ _ _ hc q=>pow_int_small hc.1 hc.2.1 hc.2.2 q
def unI{f:ae->Sem ae}{g:Int->Int}(rule:∀(i:Int)(t:Tok)(s:ah)(Q:ae->ah->Prop)(E:ae->ah->Prop),Q (.int (g i) s.toks) { s with toks:=s.toks+1 }->aP (model X.prog X.w) X.A (f (.int i t)) Q E s) :
  UnR X f (rU fun i=>.int (g i)):=by
 intro GX s σ H x v Q I rx h;obtain⟨i,rfl,q⟩:=h;obtain⟨t,rfl⟩:=rx;exact rule i t s _ _ ⟨.int (g i),H,I.tok _,⟨_,rfl⟩,q⟩
def Fk:UnR X (unaryOp .USub) (rU fun i=>.int (-i)):=unI fun _ _ _ _ _ q=>neg_int q
def scal:V->V->Bool
 |.non,.non=>true|.non,.int _=>true|.int _,.non=>true|.non,.bl _=>true|.bl _,.non=>true|.non,.str _=>true|.str _,.non=>true
 |.int _,.int _=>true|.bl _,.bl _=>true|.str _,.str _=>true|.byt _,.byt _=>true
 |.int _,.str _=>true|.str _,.int _=>true|.bl _,.str _=>true|.str _,.bl _=>true
 |_,_=>false
def rNe:R2:=fun x y H Q=>scal x y=true/\Q (.bl (!decide (x=y))) H
def Eg{i j:Int}:decide (V.int i=V.int j)=(i==j):=by rw[bQ];simp
def GA{i j:Bool}:decide (V.bl i=V.bl j)=(i==j):=by rw[bQ];simp
def Ef{i j:Str}:decide (V.str i=V.str j)=(i==j):=by rw[bQ];simp
def Eh{i j:Array UInt8}:decide (V.byt i=V.byt j)=(i.toList==j.toList):=by rw[bQ];cases i;cases j;simp
def lJ{GX:List (ac×Obj)}{σ:St}{H:Hp}{s:ah}{Q:VK}{k k':Bool}(I:Inv X GX σ H s)(q:Q (.bl k) H)(e:k=k'):EP X GX σ Q (.bool k') s:=by subst e;exact⟨.bl k,H,I,rfl,q⟩
def op_ne:OpR X (bI .NotEq) rNe:=by
 intro GX s σ H x y v u Q I rx ry h;obtain⟨hs,q⟩:=h;cases x with
 |non =>
  cases rx;cases y with
  |non=>cases ry;exact PySem.EqNone.ne_none_none (lJ I q (by simp))
  |bl j=>cases ry;exact PySem.EqNone.ne_none_bool (lJ I q (by simp))
  |int j=>obtain⟨t',rfl⟩:=ry;exact PySem.EqNone.ne_none_int (lJ I q (by simp))
  |str j=>obtain⟨t',rfl⟩:=ry;exact PySem.EqNone.ne_none_str (lJ I q (by simp))
  |_=>exact absurd (show false=true from hs) aR
 |bl i =>
  cases rx;cases y with
  |non=>cases ry;exact PySem.EqNone.ne_bool_none (lJ I q (by simp))
  |bl j=>cases ry;exact ne_bool (lJ I q (congrArg not GA))
  |str j=>obtain⟨t',rfl⟩:=ry;exact PySem.EqMixed.ne_bool_str (lJ I q (by simp))
  |_=>exact absurd (show false=true from hs) aR
 |int i =>
  obtain⟨t,rfl⟩:=rx;cases y with
  |non=>cases ry;exact PySem.EqNone.ne_int_none (lJ I q (by simp))
  |int j=>obtain⟨t',rfl⟩:=ry;exact ne_int (lJ I q (congrArg not Eg))
  |str j=>obtain⟨t',rfl⟩:=ry;exact PySem.EqMixed.ne_int_str (lJ I q (by simp))
  |_=>exact absurd (show false=true from hs) aR
 |str i =>
  obtain⟨t,rfl⟩:=rx;cases y with
  |non=>cases ry;exact PySem.EqNone.ne_str_none (lJ I q (by simp))
  |bl j=>cases ry;exact PySem.EqMixed.ne_str_bool (lJ I q (by simp))
  |int j=>obtain⟨t',rfl⟩:=ry;exact PySem.EqMixed.ne_str_int (lJ I q (by simp))
  |str j=>obtain⟨t',rfl⟩:=ry;exact ne_str (lJ I q (congrArg not Ef))
  |_=>exact absurd (show false=true from hs) aR
 |byt i =>
  obtain⟨t,rfl⟩:=rx;cases y with
  |byt j=>obtain⟨t',rfl⟩:=ry;exact PySem.W.ne_bytes (lJ I q (congrArg not Eh))
  |_=>exact absurd (show false=true from hs) aR
 |_=>cases y<;>exact absurd (show false=true from hs) aR
def EY:OpR X (bI .Lt) (rI0 fun i j=>.bl (decide (i<j))):=E2 fun _ _ _ _ _ _ _ q=>lt_int q
def EZ:OpR X (bI .LtE) (rI0 fun i j=>.bl (decide (i<=j))):=E2 fun _ _ _ _ _ _ _ q=>le_int q
def E1:OpR X (bI .Gt) (rI0 fun i j=>.bl (decide (j<i))):=E2 fun _ _ _ _ _ _ _ q=>gt_int q
def CM:OpR X (bI .GtE) (rI0 fun i j=>.bl (decide (j<=i))):=E2 fun _ _ _ _ _ _ _ q=>ge_int q
def OpR.or{f:ae->ae->Sem ae}{r r':R2}(h:OpR X f r)(h':OpR X f r'):OpR X f (fun x y H Q=>r x y H Q\/r' x y H Q):=by
 intro GX s σ H x y v u Q I rx ry q;rcases q with q|q
 ·exact h GX s σ H x y v u Q I rx ry q
 ·exact h' GX s σ H x y v u Q I rx ry q
def pR(b:aN){op:gY}(h:op≠.In:=by decide)(h2:op≠.NotIn:=by decide):ce op b=false:=by
 have e1:(op==CmpOp.In)=false:=by cases op<;>first|rfl|exact absurd rfl h
 have e2:(op==CmpOp.NotIn)=false:=by cases op<;>first|rfl|exact absurd rfl h2
 cases b<;>simp[ce,e1,e2]
def zk{op:gY}{r:R2}(ho:OpR X (bI op) r)(ha:PE X a ta)(hb:PE X b tb)(hm:ce op b=false):PE X (.Compare a [op] [b] pos) (tOp r ta tb):=by intro GX s σ H Q I h;exact wpAny_Compare1 (GW ha hb I h fun v u s2 x y H2 I2 rx ry q=>ho GX s2 σ H2 x y v u Q I2 rx ry q) hm
def tTest(t:TE):TT:=fun σ H Q=>t σ H fun x H'=>∃k,x=.bl k/\Q k H'
def pP{op:gY}{r:R2}(ho:OpR X (bI op) r)(ha:PE X a ta)(hb:PE X b tb)(hm:ce op b=false):PT X (.Compare a [op] [b] pos) (tTest (tOp r ta tb)):=by
 intro GX s σ H Q I h;refine wpAny_isTrue_Compare1 (thn (ha GX s σ H _ I h) fun v s1 ⟨x,H1,I1,r1,q1⟩=>thn (hb GX s1 σ H1 _ I1 q1) fun u s2 ⟨y,H2,I2,r2,q2⟩ =>
  thn (ho GX s2 σ H2 x y v u _ I2 r1 r2 q2) fun c s3 ⟨z,H3,I3,r3,k,e,q3⟩=>?_) hm
 subst e;cases r3;exact cY ⟨H3,I3,q3⟩
def Fs(r r':R2)(ta tb tc:TE):TE:=fun σ H Q=>ta σ H fun x H1=>tb σ H1 fun y H2=>r x y H2 fun z H3=>∃k,z=.bl k /\
 (if k=true then tc σ H3 fun w' H4=>r' y w' H4 Q else Q (.bl false) H3)
def xw{op LQ:gY}{r r':R2}(ho:OpR X (bI op) r)(Jg:OpR X (bI LQ) r')(ha:PE X a ta)(hb:PE X b tb)(hc:PE X c tc)(hm:lastMarks [op,LQ] [b,c]=false:=by with_unfolding_all rfl):PE X (.Compare a [op,LQ] [b,c] pos) (Fs r r' ta tb tc):=by
 intro GX s σ H Q I h;refine Compare_chain (thn (ha GX s σ H _ I h) fun v s1 ⟨x,H1,I1,r1,q1⟩=>chain_link (thn (hb GX s1 σ H1 _ I1 q1) fun u s2 ⟨y,H2,I2,r2,q2⟩ =>
  thn (ho GX s2 σ H2 x y v u _ I2 r1 r2 q2) fun d s3 ⟨z,H3,I3,r3,k,e,q3⟩=>?_)) hm
 subst e;cases r3;refine cY ?_;cases k with
 |false=>exact ite_ff ⟨.bl false,H3,I3,rfl,q3⟩
 |true=>exact ite_tt (chain_last (thn (hc GX s3 σ H3 _ I3 q3) fun w' s4 ⟨z',H4,I4,r4,q4⟩=>Jg GX s4 σ H4 y z' u w' Q I4 r2 r4 q4))
def su:(aB:Nat)<2^63:=by rw[iJ];decide
def op_add_str:OpR X (cH .Add) (fun x y H Q=>∃i j,x=.str i/\y=.str j/\i.length+j.length<=aB/\Q (.str (i++j)) H):=by intro GX s σ H x y v u Q I rx ry h;obtain⟨i,j,rfl,rfl,hz,q⟩:=h;obtain⟨t,rfl⟩:=rx;obtain⟨t',rfl⟩:=ry;exact add_str (fun t' tk=>⟨.str (i++j),H,I.tok _,⟨_,rfl⟩,q⟩) hz
def oB{x:V}{us:List ae}(r:Vals [x] us):∃u,us=[u]/\RelV x u:=by
 cases r with
 |cons r1 r2=>cases r2;exact⟨_,rfl,r1⟩
def EI{x y:V}{us:List ae}(r:Vals [x,y] us):∃u w',us=[u,w']/\RelV x u/\RelV y w':=by
 cases r with
 |cons r1 r2 =>
  cases r2 with
  |cons r3 r4=>cases r4;exact⟨_,_,rfl,r1,r3⟩
def BL:CallR X (.builtin "abs") (fun xs H Q=>∃i,xs=[.int i]/\Q (.int (if i<0 then -i else i)) H):=by intro GX s σ H xs us Q I r h;obtain⟨i,rfl,q⟩:=h;obtain⟨u,rfl,t,rfl⟩:=oB r;exact call_abs_int fun u tk=>⟨.int (if i<0 then -i else i),H,I.tok _,⟨_,rfl⟩,q⟩
def Ap:CallR X (.type "int") (fun xs H Q=>(∃i,xs=[.int i]/\Q (.int i) H)\/∃k,xs=[.bl k]/\Q (.int (if k then 1 else 0)) H):=by
 intro GX s σ H xs us Q I r h;rcases h with⟨i,rfl,q⟩|⟨k,rfl,q⟩
 ·obtain⟨u,rfl,t,rfl⟩:=oB r;exact call_int_int ⟨.int i,H,I,⟨_,rfl⟩,q⟩
 ·obtain⟨u,rfl,r1⟩:=oB r;cases r1;exact call_int_bool ⟨.int (if k then 1 else 0),H,I.tok _,⟨_,rfl⟩,q⟩
end
structure ObjM(h:ba)(x dx C:ac)(mA:Str->Option ae):Prop where
 obj:h.get? x=some (cz C dx)
 ns:h.Ns1 dx mA
 ne:dx≠x
def Aa{h:ba}{dx:ac}{mA:Str->Option ae}(n:h.Ns1 dx mA):∃od,h.get? dx=some od/\∀name,fU name od=some (mA name):=by
 obtain⟨o,es,ep,ho,hd,hk,_,hm⟩:=n;refine⟨o,ho,fun name=>?_⟩;have e:=hm name;unfold nsFind findBy at e;rw[<-Array.find?_toList] at e;unfold fU;rw[hd];dsimp only;split
 ·rename_i y q;rw[q] at e;exact congrArg some e
 ·rename_i q;rw[q] at e;have a:es.toList.any (·.refKey)=false:=by rw[List.any_eq_false];intro y hy;obtain⟨z,t,JN⟩:=hk y (Array.mem_toList_iff.mp hy);simp[DictEntry.refKey,JN]
  have a':¬es.toList.any (·.refKey)=true:=by rw[a];exact aR
  rw[if_neg a'];exact congrArg some e
def ObjM.look{h:ba}{x dx C:ac}{mA:Str->Option ae}(I:ObjM h x dx C mA):∃od,PySem.W.InstAt h x (cz C dx) C (some od)/\∀name,fU name od=some (mA name) :=
 let⟨od,ho,hl⟩:=Aa I.ns
 ⟨od,⟨I.obj,rfl,rfl,ho⟩,hl⟩
section
variable{prog:az}{w:aU}{A:bx}{E:ae->ah->Prop}{s:ah}{K:aa}{x dx C f:ac}{mA:Str->Option ae}{name:Str}{v:ae}
def D3{MR:Bool}{Q:ae->ah->Prop}(X:K.In s.heap)(I:ObjM s.heap x dx C mA)(hg:dS K C name=true)(hh:eV K C=true)(ha:aM K (.ref C) name=some none)(hv:mA name=some v)(hv':ju v=true)(h:Q v { s with toks:=s.toks+1 }) :
  aP (model prog w) A (getAttr (.ref x) name MR) Q E s:=by
 obtain⟨od,J,hl⟩:=I.look;exact PySem.W.get_value X J (gc hg).1 (PySem.W.findObj_own hh ha rfl (by rw[hl,hv])) hv' h
def Bv{pl:Sem Bool}{Q:ae×List ae->ah->Prop}(X:K.In s.heap)(I:ObjM s.heap x dx C mA)(hg:dS K C name=true)(hf:aM K (.ref C) name=some (some (.ref f)))(ht:fA K (.ref f)=true)(hv:mA name=none)(h:Q (.ref f,[.ref x]) s) :
  aP (model prog w) A (iB (.ref x) name pl) Q E s:=by
 obtain⟨od,J,hl⟩:=I.look;exact PySem.W.method_fn X J (gc hg).1 (gc hg).2 hf (beq_iff_eq.mp ht) (by show(fU name od).map (·.isSome)=some false;rw[hl,hv];rfl) h
def C2{ns:List Str}{Q:Unit->ah->Prop}(X:K.In s.heap)(I:ObjM s.heap x dx C mA)(hs:aM K (.ref C) "__setattr__"=some (some (.builtin "object.__setattr__")))(hp:gy K C=true)(ht:gW K C name=some none)(hh:eV K C=true)(hw:iO mA ns)(hsz:ns.length<=aB)(h:∀h',ObjM h' x dx C (fun y=>if y=name then some v else mA y)->gQ dx s.heap h'->Q () { s with heap:=h',toks:=s.toks+2 }) :
  aP (model prog w) A (setAttr (.ref x) name v) Q E s:=by
 obtain⟨od,J,hl⟩:=I.look;refine PySem.W.set_plain X J hs (PySem.W.osa_open (s:={ s with toks:=s.toks+1 }) (r:=none) X J hp ht fun b=>?_);obtain⟨cd,hc,MD⟩:=PySem.W.any_some hh;have hx:s.heap.get? x=some ⟨.ref C,some dx,.plain,#[]⟩:=I.obj;refine ao (aH (ao (ao (wpAny_loadPart hx (ao (PySem.W.Looks.here (s:={ s with toks:=s.toks+1 }) (PySem.W.looks_clsIn X hc) ?_))))));rw[MD];refine aH (a:=some dx) (ao (aH (ao ?_)));refine wpAny_nsSet1 (s:={ s with toks:=s.toks+1 }) I.ns fun h' Lm Lk=>?_;obtain⟨oD,esD,epD,hoD,hdD,hcD⟩:=Lm.count (PySem.Within.cons name v hw);refine ao (wpAny_lookBehind hoD (by rw[hdD];exact pastItsLine_dict (aC hcD (by rw[bR];omega))) ?_);exact aH (h _ ⟨(Lk.2 _ (cj I.ne)).trans I.obj,Lm,I.ne⟩ Lk)
def Bl{R:iD->ah->Prop}{vs:List ae}{kw:List (Str×ae)}(X:K.In s.heap)(hm:gX K C=true)(hi:aM K (.ref C) "__init__"=some (some (.ref f)))(hf:PySem.W.typeIn K (.ref f)=some (.type "function"))(h:eR (model prog w) (A.under (.builtin "type.__call__" ⟨.ref C::vs,kw⟩)) (.call (.ref f) ⟨.ref (s.heap.objs.size+1)::vs,kw⟩) (PySem.W.InitBack (s.heap.objs.size+1) R)
   {s with heap:=(s.heap.push bW).push (cz C s.heap.objs.size) }) :
  eR (model prog w) A (.call (.ref C) ⟨vs,kw⟩) R s:=by
 obtain⟨hh,g,d,t,os⟩:=s;exact PySem.W.make_core (PySem.W.makes_of X hm) (gA X hi) (fun self=>PySem.W.bind_fn X self hf) (.inl rfl) h
end
def og(f:Str)(v:V):List (Str×V)->List (Str×V)
 |[]=>[(f,v)]
 |(g,x)::r=>if g=f then(g,v)::r else(g,x)::og f v r
theorem rN(f g:Str)(v:V):∀fs:List (Str×V),(og f v fs).lookup g=if g=f then some v else fs.lookup g
 |[]=>by
  show cm g [(f,v)]=_;by_cases h:g=f
  ·have hb:(g==f)=true:=beq_iff_eq.mpr h;simp only[cm,hb,if_pos h]
  ·have hb:(g==f)=false:=beq_eq_false_iff_ne.mpr h;simp only[cm,hb,if_neg h]
 |(k,x)::r=>by
  have ih:=rN f g v r;rw[show og f v ((k,x)::r)=(if k=f then(k,v)::r else(k,x)::og f v r) from rfl];by_cases hk:k=f
  ·rw[if_pos hk];by_cases h:g=k
   ·have hb:(g==k)=true:=beq_iff_eq.mpr h;simp only[cm,hb,if_pos (h.trans hk)]
   ·have hb:(g==k)=false:=beq_eq_false_iff_ne.mpr h;simp only[cm,hb,if_neg (fun e:g=f=>h (e.trans hk.symm))]
  ·rw[if_neg hk];by_cases h:g=k
   ·have hb:(g==k)=true:=beq_iff_eq.mpr h;simp only[cm,hb,if_neg (fun e:g=f=>hk (h.symm.trans e))]
   ·have hb:(g==k)=false:=beq_eq_false_iff_ne.mpr h;simp only[cm,hb];exact ih
theorem rD(f:Str)(v:V):∀fs:List (Str×V),f∈(og f v fs).map (·.1)/\∀g,g∈fs.map (·.1)->g∈(og f v fs).map (·.1)
 |[]=>⟨by simp[og],fun g h=>by simp at h⟩
 |(k,x)::r=>by
  obtain⟨i1,i2⟩:=rD f v r;rw[show og f v ((k,x)::r)=(if k=f then(k,v)::r else(k,x)::og f v r) from rfl];by_cases hk:k=f
  ·rw[if_pos hk];subst hk;exact⟨by simp,fun g h=>by simpa using h⟩
  ·rw[if_neg hk];refine⟨?_,fun g h=>?_⟩
   ·rw[aG];exact ak _ i1
   ·rw[aG] at h ⊢;rcases aj.mp h with e|e
    ·exact aj.mpr (.inl e)
    ·exact ak _ (i2 g e)
theorem oX(f:Str)(v:V):∀fs:List (Str×V),(og f v fs).length<=fs.length+1
 |[]=>by simp[og]
 |(k,x)::r=>by
  have ih:=oX f v r;rw[show og f v ((k,x)::r)=(if k=f then(k,v)::r else(k,x)::og f v r) from rfl];by_cases hk:k=f
  ·rw[if_pos hk,bR,bR];omega
  ·rw[if_neg hk,bR,bR];omega
def RelO.some_of{v:V}{o:Option ae}(r:RelO (some v) o):∃u,o=some u/\RelV v u:=by
 cases o with
 |none=>exact(show False from r).elim
 |some u=>exact⟨u,rfl,r⟩
def RelO.none_of{o:Option ae}(r:RelO none o):o=none:=by
 cases o with
 |none=>rfl
 |some u=>exact(show False from r).elim
def Ah{v:V}{u:ae}(r:RelV v u):ju u=true:=by
 cases v with
 |non=>cases(show u=gC from r);rfl
 |bl b=>cases(show u=ik b from r);rfl
 |int i=>obtain⟨t,e⟩:=(show ∃t,u=gh i t from r);cases e;rfl
 |str x=>obtain⟨t,e⟩:=(show ∃t,u=fC x t from r);cases e;rfl
 |byt b=>obtain⟨t,e⟩:=(show ∃t,u=Value.bytes b t from r);cases e;rfl
 |flt b=>obtain⟨t,e⟩:=(show ∃t,u=ja b t from r);cases e;rfl
 |ref a=>cases(show u=aV a from r);rfl
 |ty n=>cases(show u=Value.type n from r);rfl
section
variable{P:az}{w:aU}{H H':Hp}{h h':ba}{a C dx:ac}{fs JV:List (Str×V)}
def tu(hok:HOk P w H h)(e:H a=some (.ins C dx fs)):∃mA,ObjM h a dx C mA/\(∀f,RelO (fs.lookup f) (mA f))/\iO mA (fs.map (·.1))/\fs.length<=1000/\H dx=some (.own a):=by obtain⟨d,z,ne,ob,mA,n,r,q⟩:=(show ObjOk P w H h a (.ins C dx fs) from hok a _ e);exact⟨mA,⟨ob,n,ne⟩,r,q,z,d⟩
end
structure Cls(K:aa)(C:ac):Prop where
 pg:dS K C cq=true
 hd:eV K C=true
 po:gy K C=true
 sa:aM K (.ref C) "__setattr__"=some (some (.builtin "object.__setattr__"))
def Cls.get{K:aa}{C:ac}(c:Cls K C)(f:Str):dS K C f=true:=c.pg
def NoAttr(K:aa)(C:ac)(f:Str):Prop:=aM K (.ref C) f=some none
def NoAttr.taker{K:aa}{C:ac}{f:Str}(n:NoAttr K C f):gW K C f=some none:=by unfold gW;rw[show aM K (.ref C) f=some none from n];rfl
structure Con(K:aa)(C:ac)(f:Str)(v:V)(u:ae):Prop where
 at_:aM K (.ref C) f=some (some u)
 rel:RelV v u
 get:dE K u "__get__"=some none
 cp:PySem.W.copiedNames.contains f=false
structure Meth(K:aa)(C:ac)(m:Str)(f:ac):Prop where
 at_:aM K (.ref C) m=some (some (.ref f))
 fn:fA K (.ref f)=true
 kp:b5 K (.ref f)=true
section
variable{X:Cx}{GX:List (ac×Obj)}{σ:St}{H:Hp}{s:ah}{a C dx:ac}{fs:List (Str×V)}{f:Str}{v:V}{A:bx}{E:ae->ah->Prop}
def yG{b:Bool}{Q:ae->ah->Prop}(I:Inv X GX σ H s)(e:H a=some (.ins C dx fs))(c:Cls X.K C)(n:NoAttr X.K C f)(l:fs.lookup f=some v)(h:∀u s',Inv X GX σ H s'->RelV v u->Q u s'):aP (model X.prog X.w) A (getAttr (.ref a) f b) Q E s:=by
 obtain⟨mA,O,r,_,_,_⟩:=tu I.hok e;obtain⟨u,hu,ru⟩:=RelO.some_of (v:=v) (o:=mA f) (by rw[<-l];exact r f);exact D3 I.kIn O (c.get f) c.hd n hu (Ah ru) (h u _ (I.tok _) ru)
def yE{m:Str}{g:ac}{pl:Sem Bool}{Q:ae×List ae->ah->Prop}(I:Inv X GX σ H s)(e:H a=some (.ins C dx fs))(c:Cls X.K C)(k:Meth X.K C m g)(l:fs.lookup m=none)(h:Q (.ref g,[.ref a]) s):aP (model X.prog X.w) A (iB (.ref a) m pl) Q E s:=by
 obtain⟨mA,O,r,_,_,_⟩:=tu I.hok e;have hn:mA m=none:=RelO.none_of (by rw[<-l];exact r m);exact Bv I.kIn O (c.get m) k.at_ k.fn hn h
def x5{y:V}{u:ae}{Q:Unit->ah->Prop}(I:Inv X GX σ H s)(e:H a=some (.ins C dx fs))(c:Cls X.K C)(n:NoAttr X.K C f)(hl:fs.length<1000)(ry:RelV y u)(h:∀s',Inv X GX σ (upd H a (.ins C dx (og f y fs))) s'->Q () s'):aP (model X.prog X.w) A (setAttr (.ref a) f u) Q E s:=by
 obtain⟨mA,O,r,wi,_,ho⟩:=tu I.hok e;have hz:(fs.map (·.1)).length<=aB:=by rw[af,iJ];omega
 refine C2 I.kIn O c.sa c.po n.taker c.hd wi hz fun h' O' sb=>h _ ?_;have hd:∃o,h'.get? dx=some o:=let⟨o,_,_,e',_⟩:=O'.ns;⟨o,e'⟩;refine I.write (x:=a) (e:=dx) (by rw[e];exact bZ) (.inr ho) (fun b q hb z=>(sb.2 b hb).trans z) hd ?_;refine⟨by rw[jN O.ne];exact ho,?_,O.ne,O'.obj,_,O'.ns,fun g=>?_,fun g hg=>?_⟩
 ·have:=oX f y fs;omega
 ·show RelO ((og f y fs).lookup g) (if g=f then some u else mA g);rw[rN];by_cases q:g=f
  ·rw[if_pos q,if_pos q];exact ry
  ·rw[if_neg q,if_neg q];exact r g
 ·by_cases q:g=f
  ·rw[q];exact(rD f y fs).1
  ·refine(rD f y fs).2 g (wi g fun z=>hg ?_);show(if g=f then some u else mA g)=none;rw[if_neg q];exact z
def Inv.made(I:Inv X GX σ H s):Inv X GX σ (upd (upd H s.heap.objs.size (.own (s.heap.objs.size+1))) (s.heap.objs.size+1) (.ins C s.heap.objs.size []))
  {s with heap:=(s.heap.push bW).push (cz C s.heap.objs.size) }:=by
 have e1:(s.heap.push bW).get? s.heap.objs.size=some bW:=a7 s.heap rfl;have e2:((s.heap.push bW).push (cz C s.heap.objs.size)).get? (s.heap.objs.size+1)=some (cz C s.heap.objs.size):=by have:=a7 (s.heap.push bW) (o:=cz C s.heap.objs.size) rfl;rwa[Heap.size_push] at this
 have e3:(s.heap.push bW).Ns s.heap.objs.size (fun _=>none):=⟨bW,#[],_,e1,rfl,(fun e he=>absurd he (by simp)),fun _=>rfl⟩;have I1:=I.laid (a:=s.heap.objs.size) (o:=.own (s.heap.objs.size+1)) (h':=s.heap.push bW) (t':=s.toks) (fun b u q=>av _ q) (aq _) ⟨_,e1⟩;refine I1.laid (a:=s.heap.objs.size+1) (o:=.ins C s.heap.objs.size []) (t':=s.toks) (fun b u q=>av _ q) (je (Heap.size_push _ _)) ?_;have ne:s.heap.objs.size≠s.heap.objs.size+1:=aT (di _);refine⟨by rw[jN ne,jR],a6 _,ne,e2,fun _=>none,(Heap.Ns1.of_empty e3).at fun o q=>av _ q,fun _=>bZ,fun y hy=>absurd rfl hy⟩
def EB{prog:az}{w:aU}{env:Env}{e:aN}{f:Str}{pos:Pos}{s:ah}{Q:ae->ah->Prop}(hb:cy e f env (eval e env)=eval e env)(h:aP (model prog w) A (eval e env) (fun o G6=>aP (model prog w) A (getAttr o f true) Q E G6) E s):aP (model prog w) A (eval (.Attribute e f pos) env) Q E s :=
 Attribute_any_ h (by rw[arm_eval_Attribute,hb])
end
def tFld(K:aa)(ta:TE)(f:Str):TE:=fun σ H Q=>ta σ H fun x H1=>∃a C dx fs v,x=.ref a/\H1 a=some (.ins C dx fs)/\Cls K C/\NoAttr K C f/\fs.lookup f=some v/\Q v H1
def sFld(K:aa)(ta tv:TE)(f:Str):TS:=fun D σ H=>tv σ H fun y H1=>ta σ H1 fun x H2=>∃a C dx fs,x=.ref a/\H2 a=some (.ins C dx fs)/\Cls K C/\NoAttr K C f/\fs.length<1000 /\
 D.nx σ (upd H2 a (.ins C dx (og f y fs)))
section
variable{X:Cx}{o e value:aN}{f:Str}{pos Hg HW:Pos}{ta tv:TE}
def ni(he:PE X e ta)(hb:cy e f X.env (eval e X.env)=eval e X.env):PE X (.Attribute e f pos) (tFld X.K ta f):=by intro GX s σ H Q I h;refine EB hb (thn (he GX s σ H _ I h) fun u s1 ⟨x,H1,I1,rx,a,C,dx,fs,v,ex,ea,c,n,l,q⟩=>?_);subst ex;obtain rfl:u=aV a:=rx;exact yG I1 ea c n l fun u' s2 I2 ru=>⟨v,H1,I2,ru,q⟩
def ur(ha:PE X o ta)(hv:PE X value tv)(hs:cW value (some (.Attribute o f Hg)) pos.line X.env=pure false):PS X (.Assign [.Attribute o f Hg] value pos) (sFld X.K ta tv f):=by intro GX s σ H D I h;refine plainObj_wpAny_Assign_Attribute (thn (hv GX s σ H _ I h) fun u s1 ⟨y,H1,I1,ry,q⟩=>thn (ha GX s1 σ H1 _ I1 q) fun ov s2 ⟨x,H2,I2,rx,a,C,dx,fs,ex,ea,c,n,l,q2⟩=>?_) hs;subst ex;obtain rfl:ov=aV a:=rx;exact x5 I2 ea c n l ry fun s3 I3=>⟨σ,_,I3,q2⟩
end
section
variable{X:Cx}{GX:List (ac×Obj)}{σ:St}{H:Hp}{s:ah}{A:bx}{E:ae->ah->Prop}{Q:ae->ah->Prop}{c:ae}{b:Bool}
inductive TyOf (K:aa) (H:Hp):V->ae->Prop where
 |non:TyOf K H .non (.type "NoneType")
 |bl (x:Bool):TyOf K H (.bl x) (.type "bool")
 |int (i:Int):TyOf K H (.int i) (.type "int")
 |str (x:Str):TyOf K H (.str x) (.type "str")
 |flt (x:UInt64):TyOf K H (.flt x) (.type "float")
 |lst {a:ac}{xs:List V} (e:H a=some (.lst xs)):TyOf K H (.ref a) (.type "list")
 |frz {a:ac}{o:Obj}{xs:List V} (e:H a=some (.frz o (.lst xs))):TyOf K H (.ref a) (.type "list")
 |tup {a:ac}{xs:List V} (e:H a=some (.tup xs)):TyOf K H (.ref a) (.type "tuple")
 |dK {a:ac}{kvs:List (Key×V)} (e:H a=some (.dK kvs)):TyOf K H (.ref a) (.type "dict")
 |dT {a:ac}{kvs:List (List Key×V)} (e:H a=some (.dT kvs)):TyOf K H (.ref a) (.type "dict")
 |ins {a C dx:ac}{fs:List (Str×V)} (e:H a=some (.ins C dx fs)) (cl:Cls K C) (ha:aM K (.ref C) "__class__"=some (some (.builtin "object.__class__")))
   (hn:dE K (.builtin "object.__class__") "__get__"=some (some (.builtin "getset_descriptor.__get__"))) (htk:fD K (.builtin "object.__class__")=some true)
   (hm:bU K C (.type "object")=some true):TyOf K H (.ref a) (.ref C)
def Ae{x:V}{u t:ae}(I:Inv X GX σ H s)(rx:RelV x u)(ty:TyOf X.K H x t)(e:bu X.K t c=some b)(h:∀tk,Q (.bool b) { s with toks:=tk }) :
  aP (model X.prog X.w) A (call (.builtin "isinstance") [u,c]) Q E s:=by
 cases ty with
 |non=>cases(show u=gC from rx);exact bG jk I.kIn bZ e (fun z=>nomatch z) h
 |bl y=>cases(show u=ik y from rx);exact bG PySem.W.kitx_bool I.kIn bZ e (fun z=>nomatch z) h
 |int i=>obtain⟨t,q⟩:=(show ∃t,u=gh i t from rx);cases q;exact bG PySem.W.kitx_int I.kIn bZ e (fun z=>nomatch z) h
 |str y=>obtain⟨t,q⟩:=(show ∃t,u=fC y t from rx);cases q;exact bG PySem.W.kitx_str I.kIn bZ e (fun z=>nomatch z) h
 |flt y=>obtain⟨t,q⟩:=(show ∃t,u=ja y t from rx);cases q;exact bG PySem.W.kitx_float I.kIn bZ e (fun z=>nomatch z) h
 |@lst a xs ea =>
  cases(show u=aV a from rx);obtain⟨_,_,n,_,h1⟩:=(show ObjOk X.prog X.w H s.heap a (.lst xs) from I.hok a _ ea);exact bG gB I.kIn ⟨_,h1,rfl⟩ e (fun z=>nomatch z) h
 |@frz a ob xs ea =>
  cases(show u=aV a from rx);obtain⟨_,_,_,n,_,h1⟩:=(show ObjOk X.prog X.w H s.heap a (.frz ob (.lst xs)) from I.hok a _ ea);exact bG gB I.kIn ⟨_,h1,rfl⟩ e (fun z=>nomatch z) h
 |@tup a xs ea =>
  cases(show u=aV a from rx);obtain⟨_,_,_,p⟩:=(show ObjOk X.prog X.w H s.heap a (.tup xs) from I.hok a _ ea);obtain⟨o,h1,h2,_⟩:=p;exact bG i9 I.kIn ⟨o,h1,h2⟩ e (fun z=>nomatch z) h
 |@dK a kvs ea =>
  cases(show u=aV a from rx);obtain⟨_,_,vs,_,p⟩:=(show ObjOk X.prog X.w H s.heap a (.dK kvs) from I.hok a _ ea);obtain⟨o,es,ep,h1,h2,_⟩:=p;exact bG jl I.kIn ⟨o,h1,h2.1⟩ e (fun z=>nomatch z) h
 |@dT a kvs ea =>
  cases(show u=aV a from rx);obtain⟨_,_,xs,_,o,es,ep,h1,h2,_⟩:=(show ObjOk X.prog X.w H s.heap a (.dT kvs) from I.hok a _ ea);exact bG jl I.kIn ⟨o,h1,h2.1⟩ e (fun z=>nomatch z) h
 |@ins a C dx fs ea cl ha hn htk hm =>
  cases(show u=aV a from rx);obtain⟨mA,O,_⟩:=tu I.hok ea;obtain⟨od,J,_⟩:=O.look;exact bG (PySem.W.kitx_own (cl.get _) cl.hd ha hn htk hm) I.kIn J e (fun z=>nomatch z) h
end
structure Room(k:Nat)(A:bx):Prop where
 hd:A.handled=none
 dp:A.depth+3*k+5<recursionLimit
 un:A.units+16*k+200<dL
def Room.mono{j k:Nat}{A:bx}(r:Room k A)(h:j<=k):Room j A:=⟨r.hd,by have:=r.dp;omega,by have:=r.un;omega⟩
theorem Room.deeper{k:Nat}{A:bx}(r:Room (k+1) A)(env:Env):Room k (A.deeper env) :=
 ⟨r.hd,by have:=r.dp;show A.depth+1+3*k+5<_;omega,by have:=r.un;show A.units+3+16*k+200<_;omega⟩
def yu{A:bx}{C:ac}{us:List ae}{kw:List (Str×ae)}:(A.under (.builtin "type.__call__" ⟨.ref C::us,kw⟩)).depth=A.depth+1:=by
 first|rfl|simp[iN,Code.weight,Code.isCreation,Code.isGuard,Code.isCaller,Code.frames,iX,guardIds]
def yt{A:bx}{C:ac}{us:List ae}{kw:List (Str×ae)}:(A.under (.builtin "type.__call__" ⟨.ref C::us,kw⟩)).units=A.units+1:=by
 first|rfl|simp[iN,Code.cUnits,Code.frames,iX]
def Room.make{k:Nat}{A:bx}(r:Room (k+1) A)(C:ac)(us:List ae)(kw:List (Str×ae)):Room k (A.under (.builtin "type.__call__" ⟨.ref C::us,kw⟩)) :=
 ⟨r.hd,by have:=r.dp;rw[yu];omega,by have:=r.un;rw[yt];omega⟩
theorem Room.depth{k:Nat}{A:bx}(r:Room k A):A.depth<recursionLimit:=by have:=r.dp;omega
theorem Room.units{k:Nat}{A:bx}(r:Room k A):A.units+64<dL:=by have:=r.un;omega
def EJ:TA:=fun _ H Q=>Q [] H
def CH(ta:TE)(tr:TA):TA:=fun σ H Q=>ta σ H fun x H1=>tr σ H1 fun xs H2=>Q (x::xs) H2
section
variable{X:Cx}{e:aN}{es:List aN}{te:TE}{t:TA}{pos:Pos}
def pa_nil:PA X [] EJ:=fun _ _ _ _ H Q I h=>e8 ⟨[],H,I,.nil,h⟩
abbrev SEb(X:Cx)(e:aN)(es:List aN):Prop:=ar (e::es) X.env=(false,eval e X.env)::ar es X.env
def jZ(ha:PE X e te)(hr:PA X es t)(hs:SEb X e es:=by rfl):PA X (e::es) (CH te t):=by intro pos GX s σ H Q I h;rw[hs];show aP _ _ (spliced ((false,eval e X.env)::bV pos (ar es X.env))) _ _ s;refine dB (thn (ha GX s σ H _ I h) fun u s1 ⟨x,H1,I1,r1,q1⟩=>?_);exact thn (hr pos GX s1 σ H1 _ I1 q1) fun us s2 ⟨xs,H2,I2,r2,q2⟩=>⟨x::xs,H2,I2,.cons r1 r2,q2⟩
def tTup(t:TA):TE:=fun σ H Q=>t σ H fun xs H1=>xs.length<=aB/\∀p,H1 p=none->Q (.ref p) (upd H1 p (.tup xs))
def tLst(t:TA):TE:=fun σ H Q=>t σ H fun xs H1=>xs.length<=aB/\∀p,H1 p=none->Q (.ref p) (upd H1 p (.lst xs))
def uw{x1}(h:PA X es t):PE X (.Tuple es x1 pos) (tTup t):=by intro GX s σ H Q I hq;refine wpAny_Tuple_spliced (thn (h pos GX s σ H _ I hq) fun us s1 ⟨xs,H1,I1,r,z,q⟩=>⟨by rw[<-r.length];exact z,?_⟩);have hf:H1 s1.heap.objs.size=none:=I1.hok.fresh (aq _);refine⟨.ref s1.heap.objs.size,upd H1 s1.heap.objs.size (.tup xs),I1.laid (t':=s1.toks) (fun b u e=>av _ e) (aq _) ?_,rfl,q _ hf⟩;exact⟨z,us,r,⟨_,a7 _ rfl,rfl,_,rfl⟩⟩
def Cf(h:PA X es t):PE X (.List es pos) (tLst t):=by intro GX s σ H Q I hq;refine wpAny_List_spliced (thn (h pos GX s σ H _ I hq) fun us s1 ⟨xs,H1,I1,r,z,q⟩=>⟨by rw[<-r.length];exact z,?_⟩);have hf:H1 s1.heap.objs.size=none:=I1.hok.fresh (aq _);refine⟨.ref s1.heap.objs.size,upd H1 s1.heap.objs.size (.lst xs),I1.laid (t':=s1.toks) (fun b u e=>av _ e) (aq _) ?_,rfl,q _ hf⟩;exact⟨z,us,0,r,a7 _ rfl⟩
end
abbrev Sp:=List V->Hp->VK->XK->Prop
abbrev CXT:=List Env->Hp->ah->XK->ae->ah->Prop
structure Env0(P:az)(w:aU)(K:aa)(mg:Str->Option ae)(base:ba)(A:bx)(outer:List Env)(s:ah)(H:Hp):Prop where
 frames:A.frames=some outer
 mod:Mod K mg base
 bs:∀b o,base.get? b=some o->s.heap.get? b=some o/\H b=none
 bsz:base.objs.size<=s.heap.objs.size
 funs:s.heap.FunFrames base outer
 frf:∀b∈frs outer,H b=none
 hok:HOk P w H s.heap
 bare:fO s.gens
def CE(outer:List Env)(P:az)(w:aU)(H:Hp)(s:ah)(Q:VK)(u:ae)(s':ah):Prop :=
 ∃v H',s'.os=s.os/\fO s'.gens/\Un (frs outer) [] H H' s.heap s'.heap/\HOk P w H' s'.heap/\RelV v u/\Q v H'
def CR(CX:CXT)(outer:List Env)(P:az)(w:aU)(H:Hp)(s:ah)(Q:VK)(E:XK)(r:iD)(s':ah):Prop :=
 match r with
 |.ok (.ret u)=>CE outer P w H s Q u s'
 |.ok _=>False
 |.error e=>CX outer H s E e s'
structure FnOk(P:az)(w:aU)(K:aa)(mg:Str->Option ae)(base:ba)(CX:CXT)(k:Nat)(f:ac)(fd:bJ)(ps:List Str)(sp:Sp):Prop where
 len:∀vs H Q E,sp vs H Q E->vs.length=ps.length
 run:∀(A:bx)(outer:List Env)(s:ah)(H:Hp)(args:Args)(us:List ae)(vs:List V)(Q:VK)(E:XK),Room k A->Env0 P w K mg base A outer s H->io s fd args (ps.zip us)->Vals vs us->sp vs H Q E ->
  eR (model P w) A (.call (.ref f) args) (CR CX outer P w H s Q E) s
def FnOk.imp{P:az}{w:aU}{K:aa}{mg:Str->Option ae}{base:ba}{CX:CXT}{k:Nat}{f:ac}{fd:bJ}{ps:List Str}{sp Kg:Sp}(F:FnOk P w K mg base CX k f fd ps sp)(h:∀vs H Q E,Kg vs H Q E->sp vs H Q E):FnOk P w K mg base CX k f fd ps Kg :=
 ⟨fun vs H Q E q=>F.len vs H Q E (h _ _ _ _ q),fun A outer s H args us vs Q E hr he hb hv hs=>F.run A outer s H args us vs Q E hr he hb hv (h _ _ _ _ hs)⟩
def Env0.make{P:az}{w:aU}{K:aa}{mg:Str->Option ae}{base:ba}{A:bx}{outer:List Env}{s:ah}{H:Hp}(e:Env0 P w K mg base A outer s H)(C:ac)(us:List ae)(kw:List (Str×ae)) :
  Env0 P w K mg base (A.under (.builtin "type.__call__" ⟨.ref C::us,kw⟩)) outer s H:=⟨by first|exact e.frames|(simpa[iN,Code.envs,iX,pushEnvs] using e.frames),e.mod,e.bs,e.bsz,e.funs,e.frf,e.hok,e.bare⟩
section
variable{X:Cx}{GX:List (ac×Obj)}{σ:St}{H:Hp}{s s':ah}
def Inv.env0(I:Inv X GX σ H s):Env0 X.prog X.w X.K X.mg X.base X.A X.stack s H :=
 ⟨I.ok.frames,I.ok.mod,I.bs,aC I.ok.bsz I.sz,I.stack,I.stkFree,I.hok,I.bare⟩
def Inv.after{Q:VK}{u:ae}(I:Inv X GX σ H s)(h:CE X.stack X.prog X.w H s Q u s'):EP X GX σ Q u s':=by obtain⟨v,H',os,bare,un,hok,r,q⟩:=h;obtain⟨hh,g,d,t,os'⟩:=s';obtain rfl:os'=s.os:=os;exact⟨v,H',I.call (h':=hh) (g':=g) (d':=d) (t':=t) (ch:=[]) un hok bare (fun b z=>absurd z (by simp)),r,q⟩
end
def xX(sp:Sp)(HA:List V)(E:XK)(t:TA):TE:=fun σ H Q=>t σ H fun vs H1=>sp (vs++HA) H1 Q E
def EK(C:ac)(m:Str)(sp:Sp)(HA:List V)(E:XK)(ta:TE)(t:TA):TE:=fun σ H Q=>ta σ H fun x H1=>∃a dx fs,x=.ref a/\H1 a=some (.ins C dx fs)/\fs.lookup m=none /\
 t σ H1 fun vs H2=>sp (x::(vs++HA)) H2 Q E
def EL(C:ac)(sp:Sp)(HA:List V)(E:XK)(t:TA):TE:=fun σ H Q=>t σ H fun vs H1=>∀x dx,H1 x=none->H1 dx=none->dx≠x ->
 sp (.ref x::(vs++HA)) (upd (upd H1 dx (.own x)) x (.ins C dx [])) (fun v H2=>v=.non/\Q (.ref x) H2) E
def Binds(K:aa)(fd:bJ)(ps:List Str)(ds:List ae):Prop :=
 ∀(s:ah)(us:List ae),K.In s.heap->(us++ds).length=ps.length->io s fd ⟨us,[]⟩ (ps.zip (us++ds))
def Binds.all{K:aa}{fd:bJ}{ps:List Str}(h:∀us:List ae,us.length=ps.length->eU fd ⟨us,[]⟩=pure (ps.zip us)):Binds K fd ps []:=fun s us _ hl=>by rw[cB] at hl ⊢;exact .of_eq (h us hl)
def mz(CX:CXT)(X:Cx)(E:XK):Prop:=∀(GX:List (ac×Obj))(σ:St)(H:Hp)(s:ah)(e:ae)(s':ah),Inv X GX σ H s->CX X.stack H s E e s'->X.xe e s'
section
variable{X:Cx}{CX:CXT}{k:Nat}{f C:ac}{fd:bJ}{ps:List Str}{sp:Sp}{HA:List V}{ds:List ae}{E:XK}{x m:Str}{p pos G0:Pos}{e o:aN}{es:List aN}{ta:TE}{t:TA}
def Cb{GX:List (ac×Obj)}{σ:St}{H:Hp}{s:ah}{Q:VK}{us:List ae}{vs:List V}(F:FnOk X.prog X.w X.K X.mg X.base CX k f fd ps sp)(hr:Room k X.A)(hb:Binds X.K fd ps ds)(hd:Vals HA ds)(hx:mz CX X E)(I:Inv X GX σ H s)(r:Vals vs us)(h:sp (vs++HA) H Q E):aP (model X.prog X.w) X.A (call (.ref f) us) (EP X GX σ Q) X.xe s:=by
 have r2:Vals (vs++HA) (us++ds):=r.append hd;have hl:(us++ds).length=ps.length:=by rw[<-r2.length];exact F.len _ _ _ _ h
 refine wpAny_call (gn (F.run X.A X.stack s H ⟨us,[]⟩ (us++ds) (vs++HA) Q E hr I.env0 (hb s us I.kIn hl) r2 h) fun r s' hq=>?_);cases r with
 |error e=>exact hx GX σ H s e s' I hq
 |ok fl =>
  cases fl with
  |ret u=>exact I.after hq
  |next=>exact bh hq
  |brk=>exact bh hq
  |cont=>exact bh hq
def Dl(F:FnOk X.prog X.w X.K X.mg X.base CX k f fd ps sp)(hr:Room k X.A)(hg:Gl X x)(hm:X.mg x=some (.ref f))(hk:b5 X.K (.ref f)=true)(hb:Binds X.K fd ps ds)(hd:Vals HA ds)(hx:mz CX X E)(ha:PA X (e::es) t)(HC:NDb x:=by decide)(he:SEb X e es:=by rfl)(Hn:(bV pos (ar es X.env)).any (·.1)=false:=by rfl) :
  PE X (.Call (.Name x p) (e::es) [] pos) (xX sp HA E t):=by
 intro GX s σ H Q I h;refine dQ (pV I hg hm ?_ HC);refine gp (h₀:=X.base) I.ok.mod.kin hk (thn (ha pos GX s σ H _ I h) fun us s1 ⟨vs,H1,I1,r,q⟩=>⟨I1.kIn,?_⟩) he Hn;exact Cb F hr hb hd hx I1 r q
def Dk{pl:Sem Bool}(he:PE X o ta)(c:Cls X.K C)(hm:Meth X.K C m f)(F:FnOk X.prog X.w X.K X.mg X.base CX k f fd ps sp)(hr:Room k X.A)(hb:Binds X.K fd ps ds)(hd:Vals HA ds)(hx:mz CX X E)(ha:PA X (e::es) t)(Ic:SEb X e es:=by rfl)(Hn:(bV pos (ar es X.env)).any (·.1)=false:=by rfl)(ht:eval (.Call (.Attribute o m G0) (e::es) [] pos) X.env=(do
   let ov <-eval o X.env
   ig G0.atName
   let(f,first) <-holding [ov] (iB ov m pl)
   callWith pos f first (bV pos (ar (e::es) X.env)) (f9 pos (dX [] X.env))):=by rfl) :
  PE X (.Call (.Attribute o m G0) (e::es) [] pos) (EK C m sp HA E ta t):=by
 intro GX s σ H Q I h;refine PySem.W.methodCall_KW (pl:=pl) (thn (he GX s σ H _ I h) fun u s1 ⟨x,H1,I1,rx,a,dx,fs,ex,ea,l,q⟩=>?_) ht;subst ex;obtain rfl:u=aV a:=rx;refine yE I1 ea c hm l ?_;refine gp (first:=[.ref a]) (h₀:=X.base) I.ok.mod.kin hm.kp (thn (ha pos GX s1 σ H1 _ I1 q) fun us s2 ⟨vs,H2,I2,r,q2⟩=>⟨I2.kIn,?_⟩) Ic Hn;exact Cb (us:=.ref a::us) (vs:=.ref a::vs) F hr hb hd hx I2 (.cons rfl r) q2
structure Mk(K:aa)(C f:ac):Prop where
 makes:gX K C=true
 init:aM K (.ref C) "__init__"=some (some (.ref f))
 fn:fA K (.ref f)=true
 kp:b5 K (.ref C)=true
def AN{GX:List (ac×Obj)}{σ:St}{H:Hp}{s:ah}{Q:VK}{us:List ae}{vs:List V}(M:Mk X.K C f)(F:FnOk X.prog X.w X.K X.mg X.base CX k f fd ps sp)(hr:Room (k+1) X.A)(hb:Binds X.K fd ps ds)(hd:Vals HA ds)(hx:mz CX X E)(I:Inv X GX σ H s)(r:Vals vs us)(h:∀x dx,H x=none->H dx=none->dx≠x->sp (.ref x::(vs++HA)) (upd (upd H dx (.own x)) x (.ins C dx [])) (fun v H2=>v=.non/\Q (.ref x) H2) E) :
  aP (model X.prog X.w) X.A (call (.ref C) us) (EP X GX σ Q) X.xe s:=by
 have hq:=h (s.heap.objs.size+1) s.heap.objs.size (I.hok.fresh (eG _)) (I.hok.fresh (aq _)) (aT (di _));have I2:=Inv.made (C:=C) I;have r2:Vals (V.ref (s.heap.objs.size+1)::(vs++HA)) (aV (s.heap.objs.size+1)::(us++ds)):=.cons rfl (r.append hd);have hl:(aV (s.heap.objs.size+1)::us++ds).length=ps.length:=by have e:=r2.length;rw[F.len _ _ _ _ hq] at e;exact e.symm
 refine wpAny_call (Bl (f:=f) I.kIn M.makes M.init (beq_iff_eq.mp M.fn) (gn (F.run _ X.stack _ _ ⟨aV (s.heap.objs.size+1)::us,[]⟩ (aV (s.heap.objs.size+1)::(us++ds)) _ _ E (hr.make C us [])
  (I2.env0.make C us []) (hb _ (aV (s.heap.objs.size+1)::us) I2.kIn hl) r2 hq) fun r s' Ia=>?_))
 cases r with
 |error e=>exact hx GX σ _ _ e s' I2 Ia
 |ok fl =>
  cases fl with
  |ret u =>
   obtain⟨v,H',I3,rv,ev,q3⟩:=I2.after Ia;subst ev;exact⟨rv,⟨V.ref (s.heap.objs.size+1),H',I3,rfl,q3⟩⟩
  |next=>exact bh Ia
  |brk=>exact bh Ia
  |cont=>exact bh Ia
def A8(M:Mk X.K C f)(F:FnOk X.prog X.w X.K X.mg X.base CX k f fd ps sp)(hr:Room (k+1) X.A)(hg:Gl X x)(hm:X.mg x=some (.ref C))(hb:Binds X.K fd ps ds)(hd:Vals HA ds)(hx:mz CX X E)(HC:NDb x:=by decide):PE X (.Call (.Name x p) [] [] pos) (EL C sp HA E EJ):=by
 intro GX s σ H Q I h;refine dQ (pV I hg hm ?_ HC);exact PySem.W.callWith_K0 I.kIn M.kp (AN (us:=[]) M F hr hb hd hx I .nil h)
end
section
variable{X:Cx}{CX:CXT}{k:Nat}{f C:ac}{fd:bJ}{ps ks:List Str}{sp:Sp}{E:XK}{x m:Str}{p pos G0 kpos:Pos}{e o:aN}{es:List aN}{kws:List fg}{te ta:TE}{t tk:TA}{nm:Option Str}
structure KBinds(K:aa)(fd:bJ)(ps ks:List Str)(g:List ae->List ae->List ae)(gV:List V->List V->List V):Prop where
 to:∀(s:ah)(us ws:List ae),K.In s.heap->(g us ws).length=ps.length->io s fd ⟨us,ks.zip ws⟩ (ps.zip (g us ws))
 rel:∀{vs:List V}{us:List ae}{zs:List V}{ws:List ae},Vals vs us->Vals zs ws->Vals (gV vs zs) (g us ws)
variable{g:List ae->List ae->List ae}{gV:List V->List V->List V}
end
structure FnScope(N P:List Str)(sc:cA):Prop where
 kind:sc.kind=.function
 co:sc.isCoroutine=false
 gen:sc.isGenerator=false
 nd:N.Nodup
 pre:N.take P.length=P
 par:∀x∈P,sc.names.lookup x=some .local\/sc.names.lookup x=some .cell
 nofree:∀y∈sc.names,y.2≠.free
def fsc{N P:List Str}{sc:cA}(h1:sc.kind=.function:=by rfl)(h2:sc.isCoroutine=false:=by rfl)(h3:sc.isGenerator=false:=by rfl)(h4:N.Nodup:=by decide +kernel)(h5:N.take P.length=P:=by rfl)(h6:∀x∈P,sc.names.lookup x=some .local\/sc.names.lookup x=some .cell:=by decide +kernel)(h7:∀y∈sc.names,y.2≠.free:=by decide +kernel):FnScope N P sc:=⟨h1,h2,h3,h4,h5,h6,h7⟩
theorem vE{kindOf:Str->Option dM}{x:Str}:∀{binds:List (Str×ae)}{m:Str->Option ae},(∀v,(x,v)∉binds)->jC kindOf binds m x=m x
 |[],_,_=>rfl
 |(n,v)::r,m,h=>by
  unfold jC;rw[vE fun w hw=>h w (ak _ hw)];split
  ·have:x≠n:=by rintro rfl;exact h v ap
   simp[this]
  ·rfl
theorem vG{kindOf:Str->Option dM}{x:Str}:∀{binds:List (Str×ae)}{m:Str->Option ae},(∀v,(x,v)∉binds)->jD kindOf binds m x=m x
 |[],_,_=>rfl
 |(n,v)::r,m,h=>by
  unfold jD;rw[vG fun w hw=>h w (ak _ hw)];split
  ·rfl
  ·have:x≠n:=by rintro rfl;exact h v ap
   simp[this]
theorem vF{kindOf:Str->Option dM}{x:Str}{v:ae}:∀{P:List Str}{vs:List ae}{i:Nat}{m:Str->Option ae},P.Nodup->P[i]?=some x->vs[i]?=some v->kindOf x=some .local ->
  jC kindOf (P.zip vs) m x=some v
 |[],_,_,_,_,h,_,_=>by simp at h
 |_::_,[],_,_,_,_,h,_=>by simp at h
 |p::P,w::vs,0,m,nd,h1,h2,hk=>by
  simp at h1 h2;subst h1;subst h2;show jC kindOf ((p,w)::P.zip vs) m p=_;unfold jC;rw[vE fun v hv=>(aD.mp nd).1 (hX hv).1,if_pos hk];simp
 |p::P,w::vs,i+1,m,nd,h1,h2,hk=>by show jC kindOf ((p,w)::P.zip vs) m x=_;unfold jC;exact vF (i:=i) (aD.mp nd).2 (by simpa using h1) (by simpa using h2) hk
theorem vH{kindOf:Str->Option dM}{x:Str}{v:ae}:∀{P:List Str}{vs:List ae}{i:Nat}{m:Str->Option ae},P.Nodup->P[i]?=some x->vs[i]?=some v->kindOf x≠some .local ->
  jD kindOf (P.zip vs) m x=some v
 |[],_,_,_,_,h,_,_=>by simp at h
 |_::_,[],_,_,_,_,h,_=>by simp at h
 |p::P,w::vs,0,m,nd,h1,h2,hk=>by
  simp at h1 h2;subst h1;subst h2;show jD kindOf ((p,w)::P.zip vs) m p=_;unfold jD;rw[vG fun v hv=>(aD.mp nd).1 (hX hv).1,if_neg hk];simp
 |p::P,w::vs,i+1,m,nd,h1,h2,hk=>by show jD kindOf ((p,w)::P.zip vs) m x=_;unfold jD;exact vH (i:=i) (aD.mp nd).2 (by simpa using h1) (by simpa using h2) hk
def start(N:List Str)(vs:List V):St:=vs.map some++aK (N.length-vs.length) none
def xJ(CX:CXT)(P:az)(w:aU)(K:aa)(mg:Str->Option ae)(base:ba)(N:List Str)(qual:Str)(scope:cA)(f:ac)(cd:ae)(A:bx)(outer:List Env)(s:ah)(H:Hp)(E:XK):Cx where
 prog:=P
 w:=w
 K:=K
 mg:=mg
 base:=base
 A:=A.deeper (dF qual scope s.heap.objs.size f cd)
 N:=N
 sa0:=s
 Ha0:=H
 env:=dF qual scope s.heap.objs.size f cd
 outer:=outer
 stack:=dF qual scope s.heap.objs.size f cd::outer
 ex:=[]
 calm:=true
 fn:=fun _=>true
 pn:=[]
 xe:=fun e s'=>aP (model P w) (A.deeper (dF qual scope s.heap.objs.size f cd)) (leaving (dF qual scope s.heap.objs.size f cd) e) (fun _ LL=>CX outer H s E e LL) (fun e' LL=>CX outer H s E e' LL) s'
def xM{sc:cA}{n:Nat}{x:Str}(h:sc.names.lookup x=some .cell):∃c,(cellsFrom n sc.names []).lookup x=some c:=by have q:=iC sc.names n [] (.inl h);exact e9.mp q
def Af{CX:CXT}{P:az}{w:aU}{K:aa}{mg:Str->Option ae}{base:ba}{N ps:List Str}{qual:Str}{scope:cA}{f:ac}{cd:ae}{A:bx}{outer:List Env}{s s1:ah}{H:Hp}{E:XK}{us:List ae}{vs:List V}(S:FnScope N ps scope)(hd:A.handled=none)(e0:Env0 P w K mg base A outer s H)(hl:vs.length=ps.length)(r:Vals vs us)(x:InCallC s s.heap.objs.size (jC (dF qual scope s.heap.objs.size f cd).kindOf (ps.zip us) fun _=>none) (cellsFrom (s.heap.objs.size+1) scope.names []) (jD (dF qual scope s.heap.objs.size f cd).kindOf (ps.zip us) fun _=>none) s1) :
  Inv (xJ CX P w K mg base N qual scope f cd A outer s H E) [] (start N vs) H s1:=by
 have Hn:ps.length<=N.length:=by have:=congrArg b7 S.pre;rw[db] at this;omega
 obtain⟨h1,tk,rfl,hk⟩:=x.done;have Kk:∀b:ac,b∉(xJ CX P w K mg base N qual scope f cd A outer s H E).ex:=fun b z=>absurd (show b∈([]:List ac) from z) (by simp);refine⟨⟨e0.mod,S.kind,rfl,rfl,aq _,fun y z c h1 h2=>?_,fun y hy=>?_,fun y c _ h=>?_,fun _=>hd,Around.frames_deeper e0.frames,.inr ⟨rfl,rfl⟩,fun b z=>absurd z (Kk b),e0.bs,e0.bsz,fun b _ _=>Kk b,fun b z=>absurd z (Kk b),e0.funs,e0.frf⟩,
  rfl,e0.bare,Un.kept hk,⟨_,x.toInCall.ns,fun i y v h1 h2 h3=>?_⟩,fun y c h=>⟨_,x.cell y c h⟩,e0.hok.fresh (aq _),fun y c h=>?_,fun p hp=>absurd (show p∈([]:List (ac×Obj)) from hp) (by simp),e0.hok.kept hk,?_⟩
 ·exact name_of_addr x.apart (cF h1) (cF h2)
 ·have hy:scope.names.lookup y=some .cell\/scope.names.lookup y=some .free:=hy;rcases hy with hy|hy
  ·exact xM hy
  ·exact absurd rfl (S.nofree _ (cF hy))
 ·exact dU (x.above y c (cF h))
 ·have hi:i<vs.length:=by
   unfold start at h2;by_cases hi:i<vs.length
   ·exact hi
   ·rw[cx (by simpa using hi)] at h2;rw[fI] at h2;split at h2<;>cases h2
  have ha:vs[i]?=some v:=by
   unfold start at h2;rw[dk (by simpa using hi),aY] at h2;cases e:vs[i]? with
   |none=>rw[e] at h2;cases h2
   |some a=>rw[e] at h2;cases h2;rfl
  obtain⟨u,hu,rv⟩:=r.get ha;have hp:ps[i]?=some y:=by rw[<-S.pre,List.getElem?_take_of_lt (by omega)];exact h1
  have ndP:ps.Nodup:=by rw[<-S.pre];exact S.nd.sublist (List.take_sublist _ _)
  refine⟨u,rv,?_⟩;rcases S.par y (eB hp) with k|k
  ·exact .inl ⟨k,vF ndP hp hu k⟩
  ·obtain⟨c,e⟩:=xM (n:=s.heap.objs.size+1) k;refine .inr ⟨.inl k,c,e,?_⟩;have q:=x.cell y c e;rw[vH ndP hp hu (by show scope.names.lookup y≠_;rw[k];decide)] at q;exact q
 ·exact e0.hok.fresh (dU (x.above y c (cF h)))
 ·unfold start;show _=N.length;rw[aI,af,cQ];omega
def E9{CX:CXT}{P:az}{w:aU}{K:aa}{mg:Str->Option ae}{base:ba}{k:Nat}{f:ac}{name qual:Str}{params:iG}{body:List bM}{scope:cA}{dV kV HX pm G3 ct oc:ae}{an od:Option ac}{IZ:Array (Option ae)}{N ps:List Str}{sp:Sp}(lk:K.lookup f=some ⟨oc,od,.func (bO name qual params body scope dV kV HX pm an G3 ct),IZ⟩)(Ie:eL K G3 qual=true)(S:FnScope N ps scope)(len:∀vs H Q E,sp vs H Q E->vs.length=ps.length)(Ig:∀(A:bx)(outer:List Env)(s:ah)(H:Hp)(vs:List V)(Q:VK)(E:XK),Room k (A.deeper (dF qual scope s.heap.objs.size f G3))->sp vs H Q E ->
   ∃t,PSs (xJ CX P w K mg base N qual scope f G3 A outer s H E) body t/\t { nx:=fun _ H'=>Q .non H',rt:=Q } (start N vs) H) :
  FnOk P w K mg base CX (k+1) f (bO name qual params body scope dV kV HX pm an G3 ct) ps sp:=by
 refine⟨len,fun A outer s H args us vs Q E hr e0 hb r IS=>?_⟩;have hl:=len _ _ _ _ IS;have KX:K.In s.heap:=e0.mod.kin.keeps fun b o e=>(e0.bs b o e).1;have lim:s.heap.NoLimit:=e0.mod.nolimit.keeps fun b o e=>(e0.bs b o e).1;have KB:∀y∈ps.zip us,scope.names.lookup y.1=some .local\/(scope.names.lookup y.1=some .cell/\((cellsFrom (s.heap.objs.size+1) scope.names []).lookup y.1).isSome=true):=fun⟨n,v⟩ hy=>by
  rcases S.par n (hX hy).1 with q|q
  ·exact .inl q
  ·exact .inr ⟨q,iC _ _ _ (.inl q)⟩
 refine codeAny_call_function hr.depth (KX _ _ lk) rfl S.co S.gen rfl (PySem.W.codeRec_of KX Ie) (hb _ _ _ _ ?_);refine wpAny_newFunctionEnv_cells S.kind KB fun env he s1 x=>?_;subst he;refine⟨lim.keeps x.toInCall.keep,codeAny_func ?_⟩;obtain⟨t,ht,hq⟩:=Ig A outer s H vs Q E (hr.deeper _) IS;have I:Inv (xJ CX P w K mg base N qual scope f G3 A outer s H E) [] (start N vs) H s1:=Af S hr.hd e0 hl r x;refine bo (ht [] s1 (start N vs) H _ I hq) (fun fl s' hs=>?_) fun e s' hs=>hs;have Hd:∀{σ':St}{H':Hp}{v:V}{u:ae},Inv (xJ CX P w K mg base N qual scope f G3 A outer s H E) [] σ' H' s'->RelV v u->Q v H'->CE outer P w H s Q u s' :=
  fun{σ' H' v u} J rv q=>⟨v,H',J.os,J.bare,J.base,J.hok,rv,q⟩
 cases fl with
 |ret u =>
  obtain⟨v,σ',H',J,rv,q⟩:=hs;exact Hd J rv q
 |next =>
  obtain⟨σ',H',J,q⟩:=hs;exact Hd (v:=V.non) (u:=gC) J rfl q
 |brk =>
  obtain⟨_,_,_,q⟩:=hs;exact bh q
 |cont =>
  obtain⟨_,_,_,q⟩:=hs;exact bh q
section
variable{X:Cx}{x:Str}{p pos:Pos}{e:aN}{es:List aN}{t:TA}{id T:String}{r:List V->Hp->VK->Prop}
def tCB(r:List V->Hp->VK->Prop)(t:TA):TE:=fun σ H Q=>t σ H fun vs H1=>r vs H1 Q
def li(hc:CallR X (.builtin id) r)(hg:Gl X x)(hm:X.mg x=none)(hv:bj x=some (.builtin id))(ha:PA X (e::es) t)(hn:x≠"__name__":=by decide)(HC:NDb x:=by decide)(he:SEb X e es:=by rfl)(Hn:(bV pos (ar es X.env)).any (·.1)=false:=by rfl):PE X (.Call (.Name x p) (e::es) [] pos) (tCB r t):=by
 intro GX s σ H Q I h;refine dQ (uF I hg hm hv ?_ hn HC);exact PyProof.Rows.callWith_builtin1 (thn (ha pos GX s σ H _ I h) fun us s1 ⟨vs,H1,I1,r1,q1⟩=>hc GX s1 σ H1 vs us Q I1 r1 q1) he Hn
def zV(hc:CallR X (.type T) r)(hg:Gl X x)(hm:X.mg x=none)(hv:bj x=some (.type T))(ha:PA X (e::es) t)(hn:x≠"__name__":=by decide)(HC:NDb x:=by decide)(he:SEb X e es:=by rfl)(Hn:(bV pos (ar es X.env)).any (·.1)=false:=by rfl):PE X (.Call (.Name x p) (e::es) [] pos) (tCB r t):=by
 intro GX s σ H Q I h;refine dQ (uF I hg hm hv ?_ hn HC);exact dZ (thn (ha pos GX s σ H _ I h) fun us s1 ⟨vs,H1,I1,r1,q1⟩=>hc GX s1 σ H1 vs us Q I1 r1 q1) he Hn
end
end L2
namespace HT
open PySem PyProof.Rows
section
open PySem.SeqAt
open PySem.AutoSeq1 (wpAny_loadPart')
open PySem.MeetsSeq PySem.MeetsSeq2 PySem.MeetsSeq3
end
section
variable{prog:az}{w:aU}{A:bx}{E:ae->ah->Prop}{s:ah}
def sIx(n d:Nat):Option Int->Nat
 |none=>d
 |some v=>if v<0 then(v+(n:Int)).toNat else min v.toNat n
def Fy(n d:Nat)(hd:d<=n)(o:Option Int):sIx n d o<=n:=by
 cases o with
 |none=>exact hd
 |some v =>
  show(if v<0 then(v+(n:Int)).toNat else min v.toNat n)<=n;by_cases hv:v<0
  ·rw[if_pos hv];omega
  ·rw[if_neg hv];exact Nat.min_le_right _ _
def zF(v:Int)(n d:Nat):(if v<0 then max (v+(n:Int)) 0 else min v (n:Int))=((sIx n d (some v):Nat):Int):=by
 show(if v<0 then max (v+(n:Int)) 0 else min v (n:Int))=(((if v<0 then(v+(n:Int)).toNat else min v.toNat n):Nat):Int);by_cases hv:v<0
 ·simp only[if_pos hv];omega
 ·simp only[if_neg hv];omega
def yR(lo hi:Option Int)(n:Nat):eg lo hi 1 (n:Int)=(((sIx n 0 lo:Nat):Int),((sIx n n hi:Nat):Int)):=by
 have h1:¬((1:Int)<0):=by omega
 unfold eg;simp only[h1,if_false];refine Prod.ext ?_ ?_
 ·cases lo with
  |none=>rfl
  |some v=>exact zF v n 0
 ·cases hi with
  |none=>rfl
  |some v=>exact zF v n n
def yj(i j:Nat):cM (i:Int) (j:Int) 1=j-i:=by
 unfold cM;have h1:(1:Int)>0:=by omega
 simp only[h1,if_true,Int.ediv_one];split<;>omega
def sO{v:ae}{o:Option Int}{Q:Option Int->ah->Prop}(p:iE v o)(h:Q o s):aP (model prog w) A (Builtin.Slice.slicePartIndex v) Q E s:=by
 cases p with
 |none=>exact slicePart_none h
 |int i t=>exact slicePart_int h
def qT{sl:ac}{vl vu:ae}{lo hi:Option Int}{n:Nat}{Q:Int×Int×Nat->ah->Prop}(hs:s.heap.IsSliceOf sl vl vu .none)(pl:iE vl lo)(pu:iE vu hi)(h:Q (((sIx n 0 lo:Nat):Int),1,sIx n n hi-sIx n 0 lo) s):aP (model prog w) A (gD (.ref sl) (pure (n:Int))) Q E s:=by
 obtain⟨os,Je,JT,Lr⟩:=id hs;unfold gD Builtin.Slice.sliceFields;refine ao (ao (wpAny_field Je Lr (x:=vl) rfl (ao (wpAny_field Je Lr (x:=vu) rfl (ao (wpAny_field Je Lr (x:=.none) rfl (aH ?_)))))));refine ao (slicePart_none ?_);show aP _ _ (if((1:Int)==0)=true then _ else _) _ _ s;rw[if_neg (by decide)];refine ao (sO pl (ao (sO pu (ao (aH ?_)))));show aP _ _ (match eg lo hi 1 (n:Int) with|(lo,hi)=>pure (lo,(1:Int),cM lo hi 1)) _ _ s;rw[yR lo hi n];show aP _ _ (pure (((sIx n 0 lo:Nat):Int),(1:Int),cM ((sIx n 0 lo:Nat):Int) ((sIx n n hi:Nat):Int) 1)) _ _ s;rw[yj];exact aH h
def AX(xs:Array ae)(i k:Nat):((bi k).filterMap fun(m:Nat)=>xs[((i:Int)+(m:Int)*1).toNat]?).toArray=((xs.toList.drop i).take k).toArray:=by
 have e:(fun(m:Nat)=>xs[((i:Int)+(m:Int)*1).toNat]?)=fun m=>xs[i+m]?:=by
  funext m
  have:((i:Int)+(m:Int)*1).toNat=i+m:=by omega
  rw[this]
 rw[e];have:=pick_run xs i k;rw[List.filterMap_map] at this;have e2:((fun x=>xs[x]?)∘fun x=>i+x)=fun m=>xs[i+m]?:=rfl;rw[e2] at this;rw[this]
def getItem_tuple_cut{t sl:ac}{items:Array ae}{vl vu:ae}{lo hi:Option Int}{Q:ae->ah->Prop}(ht:IsTup s.heap t items)(hs:s.heap.IsSliceOf sl vl vu .none)(pl:iE vl lo)(pu:iE vu hi)(hw:¬(sIx items.size 0 lo=0/\sIx items.size items.size hi=items.size))(h:Q (.ref s.heap.objs.size) { s with heap:=s.heap.push { cls:=.type "tuple",data:=.seq ((items.toList.drop (sIx items.size 0 lo)).take (sIx items.size items.size hi-sIx items.size 0 lo)).toArray } })(hsz:items.size<=aB):aP (model prog w) A (gP (.ref t) (.ref sl)) Q E s:=by
 have Iy:sizeOk (.seq ((items.toList.drop (sIx items.size 0 lo)).take (sIx items.size items.size hi-sIx items.size 0 lo)).toArray):=by show((items.toList.drop (sIx items.size 0 lo)).take (sIx items.size items.size hi-sIx items.size 0 lo)).toArray.size<=aB;rw[aJ,db,g7,eK];omega
 have hj:sIx items.size items.size hi<=items.size:=Fy _ _ (aq _) hi;obtain⟨os,Je,JT,Lr⟩:=id hs;have hTs:s.TypeIs (.ref sl) "slice":=⟨os,Je,JT⟩;unfold gP
 try with_reducible refine dJ ?_
 first|refine ao (aH ?_)|skip
 refine ao (wpAny_sequenceKey ht.typeIs (by decide) ?_);refine ao (wpAny_callSpecial?_slot (name:=aF "__getitem__") ht.typeIs cL
  (wpAny_call_entry cL ht.typeIs entry_tuple_getitem ?_ (args_tuple_getitem _ _)))
 show aP _ _ (Builtin.Tuple.tupleItemsOf (.ref t) >>= _) _ _ s;refine ao (tupleItemsOf_ ht ?_);refine ao (wpAny_typeOf hTs ?_);rw[if_pos (by decide)];refine ao (qT hs pl pu ?_);have Jw:¬((((sIx items.size 0 lo:Nat):Int)==0&&(1:Int)==1&&(sIx items.size items.size hi-sIx items.size 0 lo)==items.size)=true):=by intro q;rw[bT,bT] at q;have q1:((sIx items.size 0 lo:Nat):Int)=0:=eq_of_beq q.1.1;have q2:sIx items.size items.size hi-sIx items.size 0 lo=items.size:=eq_of_beq q.2;exact hw ⟨by omega,by omega⟩
 show aP _ _ (if(((sIx items.size 0 lo:Nat):Int)==0&&(1:Int)==1&&(sIx items.size items.size hi-sIx items.size 0 lo)==items.size)=true then _ else _) _ _ s;rw[if_neg Jw,AX]
 first
  |exact ao (m:=cS _) (cZ (aH ⟨_,rfl,aH h⟩) Iy)
  |exact ao (m:=cS _) (cZ (ao (aH (aH ⟨_,rfl,aH h⟩))) Iy)
  |exact ao (ao (m:=cS _) (cZ (aH (aH ⟨_,rfl,aH h⟩)) Iy))
  |exact ao (ao (m:=cS _) (cZ (aH ⟨_,rfl,aH h⟩) Iy))
end
end HT
namespace L2
open PySem PySem.Spec PyProof.Rows
abbrev TO:=St->Hp->(Option Int->Hp->Prop)->Prop
def PO(X:Cx)(e:Option aN)(t:TO):Prop :=
 ∀(GX:List (ac×Obj))(s:ah)(σ:St)(H:Hp)(Q:Option Int->Hp->Prop),Inv X GX σ H s->t σ H Q ->
  aP (model X.prog X.w) X.A (evalPart e X.env) (fun u s'=>∃o H',Inv X GX σ H' s'/\iE u o/\Q o H') X.xe s
def CY:TO:=fun _ H Q=>Q none H
def tPart(t:TE):TO:=fun σ H Q=>t σ H fun x H1=>∃i,x=.int i/\Q (some i) H1
section
variable{X:Cx}{e:aN}{te:TE}{lo hi:Option aN}{tl th:TO}{pos p2:Pos}
def po_none:PO X none CY:=by intro GX s σ H Q I h;rw[evalPart_none];exact aH ⟨none,H,I,.none,h⟩
def Dg(h:PE X e te):PO X (some e) (tPart te):=by intro GX s σ H Q I hw;rw[evalPart_some];refine thn (h GX s σ H _ I hw) fun u s1 ⟨x,H1,I1,r1,q1⟩=>?_;obtain⟨i,rfl,q⟩:=q1;obtain⟨t,rfl⟩:=r1;exact⟨some i,H1,I1,.int i t,q⟩
def SlR(X:Cx)(r:V->Option Int->Option Int->Hp->VK->Prop):Prop :=
 ∀(GX:List (ac×Obj))(s:ah)(σ:St)(H:Hp)(x:V)(v vl vu:ae)(lo hi:Option Int)(sl:ac)(Q:VK),Inv X GX σ H s->RelV x v->s.heap.IsSliceOf sl vl vu .none->iE vl lo->iE vu hi->r x lo hi H Q ->
  ∃T id,typeLookup (.type T) "__getitem__"=pure (some (.builtin id))/\s.TypeIs v T/\aP (model X.prog X.w) X.A (gP v (.ref sl)) (EP X GX σ Q) X.xe s
def SlR.or{r r':V->Option Int->Option Int->Hp->VK->Prop}(h:SlR X r)(h':SlR X r'):SlR X (fun x lo hi H Q=>r x lo hi H Q\/r' x lo hi H Q):=by
 intro GX s σ H x v vl vu lo hi sl Q I rx hs pl pu q;rcases q with q|q
 ·exact h GX s σ H x v vl vu lo hi sl Q I rx hs pl pu q
 ·exact h' GX s σ H x v vl vu lo hi sl Q I rx hs pl pu q
def tSl(r:V->Option Int->Option Int->Hp->VK->Prop)(te:TE)(tl th:TO):TE:=fun σ H Q=>te σ H fun x H1=>tl σ H1 fun l H2=>th σ H2 fun u H3=>r x l u H3 Q
def A7{r:V->Option Int->Option Int->Hp->VK->Prop}(hr:SlR X r)(he:PE X e te)(hl:PO X lo tl)(hu:PO X hi th):PE X (.Subscript e (.Slice lo hi none p2) pos) (tSl r te tl th):=by intro GX s σ H Q I h;refine Subscript_ (thn (he GX s σ H _ I h) fun v s1 ⟨x,H1,I1,r1,q1⟩=>?_);refine wpAny_Slice (thn (hl GX s1 σ H1 _ I1 q1) fun vl s2 ⟨l,H2,I2,pl,q2⟩=>thn (hu GX s2 σ H2 _ I2 q2) fun vu s3 ⟨u,H3,I3,pu,q3⟩=>?_);rw[evalPart_none];refine aH ?_;have I4:Inv X GX σ H3 { s3 with heap:=s3.heap.push { cls:=.type "slice",data:=.fields #[vl,vu,.none] } }:=I3.kept (t':=s3.toks) fun b ob q=>av _ q;obtain⟨T,id,hT,ht,hg⟩:=hr GX { s3 with heap:=s3.heap.push { cls:=.type "slice",data:=.fields #[vl,vu,.none] } } σ H3 x v vl vu l u s3.heap.objs.size Q I4 r1 (Heap.IsSliceOf.new ..) pl pu q3;show aP (model X.prog X.w) X.A (gZ e (.Slice lo hi none p2) v (.ref s3.heap.objs.size)) (EP X GX σ Q) X.xe { s3 with heap:=s3.heap.push { cls:=.type "slice",data:=.fields #[vl,vu,.none] } };exact tail_any (ops:=[.ref s3.heap.objs.size,v]) ht hT hg (by with_unfolding_all rfl)
def zB(xs:List V)(lo hi:Option Int):List V:=(xs.drop (HT.sIx xs.length 0 lo)).take (HT.sIx xs.length xs.length hi-HT.sIx xs.length 0 lo)
def rT(xs:List V)(lo hi:Option Int):(zB xs lo hi).length<=xs.length:=by unfold zB;rw[db,g7];omega
def rSlT(K:aa):V->Option Int->Option Int->Hp->VK->Prop:=fun x lo hi H Q=>∃a xs,x=.ref a/\SqT K H a xs /\
 ¬(HT.sIx xs.length 0 lo=0/\HT.sIx xs.length xs.length hi=xs.length)/\∀p,H p=none->Q (.ref p) (upd H p (.tup (zB xs lo hi)))
def Fu:SlR X (rSlT X.K):=by
 intro GX s σ H x v vl vu lo hi sl Q I rx hs pl pu h;obtain⟨a,xs,rfl,hx,hw,q⟩:=h;cases rx;obtain⟨its,r,ht,hz⟩:=I.tuple hx;have G1:its.toArray.size=xs.length:=by rw[aJ];exact r.length.symm
 refine⟨"tuple",_,cL.lookup,ht.typeIs,?_⟩;refine HT.getItem_tuple_cut ht hs pl pu (by rw[G1];exact hw) ?_ (by rw[G1];exact hz);rw[G1];refine⟨.ref s.heap.objs.size,_,I.laid (t':=s.toks) (o:=.tup (zB xs lo hi)) (fun b ob q=>av _ q) (aq _) ?_,rfl,q _ (I.hok.fresh (aq _))⟩;exact⟨aC (rT xs lo hi) hz,_,(r.drop (HT.sIx xs.length 0 lo)).take (HT.sIx xs.length xs.length hi-HT.sIx xs.length 0 lo),IsTup.new _ _⟩
end
def ixN(n:Nat)(i:Int):Option Nat:=if 0<=i then(if i<n then some i.toNat else none) else if -(n:Int)<=i then some (i+n).toNat else none
def atI{α:Type}(xs:List α)(i:Int):Option α:=(ixN xs.length i).bind fun j=>xs[j]?
def zu{n:Nat}{i:Int}{j:Nat}(h:ixN n i=some j):seqIndex? i n=some j/\j<n/\-(n:Int)<=i/\i<n:=by
 unfold ixN at h;by_cases h0:0<=i
 ·rw[if_pos h0] at h;by_cases h1:i<n
  ·rw[if_pos h1] at h;have e:i.toNat=j:=aO h;exact⟨by rw[seqIndex_of h0 h1,e],by omega,by omega,h1⟩
  ·rw[if_neg h1] at h;cases h
 ·rw[if_neg h0] at h;by_cases h1:-(n:Int)<=i
  ·rw[if_pos h1] at h;have e:(i+n).toNat=j:=aO h;exact⟨by rw[seqIndex_neg (by omega) h1,e],by omega,h1,by omega⟩
  ·rw[if_neg h1] at h;cases h
def wv{α:Type}{xs:List α}{i:Int}{v:α}(h:atI xs i=some v):∃j,seqIndex? i xs.length=some j/\xs[j]?=some v/\j<xs.length/\-(xs.length:Int)<=i/\i<xs.length:=by
 unfold atI at h;cases e:ixN xs.length i with
 |none=>rw[e] at h;cases h
 |some j =>
  rw[e] at h;obtain⟨h1,h2,h3,h4⟩:=zu e;exact⟨j,h1,h,h2,h3,h4⟩
def kD{α:Type}{xs:List α}{j:Nat}{v:α}(h:xs[j]?=some v):atI xs (j:Int)=some v:=by
 have hj:j<xs.length:=(bD.mp h).1;have e:ixN xs.length (j:Int)=some j:=by unfold ixN;rw[if_pos (by omega),if_pos (by omega)];simp
 unfold atI;rw[e];exact h
def zK(b:aN):Prop:=∀o i,subscripted b false o i=operate [o,i] (gP o i)
def IxR(X:Cx)(r:R2):Prop :=
 ∀(value G9:aN)(GX:List (ac×Obj))(s:ah)(σ:St)(H:Hp)(x y:V)(v u:ae)(Q:VK),Inv X GX σ H s->RelV x v->RelV y u->r x y H Q ->
  subscripted G9 false v u=operate [v,u] (gP v u)->aP (model X.prog X.w) X.A (gZ value G9 v u) (EP X GX σ Q) X.xe s
def MtR(X:Cx)(id:String)(r:V->List V->Hp->VK->Prop):Prop :=
 ∀(GX:List (ac×Obj))(s:ah)(σ:St)(H:Hp)(x:V)(xs:List V)(v:ae)(us:List ae)(Q:VK),Inv X GX σ H s->RelV x v->Vals xs us->r x xs H Q ->
  aP (model X.prog X.w) X.A (call (.builtin id) (v::us)) (EP X GX σ Q) X.xe s
section
variable{X:Cx}{a b:aN}{ta tb:TE}{pos:Pos}
def IxR.or{r r':R2}(h:IxR X r)(h':IxR X r'):IxR X (fun x y H Q=>r x y H Q\/r' x y H Q):=by
 intro value G9 GX s σ H x y v u Q I rx ry q hs;rcases q with q|q
 ·exact h value G9 GX s σ H x y v u Q I rx ry q hs
 ·exact h' value G9 GX s σ H x y v u Q I rx ry q hs
def ny{r:R2}(hr:IxR X r)(ha:PE X a ta)(hb:PE X b tb)(hs:zK b):PE X (.Subscript a b pos) (tOp r ta tb):=by intro GX s σ H Q I h;exact Subscript_ (GW ha hb I h fun v u s2 x y H2 I2 rx ry q=>hr a b GX s2 σ H2 x y v u Q I2 rx ry q (hs _ _))
def GM(K:aa):R2:=fun x y H Q=>∃p xs i v,x=.ref p/\y=.int i/\SqL K H p xs/\atI xs i=some v/\Q v H
def GK(K:aa):R2:=fun x y H Q=>∃p xs i v,x=.ref p/\y=.int i/\SqT K H p xs/\atI xs i=some v/\Q v H
def GL:R2:=fun x y H Q=>∃z i c,x=.str z/\y=.int i/\z.length<=aB/\atI z.cps.toList i=some c/\Q (.str ⟨#[c]⟩) H
def ix_list:IxR X (GM X.K):=by
 intro value G9 GX s σ H x y v u Q I rx ry h hs;obtain⟨p,xs,i,z,rfl,rfl,hq,he,q⟩:=h;cases rx;obtain⟨t,rfl⟩:=ry;obtain⟨its,r,pl,hz⟩:=I.list hq;obtain⟨j,h1,h2,h3,h4,h5⟩:=wv he;obtain⟨w,ew,HG⟩:=r.get h2;have hl:=r.length;have hn:=su;have Hd:EP X GX σ Q w s:=⟨z,H,I,HG,q⟩;by_cases h0:0<=i
 ·have hj:i.toNat=j:=by rw[seqIndex_of h0 h5] at h1;exact aO h1
  exact item_listR pl.isList h0 (by omega) (by rw[hj];simpa using ew) Hd hs
 ·have hj:(i+(its.toArray.size:Int)).toNat=j:=by rw[seqIndex_neg (by omega) h4] at h1;rw[aJ,<-hl];exact aO h1
  exact subscriptTail_builtinR (x:=w) pl.isList.typeIs slot_list_getitem.lookup
   (wpAny_getItem_list_neg (Q:=fun r s'=>r=w/\EP X GX σ Q r s') pl.isList (by omega) (by rw[aJ]<;>omega) (by omega) (by rw[hj];simpa using ew) ⟨rfl,Hd⟩) hs
def ix_tup:IxR X (GK X.K):=by
 intro value G9 GX s σ H x y v u Q I rx ry h hs;obtain⟨p,xs,i,z,rfl,rfl,hq,he,q⟩:=h;cases rx;obtain⟨t,rfl⟩:=ry;obtain⟨its,r,pl,hz⟩:=I.tuple hq;obtain⟨j,h1,h2,h3,h4,h5⟩:=wv he;obtain⟨w,ew,HG⟩:=r.get h2;have hl:=r.length;have hn:=su;have Hd:EP X GX σ Q w s:=⟨z,H,I,HG,q⟩;exact subscriptTail_builtinR (x:=w) pl.typeIs cL.lookup
  (getItem_tuple (j:=j) (Q:=fun r s'=>r=w/\EP X GX σ Q r s') pl (by omega) (by omega) (by rw[aJ,<-hl];exact h1) (by simpa using ew) ⟨rfl,Hd⟩) hs
def sw:IxR X GL:=by
 intro value G9 GX s σ H x y v u Q I rx ry h hs;obtain⟨z,i,c,rfl,rfl,hz,he,q⟩:=h;obtain⟨t,rfl⟩:=rx;obtain⟨t',rfl⟩:=ry;obtain⟨j,h1,h2,h3,h4,h5⟩:=wv he;have hl:z.cps.toList.length=z.length:=by simp[Str.length]
 rw[hl] at h1 h4 h5;have hn:=su;exact tail_any (typeIs_str s z t) slot_str_getitem.lookup (getItem_str (c:=c) (by have e1:decide (i < -(2^63:Int))=false:=decide_eq_false (by omega);have e2:decide (i>=2^63)=false:=decide_eq_false (by omega);rw[e1,e2,Bool.or_false]) (by rw[h1];simpa using h2) ⟨.str ⟨#[c]⟩,H,I.tok _,⟨_,rfl⟩,q⟩) hs
def yr(its:List ae)(n j:Nat)(u:ae):gJ (·.setIfInBounds j u) { cls:=.type "list",data:=.seq its.toArray n }={ cls:=.type "list",data:=.seq (its.set j u).toArray n }:=by simp[gJ]
theorem Inv.lst{GX:List (ac×Obj)}{σ:St}{H:Hp}{s:ah}{p:ac}{xs:List V}(I:Inv X GX σ H s)(h:H p=some (.lst xs)) :
  ∃(its:List ae)(n:Nat),Vals xs its/\s.heap.get? p=some { cls:=.type "list",data:=.seq its.toArray n }/\xs.length<=aB:=by
 obtain⟨z,its,n,r,e⟩:=I.hok p _ h;exact⟨its,n,r,e,z⟩
def Inv.lstUpd{GX:List (ac×Obj)}{σ:St}{H:Hp}{s:ah}{p:ac}{xs ys:List V}{its its':List ae}{n n':Nat}{f:Obj->Obj}(I:Inv X GX σ H s)(h:H p=some (.lst xs))(ho:s.heap.get? p=some { cls:=.type "list",data:=.seq its.toArray n })(hf:f { cls:=.type "list",data:=.seq its.toArray n }={ cls:=.type "list",data:=.seq its'.toArray n' })(r:Vals ys its')(hz:ys.length<=aB)(t:Nat) :
  Inv X GX σ (upd H p (.lst ys)) { s with heap:=s.heap.update p f,toks:=t }:=by
 have e:(s.heap.update p f).get? p=some { cls:=.type "list",data:=.seq its'.toArray n' }:=by rw[Heap.get?_update_self f ho (by rw[hf]<;>rfl),hf]
 refine I.write (x:=p) (e:=p) (by rw[h];trivial) (.inl rfl) (fun b u hb q=>(iV _ _ (cj hb)).trans q) ⟨_,e⟩ ?_;exact⟨hz,its',n',r,e⟩
def EU:V->V->V->Hp->(Hp->Prop)->Prop:=fun o i v H Q=>∃p xs k j,o=.ref p/\i=.int k/\H p=some (.lst xs)/\ixN xs.length k=some j/\Q (upd H p (.lst (xs.set j v)))
def set_list:PSet X EU:=by
 intro GX s σ H o i v ov iv u Q I ro ri rv h;obtain⟨p,xs,k,j,rfl,rfl,hp,hj,q⟩:=h;cases ro;obtain⟨t,rfl⟩:=ri;obtain⟨its,n,r,ho,hz⟩:=I.lst hp;obtain⟨h1,h2,h3,h4⟩:=zu hj;have hl:=r.length;have hn:=su;have I':Inv X GX σ (upd H p (.lst (xs.set j v))) { s with heap:=s.heap.update p (gJ (·.setIfInBounds j u)) } :=
  I.lstUpd hp ho (yr its n j u) (r.set rv j) (by rw[ia];exact hz) s.toks
 by_cases h0:0<=k
 ·have hk:k.toNat=j:=by rw[seqIndex_of h0 h4] at h1;exact aO h1
  exact PySem.W.ki_setAt ho h0 (by omega) (by rw[aJ,<-hl];exact h4) (by rw[hk];exact⟨_,I',q⟩)
 ·have hk:(k+(its.toArray.size:Int)).toNat=j:=by rw[seqIndex_neg (by omega) h3] at h1;rw[aJ,<-hl];exact aO h1
  exact PySem.W.ki_setBack ho (by omega) (by rw[aJ,<-hl];exact h3) (by omega) (by rw[hk];exact⟨_,I',q⟩)
def vK(lo hi:Option Int)(n:Nat):(eT lo hi none n).1=((HT.sIx n 0 lo:Nat):Int)/\(eT lo hi none n).2.1=((HT.sIx n n hi:Nat):Int)/\(eT lo hi none n).2.2=1:=by
 refine⟨?_,?_,rfl⟩
 ·cases lo with
  |none=>simp[eT,HT.sIx]
  |some i =>
   simp only[eT,HT.sIx,jH,show(1:Int)>0 by decide,if_true];by_cases h:i<0
   ·simp only[h,if_true]<;>omega
   ·simp only[h,if_false]<;>omega
 ·cases hi with
  |none=>simp[eT,HT.sIx]
  |some i =>
   simp only[eT,HT.sIx,jH,show(1:Int)>0 by decide,if_true];by_cases h:i<0
   ·simp only[h,if_true]<;>omega
   ·simp only[h,if_false]<;>omega
def ug(its:List ae)(lo hi:Option Int):slicePick its.toArray lo hi none=((its.drop (HT.sIx its.length 0 lo)).take (HT.sIx its.length its.length hi-HT.sIx its.length 0 lo)).toArray:=by obtain⟨h1,h2,h3⟩:=vK lo hi its.toArray.size;unfold slicePick;rw[h1,h2,h3];simp only[sliceRange_one,pick_run,aJ]<;>rfl
def rSlL(K:aa):V->Option Int->Option Int->Hp->VK->Prop:=fun x lo hi H Q=>∃a xs,x=.ref a/\SqL K H a xs/\∀p,H p=none->Q (.ref p) (upd H p (.lst (zB xs lo hi)))
def sl_list:SlR X (rSlL X.K):=by intro GX s σ H x v vl vu lo hi sl Q I rx hs pl pu h;obtain⟨a,xs,rfl,hx,q⟩:=h;cases rx;obtain⟨its,r,ht,hz⟩:=I.list hx;have G1:=r.length;refine⟨"list",_,slot_list_getitem.lookup,ht.isList.typeIs,?_⟩;refine wpAny_getItem_list_slice ht.isList hs pl pu .none (by simp) ?_ (by rw[aJ]<;>omega);rw[ug,<-G1];refine⟨.ref s.heap.objs.size,_,I.laid (t':=s.toks) (o:=.lst (zB xs lo hi)) (fun b ob q=>av _ q) (aq _) ?_,rfl,q _ (I.hok.fresh (aq _))⟩;exact⟨aC (rT xs lo hi) hz,_,0,(r.drop (HT.sIx xs.length 0 lo)).take (HT.sIx xs.length xs.length hi-HT.sIx xs.length 0 lo),a7 _ rfl⟩
def oj:V->Bool
 |.non=>true
 |.bl _=>true
 |.int _=>true
 |.str _=>true
 |_=>false
def eqV:V->V->Bool
 |.non,.non=>true
 |.bl a,.bl b=>a==b
 |.bl a,.int b=>(if a then 1 else 0)==b
 |.int a,.bl b=>a==(if b then 1 else 0)
 |.int a,.int b=>a==b
 |.str a,.str b=>a==b
 |_,_=>false
def CA{A:bx}{s:ah}{y x:V}{u v:ae}(ry:RelV y u)(rx:RelV x v)(fy:oj y=true)(fx:oj x=true):jw A s u v (eqV y x):=by
 cases y with
 |non =>
  cases ry;cases x with
  |non=>cases rx;exact SeqAt.EqAt.same _
  |bl b=>cases rx;exact SeqAt.EqAt.none_bool b
  |int b=>obtain⟨t,rfl⟩:=rx;exact SeqAt.EqAt.none_int b t
  |str b=>obtain⟨t,rfl⟩:=rx;exact SeqAt.EqAt.none_str b t
  |_=>exact absurd (show false=true from fx) aR
 |bl a =>
  cases ry;cases x with
  |non=>cases rx;exact SeqAt.EqAt.bool_none a
  |bl b=>cases rx;exact SeqAt.EqAt.bool_bool a b
  |int b=>obtain⟨t,rfl⟩:=rx;exact SeqAt.EqAt.bool_int a b t
  |str b=>obtain⟨t,rfl⟩:=rx;exact SeqAt.EqAt.bool_str a b t
  |_=>exact absurd (show false=true from fx) aR
 |int a =>
  obtain⟨t',rfl⟩:=ry;cases x with
  |non=>cases rx;exact SeqAt.EqAt.int_none a t'
  |bl b=>cases rx;exact SeqAt.EqAt.int_bool a t' b
  |int b=>obtain⟨t,rfl⟩:=rx;exact SeqAt.EqAt.int_int a t' b t
  |str b=>obtain⟨t,rfl⟩:=rx;exact iL a t' b t
  |_=>exact absurd (show false=true from fx) aR
 |str a =>
  obtain⟨t',rfl⟩:=ry;cases x with
  |non=>cases rx;exact SeqAt.EqAt.str_none a t'
  |bl b=>cases rx;exact SeqAt.EqAt.str_bool a t' b
  |int b=>obtain⟨t,rfl⟩:=rx;exact iK a t' b t
  |str b=>obtain⟨t,rfl⟩:=rx;exact SeqAt.EqAt.str_str a t' b t
  |_=>exact absurd (show false=true from fx) aR
 |_=>exact absurd (show false=true from fy) aR
def eqU(x:V)(u:ae):Bool:=match u with
 |.none=>eqV .non x
 |.bool b=>eqV (.bl b) x
 |.int i _=>eqV (.int i) x
 |.str z _=>eqV (.str z) x
 |_=>false
def Cz{x y:V}{u:ae}(r:RelV y u)(f:oj y=true):eqU x u=eqV y x:=by
 cases y with
 |non=>cases r;rfl
 |bl b=>cases r;rfl
 |int i=>obtain⟨t,rfl⟩:=r;rfl
 |str z=>obtain⟨t,rfl⟩:=r;rfl
 |_=>exact absurd (show false=true from f) aR
theorem rg{x:V}:∀{xs:List V}{us:List ae},Vals xs us->xs.all oj=true->us.any (eqU x)=xs.any fun y=>eqV y x
 |_,_,.nil,_=>rfl
 |y::xs,u::us,.cons r t,f=>by rw[gE,bT] at f;rw[ej,ej,Cz r f.1,rg t f.2]
theorem pd{A:bx}{s:ah}{x:V}{v:ae}(rx:RelV x v)(fx:oj x=true):∀{xs:List V}{us:List ae},Vals xs us->xs.all oj=true->∀u∈us,jw A s u v (eqU x u)
 |_,_,.nil,_=>fun u hu=>by cases hu
 |y::xs,u::us,.cons r t,f=>fun u' hu=>by
  rw[gE,bT] at f;rcases aj.mp hu with rfl|hu
  ·rw[Cz r f.1];exact CA r rx f.1 fx
  ·exact pd rx fx t f.2 u' hu
def inV(x:V)(xs:List V):Bool:=xs.any fun y=>eqV y x
def rIn(K:aa)(neg:Bool):R2:=fun x y H Q=>∃p xs,y=.ref p/\(SqL K H p xs\/SqT K H p xs)/\oj x=true/\xs.all oj=true/\Q (.bl (if neg then !inV x xs else inV x xs)) H
def zX:OpR X (bI .In) (rIn X.K false):=by
 intro GX s σ H x y v u Q I rx ry h;obtain⟨p,xs,rfl,hq,fx,fs,q⟩:=h;cases ry;rcases hq with hq|hq
 ·obtain⟨its,r,pl,hz⟩:=I.list hq;refine SeqAt.in_listAt (eqU x) pl.isList (fun w hw=>pd rx fx r fs w (by simpa using hw)) ⟨.bl _,H,I,rfl,?_⟩;rw[show its.toArray.any (eqU x)=its.any (eqU x) by simp,rg r fs];exact q
 ·obtain⟨its,r,pl,hz⟩:=I.tuple hq;refine SeqAt.in_tupleAt (eqU x) pl (fun w hw=>pd rx fx r fs w (by simpa using hw)) ⟨.bl _,H,I,rfl,?_⟩;rw[show its.toArray.any (eqU x)=its.any (eqU x) by simp,rg r fs];exact q
def vR:OpR X (bI .NotIn) (rIn X.K true):=by
 intro GX s σ H x y v u Q I rx ry h;obtain⟨p,xs,rfl,hq,fx,fs,q⟩:=h;cases ry;rcases hq with hq|hq
 ·obtain⟨its,r,pl,hz⟩:=I.list hq;refine SeqAt.notIn_listAt (eqU x) pl.isList (fun w hw=>pd rx fx r fs w (by simpa using hw)) ⟨.bl _,H,I,rfl,?_⟩;rw[show its.toArray.any (eqU x)=its.any (eqU x) by simp,rg r fs];exact q
 ·obtain⟨its,r,pl,hz⟩:=I.tuple hq;refine SeqAt.notIn_tupleAt (eqU x) pl (fun w hw=>pd rx fx r fs w (by simpa using hw)) ⟨.bl _,H,I,rfl,?_⟩;rw[show its.toArray.any (eqU x)=its.any (eqU x) by simp,rg r fs];exact q
def call_len_seq:CallR X (.builtin "len") (fun xs H Q=>∃p ys,xs=[.ref p]/\(SqL X.K H p ys\/SqT X.K H p ys)/\Q (.int ys.length) H):=by
 intro GX s σ H xs us Q I r h;obtain⟨p,ys,rfl,hq,q⟩:=h;obtain⟨u,rfl,rx⟩:=oB r;cases rx;have hn:=su;rcases hq with hq|hq
 ·obtain⟨its,r',pl,hz⟩:=I.list hq;have G1:=r'.length;exact Calls.call_len_list pl.isList (by simp only[aJ]<;>omega) ⟨.int ys.length,H,I.tok _,⟨s.toks+1,by rw[aJ,G1]⟩,q⟩
 ·obtain⟨its,r',pl,hz⟩:=I.tuple hq;have G1:=r'.length;exact len_tuple pl (by simp only[aJ]<;>omega) ⟨.int ys.length,H,I.tok _,⟨s.toks+1,by rw[aJ,G1]⟩,q⟩
def call_len_str:CallR X (.builtin "len") (fun xs H Q=>∃z,xs=[.str z]/\z.length<=aB/\Q (.int z.length) H):=by intro GX s σ H xs us Q I r h;obtain⟨z,rfl,hz,q⟩:=h;obtain⟨u,rfl,t,rfl⟩:=oB r;have hn:=su;exact len_str (by omega) ⟨.int z.length,H,I.tok _,⟨_,rfl⟩,q⟩
def CallR.or{f:ae}{r r':List V->Hp->VK->Prop}(h:CallR X f r)(h':CallR X f r'):CallR X f (fun xs H Q=>r xs H Q\/r' xs H Q):=by
 intro GX s σ H xs us Q I rs q;rcases q with q|q
 ·exact h GX s σ H xs us Q I rs q
 ·exact h' GX s σ H xs us Q I rs q
def uL:CallR X (.type "tuple") (fun xs H Q=>∃p ys,xs=[.ref p]/\((SqL X.K H p ys/\∀l,H l=none->Q (.ref l) (upd H l (.tup ys)))\/(SqT X.K H p ys/\Q (.ref p) H))):=by
 intro GX s σ H xs us Q I r h;obtain⟨p,ys,rfl,h⟩:=h;obtain⟨u,rfl,rx⟩:=oB r;cases rx;rcases h with⟨hq,q⟩|⟨hq,q⟩
 ·obtain⟨its,r',pl,hz⟩:=I.list hq;have G1:=r'.length;refine call_tuple_list pl.isList (fun h' kp=>?_) (by simp only[aJ]<;>omega);have I1:Inv X GX σ H { s with heap:=h' }:=I.kept (t':=s.toks) kp;have I2:Inv X GX σ (upd H h'.objs.size (.tup ys)) { s with heap:=h'.push { cls:=.type "tuple",data:=.seq its.toArray } } :=
   I1.laid (t':=s.toks) (fun b o e=>av _ e) (aq _) (show ObjOk X.prog X.w _ _ _ (.tup ys) from⟨hz,its,r',IsTup.new _ _⟩)
  exact⟨.ref h'.objs.size,_,I2,rfl,q _ (I1.hok.fresh (aq _))⟩
 ·obtain⟨its,r',pl,hz⟩:=I.tuple hq;exact call_tuple_same pl ⟨.ref p,H,I,rfl,q⟩
def tyV(K:aa)(T:String)(x:V)(H:Hp):Prop:=match x with
 |.str _=>T="str"
 |.int _=>T="int"
 |.ref p=>(T="list"/\∃xs,SqL K H p xs)\/(T="tuple"/\∃o,K.lookup p=some o/\o.cls=.type "tuple"/\o.dict=none) \/
   (T="dict"/\((∃kvs,H p=some (.dK kvs))\/∃kvs,H p=some (.dT kvs)))\/(T="set"/\∃S n,H p=some (.set S n))
 |_=>False
def BV{GX:List (ac×Obj)}{σ:St}{H:Hp}{s:ah}{T:String}{x:V}{v:ae}(I:Inv X GX σ H s)(r:RelV x v)(ty:tyV X.K T x H) :
  s.TypeIs v T/\∀a,v=.ref a->∃ob,s.heap.get? a=some ob/\ob.dict=none:=by
 cases x with
 |str z =>
  obtain⟨t,rfl⟩:=r;cases(show T="str" from ty);exact⟨typeIs_str s z t,fun _ e=>nomatch e⟩
 |int i =>
  obtain⟨t,rfl⟩:=r;cases(show T="int" from ty);exact⟨typeIs_int s i t,fun _ e=>nomatch e⟩
 |ref p =>
  cases r;rcases ty with⟨rfl,xs,hq⟩|⟨rfl,o,hk,hc,hd⟩|⟨rfl,hk⟩|⟨rfl,S,n,hk⟩
  ·obtain⟨its,_,pl,_⟩:=I.list hq;refine⟨pl.isList.typeIs,fun a e=>?_⟩;cases e;obtain⟨o,n,e,c,hd,_⟩:=pl;exact⟨o,e,hd⟩
  ·refine⟨⟨o,I.kIn p o hk,hc⟩,fun a e=>?_⟩;cases e;exact⟨o,I.kIn _ o hk,hd⟩
  ·have z:∃o,s.heap.get? p=some o/\o.ExactDict:=by
    rcases hk with⟨kvs,hk⟩|⟨kvs,hk⟩
    ·obtain⟨_,_,_,_,o,_,_,e,ex,_⟩:=I.hok p _ hk;exact⟨o,e,ex⟩
    ·obtain⟨_,_,_,_,o,_,_,e,ex,_⟩:=I.hok p _ hk;exact⟨o,e,ex⟩
   obtain⟨o,e,ex⟩:=z;refine⟨⟨o,e,ex.1⟩,fun a e2=>?_⟩;cases e2;exact⟨o,e,ex.2.1⟩
  ·obtain⟨o,_,_,_,e,ex,_⟩:=I.hok p _ hk;refine⟨⟨o,e,ex.1⟩,fun a e2=>?_⟩;cases e2;exact⟨o,e,ex.2.1⟩
 |_=>exact bh ty
def tBM0(K:aa)(T:String)(r:V->List V->Hp->VK->Prop)(to:TE):TE:=fun σ H Q=>to σ H fun x H1=>tyV K T x H1/\r x [] H1 Q
def tBM(K:aa)(T:String)(r:V->List V->Hp->VK->Prop)(to:TE)(t:TA):TE:=fun σ H Q=>to σ H fun x H1=>tyV K T x H1/\t σ H1 fun xs H2=>r x xs H2 Q
variable{o e:aN}{es:List aN}{to:TE}{t:TA}{name:Str}{G0 GY:Pos}{T id:String}{r:V->List V->Hp->VK->Prop}
def Ch(pa:PlainAttrs T)(slot:Slot T name id)(Mb:typeOf (.builtin id)=pure (.type "method_descriptor"))(hm:MtR X id r)(ho:PE X o to)(Hj:cy o name X.env (eval o X.env)=eval o X.env:=by rfl)(Hi:(G0.endLine==GY.line)=true:=by rfl):PE X (.Call (.Attribute o name G0) [] [] GY) (tBM0 X.K T r to):=by
 intro GX s σ H Q I h;refine wpAny_Call_method0_late Hj Hi (thn (ho GX s σ H _ I h) fun v s1 ⟨x,H1,I1,r1,ty,q1⟩=>?_);obtain⟨h1,h2⟩:=BV I1 r1 ty;exact⟨T,id,pa,slot,Mb,h1,h2,dN rfl (PySem.evalArgs_none (hm GX s1 σ H1 x [] v [] Q I1 r1 .nil q1))⟩
def EX(pa:PlainAttrs T)(slot:Slot T name id)(Mb:typeOf (.builtin id)=pure (.type "method_descriptor"))(hm:MtR X id r)(ho:PE X o to)(ha:PA X (e::es) t)(Hj:cy o name X.env (eval o X.env)=eval o X.env:=by rfl)(IN:((bV GY (ar (e::es) X.env)).all (fun x=>!x.1)&&(f9 GY (dX [] X.env)).all (fun x=>x.1.isSome)
   && decide ((e::es).length+([]:List fg).length+(if([]:List fg).isEmpty then 0 else 1)<30))=true:=by rfl)(Hi:(G0.endLine==GY.line)=true:=by rfl)(hs:SEb X e es:=by rfl)(HI:(bV GY (ar es X.env)).any (·.1)=false:=by rfl) :
  PE X (.Call (.Attribute o name G0) (e::es) [] GY) (tBM X.K T r to t):=by
 intro GX s σ H Q I h;refine wpAny_Call_method_late Hj IN Hi rfl (thn (ho GX s σ H _ I h) fun v s1 ⟨x,H1,I1,r1,ty,q1⟩=>?_);obtain⟨h1,h2⟩:=BV I1 r1 ty;refine⟨T,id,pa,slot,Mb,h1,h2,?_⟩;have hA:=ha GY GX s1 σ H1 _ I1 q1;rw[hs] at hA ⊢;refine dN (by show(false||(bV GY (ar es X.env)).any (·.1))=false;rw[HI]<;>rfl) (ee ?_);exact thn hA fun us s2 ⟨vs,H2,I2,r2,q2⟩=>hm GX s2 σ H2 x vs v us Q I2 r1 r2 q2
end
def MtM(X:Cx)(id:String)(r:V->List V->Hp->VK->Prop):Prop :=
 ∀(GX:List (ac×Obj))(s:ah)(σ:St)(H:Hp)(x:V)(xs:List V)(v:ae)(us:List ae)(Q:VK),Inv X GX σ H s->RelV x v->Vals xs us->r x xs H Q ->
  aP (model X.prog X.w) X.A (call (.builtin id) (v::us)) (EP X GX σ Q) X.xe s
def Vals.one:∀{x:V}{us:List ae},Vals [x] us->∃u,us=[u]/\RelV x u
 |_,_,.cons r .nil=>⟨_,rfl,r⟩
def Vals.zero:∀{us:List ae},Vals [] us->us=[]
 |_,.nil=>rfl
theorem Vals.dropLast{xs:List V}{us:List ae}(h:Vals xs us):Vals xs.dropLast us.dropLast:=by
 induction h with
 |nil=>exact .nil
 |cons r t ih =>
  cases t with
  |nil=>exact .nil
  |cons q t'=>exact .cons r ih
theorem Vals.rep{xs:List V}{us:List ae}(h:Vals xs us):∀k:Nat,Vals (aK k xs).flatten (aK k us).flatten
 |0=>.nil
 |k+1=>by rw[ck,ck,cT,cT];exact Vals.append h (Vals.rep h k)
def yK{α:Type}(l:List α):l.eraseIdx (l.length-1)=l.dropLast:=by
 induction l with
 |nil=>rfl
 |cons a r ih =>
  cases r with
  |nil=>rfl
  |cons b r =>
   have e:(a::b::r).length-1=((b::r).length-1)+1:=by have h1:(a::b::r).length=r.length+2:=rfl;have h2:(b::r).length=r.length+1:=rfl;omega
   rw[e,List.eraseIdx_cons_succ,ih]
   all_goals rfl
theorem vt(its:List ae):∀(k:Nat)(Ha:List ae),
  jK (fun x1 x2=>x1++x2) Ha.toArray (aK k its.toArray)=(Ha++(aK k its).flatten).toArray
 |0,Ha=>by simp
 |k+1,Ha=>by
  have e:Ha.toArray++its.toArray=(Ha++its).toArray:=by simp
  have e2:(Ha++its)++(aK k its).flatten=Ha++(aK (k+1) its).flatten:=by rw[ck,cT,List.append_assoc]
  rw[<-e2,<-vt its k (Ha++its),<-e,ck,List.foldl_cons]
section
variable{X:Cx}{GX:List (ac×Obj)}{σ:St}{H:Hp}{s:ah}{l b:ac}{xs ys zs:List V}
def Inv.lset{its its':List ae}{n:Nat}{f:Array ae->Array ae}{t':Nat}(I:Inv X GX σ H s)(hH:H l=some (.lst xs))(e:s.heap.get? l=some { cls:=.type "list",data:=.seq its.toArray n })(hf:f its.toArray=its'.toArray)(hv:Vals ys its')(hz:ys.length<=aB) :
  Inv X GX σ (upd H l (.lst ys)) { s with heap:=s.heap.update l (gJ f),toks:=t' }:=by
 have q:=PySem.IsL.update e f;rw[hf] at q;refine I.write (x:=l) (e:=l) (by rw[hH];exact trivial) (.inl rfl) (fun b' u hb hu=>(iV s.heap (gJ f) (cj hb)).trans hu) ⟨_,q⟩ ?_;exact⟨hz,its',_,hv,q⟩
def Inv.lnew{its:List ae}{t':Nat}(I:Inv X GX σ H s)(hv:Vals ys its)(hz:ys.length<=aB) :
  Inv X GX σ (upd H s.heap.objs.size (.lst ys)) { s with heap:=s.heap.push { cls:=.type "list",data:=.seq its.toArray },toks:=t' } :=
 I.laid (fun _ _ q=>av _ q) (aq _) ⟨hz,its,0,hv,a7 _ rfl⟩
theorem Inv.fresh(I:Inv X GX σ H s):H s.heap.objs.size=none:=I.hok.fresh (aq _)
def Inv.lstM(I:Inv X GX σ H s)(hH:H l=some (.lst xs)):xs.length<=aB/\∃(its:List ae)(n:Nat),Vals xs its/\xs.length=its.length/\s.heap.get? l=some { cls:=.type "list",data:=.seq its.toArray n }:=by obtain⟨z,its,n,r,e⟩:=I.hok l _ hH;exact⟨z,its,n,r,r.length,e⟩
def Bf{n:Nat}(h:n<=aB):eI n=false:=by unfold eI;exact decide_eq_false (by omega)
def Dc:V->List V->Hp->VK->Prop:=fun x vs H Q=>∃l xs y,x=.ref l/\vs=[y]/\H l=some (.lst xs)/\xs.length<aB/\Q .non (upd H l (.lst (xs++[y])))
def vn:MtM X "list.append" Dc:=by intro GX s σ H x vs v us Q I rx rv h;obtain⟨l,xs,y,rfl,rfl,hH,hz,q⟩:=h;cases rx;obtain⟨u,rfl,ru⟩:=rv.one;obtain⟨z,its,n,r,hl,e⟩:=I.lstM hH;refine g8 jc ⟨_,e,rfl⟩ F.entry_list_append (F.args_list_append_2 _ _) (PySem.list_append l its.toArray n u (by rw[aJ];omega)) ⟨e,?_⟩;refine⟨.non,_,I.lset (its':=its++[u]) hH e (by simp) (r.append (.cons ru .nil)) ?_,rfl,q⟩;rw[aI,cP];omega
def rPop:V->List V->Hp->VK->Prop:=fun x vs H Q=>∃l xs y,x=.ref l/\vs=[]/\H l=some (.lst xs)/\xs[xs.length-1]?=some y/\Q y (upd H l (.lst xs.dropLast))
def F5:MtM X "list.pop" rPop:=by
 intro GX s σ H x vs v us Q I rx rv h;obtain⟨l,xs,y,rfl,rfl,hH,hy,q⟩:=h;cases rx;have Ma:=rv.zero;subst Ma;obtain⟨z,its,n,r,hl,e⟩:=I.lstM hH;obtain⟨u,hu,ru⟩:=r.get hy;have Ks:its.toArray[its.toArray.size-1]?=some u:=by show its.toArray[its.length-1]?=some u;rw[<-i0,<-hl];exact hu
 refine g8 jF ⟨_,e,rfl⟩ F.entry_list_pop (F.args_list_pop_1 _) (MeetsSeq.list_pop_last l its.toArray n u Ks (by rw[aJ];omega)) ⟨e,?_⟩;refine⟨y,_,I.lset (its':=its.dropLast) hH e ?_ r.dropLast ?_,ru,q⟩
 ·show its.toArray.eraseIdxIfInBounds (its.toArray.size-1)=its.dropLast.toArray;rw[aJ,List.eraseIdxIfInBounds_toArray,yK]
 ·rw[List.length_dropLast];omega
def FB:V->List V->Hp->VK->Prop:=fun x vs H Q=>∃l xs,x=.ref l/\vs=[]/\H l=some (.lst xs)/\Q .non (upd H l (.lst []))
def Bj:MtM X "list.clear" FB:=by intro GX s σ H x vs v us Q I rx rv h;obtain⟨l,xs,rfl,rfl,hH,q⟩:=h;cases rx;have Ma:=rv.zero;subst Ma;obtain⟨z,its,n,r,hl,e⟩:=I.lstM hH;refine g8 jm ⟨_,e,rfl⟩ F.entry_list_clear (F.args_list_clear_1 _) (AutoSeq1.list_clear_list_0 l its.toArray n (by rw[aJ];omega)) ⟨e,?_⟩;exact⟨.non,_,I.lset (its':=[]) (ys:=[]) hH e rfl .nil (a6 _),rfl,q⟩
def GJ:R2:=fun x y H Q=>∃l k xs,x=.ref l/\y=.int k/\H l=some (.lst xs)/\-(2^63)<=k/\k<2^63/\xs.length*k.toNat<=aB /\
 ∀p,H p=none->Q (.ref p) (upd H p (.lst (aK k.toNat xs).flatten))
def DK{α:Type}(xs:List α)(k:Nat):(aK k xs).flatten.length=k*xs.length:=by
 induction k with
 |zero=>simp
 |succ k ih=>rw[ck,cT,aI,ih,Nat.succ_mul,jf]
def FO:OpR X (cH .Mult) GJ:=by
 intro GX s σ H x y v u Q I rx ry h;obtain⟨l,k,xs,rfl,rfl,hH,h1,h2,hz,q⟩:=h;cases rx;obtain⟨t,rfl⟩:=ry;obtain⟨z,its,n,r,hl,e⟩:=I.lstM hH;have G1:its.toArray.size*k.toNat<=aB:=by rw[aJ,<-hl];exact hz
 have ME:¬its.toArray.size*k.toNat>(2^63-1)/8:=by
  have:(aB:Nat)<=(2^63-1)/8:=by decide
  omega
 have Mv:¬(!Builtin.List.listFitsIndex k)=true:=by rw[fitsIndex_both h1 h2];exact aR
 have Kz:¬eI (its.toArray.size*k.toNat)=true:=by rw[Bf G1];exact aR
 have HP:jK (fun x1 x2=>x1++x2) #[] (aK (if its.toArray.isEmpty=true then 0 else k.toNat) its.toArray)=(aK k.toNat its).flatten.toArray:=by
  have f0:∀m:Nat,jK (fun x1 x2=>x1++x2) #[] (aK m its.toArray)=(aK m its).flatten.toArray:=fun m=>by have:=vt its m [];rw[hZ] at this;exact this
  rw[f0];cases its with
  |nil=>simp
  |cons a r'=>rw[if_neg (by simp)]
 refine wpAny_binaryOp_repeat_ref (T:="list") (U:="int") (by decide) ⟨_,e,rfl⟩ (fun s'=>typeIs_int s' k t) noFill_list_mul F.fills_int_mul F.slot_int_rmul repeat_list F.slot_int_index.lookup
  (g8 F.slot_int_rmul (typeIs_int s k t) F.entry_int_rmul (F.args_int_rmul_2 _ _) (int___rmul___int_list k t l its.toArray n)
   ⟨e,rfl,⟨_,e,rfl⟩,g8 F.slot_list_mul ⟨_,e,rfl⟩ F.entry_list_mul (F.args_list_mul_2 _ _) (AutoListH.list___mul___list_int_3 l its.toArray n k t Mv ME Kz) ⟨e,?_⟩⟩)
 rw[HP];exact⟨.ref _,_,I.lnew (t':=s.toks) (r.rep k.toNat) (by rw[DK,Nat.mul_comm];exact hz),rfl,q _ I.fresh⟩
end
section
variable{prog:az}{w:aU}{A:bx}{E:ae->ah->Prop}{s:ah}
set_option maxRecDepth 100000 in
end
section
variable{X:Cx}
end
open PySem PySem.Spec PyProof.Rows
section
variable{κ:Type}[DecidableEq κ]
def lX(kvs:List (κ×V))(k:κ):Option V:=(kvs.find? fun kv=>decide (kv.1=k)).map (·.2)
def oH(kvs:List (κ×V))(k:κ)(v:V):List (κ×V) :=
 if(kvs.any fun kv=>decide (kv.1=k))=true then kvs.map (fun kv=>if kv.1=k then(kv.1,v) else kv) else kvs++[(k,v)]
def sg(kvs:List (κ×V))(k:κ):List (κ×V):=kvs.filter fun kv=>decide (kv.1≠k)
def qH{p:κ×V}{r:List (κ×V)}{k:κ}(e:p.1=k):lX (p::r) k=some p.2:=by simp[lX,bP,e]
def qI{p:κ×V}{r:List (κ×V)}{k:κ}(e:¬p.1=k):lX (p::r) k=lX r k:=by simp[lX,bP,e]
theorem tU(k:κ):∀kvs:List (κ×V),(kvs.any fun kv=>decide (kv.1=k))=(lX kvs k).isSome
 |[]=>rfl
 |p::r=>by
  rw[ej];by_cases e:p.1=k
  ·simp only[qH e,decide_eq_true e,Bool.true_or,Option.isSome_some]
  ·rw[qI e,decide_eq_false e,Bool.false_or];exact tU k r
def oW(kvs:List (κ×V))(k:κ)(v:V):(oH kvs k v).length<=kvs.length+1:=by
 unfold oH;split
 ·rw[af];omega
 ·rw[aI,bR,List.length_nil];omega
def pb{kvs:List (κ×V)}{k:κ}(v:V)(h:lX kvs k=none):oH kvs k v=kvs++[(k,v)]:=by unfold oH;rw[tU,h];exact if_neg (by decide)
def RelO.isSome_eq{o:Option V}{u:Option ae}(r:RelO o u):o.isSome=u.isSome:=by
 cases o with
 |none=>cases u with
  |none=>rfl
  |some _=>exact(show False from r).elim
 |some _=>cases u with
  |none=>exact(show False from r).elim
  |some _=>rfl
theorem RelO.getD{o:Option V}{u:Option ae}{d:V}{d':ae}(r:RelO o u)(rd:RelV d d'):RelV (o.getD d) (u.getD d'):=by
 cases o with
 |none=>cases u with
  |none=>exact rd
  |some _=>exact(show False from r).elim
 |some _=>cases u with
  |none=>exact(show False from r).elim
  |some _=>exact r
def KV.val{kvs:List (κ×V)}{vs:List (κ×ae)}(r:KV kvs vs)(k:κ):RelO (lX kvs k) (gN vs k):=by
 unfold KV at r;induction r with
 |nil=>exact bZ
 |@cons p q ps qs h t ih =>
  obtain⟨h1,h2⟩:=h;by_cases e:p.1=k
  ·have e':q.1=k:=h1.symm.trans e;have b:gN (q::qs) k=some q.2:=by simp[gN,bP,e']
   rw[qH e,b];exact h2
  ·have e':¬q.1=k:=fun z=>e (h1.trans z);have b:gN (q::qs) k=gN qs k:=by simp[gN,bP,e']
   rw[qI e,b];exact ih
theorem KV.any{kvs:List (κ×V)}{vs:List (κ×ae)}(r:KV kvs vs)(k:κ):(kvs.any fun kv=>decide (kv.1=k))=vs.any fun kv=>decide (kv.1=k):=by
 unfold KV at r;induction r with
 |nil=>rfl
 |cons h t ih=>rw[ej,ej,ih,h.1]
def KV.repl{kvs:List (κ×V)}{vs:List (κ×ae)}(r:KV kvs vs)(k:κ){y:V}{u:ae}(ry:RelV y u) :
  KV (kvs.map fun kv=>if kv.1=k then(kv.1,y) else kv) (vs.map fun kv=>if kv.1=k then(kv.1,u) else kv):=by
 unfold KV at r ⊢;induction r with
 |nil=>exact .nil
 |@cons p q ps qs h t ih =>
  rw[aG,aG];refine .cons ?_ ih;obtain⟨h1,h2⟩:=h;by_cases e:p.1=k
  ·rw[if_pos e,if_pos (h1.symm.trans e)];exact⟨h1,ry⟩
  ·rw[if_neg e,if_neg (fun z=>e (h1.trans z))];exact⟨h1,h2⟩
def KV.put{kvs:List (κ×V)}{vs:List (κ×ae)}(r:KV kvs vs)(k:κ){y:V}{u:ae}(ry:RelV y u):KV (oH kvs k y) (stored vs k u):=by
 unfold oH stored;rw[r.any k];by_cases e:(vs.any fun kv=>decide (kv.1=k))=true
 ·rw[if_pos e,if_pos e];exact r.repl k ry
 ·rw[if_neg e,if_neg e];exact iU r ⟨rfl,ry⟩
def KV.drop{kvs:List (κ×V)}{vs:List (κ×ae)}(r:KV kvs vs)(k:κ):KV (sg kvs k) (without vs k):=by
 unfold KV at r ⊢;unfold sg without;induction r with
 |nil=>exact .nil
 |@cons p q ps qs h t ih =>
  obtain⟨h1,h2⟩:=h;rw[fK,fK];by_cases e:p.1=k
  ·have a:¬decide (p.1≠k)=true:=by simp[e]
   have b:¬decide (q.1≠k)=true:=by simp[h1.symm.trans e]
   rw[if_neg a,if_neg b];exact ih
  ·have e':¬q.1=k:=fun z=>e (h1.trans z);have a:decide (p.1≠k)=true:=by simp[e]
   have b:decide (q.1≠k)=true:=by simp[e']
   rw[if_pos a,if_pos b];exact .cons ⟨h1,h2⟩ ih
def KV.keys{kvs:List (κ×V)}{vs:List (κ×ae)}(r:KV kvs vs):kvs.map (·.1)=vs.map (·.1):=by
 unfold KV at r;induction r with
 |nil=>rfl
 |cons h t ih=>rw[aG,aG,ih,h.1]
theorem KV.length{kvs:List (κ×V)}{vs:List (κ×ae)}(r:KV kvs vs):kvs.length=vs.length:=iq r
def Bz(kvs:List (κ×V))(k:κ):(sg kvs k).length<=kvs.length:=d6 _ _
end
def tf{P:az}{w:aU}{k:Key}{u:ae}(r:RelV (kV k) u):(kG P w).is k u=true:=by
 cases k with
 |inl i=>obtain⟨t,e⟩:=(show ∃t,u=gh i t from r);subst e;exact wT P w i t
 |inr x=>obtain⟨t,e⟩:=(show ∃t,u=fC x t from r);subst e;exact wS P w x t
theorem vp{P:az}{w:aU}:∀{ks:List Key}{us:List ae},Vals (ks.map kV) us->ItemsAre (kG P w) ks us
 |[],_,r=>by rw[da] at r;cases r;exact .nil
 |k::ks,_,r=>by
  rw[aG] at r;cases r with
  |cons h t=>exact .cons (tf h) (vp t)
abbrev KT(H:Hp):List (List Key×V)->List (List Key×ac×ae)->Prop:=eM fun p q=>p.1=q.1/\H q.2.1=some (.tup (p.1.map kV))/\RelV p.2 q.2.2
def KT.val{H:Hp}{kvs:List (List Key×V)}{xs:List (List Key×ac×ae)}(r:KT H kvs xs)(k:List Key):RelO (lX kvs k) ((i7 xs k).map (·.2)):=by
 induction r with
 |nil=>exact bZ
 |@cons p q ps qs h t ih =>
  obtain⟨h1,_,h2⟩:=h;by_cases e:p.1=k
  ·have e':q.1=k:=h1.symm.trans e;have b:i7 (q::qs) k=some q.2:=by simp[i7,bP,e']
   rw[qH e,b];exact h2
  ·have e':¬q.1=k:=fun z=>e (h1.trans z);have b:i7 (q::qs) k=i7 qs k:=by simp[i7,bP,e']
   rw[qI e,b];exact ih
def KT.repl{H:Hp}{kvs:List (List Key×V)}{xs:List (List Key×ac×ae)}(r:KT H kvs xs)(k:List Key){y:V}{u:ae}(ry:RelV y u) :
  KT H (kvs.map fun kv=>if kv.1=k then(kv.1,y) else kv) (xs.map (putAt k u)):=by
 induction r with
 |nil=>exact .nil
 |@cons p q ps qs h t ih =>
  rw[aG,aG];refine .cons ?_ ih;obtain⟨h1,h2,h3⟩:=h;unfold putAt;by_cases e:p.1=k
  ·rw[if_pos e,if_pos (h1.symm.trans e)];exact⟨h1,h2,ry⟩
  ·rw[if_neg e,if_neg (fun z=>e (h1.trans z))];exact⟨h1,h2,h3⟩
def KT.put{H:Hp}{kvs:List (List Key×V)}{xs:List (List Key×ac×ae)}(r:KT H kvs xs)(k:List Key){b:ac}{y:V}{u:ae}(hb:H b=some (.tup (k.map kV)))(ry:RelV y u) :
  KT H (oH kvs k y) (storedH xs k b u):=by
 have e:(kvs.any fun kv=>decide (kv.1=k))=(i7 xs k).isSome:=by rw[tU,(r.val k).isSome_eq,bX]
 unfold oH storedH;rw[e];by_cases q:(i7 xs k).isSome=true
 ·rw[if_pos q,if_pos q];exact r.repl k ry
 ·rw[if_neg q,if_neg q];exact iU r ⟨rfl,hb,ry⟩
def KT.keeps{H H':Hp}{kvs:List (List Key×V)}{xs:List (List Key×ac×ae)}(r:KT H kvs xs)(ht:∀b ys,H b=some (.tup ys)->H' b=some (.tup ys)):KT H' kvs xs :=
 eM.mapP r fun _ _ z=>⟨z.1,ht _ _ z.2.1,z.2.2⟩
section
variable{P:az}{w:aU}{H:Hp}{h:ba}{a:ac}
def ET{u:HO}(ok:HOk P w H h)(e:Rd H a u):ObjOk P w H h a u:=e.ok ok
def qP{kvs:List (Key×V)}(ok:HOk P w H h)(e:Rd H a (.dK kvs)):kvs.length<=aB/\(a==du)=false/\∃vs,KV kvs vs/\h.DictOf (kG P w) a vs :=
 show ObjOk P w H h a (.dK kvs) from ET ok e
def CP{kvs:List (Key×V)}(ok:HOk P w H h)(e:H a=some (.dK kvs)):kvs.length<=aB/\(a==du)=false/\∃vs,KV kvs vs/\h.DictOf (kG P w) a vs:=qP ok (.inl e)
def sv{ks:List Key}(ok:HOk P w H h)(e:H a=some (.tup (ks.map kV))):(gO (kG P w)).is h ks a:=by obtain⟨_,its,r,o,h1,h2,n,h3⟩:=(show ObjOk P w H h a (.tup (ks.map kV)) from ok a _ e);exact⟨o,its.toArray,n,h1,h2,h3,by simpa using vp r⟩
def uT{kvs:List (List Key×V)}(ok:HOk P w H h)(e:Rd H a (.dT kvs)):kvs.length<=aB/\(a==du)=false /\
  ∃xs,KT H kvs xs/\h.DictOfH (gO (kG P w)) a xs:=by
 obtain⟨z,y,xs,r,o,es,ep,h1,h2,h3,h4,h5⟩:=(show ObjOk P w H h a (.dT kvs) from ET ok e);refine⟨z,y,xs,r,o,es,ep,h1,h2,h3,h4,fun x hx=>?_,h5⟩;have all:∀{l:List (List Key×V)}{m:List (List Key×ac×ae)},KT H l m->∀x∈m,(gO (kG P w)).is h x.1 x.2.1:=by
  intro l m q;induction q with
  |nil=>intro x hx;exact nomatch hx
  |@cons p q ps qs hq t ih =>
   intro x hx;rcases aj.mp hx with e|hx
   ·subst e;exact sv ok (by rw[<-hq.1];exact hq.2.1)
   ·exact ih x hx
 exact all r x hx
def dt_of{kvs:List (List Key×V)}(ok:HOk P w H h)(e:H a=some (.dT kvs)):kvs.length<=aB/\(a==du)=false /\
  ∃xs,KT H kvs xs/\h.DictOfH (gO (kG P w)) a xs:=uT ok (.inl e)
end
def DGet(H:Hp)(a:ac)(y:V)(r:Option V):Prop :=
 (∃kvs k,Rd H a (.dK kvs)/\y=kV k/\r=lX kvs k)\/∃kvs k b,Rd H a (.dT kvs)/\y=.ref b/\H b=some (.tup (k.map kV))/\r=lX kvs k
def DPut(H:Hp)(a:ac)(y v:V)(H':Hp):Prop :=
 (∃kvs k,H a=some (.dK kvs)/\y=kV k/\kvs.length<aB/\H'=upd H a (.dK (oH kvs k v))) \/
 ∃kvs k b,H a=some (.dT kvs)/\y=.ref b/\H b=some (.tup (k.map kV))/\kvs.length<aB/\H'=upd H a (.dT (oH kvs k v))
theorem DGet.k{H:Hp}{a:ac}{kvs:List (Key×V)}{k:Key}(e:H a=some (.dK kvs)):DGet H a (kV k) (lX kvs k):=.inl ⟨kvs,k,.inl e,rfl,rfl⟩
theorem DPut.k{H:Hp}{a:ac}{kvs:List (Key×V)}{k:Key}{v:V}(e:H a=some (.dK kvs))(hl:kvs.length<aB):DPut H a (kV k) v (upd H a (.dK (oH kvs k v))):=.inl ⟨kvs,k,e,rfl,hl,rfl⟩
section
variable{X:Cx}{GX:List (ac×Obj)}{σ:St}{H:Hp}{s:ah}{a:ac}{y v:V}{u r:ae}{o:Option V}{A:bx}{E:ae->ah->Prop}
def Inv.big(I:Inv X GX σ H s):du<s.heap.objs.size:=by have h:aS<s.heap.objs.size:=(I.mod.glob.keeps I.bk).lt;exact fV (by decide) h
def vy{Q:ae->ah->Prop}(hu:A.units+1<dL)(I:Inv X GX σ H s)(g:DGet H a y (some v))(ry:RelV y u)(h:∀w' s',Inv X GX σ H s'->RelV v w'->Q w' s') :
  aP (model X.prog X.w) A (gP (.ref a) u) Q E s:=by
 rcases g with⟨kvs,k,e,ey,l⟩|⟨kvs,k,b,e,ey,eb,l⟩
 ·subst ey;obtain⟨z,hd,vs,rel,dd⟩:=qP I.hok e;obtain⟨w',hw,HG⟩:=RelO.some_of (v:=v) (o:=gN vs k) (by rw[l];exact rel.val k);exact wpAny_getItem_of (tf ry) dd.mapOf hw (h w' _ (I.tok _) HG)
 ·subst ey;cases(show u=aV b from ry);obtain⟨z,hd,xs,rel,dd⟩:=uT I.hok e;obtain⟨w',hw,HG⟩:=RelO.some_of (v:=v) (o:=(i7 xs k).map (·.2)) (by rw[l];exact rel.val k);obtain⟨p,hp,hp2⟩:=Option.map_eq_some_iff.mp hw;refine wpAny_getItem_heap (dR hu) (sv I.hok eb) dd hp ?_;rw[hp2];exact h w' _ (I.tok _) HG
def d_in{Q:ae->ah->Prop}(hu:A.units+1<dL)(I:Inv X GX σ H s)(g:DGet H a y o)(ry:RelV y u)(h:∀s',Inv X GX σ H s'->Q (.bool o.isSome) s') :
  aP (model X.prog X.w) A (bI .In u (.ref a)) Q E s:=by
 rcases g with⟨kvs,k,e,ey,l⟩|⟨kvs,k,b,e,ey,eb,l⟩
 ·subst ey;obtain⟨z,hd,vs,rel,dd⟩:=qP I.hok e;refine wpAny_in_of (tf ry) hd dd.mapOf ?_;rw[<-(rel.val k).isSome_eq,<-l];exact h _ (I.tok _)
 ·subst ey;cases(show u=aV b from ry);obtain⟨z,hd,xs,rel,dd⟩:=uT I.hok e;refine wpAny_in_heap (dR hu) (sv I.hok eb) hd dd ?_;have q:=(rel.val k).isSome_eq;rw[bX] at q;rw[<-q,<-l];exact h _ (I.tok _)
def Ew{Q:ae->ah->Prop}(hu:A.units+1<dL)(I:Inv X GX σ H s)(g:DGet H a y o)(ry:RelV y u)(h:∀s',Inv X GX σ H s'->Q (.bool (!o.isSome)) s') :
  aP (model X.prog X.w) A (bI .NotIn u (.ref a)) Q E s:=by
 rcases g with⟨kvs,k,e,ey,l⟩|⟨kvs,k,b,e,ey,eb,l⟩
 ·subst ey;obtain⟨z,hd,vs,rel,dd⟩:=qP I.hok e;refine wpAny_notIn_of (tf ry) hd dd.mapOf ?_;rw[<-(rel.val k).isSome_eq,<-l];exact h _ (I.tok _)
 ·subst ey;cases(show u=aV b from ry);obtain⟨z,hd,xs,rel,dd⟩:=uT I.hok e;refine wpAny_notIn_heap (dR hu) (sv I.hok eb) hd dd ?_;have q:=(rel.val k).isSome_eq;rw[bX] at q;rw[<-q,<-l];exact h _ (I.tok _)
def tL{h':ba}{t':Nat}{ob:HO}(I:Inv X GX σ H s)(mu:Mut (H a))(hs:gQ a s.heap h')(he:∃q,h'.get? a=some q)(new:ObjOk X.prog X.w (upd H a ob) h' a ob) :
  Inv X GX σ (upd H a ob) { s with heap:=h',toks:=t' } :=
 I.write (x:=a) (e:=a) mu (.inl rfl) (fun b q hb z=>(hs.2 b hb).trans z) he new
def za{P:az}{w:aU}{H':Hp}{h':ba}{kvs:List (Key×V)}{vs:List (Key×ae)}(z:kvs.length<=aB)(hd:(a==du)=false)(rel:KV kvs vs)(dd:h'.DictOf (kG P w) a vs) :
  ObjOk P w H' h' a (.dK kvs):=⟨z,hd,vs,rel,dd⟩
def vx{H':Hp}{Q:Unit->ah->Prop}(hu:A.units+1<dL)(I:Inv X GX σ H s)(g:DPut H a y v H')(ry:RelV y u)(rv:RelV v r)(h:∀s',Inv X GX σ H' s'->Q () s') :
  aP (model X.prog X.w) A (setItem (.ref a) u r) Q E s:=by
 rcases g with⟨kvs,k,e,ey,l,eH⟩|⟨kvs,k,b,e,ey,eb,l,eH⟩
 ·subst ey eH;obtain⟨z,hd,vs,rel,dd⟩:=CP I.hok e;have hz:vs.length<=aB:=by rw[<-rel.length];exact z
  have hl:(oH kvs k v).length<=aB:=by have:=oW kvs k v;omega
  refine wpAny_setItem_pairs (hsz:=hz) (tf ry) dd fun h' IW hs=>h _ ?_;have he:∃q,h'.get? a=some q:=let⟨q,_,_,hq,_⟩:=IW;⟨q,hq⟩;exact tL I (by rw[e];exact bZ) hs he (za hl hd (rel.put k rv) IW)
 ·subst ey eH;cases(show u=aV b from ry);obtain⟨z,hd,xs,rel,dd⟩:=dt_of I.hok e;have hz:xs.length<=aB:=by rw[<-iq rel];exact z
  have hl:(oH kvs k v).length<=aB:=by have:=oW kvs k v;omega
  refine wpAny_setItem_heap (hsz:=hz) (dR hu) (sv I.hok eb) dd fun h' IW hs=>h _ ?_;obtain⟨q,es,ep,hq,h2,h3,h4,_,h5⟩:=IW;refine tL I (by rw[e];exact bZ) hs ⟨q,hq⟩ ⟨hl,hd,_,(rel.put k eb rv).keeps fun c ys ec=>?_,q,es,ep,hq,h2,h3,h4,h5⟩;rw[jN (yq ec e (fun z=>nomatch z))];exact ec
end
section
variable{X:Cx}{GX:List (ac×Obj)}{σ:St}{H:Hp}{s:ah}{a:ac}{kvs:List (Key×V)}{k:Key}{u:ae}{A:bx}{E:ae->ah->Prop}
def d_pop{v:V}{more:List ae}{Q:ae->ah->Prop}(I:Inv X GX σ H s)(e:H a=some (.dK kvs))(ry:RelV (kV k) u)(l:lX kvs k=some v)(hm:more=[]\/∃x,more=[x])(h:∀w' s',Inv X GX σ (upd H a (.dK (sg kvs k))) s'->RelV v w'->Q w' s'):aP (model X.prog X.w) A (call (.builtin "dict.pop") (.ref a::u::more)) Q E s:=by
 obtain⟨z,hd,vs,rel,dd⟩:=CP I.hok e;obtain⟨w',hw,HG⟩:=RelO.some_of (v:=v) (o:=gN vs k) (by rw[<-l];exact rel.val k);have hp:(keyPart u).isSome=true:=by
  cases k with
  |inl i=>obtain⟨t,q⟩:=(show ∃t,u=gh i t from ry);subst q;rfl
  |inr x=>obtain⟨t,q⟩:=(show ∃t,u=fC x t from ry);subst q;rfl
 have ha:argsOk "dict.pop" ⟨.ref a::u::more,[]⟩:=by
  rcases hm with q|⟨x,q⟩
  ·subst q;exact PySem.F.args_dict_pop_2 _ _
  ·subst q;exact PySem.F.args_dict_pop_3 _ _ _
 refine call_meetsIn iM dd.typeIs PySem.F.entry_dict_pop ha (meets_dict_pop_there (kG X.prog X.w) a (tf ry) more hm hp)
  ⟨vs,w',dd,by rw[<-rel.length];exact z,hw,fun h' IW hs=>h w' _ ?_ HG⟩
 have he:∃q,h'.get? a=some q:=let⟨q,_,_,hq,_⟩:=IW;⟨q,hq⟩;exact tL I (by rw[e];exact bZ) hs he (za (aC (Bz kvs k) z) hd (rel.drop k) IW)
def Fc{Q:ae->ah->Prop}(I:Inv X GX σ H s)(e:Rd H a (.dK kvs))(h:∀t s',Inv X GX σ H s'->Q (.int kvs.length t) s'):aP (model X.prog X.w) A (call (.builtin "len") [.ref a]) Q E s:=by obtain⟨z,hd,vs,rel,dd⟩:=qP I.hok e;refine call_len_dict hd dd (by rw[<-rel.length];rw[iJ] at z;omega) ?_;rw[<-rel.length];exact h _ _ (I.tok _)
end
def NoSl(i:aN):Prop:=∀ov iv,subscripted i false ov iv=operate [ov,iv] (gP ov iv)
def CZ{prog:az}{w:aU}{A:bx}{E:ae->ah->Prop}{s:ah}{env:Env}{value G9:aN}{pos:Pos}{T id:String}{Q:ae->ah->Prop}(hl:typeLookup (.type T) "__getitem__"=pure (some (.builtin id)))(hs:NoSl G9)(h:aP (model prog w) A (eval value env) (fun o G6=>aP (model prog w) A (eval G9 env) (fun i IB=>IB.TypeIs o T/\aP (model prog w) A (gP o i) Q E IB) E G6) E s) :
  aP (model prog w) A (eval (.Subscript value G9 pos) env) Q E s:=by
 refine Subscript_ (bo h (fun o G6 KU=>bo KU (fun i IB KS=>?_) fun _ _ x=>x) fun _ _ x=>x);obtain⟨hT,KS⟩:=KS;unfold gZ;refine ao ?_;rw[getitemInPython_of_ne hT.not_modules];refine ao (wpAny_specialOf hT hl ?_);have Hd:aP (model prog w) A (subscripted G9 false o i) (fun r G2=>aP (model prog w) A (letTemporaryGo value o r >>= fun _=>pure r) Q E G2) E IB:=by rw[hs o i];exact wpAny_operating (bo KS (fun r G2 J8=>ao (wpAny_letTemporaryGo (aH J8))) fun _ _ x=>x)
 first
  |exact aH (ao Hd)
  |exact ao (aH (ao Hd))
  |exact ao Hd
def rS{X:Cx}{GX:List (ac×Obj)}{σ:St}{H:Hp}{s:ah}{a:ac}{y:V}{o:Option V}(I:Inv X GX σ H s)(g:DGet H a y o):s.TypeIs (.ref a) "dict":=by
 rcases g with⟨kvs,k,e,_,_⟩|⟨kvs,k,b,e,_,_,_⟩
 ·obtain⟨_,_,vs,_,dd⟩:=qP I.hok e;exact dd.typeIs
 ·obtain⟨_,_,xs,_,dd⟩:=uT I.hok e;exact dd.typeIs
def tDGet(td ty:TE):TE:=fun σ H Q=>td σ H fun x H1=>ty σ H1 fun y H2=>∃a v,x=.ref a/\DGet H2 a y (some v)/\Q v H2
def tDIn(ty td:TE):TE:=fun σ H Q=>ty σ H fun y H1=>td σ H1 fun x H2=>∃a o,x=.ref a/\DGet H2 a y o/\Q (.bl o.isSome) H2
def ES(td ty tv:TE):TS:=fun D σ H=>tv σ H fun v H1=>td σ H1 fun x H2=>ty σ H2 fun y H3=>∃a H4,x=.ref a/\DPut H3 a y v H4/\D.nx σ H4
section
variable{X:Cx}{o i e value:aN}{pos Hg HW:Pos}{td ty tv:TE}
def sT(hu:X.A.units+1<dL)(ho:PE X o td)(hi:PE X i ty)(hs:NoSl i):PE X (.Subscript o i pos) (tDGet td ty):=by intro GX s σ H Q I h;refine CZ hV.lookup hs (thn (ho GX s σ H _ I h) fun u s1 ⟨x,H1,I1,rx,q1⟩=>thn (hi GX s1 σ H1 _ I1 q1) fun iv s2 ⟨y,H2,I2,ry,a,v,ex,g,q2⟩=>?_);subst ex;obtain rfl:u=aV a:=rx;exact⟨rS I2 g,vy hu I2 g ry fun w' s3 I3 HG=>⟨v,H2,I3,HG,q2⟩⟩
def Cj(hu:X.A.units+1<dL)(hi:PE X i ty)(ho:PE X o td):PC X .In i o (tDIn ty td):=by intro GX s σ H Q I h;refine thn (hi GX s σ H _ I h) fun iv s1 ⟨y,H1,I1,ry,q1⟩=>thn (ho GX s1 σ H1 _ I1 q1) fun u s2 ⟨x,H2,I2,rx,a,ov,ex,g,q2⟩=>?_;subst ex;obtain rfl:u=aV a:=rx;exact d_in hu I2 g ry fun s3 I3=>⟨.bl ov.isSome,H2,I3,rfl,q2⟩
def ou(hu:X.A.units+1<dL)(ho:PE X o td)(hi:PE X i ty)(hv:PE X value tv)(hs:cW value (some (.Subscript o i Hg)) pos.line X.env=pure false) :
  PS X (.Assign [.Subscript o i Hg] value pos) (ES td ty tv):=by
 intro GX s σ H D I h;refine wpAny_Assign_Subscript (thn (hv GX s σ H _ I h) fun r s1 ⟨v,H1,I1,rv,q1⟩=>thn (ho GX s1 σ H1 _ I1 q1) fun u s2 ⟨x,H2,I2,rx,q2⟩=>thn (hi GX s2 σ H2 _ I2 q2) fun iv s3 ⟨y,H3,I3,ry,a,H4,ex,g,q3⟩=>?_) hs;subst ex;obtain rfl:u=aV a:=rx;exact vx hu I3 g ry rv fun s4 I4=>⟨σ,H4,I4,q3⟩
def xH{P:az}{w:aU}{H:Hp}(h:ba)(hb:du<h.objs.size):ObjOk P w H (h.push { cls:=.type "dict",data:=.dict #[] }) h.objs.size (.dK []) :=
 ⟨a6 _,beq_eq_false_iff_ne.mpr (cj (aT hb)),[],.nil,Heap.DictOf.new h⟩
def Fq:TE:=fun _ H Q=>∀p,H p=none->Q (.ref p) (upd H p (.dK []))
def pe_dnewK:PE X (.Dict [] [] pos) Fq:=fun GX s σ H Q I h =>
 wpAny_Dict_empty ⟨.ref s.heap.objs.size,_,I.laid (a:=s.heap.objs.size) (o:=.dK []) (t':=s.toks) (fun _ _ q=>av _ q) (aq _) (xH s.heap I.big),rfl,h _ (I.hok.fresh (aq _))⟩
end
def yU:List (TE×TE)->St->Hp->(List (V×V)->Hp->Prop)->Prop
 |[],_,H,Q=>Q [] H
 |(tk,tv)::r,σ,H,Q=>tk σ H fun x H1=>tv σ H1 fun y H2=>yU r σ H2 fun ps H3=>Q ((x,y)::ps) H3
abbrev VV:List (V×V)->List (ae×ae)->Prop:=eM fun p q=>RelV p.1 q.1/\RelV p.2 q.2
def PPs(X:Cx)(pos:Pos)(keys:List (Option aN))(HE:List aN)(IX:List (TE×TE)):Prop :=
 ∀(GX:List (ac×Obj))(s:ah)(σ:St)(H:Hp)(Q:List (V×V)->Hp->Prop),Inv X GX σ H s->yU IX σ H Q ->
  aP (model X.prog X.w) X.A (evalPairs (pairTrees keys HE X.env pos)) (fun vs s'=>∃ps H',Inv X GX σ H' s'/\VV ps vs/\Q ps H') X.xe s
def zh{X:Cx}{pos:Pos}:PPs X pos [] [] []:=fun GX s σ H Q I h=>pairTrees_nil_walk ⟨[],H,I,.nil,h⟩
def xt{X:Cx}{pos:Pos}{k v:aN}{ks:List (Option aN)}{vs:List aN}{tk tv:TE}{IX:List (TE×TE)}(hk:PE X k tk)(hv:PE X v tv)(hr:PPs X pos ks vs IX) :
  PPs X pos (some k::ks) (v::vs) ((tk,tv)::IX):=fun GX s σ H Q I h =>
 pairTrees_cons_walk (thn (hk GX s σ H _ I h) fun u s1 ⟨x,H1,I1,rx,q1⟩=>thn (hv GX s1 σ H1 _ I1 q1) fun w2 s2 ⟨y,H2,I2,ry,q2⟩ =>
  thn (hr GX s2 σ H2 _ I2 q2) fun ws s3 ⟨ps,H3,I3,rel,q3⟩=>⟨(x,y)::ps,H3,I3,.cons ⟨rx,ry⟩ rel,q3⟩)
def uE(kvs more:List (Key×V)):List (Key×V):=more.foldl (fun Ha kv=>oH Ha kv.1 kv.2) kvs
def KV.merge:∀{more:List (Key×V)}{rs:List (Key×ae)}{kvs:List (Key×V)}{vs:List (Key×ae)},KV more rs->KV kvs vs->KV (uE kvs more) (merged vs rs):=by
 intro more rs kvs vs r;unfold KV at r;induction r generalizing kvs vs with
 |nil=>intro q;exact q
 |@cons p q ps qs h t ih =>
  intro r0;have e:KV (oH kvs p.1 p.2) (stored vs q.1 q.2):=by have:=r0.put p.1 h.2;rw[<-h.1];exact this
  exact ih e
theorem pU:∀(more kvs:List (Key×V)),(uE kvs more).length<=kvs.length+more.length
 |[],kvs=>by show kvs.length<=kvs.length+0;omega
 |p::r,kvs=>by have h1:=pU r (oH kvs p.1 p.2);have h2:=oW kvs p.1 p.2;show(uE (oH kvs p.1 p.2) r).length<=_;rw[bR];omega
theorem tS{P:az}{w:aU}:∀{kvs:List (Key×V)}{ws:List (ae×ae)},VV (kvs.map fun kv=>(kV kv.1,kv.2)) ws->∃rs,Carries (kG P w) ws rs/\KV kvs rs
 |[],_,r=>by rw[da] at r;cases r;exact⟨[],bZ,.nil⟩
 |p::kvs,_,r=>by
  rw[aG] at r;cases r with
  |@cons a b as bs h t =>
   obtain⟨rs,c,q⟩:=tS (P:=P) (w:=w) t;obtain⟨b1,b2⟩:=b;exact⟨(p.1,b2)::rs,⟨tf h.1,rfl,c⟩,.cons ⟨rfl,h.2⟩ q⟩
def tDisp(IX:List (TE×TE)):TE:=fun σ H Q=>∀p,H p=none->yU IX σ (upd H p (.dK [])) fun ps H2=>H2 p=some (.dK [])/\∃kvs:List (Key×V),ps=kvs.map (fun kv=>(kV kv.1,kv.2))/\kvs.length<=15/\Q (.ref p) (upd H2 p (.dK (uE [] kvs)))
def zj{X:Cx}{pos:Pos}{keys:List (Option aN)}{HE:List aN}{IX:List (TE×TE)}(h:PPs X pos keys HE IX)(JU:keys.all (·.isSome)=true)(hl:keys.length=HE.length)(h0:keys≠[])(h15:keys.length<=15):PE X (.Dict keys HE pos) (tDisp IX):=by
 intro GX s σ H Q I q;have hn:=I.hok.fresh (aq s.heap.objs.size);have I1:=I.laid (a:=s.heap.objs.size) (o:=.dK []) (h':=s.heap.push { cls:=.type "dict",data:=.dict #[] }) (t':=s.toks) (fun _ _ q=>av _ q) (aq _) (xH s.heap I.big);refine wpAny_Dict_walk (knd:=kG X.prog X.w) JU hl h0 h15 (thn (h GX _ σ _ _ I1 (q _ hn)) fun ws s2 ⟨ps,H2,I2,rel,e,kvs,ep,lk,q2⟩=>?_);subst ep;obtain⟨rs,c,rk⟩:=tS (P:=X.prog) (w:=X.w) rel;obtain⟨z,hd,ID,r0,dd⟩:=CP I2.hok e;cases r0;refine⟨rs,c,dd,fun h' IW hs=>⟨.ref s.heap.objs.size,_,?_,rfl,q2⟩⟩;have hz:(uE [] kvs).length<=aB:=by have h1:=pU kvs [];rw[List.length_nil] at h1;rw[iJ];omega
 have he:∃q,h'.get? s.heap.objs.size=some q:=let⟨q,_,_,hq,_⟩:=IW;⟨q,hq⟩;exact tL I2 (by rw[e];exact bZ) hs he (za hz hd (rk.merge .nil) IW)
structure M1(X:Cx)(o:aN)(m:Str)(G0:Pos)(e:aN)(GY:Pos):Prop where
 base:cy o m X.env (eval o X.env)=eval o X.env
 few:((bV GY (ar [e] X.env)).all (fun x=>!x.1)&&(f9 GY (dX [] X.env)).all (fun x=>x.1.isSome)
  && decide (([e]:List aN).length+([]:List fg).length+(if([]:List fg).isEmpty then 0 else 1)<30))=true
 line:(G0.endLine==GY.line)=true
 trees:bV GY (ar [e] X.env)=[(false,eval e X.env)]
structure M2(X:Cx)(o:aN)(m:Str)(G0:Pos)(e f:aN)(GY:Pos):Prop where
 base:cy o m X.env (eval o X.env)=eval o X.env
 few:((bV GY (ar [e,f] X.env)).all (fun x=>!x.1)&&(f9 GY (dX [] X.env)).all (fun x=>x.1.isSome)
  && decide (([e,f]:List aN).length+([]:List fg).length+(if([]:List fg).isEmpty then 0 else 1)<30))=true
 line:(G0.endLine==GY.line)=true
 trees:bV GY (ar [e,f] X.env)=[(false,eval e X.env),(false,eval f X.env)]
def IsD(H:Hp)(a:ac):Prop:=(∃kvs,Rd H a (.dK kvs))\/∃kvs,Rd H a (.dT kvs)
def Cu{X:Cx}{GX:List (ac×Obj)}{σ:St}{H:Hp}{s:ah}{a:ac}(I:Inv X GX σ H s)(d:IsD H a) :
  s.TypeIs (.ref a) "dict"/\(∀b,aV a=.ref b->∃ob,s.heap.get? b=some ob/\ob.dict=none)/\(a==du)=false:=by
 rcases d with⟨kvs,e⟩|⟨kvs,e⟩
 ·obtain⟨_,hd,vs,_,dd⟩:=qP I.hok e;refine⟨dd.typeIs,fun b q=>?_,hd⟩;cases q;obtain⟨ob,_,_,h1,h2,_⟩:=dd;exact⟨ob,h1,h2.2.1⟩
 ·obtain⟨_,hd,xs,_,dd⟩:=uT I.hok e;refine⟨dd.typeIs,fun b q=>?_,hd⟩;cases q;obtain⟨ob,_,_,h1,h2,_⟩:=dd;exact⟨ob,h1,h2.2.1⟩
section
variable{X:Cx}{GX:List (ac×Obj)}{σ:St}{H:Hp}{s:ah}{a:ac}{y d:V}{u r:ae}{o:Option V}{A:bx}{E:ae->ah->Prop}
def GG{Q:ae->ah->Prop}(hu:A.units+1<dL)(I:Inv X GX σ H s)(g:DGet H a y o)(ry:RelV y u)(rd:RelV d r)(h:∀w' s',Inv X GX σ H s'->RelV (o.getD d) w'->Q w' s') :
  aP (model X.prog X.w) A (call (.builtin "dict.get") [.ref a,u,r]) Q E s:=by
 rcases g with⟨kvs,k,e,ey,l⟩|⟨kvs,k,b,e,ey,eb,l⟩
 ·subst ey;obtain⟨z,hd,vs,rel,dd⟩:=qP I.hok e;refine call_meetsIn fL dd.typeIs iF (iu _ _ _) (meets_dict_get_default (kG X.prog X.w) a (tf ry) hd r) ⟨_,dd.mapOf,h _ _ (I.tok _) ?_⟩;rw[l];exact(rel.val k).getD rd
 ·subst ey;cases(show u=aV b from ry);obtain⟨z,hd,xs,rel,dd⟩:=uT I.hok e;refine call_meetsIn fL dd.typeIs iF (iu _ _ _) (meetsH_dict_get_default (gO (kG X.prog X.w)) a b hd r) ⟨dR hu,k,xs,sv I.hok eb,dd,h _ _ (I.tok _) ?_⟩;rw[l];exact(rel.val k).getD rd
end
def BW(td ty tx:TE):TE:=fun σ H Q=>td σ H fun x H1=>∃a,x=.ref a/\IsD H1 a/\ty σ H1 fun y H2=>tx σ H2 fun z H3=>∃o,DGet H3 a y o/\Q (o.getD z) H3
def Fp(td ty:TE):TE:=fun σ H Q=>td σ H fun x H1=>∃a,x=.ref a/\IsD H1 a/\ty σ H1 fun y H2=>∃kvs k v,H2 a=some (.dK kvs)/\y=kV k/\lX kvs k=some v/\Q v (upd H2 a (.dK (sg kvs k)))
section
variable{X:Cx}{o e f:aN}{G0 GY:Pos}{td ty tx:TE}
def tX(hu:X.A.units+1<dL)(ho:PE X o td)(he:PE X e ty)(hf:PE X f tx)(m:M2 X o "get" G0 e f GY):PE X (.Call (.Attribute o "get" G0) [e,f] [] GY) (BW td ty tx):=by
 intro GX s σ H Q I h;refine wpAny_Call_method m.base m.few m.line ir fL PySem.F.type_dict_get (thn (ho GX s σ H _ I h) fun u s1 ⟨x,H1,I1,rx,a,ex,d,q1⟩=>?_);subst ex;obtain rfl:u=aV a:=rx;obtain⟨t1,t2,_⟩:=Cu I1 d;refine⟨t1,t2,?_⟩;rw[m.trees];refine dN rfl (ee (dB (thn (he GX s1 σ H1 _ I1 q1) fun iv s2 ⟨y,H2,I2,ry,q2⟩ =>
  dB (thn (hf GX s2 σ H2 _ I2 q2) fun fv s3 ⟨z,H3,I3,rz,ov,g,q3⟩=>e8 ?_))))
 exact GG hu I3 g ry rz fun w' s4 I4 HG=>⟨_,H3,I4,HG,q3⟩
def xu(ho:PE X o td)(he:PE X e ty)(m:M1 X o "pop" G0 e GY):PE X (.Call (.Attribute o "pop" G0) [e] [] GY) (Fp td ty):=by intro GX s σ H Q I h;refine wpAny_Call_method m.base m.few m.line ir iM PySem.F.type_dict_pop (thn (ho GX s σ H _ I h) fun u s1 ⟨x,H1,I1,rx,a,ex,d,q1⟩=>?_);subst ex;obtain rfl:u=aV a:=rx;obtain⟨t1,t2,_⟩:=Cu I1 d;refine⟨t1,t2,?_⟩;rw[m.trees];refine dN rfl (ee (dB (thn (he GX s1 σ H1 _ I1 q1) fun iv s2 ⟨y,H2,I2,ry,kvs,k,v,ea,ey,l,q2⟩=>e8 ?_)));subst ey;exact d_pop I2 ea ry l (.inl rfl) fun w' s3 I3 HG=>⟨v,_,I3,HG,q2⟩
end
section
variable{X:Cx}{GX:List (ac×Obj)}{σ:St}{H:Hp}{s:ah}{a:ac}{kvs:List (Key×V)}{A:bx}{E:ae->ah->Prop}
end
section
variable{X:Cx}{GX:List (ac×Obj)}{σ:St}{H:Hp}{s:ah}{a:ac}{y:V}{u:ae}{A:bx}{E:ae->ah->Prop}
end
end L2
namespace Att
open PySem PySem.W PySem.Calls PyProof.Rows
def sf{P:Params}{h:ba}:∀(ns:List Int)(vs:List ae),WellAll P h vs (ns.map fB)->IntsAre vs ns:=by
 intro ns;induction ns with
 |nil =>
  intro vs w;rw[da] at w;cases w;exact .nil
 |cons n ns ih =>
  intro vs w;rw[aG] at w;cases w with
  |cons a b =>
   cases a;exact .cons _ _ (ih _ b)
def zR{l:fw}{n:Nat}(hn:l.most=some n){P:Params}{h:ba}{args:List WData}{JA:List ae}(Jd:l.row.toRowW.claim.pre args=true)(L9:WellAll P h JA args) :
  ∃a vs ns,JA=[aV a]/\args=[WData.list (ns.map fB)]/\h.get? a=some { cls:=.type "list",data:=.seq vs.toArray }/\IntsAre vs ns/\ns.length<=n:=by
 have hsh:WShape.hasAll [] args [.list .int]=true:=(pre_splitW Jd).1;have hc:l.pre.holds [] { args:=args }=true:=(pre_splitW Jd).2;obtain⟨d,r,rfl,h1,h2⟩:=hasAllW_cons hsh;obtain rfl:=hasAllW_nil h2;obtain⟨xs,rfl,h3⟩:=hasW_list h1;obtain⟨ns,rfl⟩:=items_int h3;have G1:ns.length<=n:=by
  unfold OpenLaw.pre at hc;have h4:(WTm.not (.lt (.lit (.int (n:Int))) (.len (.arg 0)))).holds [] { args:=[.list (ns.map .int)] }=true:=by have h4:=(holds_andW hc).1;rw[hn] at h4;exact h4
  have h5:=condW_of h4 (w_not (w_lt w_lit (w_len_list (w_arg rfl))));rw[af] at h5;refine ei fun q=>?_;have q':(n:Int)<((ns.length:Nat):Int):=by omega
  first
   |(rw[decide_eq_true q'] at h5;exact absurd h5 (by decide))
   |(simp at h5;omega)
 cases L9 with
 |cons w1 w2 =>
  cases w2;cases w1 with
  |list ho JU=>exact⟨_,_,ns,rfl,rfl,ho,sf ns _ JU,G1⟩
def zS(l:fw)(args:List WData):l.row.toRowW.claim.post args (.bool true) args=true :=
 postW_of (r:=l.row.toRowW) (X:=(true==true))
  (show WShape.has [] (.bool true) .bool=true by first|rfl|decide|simp[WShape.has,WShape.arms,WShape.armsAll])
  (show(WTm.eq .res (.lit (.bool true))).value [] { args:=args,res:=some (.bool true),after:=args }=some (.bool (true==true)) from w_eq_bool (w_res rfl) w_lit) rfl
section
variable{prog:az}{w:aU}{A:bx}{E:ae->ah->Prop}{s:ah}{K:aa}
end
end Att
namespace L2
open PySem PySem.Spec PyProof.Rows
theorem uZ:∀{vs:List ae}{ns:List Int},IntsAre vs ns->Vals (ns.map V.int) vs
 |_,_,.nil=>.nil
 |_,_,.cons n t h=>.cons ⟨t,rfl⟩ (uZ h)
def EH(H:Hp):Prop:=∀b,H b=none\/∃o xs,H b=some (.frz o (.lst xs))
def Bq{P:az}{w:aU}{K:aa}{mg mb:Str->Option ae}{CX:CXT}{k:Nat}{fa a:ac}{fd:bJ}{x:Str}{sp:Sp}{G6:ah}{vs:List ae}{ns:List Int}(KX:K.In G6.heap)(Is:G6.heap.Ns aS mg)(hb:G6.heap.Ns g9 mb)(hbb:∀x:Str,x≠"__name__"->mb x=bj x)(Mm:G6.heap.NoLimit)(hg:G6.gens=#[])(ha:G6.heap.get? a=some { cls:=.type "list",data:=.seq vs.toArray })(hi:IntsAre vs ns)(hl:ns.length<=aB)(hr:Room k ii)(F:∀base:ba,K.In base->base.Ns aS mg->FnOk P w K mg base CX k fa fd [x] sp)(KQ:∀(s:ah)(u:ae),io s fd ⟨[u],[]⟩ [(x,u)])(IS:∀H:Hp,EH H->SqL K H a (ns.map V.int)->sp [.ref a] H (fun v _=>v=.bl true) fun _ _ _=>False)(MM:∀H e s',CX [] H G6 (fun _ _ _=>False) e s'->False) :
  eR (model P w) ii (.call (.ref fa) ⟨[.ref a],[]⟩) (fun r s'=>r=.ok (.ret (.bool true))/\OldK G6.heap s'.heap/\s'.os=G6.os/\fO s'.gens) G6:=by
 have rv:=uZ hi;have LZ:=hi.length;have K3:∀H:Hp,EH H->SqL K H a (ns.map V.int)->HOk P w H G6.heap->(∀b,H b≠none->b=a)->(H a≠none->K.lookup a=none) ->
   eR (model P w) ii (.call (.ref fa) ⟨[.ref a],[]⟩) (fun r s'=>r=.ok (.ret (.bool true))/\OldK G6.heap s'.heap/\s'.os=G6.os/\fO s'.gens) G6:=by
  intro H hO hS hok hA hK;have Iz:∀{b:ac}{o:Obj},G6.heap.get? b=some o->H b=none->(yA G6.heap H).get? b=some o:=fun e n=>Bu e n;have Kk:∀{b:ac}{o:Obj}{es:Array DictEntry}{ep:Nat},G6.heap.get? b=some o->o.data=.dict es ep->H b=none:=fun{b o es ep} e d=>by
   cases q:H b with
   |none=>rfl
   |some u =>
    have e':b=a:=hA b (by rw[q];simp);subst e';rw[ha] at e;cases e;have d':Data.seq vs.toArray _=Data.dict es ep:=d;cases d'
  have Lf:∀{b:ac}{m:Str->Option ae},G6.heap.Ns b m->(yA G6.heap H).Ns b m:=fun{b m} ⟨o,es,ep,e,d,r⟩=>⟨o,es,ep,Iz e (Kk e d),d,r⟩;have hKb:K.In (yA G6.heap H):=fun b o e=>Iz (KX b o e) (by
   cases q:H b with
   |none=>rfl
   |some u =>
    have e':b=a:=hA b (by rw[q];simp);subst e';rw[hK (by rw[q];simp)] at e;cases e)
  have hM:Mod K mg (yA G6.heap H):=⟨hKb,Lf Is,⟨mb,Lf hb,hbb⟩,let⟨mc,h1,h2⟩:=Mm;⟨mc,Lf h1,h2⟩⟩;have e0:Env0 P w K mg (yA G6.heap H) ii [] G6 H:=⟨rfl,hM,fun b o e=>Dz e,je (Ag _ _),trivial,fun b hb=>absurd (show b∈([]:List ac) from hb) (by simp),hok,.of_eq hg⟩;refine gn ((F _ hKb (Lf Is)).run ii [] G6 H ⟨[.ref a],[]⟩ [.ref a] [.ref a] _ _ hr e0 (KQ G6 (.ref a)) (.cons rfl .nil) (IS H hO hS)) fun r s' h=>?_;cases r with
  |error e=>exact(MM H e s' h).elim
  |ok fl =>
   cases fl with
   |next=>exact bh h
   |brk=>exact bh h
   |cont=>exact bh h
   |ret u =>
    obtain⟨v,H',os,bare,un,Mg,r',q⟩:=h;have q':v=.bl true:=q;subst q';obtain rfl:u=ik true:=r';refine⟨rfl,OldK.of_keep fun b o e=>?_,os,bare⟩;cases q:H b with
    |none=>exact un.keep b o e q (by intro z;exact absurd (show b∈([]:List ac) from z) (by simp)) (by simp)
    |some u =>
     rcases hO b with z|⟨ob,xs,z⟩
     ·rw[q] at z;cases z
     ·have z2:=un.frzs b ob _ z;obtain⟨e1,_⟩:=hok b _ z;obtain⟨e2,_⟩:=Mg b _ z2;rw[e] at e1;cases e1;exact e2
 cases hk:K.lookup a with
 |some o =>
  have e:=KX a o hk;rw[ha] at e;cases e;refine K3 (fun _=>none) (fun _=>.inl rfl) (.inr ⟨_,vs.toArray,_,hk,rfl,rfl,rfl,by rw[aJ,LZ];exact hl,by simpa using rv⟩) (fun b u z=>by have z':(none:Option HO)=some u:=z;cases z') (fun b z=>absurd rfl z) fun z=>absurd rfl z
 |none =>
  refine K3 (fun b=>if b=a then some (.frz { cls:=.type "list",data:=.seq vs.toArray } (.lst (ns.map V.int))) else none) (fun b=>?_) (.inl (.inr ⟨{ cls:=.type "list",data:=.seq vs.toArray },if_pos rfl⟩)) (fun b u z=>?_) (fun b z=>?_) fun _=>hk
  ·by_cases hb:b=a
   ·exact .inr ⟨_,_,if_pos hb⟩
   ·exact .inl (if_neg hb)
  ·by_cases hb:b=a
   ·have z':=(if_pos hb).symm.trans z;cases z';subst hb;exact⟨ha,by rw[af];exact hl,vs,_,rv,ha⟩
   ·have z':=(if_neg hb).symm.trans z;cases z'
  ·by_cases hb:b=a
   ·exact hb
   ·exact absurd (if_neg hb) z
def mq(s:bM)(j:Nat):bM:=match s with
 |.ClassDef _ _ _ body _ _ _ _ _ _ _=>body.getD j (.Pass ⟨0,0,0,0⟩)
 |_=>.Pass ⟨0,0,0,0⟩
def lb(s:bM):iG:=match s with
 |.FunctionDef _ a _ _ _ _ _ _ _ _=>a
 |_=>{ posonlyargs:=[],args:=[],vararg:=none,kwonlyargs:=[],kw_defaults:=[],kwarg:=none,defaults:=[] }
def kO(s:bM):List bM:=match s with
 |.FunctionDef _ _ b _ _ _ _ _ _ _=>b
 |_=>[]
def jS(s:bM):cA:=match s with
 |.FunctionDef _ _ _ _ _ _ sc _ _ _=>sc
 |_=>{ kind:=.function,names:=[],isGenerator:=false,isCoroutine:=false }
abbrev E0:XK:=fun _ _ _=>False
structure Fun(K:aa)(x qual:Str)(st:bM)(f:ac)(fd:bJ):Prop where
 ex:∃(oc:ae)(od:Option ac)(kV HX pm:ae)(an:Option ac)(G3 ct:ae)(IZ:Array (Option ae)),
  fd=bO x qual (lb st) (kO st) (jS st) .none kV HX pm an G3 ct/\K.lookup f=some ⟨oc,od,.func fd,IZ⟩/\eL K G3 qual=true
 kp:b5 K (.ref f)=true
section
variable{P:az}{w:aU}{K:aa}{mg:Str->Option ae}{base:ba}
def Fun.binds{x qual:Str}{st:bM}{f:ac}{fd:bJ}{ps:List Str}(F:Fun K x qual st f fd)(h:∀(kV HX pm:ae)(an:Option ac)(G3 ct:ae)(us:List ae),us.length=ps.length->eU (bO x qual (lb st) (kO st) (jS st) .none kV HX pm an G3 ct) ⟨us,[]⟩=pure (ps.zip us)):Binds K fd ps []:=by
 obtain⟨oc,od,kV,HX,pm,an,G3,ct,IZ,rfl,lk,Ie⟩:=F.ex;exact .all (h kV HX pm an G3 ct)
def Cw{x qual:Str}{st:bM}{f:ac}{oc:ae}{od an:Option ac}{IZ:Array (Option ae)}{kV HX pm G3 ct:ae}(l:K.lookup f=some ⟨oc,od,.func (bO x qual (lb st) (kO st) (jS st) .none kV HX pm an G3 ct),IZ⟩)(c:eL K G3 qual=true)(k:b5 K (.ref f)=true):Fun K x qual st f (bO x qual (lb st) (kO st) (jS st) .none kV HX pm an G3 ct):=⟨⟨oc,od,kV,HX,pm,an,G3,ct,IZ,rfl,l,c⟩,k⟩
end
def lK{A:bx}{k:Nat}(hr:Room k A):A.units+1<dL:=aZ (jJ (by decide:1<=64) _) hr.units
section
variable{X:Cx}
def pv(i:Nat){x:Str}{pos:Pos}(hN:X.N[i]?=some x:=by rfl)(hv:Vis X.env.scope x:=by first|exact dI rfl|exact f7 (dI rfl)|exact f7 (f7 rfl))(hd:NDb x:=by decide)(Ie:(x==("__classdict__":Str))=false:=by decide):PE X (.Name x pos) (Ay i):=yX hN hv hd Ie
def vC:CallR X (.builtin "len") (fun xs H Q=>∃a kvs,xs=[V.ref a]/\H a=some (.dK kvs)/\Q (.int kvs.length) H):=by intro GX s σ H xs us Q I r h;obtain⟨a,kvs,rfl,ha,q⟩:=h;obtain⟨u,rfl,ru⟩:=oB r;cases ru;exact Fc I (.inl ha) fun t s' I'=>⟨.int kvs.length,H,I',⟨t,rfl⟩,q⟩
end
def E7{A B:Prop}(h:B):if false=true then A else B:=by rw[if_neg aR];exact h
def E6{A B:Prop}(h:A):if true=true then A else B:=by rw[if_pos rfl];exact h
def qh{c A B:Prop}[Decidable c](h1:c->A)(h2:¬c->B):if c then A else B:=by
 by_cases h:c
 ·rw[if_pos h];exact h1 h
 ·rw[if_neg h];exact h2 h
def Same(H H':Hp):Prop:=∀b o,H b=some o->H' b=some o
def Same.trans{H H1 H2:Hp}(a:Same H H1)(b:Same H1 H2):Same H H2:=fun c o h=>b c o (a c o h)
def Same.free{H H':Hp}(e:Same H H'){l:ac}(h:H' l=Option.none):H l=Option.none:=by
 cases q:H l with
 |none=>rfl
 |some o =>
  rw[e l o q] at h;cases h
def Same.seq{K:aa}{H H':Hp}{a:ac}{xs:List V}(e:Same H H')(h:SqL K H a xs):SqL K H' a xs:=by
 rcases h with(h|⟨o,h⟩)|h
 ·exact .inl (.inl (e _ _ h))
 ·exact .inl (.inr ⟨o,e _ _ h⟩)
 ·exact .inr h
section
variable{κ:Type}[DecidableEq κ]
theorem qY:∀{l:List κ}{k:κ},l.Nodup->¬k∈l->(l++[k]).Nodup
 |[],k,_,_=>by simp
 |a::r,k,h,hk=>by
  obtain⟨h1,h2⟩:=aD.mp h;show(a::(r++[k])).Nodup;refine aD.mpr ⟨fun m=>?_,qY h2 fun m=>hk (aj.mpr (f7 m))⟩;rcases aA.mp m with q|q
  ·exact h1 q
  ·exact hk (aj.mpr (dI (al.mp q).symm))
end
def ff:(bw==bw)=true:=rfl
def mW(cells:List (Str×ac)):List (Str×dM)->List (Str×ac)->List (Str×ac)
 |[],cs=>cs
 |(n,k)::r,cs=>mW cells r (if k==.free then(n,(cells.lookup n).getD 0)::cs else cs)
theorem rK(env:Env):∀(names:List (Str×dM))(cs:List (Str×ac)),(∀y∈names,y.2=.free->∃c,env.cells.lookup y.1=some c) ->
  (forIn names cs fun(x:Str×dM)(r:List (Str×ac))=>match x with
   |(name,kind)=>if(kind==.free)=true then(do let c <-cellOf env name;pure (dg ((name,c)::r))) else pure (dg r):Sem (List (Str×ac)))=pure (mW env.cells names cs)
 |[],cs,_=>rfl
 |(n,k)::r,cs,h=>by
  rw[List.forIn_cons];by_cases hk:k=.free
  ·subst hk;obtain⟨c,hc⟩:=h (n,.free) ap rfl;have hc:env.cells.lookup n=some c:=hc;have ih:=rK env r ((n,c)::cs) fun y hy=>h y (ak _ hy);have e1:mW env.cells ((n,bw)::r) cs=mW env.cells r ((n,c)::cs):=by
    show mW env.cells r (if(bw==bw)=true then(n,(env.cells.lookup n).getD 0)::cs else cs)=_;rw[if_pos ff,hc]
    all_goals rfl
   rw[e1,<-ih];have e2:cellOf env n=pure c:=by unfold cellOf;rw[hc]
   simp only[beq_self_eq_true,if_true,e2];rfl
  ·have hb:(k==bw)=false:=by simpa using hk
   have ih:=rK env r cs fun y hy=>h y (ak _ hy);have e1:mW env.cells ((n,k)::r) cs=mW env.cells r cs:=by show mW env.cells r (if(k==bw)=true then(n,(env.cells.lookup n).getD 0)::cs else cs)=_;rw[hb,if_neg aR]
   rw[e1,<-ih];simp only[hb];rfl
def nk{scope:cA}{env:Env}(h:∀y∈scope.names,y.2=.free->∃c,env.cells.lookup y.1=some c):closureFor scope env=pure (mW env.cells scope.names []):=by have e:=rK env scope.names [] h;unfold closureFor;refine Eq.trans ?_ (congrArg (fun m:Sem (List (Str×ac))=>m >>= pure) e);rfl
theorem xL{cells:List (Str×ac)}{y:Str}{c:ac}:∀(names:List (Str×dM))(cs:List (Str×ac)),(∀z∈names,z.2=.free->∃c,cells.lookup z.1=some c)->(∀z d,cs.lookup z=some d->cells.lookup z=some d) ->
  (mW cells names cs).lookup y=some c->cells.lookup y=some c
 |[],cs,_,JT,h=>JT y c h
 |(n,k)::r,cs,hf,JT,h=>by
  refine xL r _ (fun z hz=>hf z (ak _ hz)) ?_ h;by_cases hk:k=.free
  ·subst hk;obtain⟨d,hd⟩:=hf (n,.free) ap rfl;have hd:cells.lookup n=some d:=hd;intro z d' hz;rw[if_pos ff,hd] at hz;by_cases e:z=n
   ·subst e;rw[bF] at hz;simp only[beq_self_eq_true] at hz;rw[hd];exact hz
   ·have hb:(z==n)=false:=by simpa using e
    rw[bF] at hz;simp only[hb] at hz;exact JT z d' hz
  ·have hb:(k==bw)=false:=by simpa using hk
   rw[hb,if_neg aR];exact JT
theorem tR{cells:List (Str×ac)}{y:Str}:∀(names:List (Str×dM))(cs:List (Str×ac)),(cs.lookup y).isSome=true->((mW cells names cs).lookup y).isSome=true
 |[],cs,h=>h
 |(n,k)::r,cs,h=>by
  refine tR r _ ?_;by_cases hk:(k==bw)=true
  ·rw[if_pos hk,bF];cases z:(y==n)
   ·exact h
   ·rfl
  ·rw[if_neg hk];exact h
theorem vB{cells:List (Str×ac)}{y:Str}:∀(names:List (Str×dM))(cs:List (Str×ac)),(y,bw)∈names->((mW cells names cs).lookup y).isSome=true
 |(n,k)::r,cs,h=>by
  rcases aj.mp h with e|e
  ·cases e;refine tR r _ ?_;rw[if_pos ff,bF];simp
  ·exact vB r _ e
def blk(X:Cx)(scope:cA)(cl:List (Str×ac))(C:ac)(Nb:List Str)(G2:ah)(G5:Hp)(fp:List ac):Cx where
 prog:=X.prog
 w:=X.w
 K:=X.K
 mg:=X.mg
 base:=X.base
 A:=X.A
 N:=Nb
 sa0:=G2
 Ha0:=G5
 env:=compEnvC scope cl C X.env
 outer:=X.stack
 stack:=X.stack
 ex:=fp
 fn:=fun _=>false
 calm:=true
 pn:=[]
 xe:=fun _ _=>False
structure CompOk(N:List Str)(KZ:cA)(scope:cA)(x:Str)(fr:List Str)(ix:List Nat):Prop where
 kind:scope.kind=.function
 cell:∀y∈scope.names,y.2≠.cell
 loc:scope.names.lookup x=some .local
 nm:∀y∈scope.names,y.2=.local->scope.names.lookup y.1=some .local
 free:∀y∈scope.names,y.2=.free->KZ.names.lookup y.1=some .cell
 nd:(x::fr).Nodup
 idx:∀p∈fr.zip ix,N[p.2]?=some p.1
 frs:∀y∈fr,scope.names.lookup y=some .free/\KZ.names.lookup y=some .cell
 len:ix.length=fr.length
def cok{N:List Str}{e c:cA}{x:Str}{fr:List Str}{ix:List Nat}(h1:c.kind=.function:=by rfl)(h2:∀y∈c.names,y.2≠.cell:=by decide +kernel)(h3:c.names.lookup x=some .local:=by rfl)(h4:∀y∈c.names,y.2=.local->c.names.lookup y.1=some .local:=by decide +kernel)(h5:∀y∈c.names,y.2=.free->e.names.lookup y.1=some .cell:=by decide +kernel)(h6:(x::fr).Nodup:=by decide +kernel)(h7:∀p∈fr.zip ix,N[p.2]?=some p.1:=by decide +kernel)(h8:∀y∈fr,c.names.lookup y=some .free/\e.names.lookup y=some .cell:=by decide +kernel)(h9:ix.length=fr.length:=by rfl):CompOk N e c x fr ix:=⟨h1,h2,h3,h4,h5,h6,h7,h8,h9⟩
def cokS{X:Cx}{N ps:List Str}{e c:cA}{x:Str}{fr:List Str}{ix:List Nat}(S:FnScope N ps e)(h0:X.N=N:=by rfl)(MP:X.env.scope=e:=by rfl)(h1:c.kind=.function:=by rfl)(h2:∀y∈c.names,y.2≠.cell:=by decide +kernel)(h3:c.names.lookup x=some .local:=by rfl)(h4:∀y∈c.names,y.2=.local->c.names.lookup y.1=some .local:=by decide +kernel)(h5:∀y∈c.names,y.2=.free->e.names.lookup y.1=some .cell:=by decide +kernel)(h6:(x::fr).Nodup:=by decide +kernel)(h7:∀p∈fr.zip ix,N[p.2]?=some p.1:=by decide +kernel)(h8:∀y∈fr,c.names.lookup y=some .free/\e.names.lookup y=some .cell:=by decide +kernel)(h9:ix.length=fr.length:=by rfl):CompOk X.N X.env.scope c x fr ix:=by rw[h0,MP];exact⟨h1,h2,h3,h4,h5,h6,h7,h8,h9⟩
def capt(ix:List Nat)(σ:St):St:=ix.map fun i=>(σ[i]?).getD none
def zL(X:Cx)(He:List aN)(t:TT):Prop :=
 ∀(GX:List (ac×Obj))(s:ah)(σ:St)(H:Hp)(Q:Bool->Hp->Prop),Inv X GX σ H s->t σ H Q ->
  aP (model X.prog X.w) X.A (forIn He true fun c r=>if r=true then do let ok <-isTrue c X.env (eval c X.env);pure (dg ok) else pure (dg r)) (TP X GX σ Q) X.xe s
def tYes:TT:=fun _ H Q=>Q true H
def tW{X:Cx}:zL X [] tYes:=fun GX s σ H Q I h=>aH ⟨H,I,h⟩
def AW{X:Cx}{c:aN}{t:TT}(h:PT X c t):zL X [c] t:=by intro GX s σ H Q I hq;rw[List.forIn_cons];refine ao ?_;rw[if_pos rfl];refine ao (thn (h GX s σ H Q I hq) fun b s1 h1=>aH ?_);show aP _ _ (forIn [] b _) _ _ _;rw[List.forIn_nil];exact aH h1
def CompB(J:It)(tc:TT)(te:TE)(cap:St)(D:ac)(H1:Hp)(Q:VK):Prop :=
 ∃Pv:Nat->Nat->List V->Hp->Prop,(∃m,Pv 0 m [] (upd H1 D (.lst [])))/\∀i m ys H2,Pv i m ys H2 ->
  (J.stop i H2/\H2 D=some (.lst ys)/\Q (.ref D) H2)\/(J.go i H2/\∀x H3,J.yld i H2 x H3->tc (some x::cap) H3 fun b H4=>if b=true then
   te (some x::cap) H4 fun v H5=>H5 D=some (.lst ys)/\ys.length<aB/\∃m',m'<m/\Pv (i+1) m' (ys++[v]) (upd H5 D (.lst (ys++[v])))
   else ∃m',m'<m/\Pv (i+1) m' ys H4)
def CI(wi:TI)(ix:List Nat)(tc:TT)(te:TE):TE:=fun σ H Q=>wi σ H fun J H1=>∀D,H1 D=none->CompB J tc te (capt ix σ) D H1 Q
section
variable{X:Cx}{Hk iter:aN}{He:List aN}{x:Str}{px pos:Pos}{scope:cA}{wi:TI}{tc:TT}{te:TE}{fr:List Str}{ix:List Nat}
theorem mj{env:Env}(hk:env.scope.kind=.function):∀{names:List (Str×dM)}{y:Str},names.lookup y=some .free->env.scope.names.lookup y=some .cell ->
  (names.map fun(n,k)=>if(k==bw&&env.scope.kind==.function&&env.kindOf n==some .cell) then(n,ge) else(n,k)).lookup y=some .cell
 |[],_,h,_=>by simp at h
 |(n,k)::r,y,h,hc=>by
  have ih:=@mj env hk r y;show cm y ((if(k==bw&&env.scope.kind==.function&&env.kindOf n==some .cell)=true then(n,ge) else(n,k))::_)=_;cases hx:y==n with
  |true =>
   simp only[bF,hx] at h;cases h;have e:y=n:=by simpa using hx
   subst e;have e2:env.kindOf y=some .cell:=hc;rw[if_pos (by rw[hk,e2];rfl),bF];simp
  |false =>
   simp only[bF,hx] at h;split
   ·simp only[bF,hx];exact ih h hc
   ·simp only[bF,hx];exact ih h hc
def BI{ix:List Nat}{σ:St}{k:Nat}{v:V}(h:(capt ix σ)[k]?=some (some v)):∃i,ix[k]?=some i/\σ[i]?=some (some v):=by
 unfold capt at h;rw[aY] at h;cases e:ix[k]? with
 |none=>rw[e] at h;cases h
 |some i =>
  rw[e] at h;refine⟨i,rfl,?_⟩;have h2:(σ[i]?).getD none=some v:=aO h;cases q:σ[i]? with
  |none=>rw[q] at h2;cases h2
  |some o=>rw[q] at h2;exact congrArg some h2
def Fj(X:Cx)(GX:List (ac×Obj))(C:ac):Prop:=C≠X.env.locals/\X.sa0.heap.objs.size<=C/\(∀y c,X.env.cells.lookup y=some c->c≠C)/\∀p∈X.pn++GX,p.1≠C
end
section
variable{prog:az}{w:aU}{A:bx}{R:iD->ah->Prop}{s:ah}
def yQ{Hk Hw iter:aN}{He:List aN}{scope:cA}{pos:Pos}{it Ha:ae}{env:Env}(I:Nat->ah->Prop)(Im:∀n s,I n s->aP (model prog w) A (pyNext it) (fun r G6=>match r with
   |none=>R (.ok .next) G6
   |some v=>aP (model prog w) A (gv Hw it v) (fun _ sa0=>aP (model prog w) A (assign Hw env v) (fun _ IB =>
     aP (model prog w) A (forIn He true fun c r=>if r=true then do let ok <-isTrue c env (eval c env);pure (dg ok) else pure (dg r)) (fun ok G2 =>
      if ok=true then aP (model prog w) A (eval Hk env) (fun x JY =>
       aP (model prog w) A (call (.builtin "list.append") [Ha,x]) (fun _ sa5=>∃m,m<n/\I m sa5) (iS (model prog w) A env fun e s'=>R (.error e) s') JY) (iS (model prog w) A env fun e s'=>R (.error e) s') G2
      else ∃m,m<n/\I m G2) (iS (model prog w) A env fun e s'=>R (.error e) s') IB) (iS (model prog w) A env fun e s'=>R (.error e) s') sa0) (iS (model prog w) A env fun e s'=>R (.error e) s') G6) (iS (model prog w) A env fun e s'=>R (.error e) s') s)(n:Nat)(h:I n s) :
  eR (model prog w) A (.compLoop (.ListComp Hk [⟨Hw,iter,He,0⟩] scope pos) 0 it Ha env) R s:=by
 refine codeAny_loop rfl I (fun n s hI=>?_) n h;show aP _ A ((compTurn (.ListComp Hk [⟨Hw,iter,He,0⟩] scope pos) 0 it Ha env).onRaise (fun x=>do noteFrame x env;theTreesLotGoes x)) _ _ s;refine wpAny_noted ?_;rw[compTurn_list];refine ao (eQ (ao (bo (Im n s hI) (fun r G6 KU=>?_) fun _ _ h'=>h')));cases r with
 |none=>exact aH KU
 |some v =>
  refine ao (bo KU (fun _ sa0 h₀=>?_) fun _ _ h'=>h');refine ao (bo h₀ (fun _ IB KS=>ao (bo KS (fun ok G2 J8=>?_) fun _ _ h'=>h')) fun _ _ h'=>h');cases ok with
  |false=>exact aH ⟨rfl,J8⟩
  |true =>
   exact ao (ao (bo J8 (fun x JY ha4=>ao (bo ha4 (fun _ sa5 hb5=>aH (aH ⟨rfl,hb5⟩)) fun _ _ h'=>h')) fun _ _ h'=>h'))
end
structure CompOkG(N:List Str)(KZ:cA)(scope:cA)(xs fr:List Str)(ix:List Nat):Prop where
 kind:scope.kind=.function
 cell:∀y∈scope.names,y.2≠.cell
 nm:∀y∈scope.names,y.2=.local->scope.names.lookup y.1=some .local
 free:∀y∈scope.names,y.2=.free->KZ.names.lookup y.1=some .cell
 nd:(xs++fr).Nodup
 idx:∀p∈fr.zip ix,N[p.2]?=some p.1
 frs:∀y∈fr,scope.names.lookup y=some .free/\KZ.names.lookup y=some .cell
 len:ix.length=fr.length
def cokG{X:Cx}{N ps:List Str}{e c:cA}{xs fr:List Str}{ix:List Nat}(S:FnScope N ps e)(h0:X.N=N:=by rfl)(MP:X.env.scope=e:=by rfl)(h1:c.kind=.function:=by rfl)(h2:∀y∈c.names,y.2≠.cell:=by decide +kernel)(h4:∀y∈c.names,y.2=.local->c.names.lookup y.1=some .local:=by decide +kernel)(h5:∀y∈c.names,y.2=.free->e.names.lookup y.1=some .cell:=by decide +kernel)(h6:(xs++fr).Nodup:=by decide +kernel)(h7:∀p∈fr.zip ix,N[p.2]?=some p.1:=by decide +kernel)(h8:∀y∈fr,c.names.lookup y=some .free/\e.names.lookup y=some .cell:=by decide +kernel)(h9:ix.length=fr.length:=by rfl):CompOkG X.N X.env.scope c xs fr ix:=by rw[h0,MP];exact⟨h1,h2,h4,h5,h6,h7,h8,h9⟩
def wI(J:It)(gt:TG)(k:Nat)(tc:TT)(te:TE)(cap:St)(D:ac)(H1:Hp)(Q:VK):Prop :=
 ∃Pv:Nat->Nat->List V->St->Hp->Prop,(∃m,Pv 0 m [] (aK k none++cap) (upd H1 D (.lst [])))/\∀i m ys σ2 H2,Pv i m ys σ2 H2 ->
  (J.stop i H2/\H2 D=some (.lst ys)/\Q (.ref D) H2)\/(J.go i H2/\∀x H3,J.yld i H2 x H3->gt x σ2 H3 fun σ3 H3'=>tc σ3 H3' fun b H4=>if b=true then
   te σ3 H4 fun v H5=>H5 D=some (.lst ys)/\ys.length<aB/\∃m',m'<m/\Pv (i+1) m' (ys++[v]) σ3 (upd H5 D (.lst (ys++[v])))
   else ∃m',m'<m/\Pv (i+1) m' ys σ3 H4)
def BX(wi:TI)(ix:List Nat)(gt:TG)(k:Nat)(tc:TT)(te:TE):TE:=fun σ H Q=>wi σ H fun J H1=>∀D,H1 D=none->wI J gt k tc te (capt ix σ) D H1 Q
section
variable{X:Cx}{Hk iter tg:aN}{He:List aN}{pos:Pos}{scope:cA}{wi:TI}{tc:TT}{te:TE}{gt:TG}{xs fr:List Str}{ix:List Nat}
def tP{PR:ae->ac->iD->ah->Prop}{GX:List (ac×Obj)}{σ:St}{H2:Hp}{s2:ah}{it:ac}{fp:List ac}{tn:Nat->ba->Prop}{J:It}{Q:VK}(hc:X.calm=true)(S:CompOkG X.N X.env.scope scope xs fr ix)(hg:∀cl C G2 G5 fp,PG (blk X scope cl C (xs++fr) G2 G5 fp) tg gt)(ht:∀cl C G2 G5 fp,zL (blk X scope cl C (xs++fr) G2 G5 fp) He tc)(he:∀cl C G2 G5 fp,PE (blk X scope cl C (xs++fr) G2 G5 fp) Hk te)(G7:∀y∈scope.names,y.2=.free->∃c,X.env.cells.lookup y.1=some c)(I2:Inv X GX σ H2 s2)(T:Turn X.prog X.w X.K tg J fp it tn)(Ir:tn 0 s2.heap)(f2:∀b∈fp,vI X GX H2 b)(q2:∀D,H2 D=none->wI J gt xs.length tc te (capt ix σ) D H2 Q)(JR:∀D C H' s',Inv X GX σ H' s'->H' C=none->Fj X GX C->(∃m,s'.heap.Ns C m)->Q (.ref D) H'->PR (.ref D) C (.ok .next) s') :
  aP (model X.prog X.w) X.A (newList []) (fun Ha G2=>aP (model X.prog X.w) X.A (newFunctionEnv scope X.env.globals (mW X.env.cells scope.names []) [] X.env.qual none .none (some X.env)) (fun IR JY =>
   eR (model X.prog X.w) X.A (.compStart (.ListComp Hk [⟨tg,iter,He,0⟩] scope pos) 0 (.ref it) Ha { IR with scope:=relabel scope X.env }) (PR Ha IR.locals) JY) X.xe G2) X.xe s2:=by
 refine cZ ?_;have hD:H2 s2.heap.objs.size=none:=I2.hok.fresh (aq _);have I3:Inv X GX σ (upd H2 s2.heap.objs.size (.lst [])) { s2 with heap:=s2.heap.push { cls:=.type "list",dict:=none,data:=.seq ([]:List ae).toArray } } :=
  I2.lnew (its:=[]) (t':=s2.toks) (.nil) (a6 _)
 obtain⟨Pv,⟨m0,p0⟩,Im⟩:=q2 s2.heap.objs.size hD;generalize hD':s2.heap.objs.size=D at *;generalize hs3:({ s2 with heap:=s2.heap.push { cls:=.type "list",dict:=none,data:=.seq ([]:List ae).toArray } }:ah)=s3 at *;have KD:∀b o,s2.heap.get? b=some o->s3.heap.get? b=some o:=fun b o e=>by rw[<-hs3];exact av _ e
 have hH3:∀b,b≠D->(upd H2 D (.lst [])) b=H2 b:=fun b hb=>jN hb;have f3:∀b∈fp,vI X GX (upd H2 D (.lst [])) b/\b<s3.heap.objs.size:=fun b hb=>by obtain⟨o,e,_⟩:=T.obj _ _ Ir b hb;have Hs:=aE e;refine⟨⟨?_,(f2 b hb).2⟩,aE (KD b o e)⟩;rw[hH3 b (by rw[<-hD'];exact aT Hs)];exact(f2 b hb).1
 have Ke:tn 0 s3.heap:=T.keep _ _ _ Ir fun b hb o e=>KD b o e;refine wpAny_newFunctionEnv S.cell (by intro y hy;simp at hy) (fun h4 Mi Mf=>?_) S.kind;generalize hC:s3.heap.objs.size=C at *;let X':Cx:=blk X scope (mW X.env.cells scope.names []) C (xs++fr) s3 (upd H2 D (.lst [])) fp;have Iu:∀y c,(mW X.env.cells scope.names []).lookup y=some c->X.env.cells.lookup y=some c:=fun y c e=>xL scope.names [] G7 (fun z d hz=>by simp at hz) e;have IQ:∀y,(y,bw)∈scope.names->∃c,(mW X.env.cells scope.names []).lookup y=some c:=fun y hy=>e9.mp (vB scope.names [] hy);have J0:∀b o,s3.heap.get? b=some o->h4.get? b=some o:=fun b o e=>Mf.extBut b o (by rw[<-hC];exact aT (aE e)) (av _ e);have Ix:∀(l:List (Str×dM)) y k,(l.map fun(n,k)=>if(k==bw&&X.env.scope.kind==.function&&X.env.kindOf n==some .cell) then(n,ge) else(n,k)).lookup y=some k->(k=.cell\/k=.free) ->
   (∀z∈l,z.2≠.cell)->(y,bw)∈l:=by
  intro l;induction l with
  |nil=>intro y k e _ _;simp at e
  |cons z r ih =>
   intro y k e hk hn;obtain⟨n,kz⟩:=z;rw[aG] at e;by_cases hy:y=n
   ·subst hy;have:kz=.free:=by
     by_cases hkz:kz=.free
     ·exact hkz
     ·exfalso;have hb:(kz==bw)=false:=by simpa using hkz
      simp only[hb,dP,Bool.false_eq_true,if_false,bF,beq_self_eq_true] at e;have e':kz=k:=aO e;rcases hk with z|z
      ·exact hn (y,kz) ap (e'.trans z)
      ·exact hkz (e'.trans z)
    rw[this];exact ap
   ·have hb:(y==n)=false:=by simpa using hy
    refine ak _ (ih y k ?_ hk fun z hz=>hn z (ak _ hz));have e:cm y ((if(kz==bw&&X.env.scope.kind==.function&&X.env.kindOf n==some .cell)=true then(n,ge) else(n,kz))::_)=some k:=e;by_cases hq:(kz==bw&&X.env.scope.kind==.function&&X.env.kindOf n==some .cell)=true
    ·rw[if_pos hq,bF] at e;simp only[hb] at e;exact e
    ·rw[if_neg hq,bF] at e;simp only[hb] at e;exact e
 have ok':X'.Ok:=by
  refine⟨I3.ok.mod,S.kind,I3.ok.glob,I3.ok.blt,?_,fun y z c e1 e2=>I3.ok.inj y z c (Iu y c e1) (Iu z c e2),fun y hy=>?_,fun y c e _=>(by cases e),fun _=>I3.ok.hd hc,I3.ok.frames,.inl rfl,fun b hb=>⟨?_,fun y c e=>(f3 b hb).1.2.2.2.2.1 y c (Iu y c e)⟩,I3.bs,aC I3.ok.bsz I3.sz,fun b o e hb=>?_,fun b hb z=>?_,I3.stack,I3.stkFree⟩
  ·show s3.heap.objs.size<=C;rw[hC];exact aq _
  ·rcases hy with hy|hy
   ·exact IQ y (Ix scope.names y _ hy (.inl rfl) S.cell)
   ·exact IQ y (Ix scope.names y _ hy (.inr rfl) S.cell)
  ·exact aT (f3 b hb).2
  ·rcases(f3 b hb).1.2.2.2.1 with z|z
   ·exact I3.ok.noex b o e z
   ·exact absurd (au (aE e) (aC I3.ok.bsz z)) (cO _)
  ·rcases aj.mp (I3.stkSub b z) with z|z
   ·exact(f3 b hb).1.2.1 z
   ·exact(f3 b hb).1.2.2.1 z
 have Jn:∀{h':ba}{m:Str->Option ae},(∀b o,s3.heap.get? b=some o->(∃v,o.data=.cell v)->h'.get? b=some o)->∀(k:Nat)(y:Str)(v:V),fr[k]?=some y->(capt ix σ)[k]?=some (some v)->∃u,RelV v u/\Look X'.env h' m y u:=by
  intro h' m hkc k y v hy hv;obtain⟨i,hix,hσ⟩:=BI hv;have L6:(y,i)∈fr.zip ix:=by refine eB (i:=k) ?_;rw[List.getElem?_zip_eq_some];exact⟨hy,hix⟩
  have hN:X.N[i]?=some y:=S.idx (y,i) L6;obtain⟨hfr,HU⟩:=S.frs y (eB hy);obtain⟨m3,hn3,hl3⟩:=I3.loc;obtain⟨u,ru,l⟩:=hl3 i y v hN hσ (.inr (.inl HU));refine⟨u,ru,?_⟩;rcases l with⟨kd,_⟩|⟨_,c,ec,ic⟩
  ·have kd:X.env.scope.names.lookup y=some .local:=kd;rw[HU] at kd;cases kd
  ·refine .inr ⟨.inl (mj I3.ok.kind hfr HU),c,?_,?_⟩
   ·obtain⟨c',e'⟩:=IQ y (cF hfr);have:=Iu y c' e';rw[ec] at this;cases this;exact e'
   ·obtain⟨o,ho,hd⟩:=ic;exact⟨o,hkc c o ho ⟨_,hd⟩,hd⟩
 have hNd:X'.N.Nodup:=S.nd;have LY:(aK xs.length none++capt ix σ).length=X'.N.length:=by show _=(xs++fr).length;unfold capt;rw[aI,aI,cQ,af,S.len]
 have I4:Inv X' [] (aK xs.length none++capt ix σ) (upd H2 D (.lst [])) { s3 with heap:=h4,toks:=s3.toks+([]:List (Str×ae)).length }:=by
  refine⟨ok',rfl,I3.bare,Un.kept J0,⟨_,Mi,fun k y v e1 e2 e3=>?_⟩,fun y c e=>?_,?_,fun y c e=>I3.freeC y c (Iu y c e),fun p hp=>?_,I3.hok.kept J0,LY⟩
  ·have e1:(xs++fr)[k]?=some y:=e1;by_cases hk:k<xs.length
   ·rw[dk (by rw[cQ];exact hk),fI,if_pos hk] at e2;cases e2
   ·have hk:xs.length<=k:=ei hk;rw[cx hk] at e1;rw[cx (by rw[cQ];exact hk),cQ] at e2;exact Jn (fun b o e _=>J0 b o e) (k-xs.length) y v e1 e2
  ·obtain⟨v,o,ho,hd⟩:=I3.cell y c (Iu y c e);exact⟨v,o,J0 c o ho,hd⟩
  ·exact I3.hok.fresh (by show s3.heap.objs.size<=C;rw[hC];exact aq _)
  ·exact absurd (show p∈([]:List (ac×Obj)) from hp) (by simp)
 have Iq:∀{H':Hp}{b:ac},b∈fp->H' b=none->vI X' [] H' b:=fun{H' b} hb hn=>by
  refine⟨hn,?_,?_,.inl hb,fun y c e=>(f3 b hb).1.2.2.2.2.1 y c (Iu y c e),fun p hp=>absurd (show p∈([]:List (ac×Obj)) from hp) (by simp)⟩
  ·exact aT (f3 b hb).2
  ·intro z;rcases aj.mp (I3.stkSub b z) with z|z
   ·exact(f3 b hb).1.2.1 z
   ·exact(f3 b hb).1.2.2.1 z
 have IF:∀b∈fp,(b∈X.ex\/X.sa0.heap.objs.size<=b)/\b≠X.env.locals/\(∀y c,X.env.cells.lookup y=some c->c≠b)/\∀p∈X.pn++GX,p.1≠b:=fun b hb =>
  ⟨(f3 b hb).1.2.2.2.1,(f3 b hb).1.2.1,(f3 b hb).1.2.2.2.2.1,(f3 b hb).1.2.2.2.2.2⟩
 have Hd:∀{σ':St}{H':Hp}{s':ah},Inv X' [] σ' H' s'->Q (.ref D) H'->PR (.ref D) C (.ok .next) s':=fun{σ' H' s'} I' q'=>by
  obtain⟨m',IK,_⟩:=I'.loc;have J:=I3.call' (s':=s') (ch:=fp) I'.os I'.base I'.hok I'.bare IF;refine JR D C H' s' J I'.free ⟨?_,?_,fun y c e=>?_,fun p hp=>?_⟩ ⟨m',IK⟩ q'
  ·rw[<-hC];exact jd I3.lt
  ·rw[<-hC];exact I3.sz
  ·obtain⟨v,z⟩:=I3.cell y c e;rw[<-hC];exact aT z.lt
  ·rw[<-hC];exact aT (aE (I3.pin p hp).1)
 have JD:eR (model X.prog X.w) X.A (.compLoop (.ListComp Hk [⟨tg,iter,He,0⟩] scope pos) 0 (.ref it) (.ref D) X'.env) (PR (.ref D) C) { s3 with heap:=h4,toks:=s3.toks+([]:List (Str×ae)).length }:=by
  refine yQ (fun n s'=>∃i ys σ5 H',Inv X' [] σ5 H' s'/\tn i s'.heap/\(∀b∈fp,H' b=none)/\Pv i n ys σ5 H') ?_ m0 ⟨0,[],_,_,I4,T.keep _ _ _ Ke fun b hb o e=>J0 b o e,fun b hb=>(f3 b hb).1.1,p0⟩
  rintro n s5 ⟨i,ys,σ5,H5,I5,st5,fr5,p5⟩
  rcases Im i n ys σ5 H5 p5 with⟨stop,hd5,qn⟩|⟨go,step⟩
  ·refine bo (T.done X' rfl rfl rfl rfl i [] s5 _ H5 (fun _ _=>False) I5 (fun b hb=>Iq hb (fr5 b hb)) st5 stop) (fun r s6 ⟨hr,I6⟩=>?_) fun _ _ z=>bh z;subst hr;exact Hd I6 qn
  ·refine bo (T.item X' rfl rfl rfl rfl i [] s5 _ H5 (fun _ _=>False) I5 (fun b hb=>Iq hb (fr5 b hb)) st5 go) (fun r s6 ⟨u,hr,h6⟩=>?_) fun _ _ z=>bh z;subst hr;dsimp only;refine bo h6 (fun _ s6' h6'=>?_) fun _ _ z=>bh z;obtain⟨xv,H6,I6,r6,y6,LJ,fr6⟩:=h6';have I6':=I6.pinned (fun b hb=>Iq hb (fr6 b hb)) (T.obj _ _ LJ);refine bo (hg _ _ _ _ _ _ s6' _ H6 xv u _ I6' r6 (step xv H6 y6)) (fun _ s7 h7=>?_) fun _ _ z=>bh z;obtain⟨σ7,H7,I7,q7⟩:=h7;refine bo (ht _ _ _ _ _ _ s7 _ H7 _ I7 q7) (fun b s8 ⟨H8,I8,q8⟩=>?_) fun _ _ z=>bh z;have back:∀{H9:Hp}{s9:ah}{K5:List V},Inv X' ([]++uv fp s6'.heap) σ7 H9 s9->(∃m',m'<n/\Pv (i+1) m' K5 σ7 H9) ->
     ∃m,m<n/\∃i ys σ5 H',Inv X' [] σ5 H' s9/\tn i s9.heap/\(∀b∈fp,H' b=none)/\Pv i m ys σ5 H':=fun{H9 s9 K5} I9 h9=>by
    obtain⟨m',hm,p9⟩:=h9;refine⟨m',hm,i+1,K5,_,H9,I9.unpinned,T.keep _ _ _ LJ fun b hb o e=>(I9.pin (b,o) (aw _ (aw _ (oh hb e)))).1,fun b hb=>?_,p9⟩;obtain⟨o,e,d⟩:=T.obj _ _ LJ b hb;exact(I9.pin (b,o) (aw _ (aw _ (oh hb e)))).2.1
   cases b with
   |false =>
    rw[if_neg aR] at q8 ⊢;exact back I8 q8
   |true =>
    rw[if_pos rfl] at q8 ⊢;refine bo (he _ _ _ _ _ _ s8 _ H8 _ I8 q8) (fun w9 s9 ⟨v9,H9,I9,r9,hd9,hz9,q9⟩=>?_) fun _ _ z=>bh z;refine bo (vn (X:=X') _ s9 _ H9 (.ref D) [v9] (.ref D) [w9] (fun _ H'=>H'=upd H9 D (.lst (ys++[v9]))) I9 rfl (.cons r9 .nil) ⟨D,ys,v9,rfl,rfl,hd9,hz9,rfl⟩) (fun _ K7 h10=>?_) fun _ _ z=>bh z;obtain⟨_,H10,Jo,_,rfl⟩:=h10;exact back Jo q9
 exact codeAny_compStart_list JD (T.self _ 0 _ _ _ (T.keep _ _ _ Ke fun b hb o e=>J0 b o e) JD)
end
section
variable{X:Cx}{Hk iter:aN}{He:List aN}{x:Str}{px pos:Pos}{scope:cA}{wi:TI}{tc:TT}{te:TE}{fr:List Str}{ix:List Nat}
theorem CompB.g{J:It}{cap:St}{D:ac}{H1:Hp}{Q:VK}(h:CompB J tc te cap D H1 Q):wI J (yH 0) 1 tc te cap D H1 Q:=by obtain⟨Pv,⟨m,p⟩,h⟩:=h;refine⟨fun i m ys σ2 H2=>Pv i m ys H2/\∃o,σ2=o::cap,⟨m,p,none,rfl⟩,fun i m ys σ2 H2 ⟨p,o,e⟩=>?_⟩;subst e;refine(h i m ys H2 p).imp id fun⟨g,h⟩=>⟨g,fun x H3 y=>?_⟩;have h:=h x H3 y;have e:(∃o,(some x::cap:St)=o::cap)=True:=eq_true ⟨_,rfl⟩;show tc (some x::cap) H3 _;simpa only[List.set_cons_zero,e,and_true] using h
def vz{PR:ae->ac->iD->ah->Prop}{GX:List (ac×Obj)}{σ:St}{H2:Hp}{s2:ah}{it:ac}{fp:List ac}{tn:Nat->ba->Prop}{J:It}{Q:VK}(hc:X.calm=true)(S:CompOk X.N X.env.scope scope x fr ix)(ht:∀cl C G2 G5 fp,zL (blk X scope cl C (x::fr) G2 G5 fp) He tc)(he:∀cl C G2 G5 fp,PE (blk X scope cl C (x::fr) G2 G5 fp) Hk te)(G7:∀y∈scope.names,y.2=.free->∃c,X.env.cells.lookup y.1=some c)(I2:Inv X GX σ H2 s2)(T:Turn X.prog X.w X.K (.Name x px) J fp it tn)(Ir:tn 0 s2.heap)(f2:∀b∈fp,vI X GX H2 b)(q2:∀D,H2 D=none->CompB J tc te (capt ix σ) D H2 Q)(JR:∀D C H' s',Inv X GX σ H' s'->H' C=none->Fj X GX C->(∃m,s'.heap.Ns C m)->Q (.ref D) H'->PR (.ref D) C (.ok .next) s') :
  aP (model X.prog X.w) X.A (newList []) (fun Ha G2=>aP (model X.prog X.w) X.A (newFunctionEnv scope X.env.globals (mW X.env.cells scope.names []) [] X.env.qual none .none (some X.env)) (fun IR JY =>
   eR (model X.prog X.w) X.A (.compStart (.ListComp Hk [⟨.Name x px,iter,He,0⟩] scope pos) 0 (.ref it) Ha { IR with scope:=relabel scope X.env }) (PR Ha IR.locals) JY) X.xe G2) X.xe s2 :=
 tP (xs:=[x]) hc ⟨S.kind,S.cell,S.nm,S.free,S.nd,S.idx,S.frs,S.len⟩ (fun cl C G2 G5 fp=>zi (i:=0) S.nd rfl (.inl (cG S.loc)) (.inr (cG S.loc))) ht he G7 I2 T Ir f2 (fun D hD=>(q2 D hD).g) JR
def wd(hc:X.calm=true)(S:CompOk X.N X.env.scope scope x fr ix)(hi:PI X (.Name x px) iter wi)(ht:∀cl C G2 G5 fp,zL (blk X scope cl C (x::fr) G2 G5 fp) He tc)(he:∀cl C G2 G5 fp,PE (blk X scope cl C (x::fr) G2 G5 fp) Hk te)(hs:∀v,bY iter X.env v=pure v:=by intro _;rfl):PE X (.ListComp Hk [⟨.Name x px,iter,He,0⟩] scope pos) (CI wi ix tc te):=by
 intro GX s σ H Q I h;have G7:∀y∈scope.names,y.2=.free->∃c,X.env.cells.lookup y.1=some c:=fun y hy hf=>I.ok.has y.1 (.inl (S.free y hy hf));rw[eval_ListComp];refine fR (use:=none) rfl hs (nk G7) S.kind S.nm (thn (hi GX s σ H _ I h) fun v s1 h1=>thn h1 fun Ko s2 h2=>?_);obtain⟨it,fp,tn,J,H2,e,I2,T,Ir,f2,q2⟩:=h2;subst e;refine vz (PR:=fun Ha C r s'=>compPost (model X.prog X.w) X.A X.xe none (EP X GX σ Q) Ha C r s') hc S ht he G7 I2 T Ir f2 q2 fun D C H' s' I' KW ⟨b1,b2,b3,b4⟩ Is q'=>?_;obtain⟨m',IK⟩:=Is;refine⟨m',IK,fun h' Kw=>⟨.ref D,H',?_,rfl,q'⟩⟩;exact I'.turned (t':=s'.toks) (it:=C) (fun b o hb e=>Kw.extBut b o hb e) KW b1 (.inr b2) b3 b4
def yi{i:Nat}{y:Str}{py HF:Pos}(hN:X.N.Nodup)(JO:X.N[i]?=some y)(Jj:X.env.scope.names.lookup y=some .local)(hc:X.calm=true)(S:CompOk X.N X.env.scope scope x fr ix)(hi:PI X (.Name x px) iter wi)(ht:∀cl C G2 G5 fp,zL (blk X scope cl C (x::fr) G2 G5 fp) He tc)(he:∀cl C G2 G5 fp,PE (blk X scope cl C (x::fr) G2 G5 fp) Hk te)(JG:cW (.ListComp Hk [⟨.Name x px,iter,He,0⟩] scope pos) (some (.Name y py)) HF.line X.env=pure true:=by rfl)(hs:∀v,bY iter X.env v=pure v:=by intro _;rfl):PS X (.Assign [.Name y py] (.ListComp Hk [⟨.Name x px,iter,He,0⟩] scope pos) HF) (EO (CI wi ix tc te) (yH i)):=by
 intro GX s σ H D0 I h;have G7:∀y∈scope.names,y.2=.free->∃c,X.env.cells.lookup y.1=some c:=fun y hy hf=>I.ok.has y.1 (.inl (S.free y hy hf));rw[exec_Assign_Name_used _ _ _ _ JG];refine ao (eQ (ao ?_));show aP _ X.A (do let _ <-comprehension (.ListComp Hk [⟨.Name x px,iter,He,0⟩] scope pos) scope X.env _ (newList []) false (eval iter X.env) (some (assign (.Name y py) X.env))) _ _ s;refine ao (bo (fR (use:=some (assign (.Name y py) X.env)) (Q:=fun _ s'=>SP X GX D0 .next s') rfl hs (nk G7) S.kind S.nm
  (thn (hi GX s σ H _ I h) fun v s1 h1=>thn h1 fun Ko s2 h2=>?_)) (fun _ s' hq=>aH (aH hq)) fun _ _ e=>e)
 obtain⟨it,fp,tn,J,H2,e,I2,T,Ir,f2,q2⟩:=h2;subst e;refine vz (PR:=fun Ha C r s'=>compPost (model X.prog X.w) X.A X.xe (some (assign (.Name y py) X.env)) (fun _ s'=>SP X GX D0 .next s') Ha C r s') hc S ht he G7 I2 T Ir f2 q2 fun D C H' s' I' KW ⟨b1,b2,b3,b4⟩ Is q'=>?_;obtain⟨m',IK⟩:=Is;refine ie (rn (v:=.ref D) I' hN JO (.inl Jj) rfl (fun s5 I5 sb=>?_) (.inr Jj));obtain⟨a5,sb,MH⟩:=sb;have ML:C≠a5:=by
  rcases MH with z|z
  ·rw[z];exact b1
  ·exact(b3 _ _ z).symm
 refine⟨m',IK.sameBut sb ML,fun h' Kw=>⟨_,H',?_,q'⟩⟩;exact I5.turned (t':=s5.toks) (it:=C) (fun b o hb e=>Kw.extBut b o hb e) KW b1 (.inr b2) b3 b4
end
abbrev bmV:List ae:=[.type "ValueError",.type "Exception",.type "BaseException",.type "object"]
structure Exc(K:aa)(C:ac):Prop where
 ex:gg K C bmV "ValueError.__new__"=true
 ga:aM K (.ref C) "__getattribute__"=some (some (.builtin "BaseException.__getattribute__"))
 gt:aM K (.ref C) "__getattr__"=some none
 ha:aM K (.ref C) "__class__"=some (some (.builtin "object.__class__"))
 hn:dE K (.builtin "object.__class__") "__get__"=some (some (.builtin "getset_descriptor.__get__"))
 ht:fD K (.builtin "object.__class__")=some true
 mo:bU K C (.type "object")=some true
 mb:bU K C (.type "BaseException")=some true
def Exc.obj{K:aa}{C:ac}{h:ba}(Z:Exc K C)(X:K.In h):∃bm N nm q bs hdct sn sub ab col dd k0 k1 k2 k3 k5 mN,
  h.get? C=some (excClassObj nm q C N bs bm hdct sn sub ab col dd k0 k1 k2 k3 k5 "ValueError.__new__")/\h.Ns N mN/\mN "__init__"=none/\OwnTail h bmV bm:=by
 have z:=Z.ex;unfold gg at z;split at z
 case h_2=>cases z
 case h_1 ddv G3 slv lk =>
  split at z
  case h_2=>cases z
  case h_1 D bm a0 a1 a2 a3 nw a5 em es =>
   have z':((((D=C/\nw="ValueError.__new__")/\G3.hasDel=false)/\PySem.W.tailIn K bmV bm=true)/\PySem.W.nsOkIn K G3.ns=true)/\bv K G3.ns "__init__"=some none:=by simpa only[bT,beq_iff_eq,Bool.not_eq_true'] using z
   obtain⟨⟨⟨⟨⟨eD,eN⟩,J6⟩,tl⟩,Le⟩,L5⟩:=z';rcases G3 with⟨c1,c2,c3,c4,c5,c6,c7,c8,c9,c10,c11⟩;have em:c3=.ref D::bm:=em;have J6:c11=false:=J6;have Le:PySem.W.nsOkIn K c4=true:=Le;have L5:bv K c4 "__init__"=some none:=L5;subst em J6 eD eN;have esl:slv=#[a0,a1,a2,a3,some (.builtin "ValueError.__new__"),a5]:=by rcases slv with⟨l⟩;have es:l=_:=es;rw[es]
   subst esl;refine⟨bm,c4,c1,c5,c2,c6,c7,c8,c9,c10,ddv,a0,a1,a2,a3,a5,h.nsMap c4,X _ _ lk,?_,?_,PySem.W.tail_of_in X tl⟩
   ·exact .of_isNs (PySem.W.isNs_of_in X Le)
   ·exact PySem.W.nsMap_none_of_in X Le L5
def Ax(h:ba)(a C:ac):Prop:=∃ox vs,h.get? a=some ox/\ox.cls=.ref C/\ox.data=.fields vs
def yJ(C a:ac):HO:=.ext fun h=>Ax h a C
def D6{P:az}{w:aU}{H:Hp}{h:ba}{C a:ac}(I:Ax h a C):ObjOk P w H h a (yJ C a):=by
 refine⟨I,?_,fun h1 h2 p k=>?_⟩
 ·obtain⟨ox,_,e,_⟩:=I;exact⟨ox,e⟩
 ·obtain⟨ox,vs,e,c,d⟩:=p;exact⟨ox,vs,k _ e,c,d⟩
section
variable{prog:az}{w:aU}{A:bx}{E:ae->ah->Prop}{s:ah}{K:aa}{x C:ac}{ox:Obj}
open PySem.W Builtin Builtin.ObjectAttr Builtin.Getset_descriptor in
def Aj{Q:Option ae->ah->Prop}(Z:Exc K C)(X:K.In s.heap)(I:Ax s.heap x C)(h:Q (some (.ref C)) { s with toks:=s.toks+1 }) :
  aP (model prog w) A (getAttr? (.ref x) "__class__") Q E s:=by
 obtain⟨hh,g,d,t,os⟩:=s;have L0:hU (model prog w) hh (typeOf (.ref x)) (.ref C):=by obtain⟨ox,vs,HV,Jy,MA⟩:=I;have HV:hh.get? x=some ox:=HV;exact Jy▸(iQ HV).andThen .now
 have L1:=gA (M:=model prog w) X Z.ga;have L2:=gA (M:=model prog w) X Z.gt;have L3:hU (model prog w) hh (Builtin.ObjectAttr.find (.ref x) (.ref C) "__class__") (.bind (.builtin "getset_descriptor.__get__") (.builtin "object.__class__")):=by have M1:=gA (M:=model prog w) X Z.ha;have M2:hU (model prog w) hh (Builtin.ObjectAttr.getOf (some (.builtin "object.__class__"))) (some (.builtin "getset_descriptor.__get__")):=looks_specialIn X Z.hn;have M3:=looks_takesIn (M:=model prog w) X Z.ht;refine M1.andThen (M2.andThen ?_);refine Looks.andThen (a:=some (.builtin "getset_descriptor.__get__",.builtin "object.__class__")) ?_ (Looks.tag .now);exact M3.andThen .now
 have LO:=iP (M:=model prog w) X Z.mo;have MZ:∀{A:bx}{tk:Nat}{R:iD->ah->Prop},R (.ok (.ret (.ref C))) ⟨hh,g,d,tk,os⟩->eR (model prog w) A (.call (.builtin "getset_descriptor.__get__") ⟨[.builtin "object.__class__",.ref x,.ref C],[]⟩) R ⟨hh,g,d,tk,os⟩:=by
  intro A tk R hq;obtain⟨ox,vs,HV,Jy,MA⟩:=I;have HV:hh.get? x=some ox:=HV;refine codeAny_call_builtin KF.slot_gs.plain KF.entry_gs (KF.slot_gs.check _ _ _ _ _ _ _ _ KF.type_class (KF.args_gs _ _ _) ?_);unfold Builtin.«getset_descriptor.__get__» descrGet;rw[dga_obj];refine ao (aH ?_);unfold descrGetter descrCheckInstance descrNameAndClass isInstance;simp only[KF.owner_class]
  repeat lk
  refine⟨Code.quiet_builtin _ (by decide +kernel),codeAny_builtin KF.entry_class ?_⟩;unfold Builtin.«object.__class__» shownTypeOf
  repeat lk
  exact hq
 have LB:hU (model prog w) hh (isInstance (.ref x) (.type "BaseException")) true:=L0.andThen (iP X Z.mb);have f3:=PySem.F.slot_gs_get;have hx2:(Value.builtin "BaseException.__getattribute__"==Value.builtin "object.__getattribute__")=false:=by decide +kernel
 have cls:∀{tk:Tok}{R:iD->ah->Prop},R (.ok (.ret (.ref C))) ⟨hh,g,d,t+1,os⟩->eR (model prog w) A (.call (.builtin "BaseException.__getattribute__") ⟨[.ref x,.str "__class__" tk],[]⟩) R ⟨hh,g,d,t+1,os⟩:=by
  intro tk R hq;have hk:builtinKind "BaseException.__getattribute__"=some .slot:=by decide +kernel
  have JH:splitId "BaseException.__getattribute__"=some ("BaseException","__getattribute__"):=by decide +kernel
  have ha:=F.args_bexc_ga (.ref x) (.str "__class__" tk);refine codeAny_call_builtin (by decide +kernel) F.entry_bexc_ga ?_;simp only[checkBuiltinCall,hk,JH];refine ao (LB.at ?_)
  repeat (any_goals (first|assumption|wp_step))
  obtain⟨ox,vs,HV,Jy,MA⟩:=id I;have HV:hh.get? x=some ox:=HV;refine wpAny_loadPart_at HV (aH ?_);rw[Jy];clear HV Jy MA;refine ao (L3.at ?_)
  repeat (any_goals (first|assumption|wp_step))
  refine MZ ?_
  repeat (any_goals (first|assumption|wp_step))
 have f4:=PySem.F.excAttr_ValueError.ga.bind (.ref x);unfold getAttr? getAttrBy? getAttrBy;refine ao (wpAny_mkText (ao (wpAny_attempt (dJ (ao (L0.at (ao (L1.at ?_))))))));show aP _ _ (getAttrByItsOwn _ _ _ _ _ _) _ _ _;unfold getAttrByItsOwn;refine ao (L2.at ?_)
 repeat (any_goals (first|assumption|wp_step))
 refine cls ?_
 repeat (any_goals (first|assumption|wp_step))
end
section
variable{K:aa}{C a:ac}
open PySem.W in
def xy(Z:Exc K C):KitX K (.ref a) (.ref C) (fun h=>Ax h a C) where
 ty:=fun _ _ _ ⟨_,_,e,c,_⟩=>c▸(iQ e).andThen .now
 it:=fun _ h X _=>by obtain⟨bm,N,nm,q,bs,hdct,sn,sub,ab,col,dd,k0,k1,k2,k3,k5,mN,hC,_⟩:=Z.obj X;intro A' Q' E' s' k z;unfold isType loadHead;exact ao (wpAny_loadPart (k _ _ hC) (aH z))
 ne:=fun h tp dd its n sl X htp=>by
  obtain⟨bm,N,nm,q,bs,hdct,sn,sub,ab,col,dd,k0,k1,k2,k3,k5,mN,hC,_⟩:=Z.obj X;refine cg.mpr fun z=>?_;have e:C=tp:=Value.ref.inj (beq_iff_eq.mp z);subst e;rw[hC] at htp;injection (aO htp) with _ _ z3 _
  exact nomatch z3
 ca:=fun X I k=>Aj Z X I k
end
def Fe:V->ae
 |.ref a=>.ref a
 |.ty n=>.type n
 |_=>.none
def BH{c:V}{u:ae}(r:RelV c u)(h:(∃a,c=.ref a)\/∃n,c=.ty n):u=Fe c:=by rcases h with⟨a,rfl⟩|⟨n,rfl⟩<;>exact r
section
variable{X:Cx}
def rIsi(K:aa):List V->Hp->VK->Prop:=fun xs H Q=>∃x c t b,xs=[x,c]/\((∃a,c=.ref a)\/∃n,c=.ty n)/\(TyOf K H x t\/(∃a C,x=.ref a/\t=.ref C/\H a=some (yJ C a)/\Exc K C)\/(∃a ys,x=.ref a/\t=.type "list"/\SqL K H a ys)\/∃a ys,x=.ref a/\t=.type "tuple"/\SqT K H a ys)/\bu K t (Fe c)=some b/\Q (.bl b) H
def ua:CallR X (.builtin "isinstance") (rIsi X.K):=by
 intro GX s σ H xs us Q I r h;obtain⟨x,c,t,b,rfl,hc,ty,e,q⟩:=h;obtain⟨u,v,rfl,ru,rv⟩:=EI r;rw[BH rv hc];have Hd:∀tk,EP X GX σ Q (.bool b) { s with toks:=tk }:=fun tk=>⟨.bl b,H,I.tok tk,rfl,q⟩;rcases ty with ty|⟨a,C,rfl,rfl,ha,Z⟩|⟨a,ys,rfl,rfl,hq⟩|⟨a,ys,rfl,rfl,hq⟩
 ·exact Ae I ru ty e Hd
 ·cases(show u=aV a from ru);obtain⟨p,_⟩:=I.hok a _ ha;exact bG (xy Z) I.kIn p e (fun z=>nomatch z) Hd
 ·cases(show u=aV a from ru);obtain⟨its,r',pl,_⟩:=I.list hq;obtain⟨o,h1,h2,_⟩:=pl.isList;exact bG gB I.kIn ⟨o,h1,h2⟩ e (fun z=>nomatch z) Hd
 ·cases(show u=aV a from ru);obtain⟨its,r',pl,_⟩:=I.tuple hq;obtain⟨o,h1,h2,_⟩:=pl;exact bG i9 I.kIn ⟨o,h1,h2⟩ e (fun z=>nomatch z) Hd
end
def ObjOk.there{P:az}{w:aU}{H:Hp}{h:ba}{a:ac}{o:HO}(x:ObjOk P w H h a o):∃ob,h.get? a=some ob:=by
 cases o with
 |lst xs=>obtain⟨_,_,_,_,e⟩:=x;exact⟨_,e⟩
 |tup xs=>obtain⟨_,_,_,ob,e,_⟩:=x;exact⟨ob,e⟩
 |dK kvs=>obtain⟨_,_,_,_,ob,_,_,e,_⟩:=x;exact⟨ob,e⟩
 |dT kvs=>obtain⟨_,_,_,_,ob,_,_,e,_⟩:=x;exact⟨ob,e⟩
 |set S n=>obtain⟨ob,_,_,_,e,_⟩:=x;exact⟨ob,e⟩
 |ins C dx fs=>obtain⟨_,_,_,e,_⟩:=x;exact⟨_,e⟩
 |own y=>exact x
 |xd fs=>obtain⟨_,⟨ob,_,_,e,_⟩,_⟩:=x;exact⟨ob,e⟩
 |rng lo hi=>obtain⟨_,_,_,e⟩:=x;exact⟨_,e⟩
 |frz ob u=>obtain⟨e,_⟩:=x;exact⟨ob,e⟩
 |tbl ps=>exact⟨_,show h.get? a=some _ from x⟩
 |met f y=>exact⟨_,show h.get? a=some _ from x⟩
 |ext φ=>exact x.2.1
def CXo(P:az)(w:aU):CXT:=fun outer H s E e s'=>∃(a C:ac)(t:ae)(B:ba)(H':Hp),e=.ref a/\s'.os=s.os/\fO s'.gens/\Un (frs outer) [] H H' s.heap s'.heap/\HOk P w H' s'.heap /\
 iW B outer a (.ref C) t s'.heap/\(∀b u o,H' b=some u->s'.heap.get? b=some o->B.get? b=some o) /\
 (∀b o,s.heap.get? b=some o->b∉frs outer->∃o',s'.heap.get? b=some o'/\B.get? b=some o')/\E (.ref C) none H'
def qA{P:az}{w:aU}{X:Cx}:mz (CXo P w) X E0:=fun _ _ _ _ _ _ _ h=>by obtain⟨_,_,_,_,_,_,_,_,_,_,_,_,_,z⟩:=h;exact z.elim
def DD{env:Env}{outer:List Env}{L b:ac}(hf:env.frame=some L)(h:b∈frs (env::outer)):b=L\/b∈frs outer:=by unfold frs at h ⊢;rw[dq,hf] at h;exact aj.mp h
def tE{env:Env}{outer:List Env}{L b:ac}(hf:env.frame=some L)(h:b∈frs outer):b∈frs (env::outer):=by unfold frs at h ⊢;rw[dq,hf];exact ak _ h
section
variable{P:az}{w:aU}{K:aa}{mg:Str->Option ae}{base:ba}{N:List Str}{qual:Str}{scope:cA}{f:ac}{cd:ae}{A:bx}{outer:List Env}{sa0:ah}{Ha0:Hp}{E:XK}
def ma:mz (CXo P w) (xJ (CXo P w) P w K mg base N qual scope f cd A outer sa0 Ha0 E) E:=by
 intro GX σ H s e s' I h;obtain⟨a,C,t,B,H',rfl,Je,IP,un,hok,fl,Jb,Ib,hE⟩:=h;have Ml:∀b o,sa0.heap.get? b=some o->b≠sa0.heap.objs.size:=fun b o e=>aT (aE e);refine wpAny_leaves_onW (L:=sa0.heap.objs.size) (by exact I.ok.frames) rfl fl fun h' Ka up=>?_;have MU:frs (dF qual scope sa0.heap.objs.size f cd::outer)=sa0.heap.objs.size::frs outer:=rfl;have HH:∀b o,sa0.heap.get? b=some o->b∉frs outer->b∉frs (dF qual scope sa0.heap.objs.size f cd::outer):=fun b o e n z=>by
  rw[MU] at z;rcases aj.mp z with z|z
  ·exact Ml b o e z
  ·exact n z
 have ub:Un (frs outer) [] Ha0 H sa0.heap s.heap:=I.base;have old:∀b o,sa0.heap.get? b=some o->b∉frs outer->∃o',h'.get? b=some o'/\B.get? b=some o':=fun b o e n=>by obtain⟨o1,e1⟩:=ub.there b o e (by simp);obtain⟨o2,e2,e3⟩:=Ib b o1 e1 (HH b o e n);exact⟨o2,Ka.1 b o2 e3,e3⟩
 refine⟨a,C,t,B,H',rfl,Je.trans I.os,IP,⟨fun b o e n hb _=>?_,fun b o e n hb _=>?_,fun b o e n _=>?_,fun b o e _=>?_,fun b xs e=>un.tups b xs (ub.tups b xs e),fun b o u e=>un.frzs b o u (ub.frzs b o u e),fun b ps e=>?_⟩,?_,Ka,?_,old,hE⟩
 ·have e1:=ub.keep b o e n hb (by simp);have n1:=ub.free b o e n (by simp);have e2:=un.keep b o e1 n1 (HH b o e hb) (by simp);obtain⟨o2,e3,e4⟩:=Ib b o e1 (HH b o e hb);rw[e2] at e3;cases e3;exact Ka.1 b o e4
 ·obtain⟨sl,e1⟩:=ub.slot b o e n hb (by simp);have n1:=ub.free b o e n (by simp);obtain⟨Jq,e2⟩:=un.slot b _ e1 n1 (tE rfl hb) (by simp);obtain⟨_,o3,e3,Jh⟩:=fl.2.2.1.mem (show b∈(dF qual scope sa0.heap.objs.size f cd::outer).filterMap (·.frame) from tE rfl hb);obtain⟨sl3,e4⟩:=up b _ e3 Jh;rw[e2] at e3;cases e3;exact⟨sl3,e4⟩
 ·obtain⟨o1,e1⟩:=ub.there b o e (by simp);exact un.free b o1 e1 (ub.free b o e n (by simp)) (by simp)
 ·by_cases hb:b∈frs outer
  ·obtain⟨_,o3,e3,Jh⟩:=fl.2.2.1.mem (show b∈(dF qual scope sa0.heap.objs.size f cd::outer).filterMap (·.frame) from tE rfl hb);obtain⟨sl3,e4⟩:=up b _ e3 Jh;exact⟨_,e4⟩
  ·obtain⟨o',e1,_⟩:=old b o e hb;exact⟨o',e1⟩
 ·obtain⟨m1,e1⟩:=ub.tbls b ps e;obtain⟨m2,e2⟩:=un.tbls b _ e1;exact⟨m1++m2,by rw[e2,jB]⟩
 ·intro b u e;refine(hok b u e).stay (fun c v hc q=>?_) (fun _ q=>q) fun _ _ q=>q;rcases hc with z|z
  ·subst z;exact Ka.1 _ _ (Jb _ u v e q)
  ·exact Ka.1 _ _ (Jb c _ v z q)
 ·intro b u o e q;obtain⟨o1,q1⟩:∃o1,s'.heap.get? b=some o1:=by exact(hok b u e).there
  have z:=Jb b u o1 e q1;have z2:=Ka.1 b o1 z;rw[z2] at q;cases q;exact z
def tT(X:Cx)(E:XK):Prop:=∀(GX:List (ac×Obj))(σ:St)(H:Hp)(s:ah)(a C:ac)(vs:List ae)(h':ba),Inv X GX σ H s->Heap.MadeExcOf s.heap h' a (.ref C) vs->E (.ref C) none H->X.xe (.ref a) { s with heap:=h' }
def sY:tT (xJ (CXo P w) P w K mg base N qual scope f cd A outer sa0 Ha0 E) E:=by
 intro GX σ H s a C vs KU I mk hE;have stk:s.heap.FunFrames base (dF qual scope sa0.heap.objs.size f cd::outer):=I.stack;let l:List ac:=frs (dF qual scope sa0.heap.objs.size f cd::outer);have Hc:∀env∈(dF qual scope sa0.heap.objs.size f cd::outer),∀b,env.frame=some b->b∈l:=fun env he b hb=>gH.mpr ⟨env,he,hb⟩;have LG:∀b o,s.heap.get? b=some o->b∉l->(fE s.heap l).get? b=some o:=fun b o e n=>iT l e n;have ub:Un (frs outer) [] Ha0 H sa0.heap s.heap:=I.base;have HH:∀b o,sa0.heap.get? b=some o->b∉frs outer->b∉l:=fun b o e n z=>by
  rcases DD (L:=sa0.heap.objs.size) rfl z with z|z
  ·exact aT (aE e) z
  ·exact n z
 have IY:∀b u,H b=some u->b∉l:=fun b u e z=>by rw[I.stkFree b z] at e;cases e
 refine wpAny_leaves_madeW (L:=sa0.heap.objs.size) (base:=fE s.heap l) (h:=s.heap) (by exact I.ok.frames) rfl (fun b o e=>i8 l e) (PySem.W.funFrames_hide stk Hc) mk fun h' t fl tup nt up=>?_;have HS:∀b o,s.heap.get? b=some o->b∉l->h'.get? b=some o:=fun b o e n=>fl.1 b o (LG b o e n);have frame:∀b o,s.heap.get? b=some o->b∈l->∃sl,h'.get? b=some { o with slots:=sl }:=fun b o e hb=>by obtain⟨_,o3,e3,Jh⟩:=stk.mem hb;rw[e] at e3;cases e3;exact up b o (mk.keeps b o e) Jh
 refine⟨a,C,.ref t,fE s.heap l,H,rfl,I.os,I.bare,⟨fun b o e n hb _=>?_,fun b o e n hb _=>?_,fun b o e n _=>ub.free b o e n (by simp),fun b o e _=>?_,ub.tups,ub.frzs,ub.tbls⟩,fun b u e=>?_,fl,fun b u o e q=>?_,fun b o e n=>?_,hE⟩
 ·exact HS b o (ub.keep b o e n hb (by simp)) (HH b o e hb)
 ·obtain⟨sl,e1⟩:=ub.slot b o e n hb (by simp);obtain⟨Jq,e2⟩:=frame b _ e1 (tE rfl hb);exact⟨Jq,e2⟩
 ·obtain⟨o1,e1⟩:=ub.there b o e (by simp);by_cases hb:b∈l
  ·obtain⟨Jq,e2⟩:=frame b _ e1 hb;exact⟨_,e2⟩
  ·exact⟨o1,HS b o1 e1 hb⟩
 ·refine(I.hok b u e).stay (fun c v hc q=>?_) (fun _ q=>q) fun _ _ q=>q;rcases hc with z|z
  ·subst z;exact HS _ v q (IY _ u e)
  ·exact HS c v q (IY c _ z)
 ·obtain⟨o1,q1⟩:=(I.hok b u e).there;have z2:=HS b o1 q1 (IY b u e);have q:h'.get? b=some o:=q;rw[z2] at q;cases q;exact LG b _ q1 (IY b u e)
 ·obtain⟨o1,e1⟩:=ub.there b o e (by simp);exact⟨o1,HS b o1 e1 (HH b o e n),LG b o1 e1 (HH b o e n)⟩
end
section
variable{X:Cx}{C:ac}{x:Str}{np GY pos:Pos}{e:aN}{te:TE}{E:XK}
def Fo(C:ac)(E:XK)(te:TE):TS:=fun _ σ H=>te σ H fun _ H1=>E (.ref C) none H1
def mf(Z:Exc X.K C)(hg:Gl X x)(hm:X.mg x=some (.ref C))(hc:X.calm=true)(ha:PE X e te)(hp:tT X E)(hd:NDb x:=by decide)(he:ar [e] X.env=[(false,eval e X.env)]:=by rfl):PS X (.Raise (some (.Call (.Name x np) [e] [] GY)) none pos) (Fo C E te):=by
 intro GX s σ H D I h;obtain⟨bm,N,nm,q,bs,hdct,sn,sub,ab,col,dd,k0,k1,k2,k3,k5,mN,hC,hN,hni,T⟩:=Z.obj I.mod.kin;refine wpAny_Raise_call_subT (C:=C) (nm:=nm) (q:=q) (N:=N) (bs:=bs) (bm:=bm) (hdct:=hdct) (sn:=sn) (sub:=sub) (ab:=ab) (col:=col) (dd:=dd) (k0:=k0) (k1:=k1) (k2:=k2) (k3:=k3) (k5:=k5)
  eO (mN:=mN) (T.hasType eO.hasBase) (I.ok.hd hc) (by rw[he];rfl) hni (pV I hg hm ⟨rfl,?_⟩ hd)
 rw[he];refine ee ?_;show aP _ _ (spliced ((false,eval e X.env)::[])) _ _ s;refine dB (thn (ha GX s σ H _ I h) fun u IB ⟨v,H2,I2,r2,q2⟩=>?_);refine e8 ⟨rfl,?_,I2.bk _ _ hC,hN.keeps I2.bk,T.keeps I2.bk,fun h' a mk=>hp GX σ H2 IB a C _ h' I2 mk q2⟩;show 1<=aB;decide
end
section
variable{M:Model}{A:bx}{E:ae->ah->Prop}{K:aa}{C D e:ac}{oe:Obj}
def wV{h:ba}{g:Array jb}{d:Drawn}{t:Nat}{os:OsState}{Q:Bool->ah->Prop}(ZC:Exc K C)(ZD:Exc K D)(X:K.In h)(sub:bU K C (.ref D)=some true)(he:h.get? e=some oe)(Jm:oe.cls=.ref C)(hq:Q true ⟨h,g,d,t,os⟩):aP M A (excMatches (.ref e) (.ref D)) Q E ⟨h,g,d,t,os⟩:=by
 have L0:hU M h (typeOf (.ref e)) (.ref C):=Jm▸(iQ he).andThen .now;have L1:hU M h (isSubtype (.ref C) (.ref D)) true:=iP X sub;obtain⟨bm,N,nm,q,bs,hdct,sn,sb,ab,col,dd,k0,k1,k2,k3,k5,mN,hD,hN,hni,T⟩:=ZD.obj X;have hcB:(aV D::bm).contains (.type "BaseException")=true:=by rw[List.contains_cons,T.hasType eO.hasBase,Bool.or_true]
 have f:=tc_notTuple;unfold excMatches
 repeat (first|with_reducible refine wpAny_loadPart_at hD ?_|(with_reducible refine wpAny_isSubtype_exc hD ?_;rw[hcB])|with_reducible refine L0.at ?_|with_reducible refine L1.at ?_|wp_step)
 first
  |exact hq
  | (rw[Jm]
     refine L1.at ?_
     repeat wp_step
     exact hq)
end
def XO(X:Cx)(GX:List (ac×Obj))(σ:St)(E:XK):ae->ah->Prop:=fun e s'=>∃H1 s1,Inv X GX σ H1 s1/\CXo X.prog X.w X.stack H1 s1 E e s'
def PEx(X:Cx)(e:aN)(t:XK->TE):Prop:=∀(GX:List (ac×Obj))(s:ah)(σ:St)(H:Hp)(Q:VK)(E:XK),Inv X GX σ H s->t E σ H Q->aP (model X.prog X.w) X.A (eval e X.env) (EP X GX σ Q) (XO X GX σ E) s
def PSx(X:Cx)(st:bM)(t:XK->TS):Prop:=∀(GX:List (ac×Obj))(s:ah)(σ:St)(H:Hp)(D:Ends)(E:XK),Inv X GX σ H s->t E D σ H->aP (model X.prog X.w) X.A (exec st X.env) (SP X GX D) (XO X GX σ E) s
def PSxs(X:Cx)(st:List bM)(t:XK->TS):Prop:=∀(GX:List (ac×Obj))(s:ah)(σ:St)(H:Hp)(D:Ends)(E:XK),Inv X GX σ H s->t E D σ H->aP (model X.prog X.w) X.A (execs st X.env) (SP X GX D) (XO X GX σ E) s
section
variable{X:Cx}{k:Nat}{f C:ac}{fd:bJ}{ps:List Str}{sp:Sp}{HA:List V}{ds:List ae}{x m:Str}{p pos G0:Pos}{e o:aN}{es:List aN}{ta:TE}{t:TA}
def C8{GX:List (ac×Obj)}{σ:St}{H:Hp}{s:ah}{Q:VK}{E:XK}{us:List ae}{vs:List V}(F:FnOk X.prog X.w X.K X.mg X.base (CXo X.prog X.w) k f fd ps sp)(hr:Room k X.A)(hb:Binds X.K fd ps ds)(hd:Vals HA ds)(I:Inv X GX σ H s)(r:Vals vs us)(h:sp (vs++HA) H Q E):aP (model X.prog X.w) X.A (call (.ref f) us) (EP X GX σ Q) (XO X GX σ E) s:=by
 have r2:Vals (vs++HA) (us++ds):=r.append hd;have hl:(us++ds).length=ps.length:=by rw[<-r2.length];exact F.len _ _ _ _ h
 refine wpAny_call (gn (F.run X.A X.stack s H ⟨us,[]⟩ (us++ds) (vs++HA) Q E hr I.env0 (hb s us I.kIn hl) r2 h) fun r s' hq=>?_);cases r with
 |error e=>exact⟨H,s,I,hq⟩
 |ok fl =>
  cases fl with
  |ret u=>exact I.after hq
  |next=>exact bh hq
  |brk=>exact bh hq
  |cont=>exact bh hq
def AZ(F:FnOk X.prog X.w X.K X.mg X.base (CXo X.prog X.w) k f fd ps sp)(hr:Room k X.A)(hg:Gl X x)(hm:X.mg x=some (.ref f))(hk:b5 X.K (.ref f)=true)(hb:Binds X.K fd ps ds)(hd:Vals HA ds)(ha:PA X.nox (e::es) t)(HC:NDb x:=by decide)(he:SEb X e es:=by rfl)(Hn:(bV pos (ar es X.env)).any (·.1)=false:=by rfl) :
  PEx X (.Call (.Name x p) (e::es) [] pos) (fun E=>xX sp HA E t):=by
 intro GX s σ H Q E I h;refine dQ (pV I hg hm ?_ HC);refine gp (h₀:=X.base) I.ok.mod.kin hk (bo (ha pos GX s σ H _ (I.wish _) h) (fun us s1 ⟨vs,H1,I1,r,q⟩=>⟨I1.unwish.kIn,?_⟩) fun _ _ z=>bh z) he Hn;exact C8 F hr hb hd I1.unwish r q
end
section
variable{X:Cx}{e:aN}{te:XK->TE}{pos:Pos}
def hnd(X:Cx)(a:ac):Cx:={ X with A:=X.A.mark (some (.ref a)),calm:=false,xe:=fun _ _=>False }
def tTry(K:aa)(D:ac)(i:Nat)(tb:XK->TS)(th:TS):TS:=fun Dn σ H=>tb (fun cls _ H'=>∃C,cls=.ref C/\Exc K C/\bU K C (.ref D)=some true /\
  ∀a,H' a=none->th { nx:=fun σ' H''=>Dn.nx (σ'.set i none) H'',rt:=Dn.rt,bk:=fun σ' H''=>Dn.bk (σ'.set i none) H'',ct:=fun σ' H''=>Dn.ct (σ'.set i none) H'' } (σ.set i (some (.ref a))) (upd H' a (yJ C a))) Dn σ H
theorem Inv.hnd{GX:List (ac×Obj)}{σ:St}{H:Hp}{s:ah}{a:ac}(I:Inv X GX σ H s):Inv (L2.hnd X a) GX σ H s :=
 ⟨⟨I.ok.mod,I.ok.kind,I.ok.glob,I.ok.blt,I.ok.above,I.ok.inj,I.ok.has,I.ok.cab,fun z=>Bool.noConfusion (show false=true from z),I.ok.frames,I.ok.stk,I.ok.exf,I.ok.bs,I.ok.bsz,I.ok.noex,I.ok.exfs,I.ok.funs,I.ok.frf⟩,I.os,I.bare,I.base,I.loc,I.cell,I.free,I.freeC,I.pin,I.hok,I.len⟩
def Inv.unhnd{GX:List (ac×Obj)}{σ:St}{H:Hp}{s:ah}{a:ac}(ok:X.Ok)(I:Inv (L2.hnd X a) GX σ H s):Inv X GX σ H s :=
 ⟨ok,I.os,I.bare,I.base,I.loc,I.cell,I.free,I.freeC,I.pin,I.hok,I.len⟩
def tz{M:Model}{A:bx}{E:ae->ah->Prop}{i:Nat}{n:Str}{pos:Pos}{GX:List (ac×Obj)}{σ:St}{H:Hp}{s:ah}{Q:Unit->ah->Prop}(I:Inv X GX σ H s)(hN:X.N.Nodup)(hi:X.N[i]?=some n)(hl:X.env.scope.names.lookup n=some .local)(h:∀s',Inv X GX (σ.set i none) H s'->Q () s'):aP M A (do i6 X.env n .none;unbindBehindTheSuite X.env n pos) Q E s:=by
 obtain⟨m,hn,hm⟩:=id I.loc;refine wpAny_nameGoes_keeps hl hn (by rw[I.ok.kind];rfl) fun h' v IK hs=>h _ ?_;obtain⟨oL,_,_,J1,_⟩:=id hn;have hk:∀b o,b≠X.env.locals->s.heap.get? b=some o->h'.get? b=some o:=fun b o hb e=>(hs.2 b hb).trans e;have low:∀b o,X.sa0.heap.get? b=some o->b≠X.env.locals:=fun b o e=>aT (au (aE e) I.ok.above);refine⟨I.ok,I.os,I.bare,⟨fun b o e z hb hx=>hk b o (low b o e) (I.base.keep b o e z hb hx),fun b o e z hb hx=>?_,I.base.free,fun b o e hx=>?_,I.base.tups,I.base.frzs,I.base.tbls⟩,⟨_,IK,fun j y v' e1 e2 e3=>?_⟩,fun y c e=>?_,I.free,I.freeC,fun p hp=>?_,fun b u e=>?_,by simpa using I.len⟩
 ·obtain⟨sl,e1⟩:=I.base.slot b o e z hb hx;exact⟨sl,hk b _ (low b o e) e1⟩
 ·obtain⟨o',e1⟩:=I.base.there b o e hx;exact⟨o',hk b o' (low b o e) e1⟩
 ·have hj:j≠i:=fun z=>by
   subst z;rw[gR] at e2;simp only[if_true] at e2;split at e2<;>cases e2
  rw[eE (cj hj)] at e2;obtain⟨u,r,l⟩:=hm j y v' e1 e2 e3;refine⟨u,r,?_⟩;rcases l with⟨kd,e⟩|⟨kd,c,e,z⟩
  ·refine .inl ⟨kd,?_⟩;have hy:y≠n:=fun z=>hj (tY hN e1 (z▸hi));simp only[if_neg hy];exact e
  ·exact .inr ⟨kd,c,e,z.sameBut hs (I.cne y c e)⟩
 ·obtain⟨w',z⟩:=I.cell y c e;exact⟨w',z.sameBut hs (I.cne y c e)⟩
 ·obtain⟨e,z,ne,nf,d⟩:=I.pin p hp;exact⟨hk _ _ ne e,z,ne,nf,d⟩
 ·refine(I.hok b u e).stay (fun c v hc q=>hk c v ?_ q) (fun _ q=>q) fun _ _ q=>q
  rintro rfl
  rcases hc with hc|hc
  ·rw[<-hc,I.free] at e;cases e
  ·rw[I.free] at hc;cases hc
end
def flown{P:az}{w:aU}{stk:List Env}{H H':Hp}{h0 h1 h2 B:ba}{a C:ac}{t:ae}(un:Un (frs stk) [] H H' h0 h1)(hok:HOk P w H' h1)(fl:iW B stk a (.ref C) t h1)(Jb:∀b u o,H' b=some u->h1.get? b=some o->B.get? b=some o)(Ib:∀b o,h0.get? b=some o->b∉frs stk->∃o',h1.get? b=some o'/\B.get? b=some o')(st:B.StaysIn h2)(up:h1.UpToSlots h2) :
  Un (frs stk) [] H H' h0 h2/\HOk P w H' h2:=by
 have frame:∀b o,h1.get? b=some o->b∈frs stk->∃sl,h2.get? b=some { o with slots:=sl }:=fun b o e hb=>by obtain⟨_,o3,e3,Jh⟩:=fl.2.2.1.mem (show b∈stk.filterMap (·.frame) from hb);rw[e] at e3;cases e3;exact up b o e Jh
 refine⟨⟨fun b o e n hb hx=>?_,fun b o e n hb hx=>?_,un.free,fun b o e hx=>?_,un.tups,un.frzs,un.tbls⟩,fun b u e=>?_⟩
 ·have e2:=un.keep b o e n hb hx;obtain⟨o2,e3,e4⟩:=Ib b o e hb;rw[e2] at e3;cases e3;exact st b _ e4
 ·obtain⟨sl,e1⟩:=un.slot b o e n hb hx;obtain⟨Jq,e2⟩:=frame b _ e1 hb;exact⟨Jq,e2⟩
 ·by_cases hb:b∈frs stk
  ·obtain⟨o1,e1⟩:=un.there b o e hx;obtain⟨Jq,e2⟩:=frame b _ e1 hb;exact⟨_,e2⟩
  ·obtain⟨o2,e3,e4⟩:=Ib b o e hb;exact⟨o2,st b _ e4⟩
 ·refine(hok b u e).stay (fun c v hc q=>?_) (fun _ q=>q) fun _ _ q=>q;rcases hc with z|z
  ·subst z;exact st _ _ (Jb _ u v e q)
  ·exact st _ _ (Jb c _ v z q)
section
variable{X:Cx}{body:List bM}{x n:Str}{np hp pos:Pos}{Kb:bM}{bs:List bM}{tb:XK->TS}{th:TS}{D:ac}{i:Nat}
def FF(hc:X.calm=true)(Ic:X.stack=X.env::X.outer)(hf:X.env.frame=some X.env.locals)(Mw:X.ex=[])(hb:PSxs X body tb)(hg:Gl X x)(hm:X.mg x=some (.ref D))(ZD:Exc X.K D)(hN:X.N.Nodup)(hi:X.N[i]?=some n)(hl:X.env.scope.names.lookup n=some .local)(hh:∀a,PSs (hnd X a) (Kb::bs) th)(hd:NDb x:=by decide) :
  PS X (.Try body [.ExceptHandler (some (.Name x np)) (some n) (Kb::bs) hp] [] [] pos) (tTry X.K D i tb th):=by
 intro GX s σ H Dn I h;refine wpAny_Try_except (bo (hb GX s σ H Dn _ I h) (fun fl s1 q1=>?_) fun e s1 q1=>?_)
 ·cases fl with
  |next=>exact dO q1
  |brk=>exact q1
  |cont=>exact q1
  |ret v=>exact q1
 ·obtain⟨H1,s2,J,a,C,t,B,H',rfl,Je,IP,un,hok,fl,Jb,Ib,C',eC,ZC,sub,hth⟩:=q1;cases eC;have Mu:X.A.frames=some (X.env::X.outer):=by rw[<-Ic];exact J.ok.frames
  have ha:s2.heap.get? a=none:=by
   cases q:s2.heap.get? a with
   |none=>rfl
   |some o =>
    exfalso;by_cases hb:a∈frs X.stack
    ·obtain⟨_,o3,e3,Jh⟩:=fl.2.2.1.mem (show a∈X.stack.filterMap (·.frame) from hb);obtain⟨oe,vs,e4,_,e5,_⟩:=fl.first;rw[e4] at e3;cases e3;exact Jh vs e5
    ·obtain⟨o',_,e⟩:=Ib a o q hb;rw[fl.2.1] at e;cases e
  have inv:∀{h2:ba}{tk:Nat},B.StaysIn h2->s1.heap.UpToSlots h2->Inv X GX σ H' { s1 with heap:=h2,toks:=tk }:=fun{h2 tk} st up=>by obtain⟨u2,ok2⟩:=flown un hok fl Jb Ib st up;exact J.call' (s':={ s1 with heap:=h2,toks:=tk }) (ch:=[]) Je u2 ok2 IP (fun b z=>absurd z (by simp))
  have J7:H' a=none:=by
   cases q:H' a with
   |none=>rfl
   |some u =>
    exfalso;obtain⟨oe,e4,_⟩:=fl.there;have:=Jb a u oe q e4;rw[fl.2.1] at this;cases this
  have fl1:iW B (X.env::X.outer) a (.ref C) t s1.heap:=by rw[<-Ic];exact fl
  refine wpAny_looks_onW Mu hf fl1 fun h4 KJ up4=>?_;refine wpAny_landsW KJ fun h5 MQ up5=>?_;have I5:Inv X GX σ H' { s1 with heap:=h5 }:=inv (tk:=s1.toks) MQ.1 (up4.trans up5);have I5h:Inv (hnd X a) GX σ H' { s1 with heap:=h5 }:=I5.hnd;refine wpAny_handleBy_cons (codeAny_handlers_test (pV (X:=hnd X a) I5h hg hm ?_ hd)) (by intro z;cases z);obtain⟨oe,e4,MV⟩:=MQ.there;refine wV ZC ZD I5.kIn sub e4 MV (codeAny_handlers_suite_as ?_);refine lands_againW MQ fun h6 fl6 up6=>?_;have I6:Inv X GX σ H' { s1 with heap:=h6 }:=inv (tk:=s1.toks) fl6.1 ((up4.trans up5).trans up6);have Lg:∀b o,s2.heap.get? b=some o->b≠a:=fun b o e z=>by rw[z,ha] at e;cases e
  have I7:Inv X GX σ (upd H' a (yJ C a)) { s1 with heap:=h6 }:=by
   refine⟨I6.ok,I6.os,I6.bare,⟨I6.base.keep,I6.base.slot,fun b o e z hx=>?_,I6.base.there,fun b xs e=>?_,fun b o u e=>?_,fun b ps e=>?_⟩,I6.loc,I6.cell,?_,fun y c e=>?_,fun p hp=>?_,fun b u e=>?_,I6.len⟩
   ·obtain⟨o',e'⟩:=J.base.there b o e hx;rw[jN (Lg b o' e')];exact I6.base.free b o e z hx
   ·rw[jN (jY (I6.base.tups b xs e) J7)];exact I6.base.tups b xs e
   ·rw[jN (jY (I6.base.frzs b o u e) J7)];exact I6.base.frzs b o u e
   ·obtain⟨m1,e1⟩:=I6.base.tbls b ps e;exact⟨m1,by rw[jN (jY e1 J7)];exact e1⟩
   ·obtain⟨m,⟨o,_,_,ho,_⟩,_⟩:=J.loc;rw[jN (Lg _ o ho)];exact I6.free
   ·obtain⟨v,o,ho,_⟩:=J.cell y c e;rw[jN (Lg _ o ho)];exact I6.freeC y c e
   ·obtain⟨e1,z1,r1⟩:=I6.pin p hp;refine⟨e1,?_,r1⟩;rw[jN (Lg _ _ (J.pin p hp).1)];exact z1
   ·by_cases hb:b=a
    ·subst hb;rw[jR] at e;cases e;obtain⟨oe,vs,e7,c7,d7,_⟩:=fl6.first;exact D6 ⟨oe,vs,e7,c7,d7⟩
    ·rw[jN hb] at e;exact(I6.hok b u e).stay (fun c v _ q=>q) (fun c q=>by rw[jN (jY q J7)];exact q) fun c xs q=>by rw[jN (jY q J7)];exact q
  refine o7 (v:=.ref a) I7 hN hi (.inl hl) rfl (fun s8 I8=>?_) (.inr hl);refine bo (hh a GX s8 _ _ _ I8.hnd (hth a J7)) (fun fl9 s9 q9=>?_) fun _ _ z=>bh z;have ok:=I8.ok;cases fl9 with
  |next =>
   obtain⟨σ9,H9,I9,q9⟩:=q9;exact tz (I9.unhnd ok) hN hi hl fun K7 Jo=>⟨_,H9,Jo,q9⟩
  |brk =>
   obtain⟨σ9,H9,I9,q9⟩:=q9;exact tz (I9.unhnd ok) hN hi hl fun K7 Jo=>⟨_,H9,Jo,q9⟩
  |cont =>
   obtain⟨σ9,H9,I9,q9⟩:=q9;exact tz (I9.unhnd ok) hN hi hl fun K7 Jo=>⟨_,H9,Jo,q9⟩
  |ret v =>
   obtain⟨y,σ9,H9,I9,r9,q9⟩:=q9;exact tz (I9.unhnd ok) hN hi hl fun K7 Jo=>⟨y,_,H9,Jo,r9,q9⟩
def AU{st:bM}{t:XK->TS}(h:PSx X st t):PSxs X [st] t:=by
 intro GX s σ H Dn E I hq;refine gU (thn (h GX s σ H Dn E I hq) fun f s1 q=>?_);cases f with
 |next=>exact dO q
 |brk=>exact q
 |cont=>exact q
 |ret v=>exact q
def leS(a b:Str):Bool:=!ed b.cps.toList a.cps.toList
theorem qt:∀a:List Nat,ed a a=false
 |[]=>rfl
 |a::r=>by show(decide (a<a)||(a==a&&ed r r))=false;rw[qt r];simp
theorem oV:∀{a b c:List Nat},ed a b=true->ed b c=true->ed a c=true
 |[],_,[],h1,h2=>by
  cases ‹List Nat› with
  |nil=>exact h1
  |cons x r=>exact absurd (show ed (x::r) []=true from h2) (by intro z;cases z)
 |[],_,_::_,_,_=>rfl
 |a::r,[],_,h1,_=>by cases h1
 |a::r,b::t,[],_,h2=>by cases h2
 |a::r,b::t,c::u,h1,h2=>by
  have h1:(decide (a<b)||(a==b&&ed r t))=true:=h1;have h2:(decide (b<c)||(b==c&&ed t u))=true:=h2;show(decide (a<c)||(a==c&&ed r u))=true;simp only[fZ,decide_eq_true_eq,bT,beq_iff_eq] at h1 h2 ⊢;rcases h1 with h1|⟨e1,g1⟩
  ·rcases h2 with h2|⟨e2,g2⟩
   ·exact .inl (by omega)
   ·exact .inl (by omega)
  ·rcases h2 with h2|⟨e2,g2⟩
   ·exact .inl (by omega)
   ·exact .inr ⟨e1.trans e2,oV g1 g2⟩
theorem rC:∀a b:List Nat,ed a b=false->ed b a=false->a=b
 |[],[],_,_=>rfl
 |[],_::_,h,_=>by cases h
 |_::_,[],_,h=>by cases h
 |a::r,b::t,h1,h2=>by
  have h1:(decide (a<b)||(a==b&&ed r t))=false:=h1;have h2:(decide (b<a)||(b==a&&ed t r))=false:=h2;simp only[Bool.or_eq_false_iff,decide_eq_false_iff_not,Bool.and_eq_false_iff,beq_eq_false_iff_ne] at h1 h2;have e:a=b:=by omega
  subst e;rw[rC r t (h1.2.resolve_left fun z=>z rfl) (h2.2.resolve_left fun z=>z rfl)]
def Ab(a b:Str):leS a b=true\/leS b a=true:=by
 unfold leS;cases h:ed b.cps.toList a.cps.toList with
 |false=>exact .inl rfl
 |true =>
  right;cases h2:ed a.cps.toList b.cps.toList with
  |false=>rfl
  |true =>
   have:=oV h h2;rw[qt] at this;cases this
def Bp{a b:Str}(h1:leS a b=true)(h2:leS b a=true):a=b:=by unfold leS at h1 h2;have e:=rC b.cps.toList a.cps.toList (by simpa using h1) (by simpa using h2);obtain⟨⟨x⟩⟩:=a;obtain⟨⟨y⟩⟩:=b;have e:y=x:=e;rw[e]
def vo{a b c:Str}(h1:leS a b=true)(h2:leS b c=true):leS a c=true:=by
 unfold leS at *;cases h:ed c.cps.toList a.cps.toList with
 |false=>rfl
 |true =>
  exfalso;have h1:ed b.cps.toList a.cps.toList=false:=by simpa using h1
  have h2:ed c.cps.toList b.cps.toList=false:=by simpa using h2
  cases h3:ed b.cps.toList c.cps.toList with
  |true =>
   have:=oV h3 h;rw[h1] at this;cases this
  |false =>
   have e:=rC _ _ h3 h2;rw[e,h] at h1;cases h1
def Az(x:Str):List Str->List Str
 |[]=>[x]
 |y::r=>if leS x y then x::y::r else y::Az x r
def srt:List Str->List Str
 |[]=>[]
 |x::r=>Az x (srt r)
theorem rG(x:Str):∀l,(Az x l).Perm (x::l)
 |[]=>.refl _
 |y::r=>by
  unfold Az;split
  ·exact .refl _
  ·exact((rG x r).cons y).trans (.swap x y r)
theorem kl:∀l,(srt l).Perm l
 |[]=>.refl _
 |x::r=>(rG x (srt r)).trans ((kl r).cons x)
theorem rO(x:Str):∀l,l.Pairwise (fun a b=>leS a b=true)->(Az x l).Pairwise (fun a b=>leS a b=true)
 |[],_=>by simp[Az]
 |y::r,h=>by
  obtain⟨h1,h2⟩:=cw.mp h;unfold Az;split
  ·rename_i Li;refine cw.mpr ⟨fun z hz=>?_,h⟩;rcases aj.mp hz with rfl|hz
   ·exact Li
   ·exact vo Li (h1 z hz)
  ·rename_i Li;refine cw.mpr ⟨fun z hz=>?_,rO x r h2⟩;rcases aj.mp ((rG x r).mem_iff.mp hz) with rfl|hz
   ·exact(Ab z y).resolve_left Li
   ·exact h1 z hz
theorem lP:∀l,(srt l).Pairwise (fun a b=>leS a b=true)
 |[]=>.nil
 |x::r=>rO x _ (lP r)
theorem lR:∀{l m:List Str},l.Perm m->l.Pairwise (fun a b=>leS a b=true)->m.Pairwise (fun a b=>leS a b=true)->l=m
 |[],m,p,_,_=>(List.nil_perm.mp p).symm
 |a::l,[],p,_,_=>absurd (List.perm_nil.mp p) (by simp)
 |a::l,b::m,p,h1,h2=>by
  obtain⟨a1,a2⟩:=cw.mp h1;obtain⟨b1,b2⟩:=cw.mp h2;have e:a=b:=by
   have ha:a∈b::m:=p.mem_iff.mp ap;have hb:b∈a::l:=p.mem_iff.mpr ap;rcases aj.mp ha with e|ha
   ·exact e
   ·rcases aj.mp hb with e|hb
    ·exact e.symm
    ·exact Bp (a1 b hb) (b1 a ha)
  subst e;rw[lR (List.Perm.cons_inv p) a2 b2]
def p4(l:List Str):(srt l).length=l.length:=(kl l).length_eq
theorem oa:∀(p:Str)(l:List Str),risingS p l=true->(p::l).Pairwise (fun a b=>leS a b=true)
 |p,[],_=>List.pairwise_singleton _ _
 |p,x::r,h=>by
  have h:(!ed x.cps.toList p.cps.toList&&risingS x r)=true:=h;rw[bT] at h;have ih:=oa x r h.2;refine cw.mpr ⟨fun z hz=>?_,ih⟩;rcases aj.mp hz with rfl|hz
  ·exact h.1
  ·exact vo (show leS p x=true from h.1) ((cw.mp ih).1 z hz)
def qS:∀(l:List Str),sortedS l=true->l.Pairwise (fun a b=>leS a b=true)
 |[],_=>.nil
 |x::r,h=>oa x r h
def Ct{l m:List Str}(p:l.Perm m)(h:sortedS l=true):l=srt m:=lR (p.trans (kl m).symm) (qS l h) (lP m)
theorem sL:∀{ss:List Str}{us:List ae},Vals (ss.map V.str) us->StrsAre us ss
 |[],_,.nil=>.nil
 |x::ss,_,.cons ⟨t,e⟩ r=>by subst e;exact .cons x t (sL r)
theorem we:∀{ss:List Str}{us:List ae},StrsAre us ss->Vals (ss.map V.str) us
 |_,_,.nil=>.nil
 |_,_,.cons x t r=>.cons ⟨t,rfl⟩ (we r)
theorem zc:∀(xs:List V)(us:List ae),xs.length=us.length->(∀(j:Nat) x u,xs[j]?=some x->us[j]?=some u->RelV x u)->Vals xs us
 |[],[],_,_=>.nil
 |[],_::_,e,_=>by cases e
 |_::_,[],e,_=>by cases e
 |x::xs,u::us,e,h=>.cons (h 0 x u rfl rfl) (zc xs us (iw e) fun j y v e1 e2=>h (j+1) y v (by simpa using e1) (by simpa using e2))
def call_sortedL:CallR X (.builtin "sorted") (fun xs H Q=>∃p ss,xs=[.ref p]/\SqL X.K H p (ss.map V.str)/\ss.length<64/\∀l,H l=none->Q (.ref l) (upd H l (.lst ((srt ss).map V.str)))):=by
 intro GX s σ H xs us Q I r h;obtain⟨p,ss,rfl,hq,hz,q⟩:=h;obtain⟨u,rfl,ru⟩:=oB r;cases ru;obtain⟨its,rv,pl,hz2⟩:=I.list hq;have hS:=sL rv;have hl:its.length=ss.length:=by have:=rv.length;rw[af] at this;exact this.symm
 refine sorted_strs pl.isList hS (by omega) fun out ss' h1 h2 h3=>?_;have e:=Ct h2 h3;subst e;obtain⟨ep,HV⟩:=sortedAll_at s.heap its out;have hf:H (s.heap.objs.size+1)=none:=I.hok.fresh (eG _);refine⟨.ref _,_,I.laid (t':=s.toks) (fun b o e=>sortedAll_old e) (eG _) (o:=.lst ((srt ss).map V.str)) ?_,rfl,q _ hf⟩;refine⟨?_,out.toList,ep,we h1,?_⟩
 ·rw[af,p4];exact aC (dU hz) (by decide)
 ·rw[HV]
def nT(hc:X.calm=true):CallR X (.builtin "sorted") (fun xs H Q=>∃p kvs ss,xs=[.ref p]/\Rd H p (.dK kvs)/\kvs.map (·.1)=ss.map am/\ss.length<64/\∀l,H l=none->Q (.ref l) (upd H l (.lst ((srt ss).map V.str)))):=by
 intro GX s σ H xs us Q I r h;obtain⟨p,kvs,ss,rfl,hq,hk,hz,q⟩:=h;obtain⟨u,rfl,ru⟩:=oB r;cases ru;obtain⟨z,JF,vs,rel,dd⟩:=qP I.hok hq;obtain⟨ep,HV⟩:=dd.dictAt;have G1:vs.length=ss.length:=by have e1:=rel.length;have e2:=congrArg b7 hk;rw[af,af] at e2;omega
 refine Calls.call_function_entry kind_sorted plain_sorted entry_sorted (args_sorted1 _) ?_;unfold Builtin.«sorted»;refine ao (m:=checkCount "sorted" 1 1 _) (aH ?_);refine ao (PySem.W.kdu_collect (A:=X.A.in1) (PySem.W.kdl_dict (knd:=kG X.prog X.w) (kvs:=vs) (ep:=ep) JF) (I.ok.hd hc) HV (aC (by omega) (show 64<=aB by decide)) fun h' tk Ha hkp KR=>?_);have hl:Ha.toList.length=vs.length:=by rw[eK];exact KR.1
 have hS:StrsAre Ha.toList ss:=by
  refine sL (zc _ _ (by rw[af,hl,G1]) fun j x u e1 e2=>?_);obtain⟨k,y,e3,e4⟩:=KR.2 j u (by rw[<-i0];exact e2);have e5:(vs.map (·.1))[j]?=some k:=by rw[aY,e3];rfl
  rw[<-rel.keys,hk,aY] at e5;rw[aY] at e1;cases e6:ss[j]? with
  |none=>rw[e6] at e1;cases e1
  |some z =>
   rw[e6] at e1 e5;have e1:V.str z=x:=aO e1;have e5:am z=k:=aO e5;subst e1 e5;rcases ku (k:=am z) (v:=u) e4 with⟨i,t,q1,_⟩|⟨y',t,q1,q2⟩
   ·cases q1
   ·cases q1;exact⟨t,q2⟩
 refine ao (wpAny_newList ?_ (by rw[hl];exact aC (by omega) (show 64<=aB by decide)));have J1:(h'.push (seqObj "list" Ha.toList.toArray 0)).get? h'.objs.size=some (seqObj "list" Ha.toList.toArray 0):=a7 _ rfl;refine ao (dJ (wpAny_call_entry slot_list_sort ⟨_,J1,rfl⟩ entry_list_sort (list_sort_treeK strKind_oneLt J1 hS.keysOf (fun Kd Kc lY e=>keyKind_strs (by rw[<-e];exact hS)) (by omega) fun Ij a1 a2=>⟨_,rfl,?_⟩) (args_list_sort _)));refine aH ⟨_,rfl,?_⟩;obtain⟨ss',h1,h2,h3⟩:=sorted_out_str hS a1 a2;have e:=Ct h2 h3;subst e;have I1:Inv X GX σ H { s with heap:=h',toks:=tk }:=I.kept hkp;obtain⟨e',MG⟩:=sortedHeap_at (out:=(arrOf Ij).map (·.2)) J1;have hf:H h'.objs.size=none:=I1.hok.fresh (aq _);refine⟨.ref _,_,I1.laid (t':=tk) (fun b o e=>?_) (aq _) (o:=.lst ((srt ss).map V.str)) ?_,rfl,q _ hf⟩
 ·have Hs:b<h'.objs.size:=aE e;refine(sortedHeap_old (aT Hs) (by rw[size_push'];exact cU Hs)).trans ?_;exact av _ e
 ·refine⟨?_,((arrOf Ij).map (·.2)).toList,e',we h1,?_⟩
  ·rw[af,p4];exact aC (dU hz) (by decide)
  ·exact MG
end
def Its(x:Str):It:=⟨fun i _=>i<x.cps.size,fun i H v H'=>H'=H/\∃c,x.cps[i]?=some c/\v=.str ⟨#[c]⟩,fun i _=>x.cps.size<=i⟩
def uX{P:az}{w:aU}{A:bx}(hh:A.handled=none)(it:ac)(x:Str)(t:Tok):Walks P w A it [it] [it] x.cps.size (SignAt x) (fun i h=>h.IsStrIter it (gI x) x t i):=by
 unfold gI;split
 ·exact Walks.strAscii hh it x t
 ·exact Walks.strWide hh it x t
def AC{P:az}{w:aU}{K:aa}{tg:aN}(it:ac)(x:Str)(t:Tok):Turn P w K tg (Its x) [it] it (fun i h=>i<=x.cps.size/\h.IsStrIter it (gI x) x t i) where
 mem:=by simp
 obj:=fun i h st b hb=>by
  have e:b=it:=by simpa using hb
  subst e;obtain⟨_,o,e,c,d⟩:=st;exact⟨o,e,fun v z=>by rw[d] at z;cases z⟩
 keep:=fun i h h' st k=>by obtain⟨z,o,e,c,d⟩:=st;exact⟨z,o,k it (by simp) o e,c,d⟩
 item:=by intro X hP hw hK hc i GX s σ H E I hf st hg;subst hP hw hK;obtain⟨f0,f1,f2,f3,f4,f5⟩:=hf it (by simp);refine(uX (I.ok.hd hc) it x t).item i s _ _ hg st.2 fun v h' tk hv Ij kk=>?_;obtain⟨c,u,e1,e2⟩:=hv;subst e2;have I1:Inv X GX σ H { s with heap:=h',toks:=tk }:=I.turned (fun b o hb e=>kk b o (by simpa using hb) e) f0 f1 f3 f4 f5;obtain⟨o,e,cl,d⟩:=id Ij;refine⟨_,rfl,yC (s:={ s with heap:=h',toks:=tk }) e cl d ?_ ⟨.str ⟨#[c]⟩,H,I1,⟨u,rfl⟩,⟨rfl,c,e1,rfl⟩,⟨hg,Ij⟩,fun b hb=>(hf b hb).1⟩⟩;unfold gI;split<;>decide
 done:=by intro X hP hw hK hc i GX s σ H E I hf st hg;subst hP hw hK;obtain⟨f0,f1,f2,f3,f4,f5⟩:=hf it (by simp);have e:i=x.cps.size:=ip st.1 hg;subst e;exact(uX (I.ok.hd hc) it x t).done s _ _ st.2 fun h' tk kk=>⟨rfl,I.turned (fun b o hb e=>kk b o (by simpa using hb) e) f0 f1 f3 f4 f5⟩
 self:=fun A i s Q E st h=>by
  obtain⟨_,st⟩:=st;unfold gI at st;split at st
  ·exact wpAny_pyIter_striter_ascii st h
  ·exact wpAny_pyIter_striter_wide st h
section
variable{X:Cx}{tg:aN}
def iStr(tl:TE):TI:=fun σ H R=>tl σ H fun v H1=>∃x,v=.str x/\R (Its x) H1
def FH{l:aN}{tl:TE}(hl:PE X l tl):PI X tg l (iStr tl):=by
 intro GX s σ H R I h;refine thn (hl GX s σ H _ I h) fun v s1 ⟨y,H1,I1,r1,q1⟩=>?_;obtain⟨x,e,q⟩:=q1;subst e;obtain⟨t,rfl⟩:=r1;refine wpAny_pyIter_strU ?_;refine⟨s1.heap.objs.size,[s1.heap.objs.size],_,_,H1,rfl,I1.kept (t':=s1.toks) fun b o e=>av _ e,AC _ x t,⟨a6 _,_,a7 _ rfl,rfl,rfl⟩,fun b hb=>?_,q⟩;have e:b=s1.heap.objs.size:=by simpa using hb
 subst e;exact I1.fpOk (aq _) (I1.hok.fresh (aq _))
end
section
variable{X:Cx}{GX:List (ac×Obj)}{σ:St}{H:Hp}{s:ah}{d:ac}{kvs:List (Key×V)}{ob:Obj}
def Inv.redo{u u':HO}(I:Inv X GX σ H s)(hd:H d=some u)(n1:∀y,u≠.own y)(n2:∀xs,u≠.tup xs)(n3:∀o v,X.Ha0 d≠some (.frz o v))(n4:∀ps,u≠.tbl ps)(ok:ObjOk X.prog X.w (upd H d u') s.heap d u'):Inv X GX σ (upd H d u') s:=by
 have ne:∀b v,H b=some v->v≠u->b≠d:=fun b v e hv z=>by subst z;rw[hd] at e;exact hv (aO e).symm
 have nn:∀b,H b=none->b≠d:=fun b e z=>by subst z;rw[hd] at e;cases e
 refine⟨I.ok,I.os,I.bare,⟨I.base.keep,I.base.slot,fun b o e z hx=>?_,I.base.there,fun b xs e=>?_,fun b o v e=>?_,fun b ps e=>?_⟩,I.loc,I.cell,?_,fun y c e=>?_,fun p hp=>?_,fun b v e=>?_,I.len⟩
 ·have:=I.base.free b o e z hx;rw[jN (nn b this)];exact this
 ·have:=I.base.tups b xs e;rw[jN (ne b _ this fun z=>n2 xs z.symm)];exact this
 ·have:=I.base.frzs b o v e;have hb:b≠d:=fun z=>by subst z;exact n3 o v e
  rw[jN hb];exact this
 ·obtain⟨m,e1⟩:=I.base.tbls b ps e;exact⟨m,by rw[jN (ne b _ e1 fun z=>n4 _ z.symm)];exact e1⟩
 ·rw[jN (nn _ I.free)];exact I.free
 ·rw[jN (nn _ (I.freeC y c e))];exact I.freeC y c e
 ·obtain⟨e1,z1,r1⟩:=I.pin p hp;exact⟨e1,by rw[jN (nn _ z1)];exact z1,r1⟩
 ·by_cases hb:b=d
  ·subst hb;rw[jR] at e;cases e;exact ok
  ·rw[jN hb] at e;exact(I.hok b v e).stay (fun c v _ q=>q) (fun c q=>by rw[jN (ne c _ q fun z=>n1 _ z.symm)];exact q) fun c xs q=>by rw[jN (ne c _ q fun z=>n2 _ z.symm)];exact q
def Fd{P:az}{w:aU}{H H':Hp}{h:ba}(x:ObjOk P w H h d (.dK kvs)):ObjOk P w H' h d (.dK kvs):=x
def Inv.freeze(I:Inv X GX σ H s)(hd:H d=some (.dK kvs))(ho:s.heap.get? d=some ob):Inv X GX σ (upd H d (.frz ob (.dK kvs))) s :=
 I.redo hd (by intro y z;cases z) (by intro y z;cases z) (fun o v z=>by rw[I.base.frzs d o v z] at hd;cases hd) (by intro y z;cases z) ⟨ho,Fd (I.hok d _ hd)⟩
def Inv.thaw(I:Inv X GX σ H s)(hd:H d=some (.frz ob (.dK kvs)))(n3:∀o v,X.Ha0 d≠some (.frz o v)):Inv X GX σ (upd H d (.dK kvs)) s :=
 I.redo hd (by intro y z;cases z) (by intro y z;cases z) n3 (by intro y z;cases z) (Fd (show ObjOk X.prog X.w H s.heap d (.frz ob (.dK kvs)) from I.hok d _ hd).2)
end
def Itd(d:ac)(ob:Obj)(kvs:List (Key×V)):It :=
 ⟨fun i H=>i<kvs.length/\H d=some (.frz ob (.dK kvs)),fun i H v H'=>H'=H/\∃kv,kvs[i]?=some kv/\v=kV kv.1,fun i H=>kvs.length<=i/\H d=some (.frz ob (.dK kvs))⟩
def Cy{X:Cx}{GX:List (ac×Obj)}{σ:St}{H:Hp}{s:ah}{d:ac}{kvs:List (Key×V)}{ob:Obj}{MS:Array DictEntry}{ep:Nat}(I:Inv X GX σ H s)(hd:H d=some (.frz ob (.dK kvs)))(he:ob.data=.dict MS ep) :
  ∃vs,KV kvs vs/\s.heap.DictAt (kG X.prog X.w) d vs ep:=by
 obtain⟨e,z,_,vs,rel,dd⟩:=(show ObjOk X.prog X.w H s.heap d (.frz ob (.dK kvs)) from I.hok d _ hd);obtain⟨Lv,o,es,e1,e2,e3,e4⟩:=dd.dictAt;rw[e] at e1;cases e1;rw[he] at e3;cases e3;exact⟨vs,rel,ob,_,e,e2,he,e4⟩
def vb{P:az}{w:aU}{K:aa}{tg:aN}(d it:ac)(ob:Obj)(kvs:List (Key×V))(MS:Array DictEntry)(ep:Nat)(he:ob.data=.dict MS ep) :
  Turn P w K tg (Itd d ob kvs) [it] it (fun i h=>i<=kvs.length/\h.IsKeyIter it d i kvs.length ep) where
 mem:=by simp
 obj:=fun i h st b hb=>by
  have e:b=it:=by simpa using hb
  subst e;obtain⟨_,o,e,c,d⟩:=st;exact⟨o,e,fun v z=>by rw[d] at z;cases z⟩
 keep:=fun i h h' st k=>by obtain⟨z,o,e,c,d⟩:=st;exact⟨z,o,k it (by simp) o e,c,d⟩
 item:=by
  intro X hP hw hK hc i GX s σ H E I hf st hg;subst hP hw hK;obtain⟨f0,f1,f2,f3,f4,f5⟩:=hf it (by simp);obtain⟨hi,hd⟩:=hg;obtain⟨vs,rel,at_⟩:=Cy I hd he;have hl:=rel.length;have hiv:i<vs.length:=by omega
  have Mr:s.heap.IsKeyIter it d i vs.length ep:=by rw[<-hl];exact st.2
  refine wpAny_pyNext_dict_item (k:=vs[i].1) (v:=vs[i].2) Mr at_ (by simp[hiv]) fun key h' hk it' sb=>?_;have I1:Inv X GX σ H { s with heap:=h' }:=I.turned (t':=s.toks) (fun b o hb e=>(sb.2 b hb).trans e) f0 f1 f3 f4 f5;have JN:kvs[i].1=vs[i].1:=by
   have e1:(kvs.map (·.1))[i]?=(vs.map (·.1))[i]?:=by rw[rel.keys]
   rw[aY,aY,bc hi,bc hiv] at e1;exact aO e1
  obtain⟨o,e,cl,dt⟩:=id it';refine⟨key,rfl,yC (s:={ s with heap:=h' }) e cl dt (by decide) ⟨kV kvs[i].1,H,I1,?_,⟨rfl,kvs[i],by simp[hi],rfl⟩,⟨hi,by rw[hl];exact it'⟩,fun b hb=>(hf b hb).1⟩⟩;rw[JN];have hk:uQ vs[i].1 key=true:=hk;rcases ku hk with⟨z,t,q1,q2⟩|⟨z,t,q1,q2⟩
  ·rw[q1,q2];exact⟨t,rfl⟩
  ·rw[q1,q2];exact⟨t,rfl⟩
 done:=by
  intro X hP hw hK hc i GX s σ H E I hf st hg;subst hP hw hK;obtain⟨f0,f1,f2,f3,f4,f5⟩:=hf it (by simp);obtain⟨hi,hd⟩:=hg;obtain⟨vs,rel,at_⟩:=Cy I hd he;have hl:=rel.length;have Mr:s.heap.IsKeyIter it d i vs.length ep:=by rw[<-hl];exact st.2
  exact wpAny_pyNext_dict_end (I.ok.hd hc) Mr at_ (by simp;omega) fun h' eb=>⟨rfl,I.turned (t':=s.toks) (fun b o hb e=>eb b o hb e) f0 f1 f3 f4 f5⟩
 self:=fun A i s Q E st h=>by exact wpAny_pyIter_keyiter st.2 h
section
variable{X:Cx}{tg:aN}
def Nm(x:Str):Prop:=x.length<=100/\∀c∈x.cps.toList,c<16^8
def vk:OpR X (bI .LtE) (fun x y H Q=>∃i j,x=.str i/\y=.str j/\Q (.bl (!decide (j.cps.toList<i.cps.toList))) H):=by intro GX s σ H x y v u Q I rx ry h;obtain⟨i,j,rfl,rfl,q⟩:=h;obtain⟨t,rfl⟩:=rx;obtain⟨t',rfl⟩:=ry;exact PySem.P.le_str ⟨.bl _,H,I,rfl,q⟩
def DB:MtR X "str.join" (fun x vs H Q=>∃(z:Str)(p:ac)(ys:List Str),x=.str z/\vs=[.ref p]/\SqL X.K H p (ys.map V.str)/\(ys.map (·.length)).sum+ys.length*z.length<=16777216/\Q (.str (Txt.join z ys)) H):=by intro GX s σ H x vs v us Q I rx rv h;obtain⟨z,p,ys,rfl,rfl,hq,hz,q⟩:=h;obtain⟨t,rfl⟩:=rx;obtain⟨u,rfl,ru⟩:=rv.one;cases ru;obtain⟨its,r,pl,hz2⟩:=I.list hq;exact join_list pl.isList (by simpa using sL r) hz fun t' k=>⟨.str _,H,I.tok k,⟨t',rfl⟩,q⟩
def BJ:CallR X (.builtin "all") (fun xs H Q=>∃(p:ac)(bs:List Bool),xs=[.ref p]/\SqL X.K H p (bs.map V.bl)/\X.calm=true/\Q (.bl (bs.all id)) H):=by
 intro GX s σ H xs us Q I r h;obtain⟨p,bs,rfl,hq,hc,q⟩:=h;obtain⟨u,rfl,ru⟩:=oB r;cases ru;obtain⟨its,rv,pl,hz2⟩:=I.list hq;have hl:its.length=bs.length:=by have:=rv.length;rw[af] at this;exact this.symm
 have Hr:p≠s.heap.objs.size:=by obtain⟨o,ho,_⟩:=pl.isList;exact aT (aE ho)
 refine call_all_walk (ib pl.isList ?_);refine⟨s.heap.objs.size,_,_,its.toArray.size,_,_,fun i=>(bs[i]?).getD true,rfl,Walks.list (show X.A.in1.handled=none from I.ok.hd hc) _ p Hr its.toArray,⟨⟨_,a7 _ rfl,rfl,rfl⟩,pl.isList.push _⟩,?_,fun h' tk hk=>?_⟩
 ·intro i v s' Q' E' hP hQ;have hP:its.toArray[i]?=some v:=hP;have hv:its[i]?=some v:=by simpa using hP
  have hi:i<its.length:=(bD.mp hv).1;obtain⟨u',hu',ru'⟩:=rv.get (i:=i) (x:=.bl bs[i]) (by simp[<-hl,hi]);rw[hv] at hu';cases hu';cases ru';refine cY ?_;have e:(bs[i]?).getD true=bs[i]:=by simp[<-hl,hi]
  rw[<-e];exact hQ
 ·have I1:Inv X GX σ H { s with heap:=h',toks:=tk }:=I.kept fun b o e=>hk b o (fun z=>by
   have e1:b=s.heap.objs.size:=by simpa using z
   exact absurd (aE e) (by rw[e1];exact cO _)) (av _ e)
  refine⟨.bl _,H,I1,rfl,?_⟩;have e:(bi its.toArray.size).all (fun i=>(bs[i]?).getD true)=bs.all id:=by
   rw[aJ,hl,bQ,cJ,cJ];constructor
   ·intro z b hb;obtain⟨i,hi,rfl⟩:=List.mem_iff_getElem.mp hb;have:=z i (cX.mpr hi);simpa[hi] using this
   ·intro z i hi;have hi:=cX.mp hi;simpa[hi] using z bs[i] (de hi)
  rw[e];exact q
def D7:List V->List V->Bool
 |[],[]=>true
 |x::xs,y::ys=>eqV x y&&D7 xs ys
 |_,_=>false
theorem xG:∀{xs ys:List V},xs.length=ys.length->D7 xs ys=(bi xs.length).all fun i=>eqV ((xs[i]?).getD .non) ((ys[i]?).getD .non)
 |[],[],_=>rfl
 |[],_::_,h=>by cases h
 |_::_,[],h=>by cases h
 |x::xs,y::ys,h=>by show(eqV x y&&D7 xs ys)=_;rw[xG (iw h),bR,iY,gE,List.all_map];rfl
def yx{A:bx}{s:ah}{xs ys:List V}{us ws:List ae}(rx:Vals xs us)(ry:Vals ys ws)(hl:xs.length=ys.length)(fx:xs.all oj=true)(fy:ys.all oj=true) :
  ∀j (h1:j<us.toArray.size) (h2:j<ws.toArray.size),jw A s us.toArray[j] ws.toArray[j] (eqV ((xs[j]?).getD .non) ((ys[j]?).getD .non)):=by
 intro j h1 h2;have e1:=rx.length;have e2:=ry.length;have MO:j<xs.length:=by rw[e1];simpa using h1
 have MN:j<ys.length:=by rw[e2];simpa using h2
 obtain⟨u,hu,ru⟩:=rx.get (i:=j) (x:=xs[j]) (by simp[MO]);obtain⟨w,hw,HG⟩:=ry.get (i:=j) (x:=ys[j]) (by simp[MN]);have e3:us.toArray[j]=u:=by
  have:us[j]?=some us.toArray[j]:=by simp[show j<us.length by simpa using h1]
  rw[hu] at this;exact(aO this).symm
 have e4:ws.toArray[j]=w:=by
  have:ws[j]?=some ws.toArray[j]:=by simp[show j<ws.length by simpa using h2]
  rw[hw] at this;exact(aO this).symm
 rw[e3,e4];have e5:(xs[j]?).getD .non=xs[j]:=by simp[MO]
 have e6:(ys[j]?).getD .non=ys[j]:=by simp[MN]
 rw[e5,e6];exact CA ru HG (cJ.mp fx _ (de MO)) (cJ.mp fy _ (de MN))
def gLst(K:aa)(n:Nat)(t:TGs):TG:=fun v σ H Q=>∃a xs,v=.ref a/\SqL K H a xs/\xs.length=n/\t xs σ H Q
def FK{es:List aN}{k:Nat}{t:TGs}{n:Nat}{pos:Pos}(hc:X.calm=true)(h:PGs X es t)(hn:(b8 es X.env).length=n:=by rfl)(Ic:(b8 es X.env).findIdx? (·.1)=none:=by rfl):PG X (.Tuple es k pos) (gLst X.K n t):=by
 intro GX s σ H v u Q I r hw;obtain⟨a,xs,e1,hq,hl,hw⟩:=hw;subst e1;cases r;obtain⟨its,rv,ht,hz⟩:=I.list hq;rw[assign_Tuple];refine ao (eQ ?_);unfold unpack;have hsz:(b8 es X.env).length=its.toArray.size:=by simp[hn,<-hl,rv.length]
 rw[hsz,Ic];refine ao (dJ (PySem.W.kun_itemsOf (I.ok.hd hc) ht.isList fun h' hx=>?_));have I1:Inv X GX σ H { s with heap:=h' }:=I.kept (t':=s.toks) fun b o e=>hx b o (aT (aE e)) e;exact h GX _ σ H xs _ Q I1 (by simpa using rv) hw
def PJ(X:Cx)(es:List aN)(t:St->Hp->(Hp->Prop)->Prop):Prop:=∀(GX:List (ac×Obj))(s:ah)(σ:St)(H:Hp)(Ha:Str)(n:Nat)(Q:Hp->Prop),Inv X GX σ H s->Ha.length<=2000*n->n+es.length<=100->t σ H Q ->
 Joins (model X.prog X.w) X.A X.xe (evalEach es X.env) Ha (fun out s1=>out.length<=aB/\∃H',Inv X GX σ H' s1/\Q H') s
def jNil:St->Hp->(Hp->Prop)->Prop:=fun _ H Q=>Q H
def jRep(te:TE)(t:St->Hp->(Hp->Prop)->Prop):St->Hp->(Hp->Prop)->Prop:=fun σ H Q=>te σ H fun v H1=>(∃x,v=.str x/\Nm x)/\t σ H1 Q
def uu:PJ X [] jNil:=fun GX s σ H Ha n Q I h1 h2 h=>⟨aC h1 (aC (jI 2000 (show n<=100 by simpa using h2)) (by decide)),H,I,h⟩
def sZ(a b:Str):(a++b).length=a.length+b.length:=strLen_append a b
def ut{c:Str}{j pos}{es:List aN}{t:St->Hp->(Hp->Prop)->Prop}(hr:PJ X es t)(hl:c.length<=2000:=by decide):PJ X (.Constant (.str c) j pos::es) t:=by
 intro GX s σ H Ha n Q I h1 h2 h;have h2:n+(es.length+1)<=100:=h2;refine jy ⟨c,s.toks,rfl,?_,hr GX _ σ H (Ha++c) (n+1) Q (I.tok _) ?_ (by omega) h⟩
 ·rw[sZ];exact aC (show Ha.length+c.length<=2000*101 by omega) (by decide)
 ·rw[sZ];omega
def sk{e:aN}{pos:Pos}{es:List aN}{te:TE}{t:St->Hp->(Hp->Prop)->Prop}(he:PE X e te)(hr:PJ X es t):PJ X (.FormattedValue e 114 none pos::es) (jRep te t):=by
 intro GX s σ H Ha n Q I h1 h2 h;have h2:n+(es.length+1)<=100:=h2;refine wpAny_FormattedValue_repr (thn (he GX s σ H _ I h) fun v s1 ⟨y,H1,I1,r1,⟨x,e1,nm⟩,q1⟩=>?_);subst e1;obtain⟨tk,rfl⟩:=r1;have G1:(f8 x).length<=1002:=aC (PySem.StrLaws.reprText_len x nm.2) (by have:=nm.1;omega);have hsz:(f8 x).length<=aB:=aC G1 (by decide);have Hd:∀tk s2,Inv X GX σ H1 s2->∃y t',fC (f8 x) tk=.str y t'/\(Ha++y).length<=aB/\Joins (model X.prog X.w) X.A X.xe (evalEach es X.env) (Ha++y) (fun out s1=>out.length<=aB/\∃H',Inv X GX σ H' s1/\Q H') s2:=fun tk s2 I2=>by
  refine⟨_,tk,rfl,?_,hr GX s2 σ H1 _ (n+1) Q I2 ?_ (by omega) q1⟩
  ·rw[sZ];exact aC (show Ha.length+(f8 x).length<=2000*101 by omega) (by decide)
  ·rw[sZ];omega
 refine wpAny_pyReprObj_str ?_ hsz;exact wpAny_formatField_str (Hd _ _ (I1.tok _)) (Hd _ _ ((I1.tok _).tok _)) hsz
def tFs(t:St->Hp->(Hp->Prop)->Prop):TE:=fun σ H Q=>t σ H fun H1=>∀x,Q (.str x) H1
def yk{Kd Kc:aN}{lY:List aN}{pos:Pos}{t:St->Hp->(Hp->Prop)->Prop}(h:PJ X (Kd::Kc::lY) t)(hl:(Kd::Kc::lY).length<=100:=by decide):PE X (.JoinedStr (Kd::Kc::lY) pos) (tFs t):=by
 intro GX s σ H Q I hq;refine wpAny_JoinedStr ?_;have:=h GX s σ H cq 0 (fun H1=>∀x,Q (.str x) H1) I (a6 _) (by omega) hq;revert this;generalize evalEach (Kd::Kc::lY) X.env=parts;generalize cq=Ha;intro this;clear h hl hq I;induction parts generalizing Ha s with
 |nil =>
  obtain⟨z,H',I',q⟩:=this;exact⟨z,.str Ha,H',I'.tok _,⟨_,rfl⟩,q Ha⟩
 |cons p ps ih =>
  refine bo this (fun v s1 ⟨y,t,e,z,k⟩=>⟨y,t,e,z,ih _ _ k⟩) fun _ _ z=>z
end
def Fn(P:az)(w:aU)(K:aa)(mg:Str->Option ae)(base:ba)(x:Str)(k:Nat)(ps:List Str)(sp:Sp):Prop :=
 ∃f fd,FnOk P w K mg base (CXo P w) k f fd ps sp/\mg x=some (.ref f)/\b5 K (.ref f)=true/\Binds K fd ps []
def Mt(P:az)(w:aU)(K:aa)(mg:Str->Option ae)(base:ba)(C:ac)(m:Str)(k:Nat)(ps:List Str)(sp:Sp):Prop :=
 ∃f fd,FnOk P w K mg base (CXo P w) k f fd ps sp/\Meth K C m f/\Cls K C/\Binds K fd ps []
def MkB(P:az)(w:aU)(K:aa)(mg:Str->Option ae)(base:ba)(x:Str)(C:ac)(k:Nat)(ps:List Str)(sp:Sp):Prop :=
 ∃f fd,FnOk P w K mg base (CXo P w) k f fd ps sp/\mg x=some (.ref C)/\Mk K C f/\Binds K fd ps []
section
variable{X:Cx}{k:Nat}{C:ac}{ps:List Str}{sp:Sp}{E:XK}{x m:Str}{p pos G0:Pos}{e o:aN}{es:List aN}{ta:TE}{t:TA}
def qL(F:Fn X.prog X.w X.K X.mg X.base x k ps sp)(hr:Room k X.A)(hg:Gl X x)(hx:mz (CXo X.prog X.w) X E)(ha:PA X (e::es) t)(HC:NDb x:=by decide)(he:SEb X e es:=by rfl)(Hn:(bV pos (ar es X.env)).any (·.1)=false:=by rfl):PE X (.Call (.Name x p) (e::es) [] pos) (xX sp [] E t):=by
 obtain⟨f,fd,F,hm,hk,hb⟩:=F;exact Dl F hr hg hm hk hb .nil hx ha HC he Hn
def FL(F:Fn X.prog X.w X.K X.mg X.base x k ps sp)(hr:Room k X.A)(hg:Gl X x)(ha:PA X.nox (e::es) t)(HC:NDb x:=by decide)(he:SEb X e es:=by rfl)(Hn:(bV pos (ar es X.env)).any (·.1)=false:=by rfl):PEx X (.Call (.Name x p) (e::es) [] pos) (fun E=>xX sp [] E t):=by
 obtain⟨f,fd,F,hm,hk,hb⟩:=F;exact AZ F hr hg hm hk hb .nil ha HC he Hn
def pC{pl:Sem Bool}(he:PE X o ta)(M:Mt X.prog X.w X.K X.mg X.base C m k ps sp)(hr:Room k X.A)(hx:mz (CXo X.prog X.w) X E)(ha:PA X (e::es) t)(Ic:SEb X e es:=by rfl)(Hn:(bV pos (ar es X.env)).any (·.1)=false:=by rfl)(ht:eval (.Call (.Attribute o m G0) (e::es) [] pos) X.env=(do
   let ov <-eval o X.env
   ig G0.atName
   let(f,first) <-holding [ov] (iB ov m pl)
   callWith pos f first (bV pos (ar (e::es) X.env)) (f9 pos (dX [] X.env))):=by rfl):PE X (.Call (.Attribute o m G0) (e::es) [] pos) (EK C m sp [] E ta t):=by
 obtain⟨f,fd,F,hm,c,hb⟩:=M;exact Dk (pl:=pl) he c hm F hr hb .nil hx ha Ic Hn ht
def FM(M:MkB X.prog X.w X.K X.mg X.base x C k ps sp)(hr:Room (k+1) X.A)(hg:Gl X x)(hx:mz (CXo X.prog X.w) X E)(HC:NDb x:=by decide):PE X (.Call (.Name x p) [] [] pos) (EL C sp [] E EJ):=by obtain⟨f,fd,F,hm,mk,hb⟩:=M;exact A8 mk F hr hg hm hb .nil hx HC
def nG:OpR X (cH .FloorDiv) (rI (fun _ j=>0<j/\j.natAbs.log2<9000) fun i j=>.int (i/j)):=opI fun i j _ _ _ _ _ hc q=>by have h1:(0:Int)<j:=hc.1;exact floordiv_int (by omega) (by rw[Int.fdiv_eq_ediv_of_nonneg i (by omega)];exact q) (.inl (PyProof.noPylong_of_log2 hc.2))
end
section
variable{P:az}{w:aU}{K:aa}{mg:Str->Option ae}{base:ba}
def Fun.okN{x qual:Str}{st:bM}{f:ac}{fd:bJ}{N ps:List Str}{k:Nat}{sp:Sp}(F:Fun K x qual st f fd)(S:FnScope N ps (jS st))(len:∀vs H Q E,sp vs H Q E->vs.length=ps.length)(Ig:∀(G3:ae)(A:bx)(outer:List Env)(s:ah)(H:Hp)(vs:List V)(Q:VK)(E:XK),Room k (A.deeper (dF qual (jS st) s.heap.objs.size f G3))->sp vs H Q E ->
   ∃t,PSs (xJ (CXo P w) P w K mg base N qual (jS st) f G3 A outer s H E).nox (kO st) t/\t { nx:=fun _ H'=>Q .non H',rt:=Q } (start N vs) H):FnOk P w K mg base (CXo P w) (k+1) f fd ps sp:=by
 obtain⟨oc,od,kV,HX,pm,an,G3,ct,IZ,rfl,lk,Ie⟩:=F.ex;refine E9 lk Ie S len fun A outer s H vs Q E hr IS=>?_;obtain⟨t,h,q⟩:=Ig G3 A outer s H vs Q E hr IS;exact⟨t,h.nox,q⟩
def Fun.okX{x qual:Str}{st:bM}{f:ac}{fd:bJ}{N ps:List Str}{k:Nat}{sp:Sp}(F:Fun K x qual st f fd)(S:FnScope N ps (jS st))(len:∀vs H Q E,sp vs H Q E->vs.length=ps.length)(Ig:∀(G3:ae)(A:bx)(outer:List Env)(s:ah)(H:Hp)(vs:List V)(Q:VK)(E:XK),Room k (A.deeper (dF qual (jS st) s.heap.objs.size f G3))->sp vs H Q E ->
   ∃t,PSs (xJ (CXo P w) P w K mg base N qual (jS st) f G3 A outer s H E) (kO st) t/\t { nx:=fun _ H'=>Q .non H',rt:=Q } (start N vs) H):FnOk P w K mg base (CXo P w) (k+1) f fd ps sp:=by
 obtain⟨oc,od,kV,HX,pm,an,G3,ct,IZ,rfl,lk,Ie⟩:=F.ex;exact E9 lk Ie S len fun A outer s H vs Q E hr IS=>Ig G3 A outer s H vs Q E hr IS
end
def zE{J:It}{tc:TT}{te:TE}{cap:St}{D:ac}{Q:VK}{H1:Hp}(n:Nat)(R:Nat->List V->Hp->Prop)(h0:R 0 [] (upd H1 D (.lst [])))(hn:n<=aB)(hD:∀i ys H,R i ys H->H D=some (.lst ys))(hgo:∀i ys H,i<n->R i ys H->J.go i H)(Kv:∀i ys H x H',i<n->R i ys H->J.yld i H x H'->∀(Kt:VK)(Kf:Hp->Prop),(∀v H5,H5 D=some (.lst ys)->R (i+1) (ys++[v]) (upd H5 D (.lst (ys++[v])))->Kt v H5)->(∀H4,R (i+1) ys H4->Kf H4) ->
   tc (some x::cap) H' fun b H4=>if b=true then te (some x::cap) H4 Kt else Kf H4)(Mx:∀ys H,ys.length<=n->R n ys H->J.stop n H/\Q (.ref D) H) :
  CompB J tc te cap D H1 Q:=by
 refine⟨fun i m ys H=>i<=n/\m=n-i/\ys.length<=i/\R i ys H,⟨n,a6 _,by simp,a6 _,h0⟩,?_⟩
 rintro i m ys H2 ⟨hi,rfl,hl,r⟩
 by_cases Hs:i<n
 ·refine .inr ⟨hgo i ys H2 Hs r,fun x H3 y=>Kv i ys H2 x H3 Hs r y _ _ (fun v H5 e r'=>⟨e,by omega,n-(i+1),by omega,Hs,rfl,by rw[aI];simp;omega,r'⟩) fun H4 r'=>⟨n-(i+1),by omega,Hs,rfl,by omega,r'⟩⟩
 ·have e:i=n:=by omega
  subst e;obtain⟨h1,h2⟩:=Mx ys H2 hl r;exact .inl ⟨h1,hD i ys H2 r,h2⟩
def wG:bj "len"=some (.builtin "len"):=by decide +kernel
def lU:bj "isinstance"=some (.builtin "isinstance"):=by decide +kernel
def vD:bj "sorted"=some (.builtin "sorted"):=by decide +kernel
def GH:bj "abs"=some (.builtin "abs"):=by decide +kernel
def CG:bj "all"=some (.builtin "all"):=by decide +kernel
def CF:bj "int"=some (.type "int"):=by decide +kernel
def xN:bj "tuple"=some (.type "tuple"):=by decide +kernel
def zG:bj "list"=some (.type "list"):=by decide +kernel
def CD:bj "str"=some (.type "str"):=by decide +kernel
def Ey:bj "bool"=some (.type "bool"):=by decide +kernel
def uN:bj "ValueError"=some (.type "ValueError"):=by decide +kernel
end L2
set_option maxHeartbeats 4000000
namespace My
open PySem L2
abbrev Same:=L2.Same
def nE{H:Hp}{p:ac}{o:HO}(h:H p=none):Same H (upd H p o):=fun b u e=>by rw[jN (jY e h)];exact e
def nbT{b:Bool}(h:(!b)=true):b=false:=by cases b<;>first|rfl|cases h
def nbF{b:Bool}(h:¬(!b)=true):b=true:=by cases b<;>first|rfl|exact absurd rfl h
structure Ent where
 nm:Str
 th:Int
 mr:Int
 ls:Int
 held:List (Str×Int×Int)
structure BA where
 dx:ac
 dp:ac
 dt:ac
 dm:ac
 dl:ac
 dh:ac
def bf(z:BA):List (Str×V):=[(("people":Str),V.ref z.dp),("things_of",.ref z.dt),("mark_of",.ref z.dm),("loss_of",.ref z.dl),("held_of",.ref z.dh)]
def kU{g f:Str}{v:V}{r:List (Str×V)}(h:¬f=g):cm f ((g,v)::r)=cm f r:=by
 rw[bF];have:(f==g)=false:=by simpa using h
 rw[this]
def qZ{f:Str}{v:V}{r:List (Str×V)}:cm f ((f,v)::r)=some v:=by rw[bF];simp
def rL(z:BA):(bf z).lookup ("people":Str)=some (V.ref z.dp):=qZ
def Aq(z:BA):(bf z).lookup ("things_of":Str)=some (V.ref z.dt):=by unfold bf;rw[kU (by decide +kernel)];exact qZ
def Ez(z:BA):(bf z).lookup ("mark_of":Str)=some (V.ref z.dm):=by unfold bf;rw[kU (by decide +kernel),kU (by decide +kernel)];exact qZ
def EA(z:BA):(bf z).lookup ("loss_of":Str)=some (V.ref z.dl):=by unfold bf;rw[kU (by decide +kernel),kU (by decide +kernel),kU (by decide +kernel)];exact qZ
def re(z:BA):(bf z).lookup ("held_of":Str)=some (V.ref z.dh):=by unfold bf;rw[kU (by decide +kernel),kU (by decide +kernel),kU (by decide +kernel),kU (by decide +kernel)];exact qZ
def pH(z:BA){m:Str}(h1:¬m="people":=by decide +kernel)(h2:¬m="things_of":=by decide +kernel)(h3:¬m="mark_of":=by decide +kernel)(h4:¬m="loss_of":=by decide +kernel)(h5:¬m="held_of":=by decide +kernel):(bf z).lookup m=none:=by unfold bf;rw[kU h1,kU h2,kU h3,kU h4,kU h5];rfl
def HeldAt(K:aa)(H:Hp)(p:ac)(l:List (Str×Int×Int)):Prop :=
 ∃ts:List ac,ts.length=l.length/\H p=some (.dK ((l.zip ts).map fun q=>(am q.1.1,V.ref q.2)))/\∀q∈l.zip ts,SqT K H q.2 [.int q.1.2.1,.int q.1.2.2]
def PmAt(H:Hp)(d:ac)(S:List (Key×V)):Prop:=∃T:List (Key×V),H d=some (.dK T)/\T.Perm S/\(S.map (·.1)).Nodup
theorem sJ{k:Key}{v:V}:∀{l:List (Key×V)},(l.map (·.1)).Nodup->(lX l k=some v↔(k,v)∈l)
 |[],_=>⟨fun h=>(by cases h),fun h=>(by cases h)⟩
 |x::r,h=>by
  obtain⟨h1,h2⟩:=aD.mp h;have ih:=sJ (k:=k) (v:=v) h2;unfold lX at ih ⊢;rw[bP];by_cases e:x.1=k
  ·rw[decide_eq_true e];constructor
   ·intro q;have q:x.2=v:=aO q;rw[<-q,<-e];exact ap
   ·intro q;rcases aj.mp q with q|q
    ·rw[<-q];rfl
    ·exact absurd (ai.mpr ⟨(k,v),q,rfl⟩) (by rw[<-e];exact h1)
  ·rw[decide_eq_false e];refine ih.trans ⟨fun q=>ak _ q,fun q=>?_⟩;rcases aj.mp q with q|q
   ·exact absurd (by rw[<-q]) e
   ·exact q
def w5{T S:List (Key×V)}(p:T.Perm S)(nd:(S.map (·.1)).Nodup)(k:Key):lX T k=lX S k:=by apply Option.ext;intro v;rw[sJ ((p.map (·.1)).nodup_iff.mpr nd),sJ nd,p.mem_iff]
def PmAt.keep{H H':Hp}{d:ac}{S:List (Key×V)}(h:PmAt H d S)(k:∀o,H d=some o->H' d=some o):PmAt H' d S:=by obtain⟨T,e,p,n⟩:=h;exact⟨T,k _ e,p,n⟩
def PmAt.dget{H:Hp}{d:ac}{S:List (Key×V)}(h:PmAt H d S)(x:Str):DGet H d (kV (am x)) (lX S (am x)):=by obtain⟨T,e,p,n⟩:=h;rw[<-w5 p n];exact DGet.k e
structure BookAt(K:aa)(C:ac)(H:Hp)(b:ac)(z:BA)(GZ:List Str)(L:List (Ent×ac)):Prop where
 ob:H b=some (.ins C z.dx (bf z))
 pp:H z.dp=some (.dK (GZ.map fun n=>(am n,.bl true)))
 tt:H z.dt=some (.dK (L.map fun e=>(am e.1.nm,.int e.1.th)))
 mm:H z.dm=some (.dK (L.map fun e=>(am e.1.nm,.int e.1.mr)))
 ll:H z.dl=some (.dK (L.map fun e=>(am e.1.nm,.int e.1.ls)))
 hh:PmAt H z.dh (L.map fun e=>(am e.1.nm,.ref e.2))
 he:∀e∈L,HeldAt K H e.2 e.1.held
 nd:(b::z.dp::z.dt::z.dm::z.dl::z.dh::L.map (·.2)).Nodup
 p6:GZ.length<=6
 h8:L.length<=8
def BFp(b:ac)(z:BA)(L:List (Ent×ac)):List ac:=b::z.dp::z.dt::z.dm::z.dl::z.dh::L.map (·.2)
def pL{K:aa}{H H':Hp}{t:ac}{xs:List V}(h:SqT K H t xs)(k:∀c o,H c=some o->(∃xs,o=.tup xs\/∃ob,o=.frz ob (.tup xs))->H' c=some o):SqT K H' t xs:=by
 rcases h with(h|⟨ob,h⟩)|h
 ·exact .inl (.inl (k _ _ h ⟨xs,.inl rfl⟩))
 ·exact .inl (.inr ⟨ob,k _ _ h ⟨xs,.inr ⟨ob,rfl⟩⟩⟩)
 ·exact .inr h
def HeldAt.keep{K:aa}{H H':Hp}{p:ac}{l:List (Str×Int×Int)}(h:HeldAt K H p l)(hp:∀o,H p=some o->H' p=some o)(k:∀c o,H c=some o->(∃xs,o=.tup xs\/∃ob,o=.frz ob (.tup xs))->H' c=some o):HeldAt K H' p l:=by obtain⟨ts,e1,e2,e3⟩:=h;exact⟨ts,e1,hp _ e2,fun q hq=>pL (e3 q hq) k⟩
theorem BookAt.keep{K:aa}{C:ac}{H H':Hp}{b:ac}{z:BA}{GZ:List Str}{L:List (Ent×ac)}(B:BookAt K C H b z GZ L)(k:∀c o,H c=some o->(c∈BFp b z L\/∃xs,o=.tup xs\/∃ob,o=.frz ob (.tup xs))->H' c=some o):BookAt K C H' b z GZ L:=by refine⟨k _ _ B.ob (.inl (by simp[BFp])),k _ _ B.pp (.inl (by simp[BFp])),k _ _ B.tt (.inl (by simp[BFp])),k _ _ B.mm (.inl (by simp[BFp])),k _ _ B.ll (.inl (by simp[BFp])),B.hh.keep (fun o h=>k _ _ h (.inl (by simp[BFp]))),fun e he=>?_,B.nd,B.p6,B.h8⟩;refine(B.he e he).keep (fun o h=>k _ _ h (.inl ?_)) fun c o h x=>k c o h (.inr x);unfold BFp;simp only[aj];right;right;right;right;right;right;exact ai.mpr ⟨e,he,rfl⟩
def BookAt.same{K:aa}{C:ac}{H H':Hp}{b:ac}{z:BA}{GZ:List Str}{L:List (Ent×ac)}(B:BookAt K C H b z GZ L)(s:Same H H'):BookAt K C H' b z GZ L:=B.keep fun c o h _=>s c o h
def lT(L:List (Ent×ac))(n:Str):Bool:=(L.find? fun e=>decide (e.1.nm=n)).isSome
def lv(GZ:List Str)(n:Str):Bool:=(GZ.find? fun m=>decide (m=n)).isSome
def nq{α:Type}(l:List α)(key:α->Str)(v:α->V)(n:Str):lX (l.map fun e=>((am (key e):Key),v e)) (am n)=(l.find? fun e=>decide (key e=n)).map v:=by
 unfold lX;rw[eX,Option.map_map];have e:((fun kv:Key×V=>decide (kv.1=am n))∘fun e=>((am (key e):Key),v e))=fun e=>decide (key e=n):=by
  funext x
  show decide ((am (key x):Key)=am n)=decide (key x=n);rw[uG]
 rw[e];rfl
end My
namespace L2
open PySem PySem.Spec PyProof.Rows
abbrev fzO(o:Obj):HO:=.frz o (.own 0)
section
variable{H:Hp}{cs:List (ac×Obj)}{b:ac}{o:Obj}
end
section
variable{P:az}{w:aU}{K:aa}{mg:Str->Option ae}{base:ba}{A:bx}{outer:List Env}{s s':ah}{H H2:Hp}{cs:List (ac×Obj)}
end
structure LamOk(scope:cA)(x:Str)(fr:List Str):Prop where
 kind:scope.kind=.function
 co:scope.isCoroutine=false
 gen:scope.isGenerator=false
 cell:∀y∈scope.names,y.2≠.cell
 par:scope.names.lookup x=some .local
 frs:∀y∈fr,scope.names.lookup y=some .free
 nd:(x::fr).Nodup
structure CloOk(scope:cA)(fr:List Str)(cl:List (Str×ac))(cs:List (ac×Obj))(JW:List V):Prop where
 has:∀y,scope.names.lookup y=some .free->∃c,cl.lookup y=some c
 inj:∀y z c,cl.lookup y=some c->cl.lookup z=some c->y=z
 cel:∀y c,cl.lookup y=some c->∃o u,cs.lookup c=some o/\o.data=.cell u
 val:∀(i:Nat)(y:Str)(v:V),fr[i]?=some y->JW[i]?=some v->∃c o u,cl.lookup y=some c/\cs.lookup c=some o/\o.data=.cell (some u)/\RelV v u
 len:JW.length=fr.length
section
variable{P:az}{w:aU}{K:aa}{mg:Str->Option ae}{base:ba}{CX:CXT}{k:Nat}{f c':ac}{qual x:Str}{params:iG}{body:aN}{scope:cA}{cl:List (Str×ac)}{cs:List (ac×Obj)}{pm ctv:ae}{fr:List Str}{JW:List V}{oc:Obj}
end
section
variable{X:Cx}{CX:CXT}{k i:Nat}{x:Str}{p pos:Pos}{e:aN}{es:List aN}{t:TA}{E:XK}
end
section
variable{X:Cx}{CX:CXT}{k:Nat}{f:ac}{fd:bJ}{ps:List Str}{sp:Sp}{E:XK}
end
def Fh(H:Hp)(P:ac)(q:Str):Prop:=∃ps,H P=some (.tbl ps)/\TriplesOk ps.toList/\∀pos c,codeAmong pos ps.toList=some c->∃c' oc,c=.ref c'/\H c'=some (fzO oc)/\∃vs tq,oc.data=.fields vs/\vs[1]?=some (.str q tq)
section
variable{X:Cx}{params:iG}{body:aN}{scope:cA}{pos:Pos}{cd P:ac}{q:Str}
structure LamTxt(K:aa)(mg:Str->Option ae)(base:ba)(cd P:ac):Prop where
 hd:∀h:ba,K.In h->PySem.W.CodeHd h cd P
 nP:P≠aS
 bm:∃bm o,mg "__builtins__"=some (.ref bm)/\bm≠g9/\bm≠aS/\bm≠P/\base.get? bm=some o/\o.cls=.type "module"/\o.dict=some g9/\o.data=.plain
end
def Odd(u:HO):Prop:=(∃ps,u=.tbl ps)\/∃ob x,u=.frz ob (.own x)
def TbS(H H':Hp):Prop:=(∀a ps,H a=some (.tbl ps)->∃JC,H' a=some (.tbl JC))/\∀P q,Fh H P q->Fh H' P q
def TbS.of{H H':Hp}(k:∀a o,H a=some o->Odd o->H' a=some o):TbS H H':=⟨fun a ps h=>⟨ps,k a _ h (.inl ⟨ps,rfl⟩)⟩,fun P q ⟨ps,h,t,g⟩=>⟨ps,k P _ h (.inl ⟨ps,rfl⟩),t,fun p c e=>by obtain⟨c',oc,a1,a2,a3⟩:=g p c e;exact⟨c',oc,a1,k c' _ a2 (.inr ⟨oc,0,rfl⟩),a3⟩⟩⟩
def TbS.same{H H':Hp}(k:Same H H'):TbS H H':=.of fun a o h _=>k a o h
theorem TbS.upd{H:Hp}{d:ac}{u o:HO}(h:H d=some u)(n:¬Odd u):TbS H (upd H d o):=.of fun a o' h' od=>by rw[jN (show a≠d from fun z=>by rw[z,h] at h';cases h';exact n od)];exact h'
def CO{kvs:List (Key×V)}:¬Odd (.dK kvs):=fun z=>by rcases z with⟨_,z⟩|⟨_,_,z⟩<;>cases z
def uD{xs:List V}:¬Odd (.lst xs):=fun z=>by rcases z with⟨_,z⟩|⟨_,_,z⟩<;>cases z
def Cn{C dx:ac}{fs:List (Str×V)}:¬Odd (.ins C dx fs):=fun z=>by rcases z with⟨_,z⟩|⟨_,_,z⟩<;>cases z
def F0{ob:Obj}{kvs:List (Key×V)}:¬Odd (.frz ob (.dK kvs)):=fun z=>by rcases z with⟨_,z⟩|⟨_,_,z⟩<;>cases z
def xR:List Str:=["rules"]
def Tab(K:aa)(P:ac)(q:Str):Prop:=∃x∈xR,∃c,PySem.W.tabIn K x=some (c,P)/\q=x++".<locals>.<lambda>"
inductive PV where
 |non|bl (b:Bool)|int (i:Int)|str (x:Str)|tup (l:List PV)|lst (l:List PV)|dct (l:List (Key×PV))|ref (n:Nat)|exc (c:ac)|seq (l:List PV)|clo (a:ac) (vs:List V) (l:List PV)
inductive Cell where
 |lst (l:List PV)|dct (l:List (Key×PV))|book (pp:List Str) (L:List My.Ent)|obj (C:ac) (fs:List (Str×PV))|dfz (l:List (Key×PV))
structure Sto where
 nx:Nat
 cs:List (Nat×Cell)
structure Mp where
 ad:Nat->ac
 fp:Nat->List ac
 hid:List ac
def mE:List (Nat×Cell)->Nat->Option Cell
 |[],_=>none
 |(k,c)::r,n=>if k=n then some c else mE r n
def ot(n:Nat)(c:Cell):List (Nat×Cell)->List (Nat×Cell)
 |[]=>[]
 |(k,d)::r=>if k=n then(n,c)::r else(k,d)::ot n c r
def wp(n:Nat):List (Nat×Cell)->List (Nat×Cell)
 |[]=>[]
 |(k,d)::r=>if k=n then r else(k,d)::wp n r
def Sto.get(s:Sto)(n:Nat):Option Cell:=mE s.cs n
def Sto.set(s:Sto)(n:Nat)(c:Cell):Sto:=⟨s.nx,ot n c s.cs⟩
def Sto.del(s:Sto)(n:Nat):Sto:=⟨s.nx,wp n s.cs⟩
def Sto.add(s:Sto)(c:Cell):Sto:=⟨s.nx+1,(s.nx,c)::s.cs⟩
theorem kY{n:Nat}{c:Cell}:∀{l:List (Nat×Cell)},mE l n=some c->(n,c)∈l
 |(k,d)::r,h=>by
  unfold mE at h;split at h
  ·rename_i e;cases h;subst e;exact ap
  ·exact ak _ (kY h)
theorem xm{n:Nat}{c:Cell}{q:Nat×Cell}:∀{l:List (Nat×Cell)},(l.map (·.1)).Nodup->q∈ot n c l->q=(n,c)\/(q∈l/\q.1≠n)
 |(k,d)::r,nd,h=>by
  unfold ot at h;obtain⟨n1,n2⟩:=aD.mp (show(k::r.map (·.1)).Nodup from nd);split at h
  ·rename_i e;rcases aj.mp h with h|h
   ·exact .inl h
   ·exact .inr ⟨ak _ h,fun z=>n1 (by rw[e,<-z];exact ai.mpr ⟨q,h,rfl⟩)⟩
  ·rename_i e;rcases aj.mp h with h|h
   ·subst h;exact .inr ⟨ap,e⟩
   ·rcases xm n2 h with h|⟨h,h'⟩
    ·exact .inl h
    ·exact .inr ⟨ak _ h,h'⟩
theorem lV{n:Nat}{c:Cell}:∀{l:List (Nat×Cell)},(ot n c l).map (·.1)=l.map (·.1)
 |[]=>rfl
 |(k,d)::r=>by
  unfold ot;split
  ·rename_i e;simp[e]
  ·simp[lV]
theorem pk{n:Nat}{q:Nat×Cell}:∀{l:List (Nat×Cell)},q∈wp n l->q∈l
 |(k,d)::r,h=>by
  unfold wp at h;split at h
  ·exact ak _ h
  ·rcases aj.mp h with h|h
   ·subst h;exact ap
   ·exact ak _ (pk h)
theorem zy{n:Nat}:∀{l:List (Nat×Cell)},(l.map (·.1)).Nodup->((wp n l).map (·.1)).Nodup
 |[],_=>iz
 |(k,d)::r,nd=>by
  obtain⟨n1,n2⟩:=aD.mp (show(k::r.map (·.1)).Nodup from nd);unfold wp;split
  ·exact n2
  ·refine aD.mpr ⟨fun z=>n1 ?_,zy n2⟩;obtain⟨q,hq,e⟩:=ai.mp z;exact ai.mpr ⟨q,pk hq,e⟩
theorem zw{n:Nat}{q:Nat×Cell}:∀{l:List (Nat×Cell)},(l.map (·.1)).Nodup->q∈wp n l->q.1≠n
 |(k,d)::r,nd,h=>by
  obtain⟨n1,n2⟩:=aD.mp (show(k::r.map (·.1)).Nodup from nd);unfold wp at h;split at h
  ·rename_i e;intro z;exact n1 (by rw[e,<-z];exact ai.mpr ⟨q,h,rfl⟩)
  ·rename_i e;rcases aj.mp h with h|h
   ·subst h;exact e
   ·exact zw n2 h
theorem m6{n k:Nat}{c:Cell}(h:k≠n):∀{l:List (Nat×Cell)},mE (ot n c l) k=mE l k
 |[]=>rfl
 |(j,d)::r=>by
  unfold ot;split
  ·rename_i e;unfold mE;rw[if_neg (fun z=>h z.symm),if_neg (fun z=>h (z.symm.trans e))]
  ·unfold mE;split
   ·rfl
   ·exact m6 h
theorem rP{n k:Nat}(h:k≠n):∀{l:List (Nat×Cell)},mE (wp n l) k=mE l k
 |[]=>rfl
 |(j,d)::r=>by
  unfold wp;split
  ·rename_i e
   conv=>rhs;unfold mE
   rw[if_neg (fun z=>h (z.symm.trans e))]
  ·unfold mE;split
   ·rfl
   ·exact rP h
def Pur(m:Mp)(s:Sto)(a:ac):Prop:=a∉m.hid/\∀n∈s.cs.map (·.1),a∉m.fp n
def KL(K:aa)(a:ac)(xs:List V):Prop:=∃(o:Obj)(its:Array ae)(n:Nat),K.lookup a=some o/\o.cls=.type "list"/\o.dict=none/\o.data=.seq its n/\its.size<=aB/\Vals xs its.toList
def KT'(K:aa)(a:ac)(xs:List V):Prop:=∃(o:Obj)(its:Array ae)(n:Nat),K.lookup a=some o/\o.cls=.type "tuple"/\o.data=.seq its n/\its.size<=aB/\Vals xs its.toList
mutual
inductive Rep (K:aa) (H:Hp) (m:Mp) (s:Sto):V->PV->Prop
 |non:Rep K H m s .non .non
 |bl {b:Bool}:Rep K H m s (.bl b) (.bl b)
 |int {i:Int}:Rep K H m s (.int i) (.int i)
 |str {x:Str}:Rep K H m s (.str x) (.str x)
 |tup {a:ac}{vs:List V}{l:List PV}:(Rd H a (.tup vs)/\Pur m s a\/KT' K a vs)->Reps K H m s vs l->Rep K H m s (.ref a) (.tup l)
 |lst {a:ac}{vs:List V}{l:List PV}:H a=some (.lst vs)->Pur m s a->Reps K H m s vs l->Rep K H m s (.ref a) (.lst l)
 |seq {a:ac}{vs:List V}{l:List PV}:((∃o,H a=some (.frz o (.lst vs)))/\Pur m s a\/KL K a vs)->Reps K H m s vs l->Rep K H m s (.ref a) (.seq l)
 |dct {a:ac}{vs:List (Key×V)}{l:List (Key×PV)}:Rd H a (.dK vs)->Pur m s a->RepKs K H m s vs l->Rep K H m s (.ref a) (.dct l)
 |ref {n:Nat}:n<s.nx->Rep K H m s (.ref (m.ad n)) (.ref n)
 |exc {a c:ac}:H a=some (yJ c a)->Pur m s a->Rep K H m s (.ref a) (.exc c)
 |clo {a:ac}{vs:List V}{l:List PV}:Reps K H m s vs l->Rep K H m s (.ref a) (.clo a vs l)
inductive Reps (K:aa) (H:Hp) (m:Mp) (s:Sto):List V->List PV->Prop
 |nil:Reps K H m s [] []
 |cons {v:V}{p:PV}{vs:List V}{l:List PV}:Rep K H m s v p->Reps K H m s vs l->Reps K H m s (v::vs) (p::l)
inductive RepKs (K:aa) (H:Hp) (m:Mp) (s:Sto):List (Key×V)->List (Key×PV)->Prop
 |nil:RepKs K H m s [] []
 |cons {k:Key}{v:V}{p:PV}{vs:List (Key×V)}{l:List (Key×PV)}:Rep K H m s v p->RepKs K H m s vs l->RepKs K H m s ((k,v)::vs) ((k,p)::l)
end
structure ExtR(H:Hp)(m:Mp)(s:Sto)(H':Hp)(m':Mp)(s':Sto):Prop where
 nx:s.nx<=s'.nx
 ad:∀n,n<s.nx->m'.ad n=m.ad n
 pu:∀a u,Rd H a u->Pur m s a->Rd H' a u/\Pur m' s' a
 el:∀a u,H a=some u->(∀kvs,u≠.dK kvs)->Pur m s a->H' a=some u
structure Ext0(H:Hp)(m:Mp)(s:Sto)(H':Hp)(m':Mp)(s':Sto):Prop extends ExtR H m s H' m' s' where
 df:∀n l,n<s.nx->mE s.cs n=some (.dfz l)->mE s'.cs n=some (.dfz l)/\∀o,H (m.ad n)=some o->H' (m.ad n)=some o
structure Ext(H:Hp)(m:Mp)(s:Sto)(H':Hp)(m':Mp)(s':Sto):Prop extends Ext0 H m s H' m' s' where
 hd:m'.hid=m.hid
 hk:∀a∈m.hid,∀o,H a=some o->(∀ps,o≠.tbl ps)->H' a=some o
def Ext.refl{H:Hp}{m:Mp}{s:Sto}:Ext H m s H m s:=⟨⟨⟨aq _,fun _ _=>rfl,fun _ _ h p=>⟨h,p⟩,fun _ _ h _ _=>h⟩,fun _ _ _ h=>⟨h,fun _ h=>h⟩⟩,rfl,fun _ _ _ h _=>h⟩
theorem Ext0.trans{H H1 H2:Hp}{m m1 m2:Mp}{s s1 s2:Sto}(a:Ext0 H m s H1 m1 s1)(b:Ext0 H1 m1 s1 H2 m2 s2):Ext0 H m s H2 m2 s2 :=
 ⟨⟨aC a.nx b.nx,fun n h=>(b.ad n (au h a.nx)).trans (a.ad n h),fun c u h p=>let⟨h1,p1⟩:=a.pu c u h p;b.pu c u h1 p1,fun c x h n p=>b.el c x (a.el c x h n p) n (a.pu c _ (.inl h) p).2⟩,fun n l hn h=>by obtain⟨h1,k1⟩:=a.df n l hn h;obtain⟨h2,k2⟩:=b.df n l (au hn a.nx) h1;rw[a.ad n hn] at k2;exact⟨h2,fun o h=>k2 o (k1 o h)⟩⟩
theorem Ext.trans{H H1 H2:Hp}{m m1 m2:Mp}{s s1 s2:Sto}(a:Ext H m s H1 m1 s1)(b:Ext H1 m1 s1 H2 m2 s2):Ext H m s H2 m2 s2 :=
 ⟨a.toExt0.trans b.toExt0,b.hd.trans a.hd,fun c hc o h n=>b.hk c (by rw[a.hd];exact hc) o (a.hk c hc o h n) n⟩
def Rd.same{H H':Hp}{a:ac}{u:HO}(k:Same H H')(h:Rd H a u):Rd H' a u:=h.elim (fun h=>.inl (k _ _ h)) fun⟨o,h⟩=>.inr ⟨o,k _ _ h⟩
def Rd.ne{H:Hp}{a b:ac}{u:HO}(h:Rd H a u)(hb:H b=none):a≠b:=h.elim (fun h=>jY h hb) fun⟨_,h⟩=>jY h hb
theorem Ext.same{H H':Hp}{m:Mp}{s:Sto}(k:Same H H'):Ext H m s H' m s:=⟨⟨⟨aq _,fun _ _=>rfl,fun _ _ h p=>⟨h.same k,p⟩,fun _ _ h _ _=>k _ _ h⟩,fun _ _ _ h=>⟨h,fun o h=>k _ _ h⟩⟩,rfl,fun _ _ _ h _=>k _ _ h⟩
mutual
theorem Rep.ext0{K:aa}{H H':Hp}{m m':Mp}{s s':Sto}(e:ExtR H m s H' m' s'):∀{v:V}{p:PV},Rep K H m s v p->Rep K H' m' s' v p
 |_,_,.non=>.non
 |_,_,.bl=>.bl
 |_,_,.int=>.int
 |_,_,.str=>.str
 |_,_,.tup h r=>.tup (h.imp (fun z=>e.pu _ _ z.1 z.2) fun z=>z) (Reps.ext0 e r)
 |_,_,.lst h p r=>.lst (e.el _ _ h (by intro _ z;cases z) p) (e.pu _ _ (.inl h) p).2 (Reps.ext0 e r)
 |_,_,.seq h r=>.seq (h.imp (fun⟨⟨o,z⟩,p⟩=>⟨⟨o,e.el _ _ z (by intro _ z;cases z) p⟩,(e.pu _ _ (.inl z) p).2⟩) fun z=>z) (Reps.ext0 e r)
 |_,_,.dct h p r=>.dct (e.pu _ _ h p).1 (e.pu _ _ h p).2 (RepKs.ext0 e r)
 |_,_,.ref (n:=n) h=>by rw[<-e.ad _ h];exact .ref (au h e.nx)
 |_,_,.exc h p=>.exc (e.el _ _ h (by intro _ z;cases z) p) (e.pu _ _ (.inl h) p).2
 |_,_,.clo r=>.clo (Reps.ext0 e r)
theorem Reps.ext0{K:aa}{H H':Hp}{m m':Mp}{s s':Sto}(e:ExtR H m s H' m' s'):∀{v:List V}{p:List PV},Reps K H m s v p->Reps K H' m' s' v p
 |_,_,.nil=>.nil
 |_,_,.cons a b=>.cons (Rep.ext0 e a) (Reps.ext0 e b)
theorem RepKs.ext0{K:aa}{H H':Hp}{m m':Mp}{s s':Sto}(e:ExtR H m s H' m' s'):∀{v:List (Key×V)}{p:List (Key×PV)},RepKs K H m s v p->RepKs K H' m' s' v p
 |_,_,.nil=>.nil
 |_,_,.cons a b=>.cons (Rep.ext0 e a) (RepKs.ext0 e b)
end
def Rep.ext{K:aa}{H H':Hp}{m m':Mp}{s s':Sto}(e:Ext H m s H' m' s'){v:V}{p:PV}(r:Rep K H m s v p):Rep K H' m' s' v p:=r.ext0 e.toExtR
def Reps.ext{K:aa}{H H':Hp}{m m':Mp}{s s':Sto}(e:Ext H m s H' m' s'){v:List V}{p:List PV}(r:Reps K H m s v p):Reps K H' m' s' v p:=r.ext0 e.toExtR
def RepKs.ext{K:aa}{H H':Hp}{m m':Mp}{s s':Sto}(e:Ext H m s H' m' s'){v:List (Key×V)}{p:List (Key×PV)}(r:RepKs K H m s v p):RepKs K H' m' s' v p:=r.ext0 e.toExtR
mutual
inductive Old (k:Nat):PV->Prop
 |non:Old k .non
 |bl {b:Bool}:Old k (.bl b)
 |int {i:Int}:Old k (.int i)
 |str {x:Str}:Old k (.str x)
 |tup {l:List PV}:Olds k l->Old k (.tup l)
 |lst {l:List PV}:Olds k l->Old k (.lst l)
 |seq {l:List PV}:Olds k l->Old k (.seq l)
 |dct {l:List (Key×PV)}:OldKs k l->Old k (.dct l)
 |ref {n:Nat}:n<k->Old k (.ref n)
 |exc {c:ac}:Old k (.exc c)
 |clo {a:ac}{vs:List V}{l:List PV}:Olds k l->Old k (.clo a vs l)
inductive Olds (k:Nat):List PV->Prop
 |nil:Olds k []
 |cons {p:PV}{l:List PV}:Old k p->Olds k l->Olds k (p::l)
inductive OldKs (k:Nat):List (Key×PV)->Prop
 |nil:OldKs k []
 |cons {q:Key}{p:PV}{l:List (Key×PV)}:Old k p->OldKs k l->OldKs k ((q,p)::l)
end
structure Sub(m:Mp)(s:Sto)(m':Mp)(s':Sto):Prop where
 pu:∀a,Pur m s a->Pur m' s' a
 ad:∀n,n<s'.nx->m'.ad n=m.ad n
mutual
theorem Rep.sub{K:aa}{H:Hp}{m m':Mp}{s s':Sto}(e:Sub m s m' s'):∀{v:V}{p:PV},Old s'.nx p->Rep K H m s v p->Rep K H m' s' v p
 |_,_,_,.non=>.non
 |_,_,_,.bl=>.bl
 |_,_,_,.int=>.int
 |_,_,_,.str=>.str
 |_,_,.tup o,.tup h r=>.tup (h.imp (fun z=>⟨z.1,e.pu _ z.2⟩) fun z=>z) (Reps.sub e o r)
 |_,_,.lst o,.lst h p r=>.lst h (e.pu _ p) (Reps.sub e o r)
 |_,_,.seq o,.seq h r=>.seq (h.imp (fun z=>⟨z.1,e.pu _ z.2⟩) fun z=>z) (Reps.sub e o r)
 |_,_,.dct o,.dct h p r=>.dct h (e.pu _ p) (RepKs.sub e o r)
 |_,_,.ref o,.ref _=>by rw[<-e.ad _ o];exact .ref o
 |_,_,_,.exc h p=>.exc h (e.pu _ p)
 |_,_,.clo o,.clo r=>.clo (Reps.sub e o r)
theorem Reps.sub{K:aa}{H:Hp}{m m':Mp}{s s':Sto}(e:Sub m s m' s'):∀{v:List V}{p:List PV},Olds s'.nx p->Reps K H m s v p->Reps K H m' s' v p
 |_,_,_,.nil=>.nil
 |_,_,.cons o q,.cons a b=>.cons (Rep.sub e o a) (Reps.sub e q b)
theorem RepKs.sub{K:aa}{H:Hp}{m m':Mp}{s s':Sto}(e:Sub m s m' s'):∀{v:List (Key×V)}{p:List (Key×PV)},OldKs s'.nx p->RepKs K H m s v p->RepKs K H m' s' v p
 |_,_,_,.nil=>.nil
 |_,_,.cons o q,.cons a b=>.cons (Rep.sub e o a) (RepKs.sub e q b)
end
mutual
theorem Rep.old{K:aa}{H:Hp}{m:Mp}{s:Sto}:∀{v:V}{p:PV},Rep K H m s v p->Old s.nx p
 |_,_,.non=>.non
 |_,_,.bl=>.bl
 |_,_,.int=>.int
 |_,_,.str=>.str
 |_,_,.tup _ r=>.tup (Reps.old r)
 |_,_,.lst _ _ r=>.lst (Reps.old r)
 |_,_,.seq _ r=>.seq (Reps.old r)
 |_,_,.dct _ _ r=>.dct (RepKs.old r)
 |_,_,.ref h=>.ref h
 |_,_,.exc _ _=>.exc
 |_,_,.clo r=>.clo r.old
theorem Reps.old{K:aa}{H:Hp}{m:Mp}{s:Sto}:∀{v:List V}{p:List PV},Reps K H m s v p->Olds s.nx p
 |_,_,.nil=>.nil
 |_,_,.cons a b=>.cons (Rep.old a) (Reps.old b)
theorem RepKs.old{K:aa}{H:Hp}{m:Mp}{s:Sto}:∀{v:List (Key×V)}{p:List (Key×PV)},RepKs K H m s v p->OldKs s.nx p
 |_,_,.nil=>.nil
 |_,_,.cons a b=>.cons (Rep.old a) (RepKs.old b)
end
def RepFs(K:aa)(H:Hp)(m:Mp)(s:Sto)(JV:List (Str×V))(fs:List (Str×PV)):Prop:=JV.map (·.1)=fs.map (·.1)/\Reps K H m s (JV.map (·.2)) (fs.map (·.2))
def CellOk(K:aa)(CB:ac)(H:Hp)(m:Mp)(s:Sto)(n:Nat):Cell->Prop
 |.lst l=>m.fp n=[m.ad n]/\∃vs,H (m.ad n)=some (.lst vs)/\Reps K H m s vs l
 |.dct l=>m.fp n=[m.ad n]/\∃vs,H (m.ad n)=some (.dK vs)/\RepKs K H m s vs l
 |.dfz l=>m.fp n=[m.ad n]/\∃ob vs,H (m.ad n)=some (.frz ob (.dK vs))/\RepKs K H m s vs l
 |.book pp L=>∃z L',My.BookAt K CB H (m.ad n) z pp L'/\L'.map (·.1)=L/\m.fp n=My.BFp (m.ad n) z L'
 |.obj C fs=>m.fp n=[m.ad n]/\∃dx JV,H (m.ad n)=some (.ins C dx JV)/\RepFs K H m s JV fs
structure SR(K:aa)(CB:ac)(H:Hp)(m:Mp)(s:Sto):Prop where
 nd:(s.cs.map (·.1)).Nodup
 lt:∀n∈s.cs.map (·.1),n<s.nx
 ok:∀q∈s.cs,CellOk K CB H m s q.1 q.2
 dj:∀n∈s.cs.map (·.1),∀k∈s.cs.map (·.1),n≠k->∀a∈m.fp n,a∉m.fp k
 hx:∀n∈s.cs.map (·.1),∀a∈m.fp n,a∉m.hid
 hs:∀a∈m.hid,H a≠none/\∀xs o,H a≠some (.tup xs)/\H a≠some (.frz o (.tup xs))/\H a≠some (.frz o (.lst xs))/\∀x,H a≠some (.frz o (.own x))
 tb:∀P q,Tab K P q->P∈m.hid/\Fh H P q
def SR.tbk{K:aa}{CB:ac}{H H':Hp}{m:Mp}{s:Sto}(S:SR K CB H m s)(e:TbS H H'):∀P q,Tab K P q->P∈m.hid/\Fh H' P q:=fun P q t=>⟨(S.tb P q t).1,e.2 P q (S.tb P q t).2⟩
def CellOk.kind{K:aa}{CB:ac}{H:Hp}{m:Mp}{s:Sto}{n:Nat}{c:Cell}(h:CellOk K CB H m s n c){a:ac}(ha:a∈m.fp n):∃o,H a=some o/\(∀xs,o≠.tup xs)/\(∀ob xs,o≠.frz ob (.tup xs)/\o≠.frz ob (.lst xs))/\¬Odd o:=by
 cases c with
 |lst l=>obtain⟨e,vs,h,_⟩:=h;rw[e,al] at ha;subst ha;exact⟨_,h,(by intro _ z;cases z),(fun _ _=>⟨(by intro z;cases z),(by intro z;cases z)⟩),uD⟩
 |dct l=>obtain⟨e,vs,h,_⟩:=h;rw[e,al] at ha;subst ha;exact⟨_,h,(by intro _ z;cases z),(fun _ _=>⟨(by intro z;cases z),(by intro z;cases z)⟩),CO⟩
 |dfz l=>obtain⟨e,ob,vs,h,_⟩:=h;rw[e,al] at ha;subst ha;exact⟨_,h,(by intro _ z;cases z),(fun _ _=>⟨(by intro z;cases z),(by intro z;cases z)⟩),F0⟩
 |obj C fs=>obtain⟨e,dx,vs,h,_⟩:=h;rw[e,al] at ha;subst ha;exact⟨_,h,(by intro _ z;cases z),(fun _ _=>⟨(by intro z;cases z),(by intro z;cases z)⟩),Cn⟩
 |book pp L =>
  obtain⟨z,L',B,_,e⟩:=h;rw[e] at ha;unfold My.BFp at ha;have d:∀{c:ac}{kvs:List (Key×V)},H c=some (.dK kvs)->∃o,H c=some o/\(∀xs,o≠.tup xs)/\(∀ob xs,o≠.frz ob (.tup xs)/\o≠.frz ob (.lst xs))/\¬Odd o:=fun h=>⟨_,h,(by intro _ z;cases z),(fun _ _=>⟨(by intro z;cases z),(by intro z;cases z)⟩),CO⟩;simp only[aj] at ha;rcases ha with rfl|rfl|rfl|rfl|rfl|rfl|ha
  ·exact⟨_,B.ob,(by intro _ z;cases z),(fun _ _=>⟨(by intro z;cases z),(by intro z;cases z)⟩),Cn⟩
  ·exact d B.pp
  ·exact d B.tt
  ·exact d B.mm
  ·exact d B.ll
  ·obtain⟨T,e,_⟩:=B.hh;exact d e
  ·obtain⟨q,hq,rfl⟩:=ai.mp ha;obtain⟨ts,_,h2,_⟩:=B.he q hq;exact d h2
def SR.pure_none{K:aa}{CB:ac}{H:Hp}{m:Mp}{s:Sto}(S:SR K CB H m s){a:ac}(h:H a=none):Pur m s a:=⟨fun z=>(S.hs a z).1 h,fun n hn ha=>by obtain⟨q,hq,rfl⟩:=ai.mp hn;obtain⟨o,e,_⟩:=(S.ok q hq).kind ha;rw[h] at e;cases e⟩
def SR.pure_tup{K:aa}{CB:ac}{H:Hp}{m:Mp}{s:Sto}(S:SR K CB H m s){a:ac}{xs:List V}(h:H a=some (.tup xs)):Pur m s a:=⟨fun z=>((S.hs a z).2 xs default).1 h,fun n hn ha=>by obtain⟨q,hq,rfl⟩:=ai.mp hn;obtain⟨o,e,k,_⟩:=(S.ok q hq).kind ha;rw[h] at e;cases e;exact k _ rfl⟩
def SR.pure_frz{K:aa}{CB:ac}{H:Hp}{m:Mp}{s:Sto}(S:SR K CB H m s){a:ac}{ob:Obj}{xs:List V}(h:H a=some (.frz ob (.tup xs))\/H a=some (.frz ob (.lst xs))):Pur m s a:=⟨fun z=>h.elim (fun h=>((S.hs a z).2 xs ob).2.1 h) fun h=>((S.hs a z).2 xs ob).2.2.1 h,fun n hn ha=>by
 obtain⟨q,hq,rfl⟩:=ai.mp hn;obtain⟨o,e,_,k,_⟩:=(S.ok q hq).kind ha;rcases h with h|h<;>(rw[h] at e;cases e)
 ·exact(k _ _).1 rfl
 ·exact(k _ _).2 rfl⟩
def SqT.keepX{K:aa}{CB:ac}{H H':Hp}{m m':Mp}{s s':Sto}(S:SR K CB H m s)(e:ExtR H m s H' m' s'){t:ac}{xs:List V}(h:SqT K H t xs):SqT K H' t xs:=by
 rcases h with h|h
 ·exact .inl (e.pu _ _ h (h.elim (fun h=>S.pure_tup h) fun⟨_,h⟩=>S.pure_frz (.inl h))).1
 ·exact .inr h
def RepFs.ext{K:aa}{H H':Hp}{m m':Mp}{s s':Sto}(e:ExtR H m s H' m' s'){a:List (Str×V)}{b:List (Str×PV)}(h:RepFs K H m s a b):RepFs K H' m' s' a b:=⟨h.1,h.2.ext0 e⟩
theorem CellOk.keep{K:aa}{CB:ac}{H H':Hp}{m m':Mp}{s s':Sto}{n:Nat}{c:Cell}(S:SR K CB H m s)(e:ExtR H m s H' m' s')(k:∀a∈m.fp n,∀o,H a=some o->H' a=some o)(ha:m'.ad n=m.ad n)(hf:m'.fp n=m.fp n)(h:CellOk K CB H m s n c):CellOk K CB H' m' s' n c:=by
 cases c with
 |lst l=>obtain⟨e1,vs,h,r⟩:=h;exact⟨by rw[ha,hf];exact e1,vs,by rw[ha];exact k _ (by rw[e1];simp) _ h,r.ext0 e⟩
 |dct l=>obtain⟨e1,vs,h,r⟩:=h;exact⟨by rw[ha,hf];exact e1,vs,by rw[ha];exact k _ (by rw[e1];simp) _ h,r.ext0 e⟩
 |dfz l=>obtain⟨e1,ob,vs,h,r⟩:=h;exact⟨by rw[ha,hf];exact e1,ob,vs,by rw[ha];exact k _ (by rw[e1];simp) _ h,r.ext0 e⟩
 |obj C fs=>obtain⟨e1,dx,vs,h,r⟩:=h;exact⟨by rw[ha,hf];exact e1,dx,vs,by rw[ha];exact k _ (by rw[e1];simp) _ h,RepFs.ext e r⟩
 |book pp L =>
  obtain⟨z,L',B,e1,e2⟩:=h;rw[e2] at k;have kb:∀a∈My.BFp (m.ad n) z L',∀o,H a=some o->H' a=some o:=k;refine⟨z,L',?_,e1,by rw[ha,hf];exact e2⟩;rw[ha];refine⟨kb _ (by simp[My.BFp]) _ B.ob,kb _ (by simp[My.BFp]) _ B.pp,kb _ (by simp[My.BFp]) _ B.tt,kb _ (by simp[My.BFp]) _ B.mm,kb _ (by simp[My.BFp]) _ B.ll,B.hh.keep (fun o h=>kb _ (by simp[My.BFp]) _ h),fun q hq=>?_,B.nd,B.p6,B.h8⟩;obtain⟨ts,h1,h2,h3⟩:=B.he q hq;refine⟨ts,h1,kb _ ?_ _ h2,fun y hy=>(h3 y hy).keepX S e⟩;unfold My.BFp;simp only[aj];right;right;right;right;right;right;exact ai.mpr ⟨q,hq,rfl⟩
theorem SR.same{K:aa}{CB:ac}{H H':Hp}{m:Mp}{s:Sto}(S:SR K CB H m s)(k:Same H H'):SR K CB H' m s :=
 ⟨S.nd,S.lt,fun q hq=>(S.ok q hq).keep S (Ext.same k).toExtR (fun a _ o h=>k a o h) rfl rfl,S.dj,S.hx,fun a ha=>by
  obtain⟨h1,h2⟩:=S.hs a ha;cases e:H a with
  |none=>exact absurd e h1
  |some o =>
   rw[k a o e];rw[e] at h2;exact⟨by simp,h2⟩,S.tbk (.same k)⟩
theorem SR.get{K:aa}{CB:ac}{H:Hp}{m:Mp}{s:Sto}(S:SR K CB H m s){n:Nat}{c:Cell}(h:s.get n=some c):CellOk K CB H m s n c:=S.ok _ (kY h)
def SR.getlt{K:aa}{CB:ac}{H:Hp}{m:Mp}{s:Sto}(S:SR K CB H m s){n:Nat}{c:Cell}(h:s.get n=some c):n<s.nx:=S.lt _ (ai.mpr ⟨_,kY h,rfl⟩)
def Mp.fput(m:Mp)(n:Nat)(f':List ac):Mp:=⟨m.ad,fun j=>if j=n then f' else m.fp j,m.hid⟩
def SR.hsk{K:aa}{CB:ac}{H H':Hp}{m:Mp}{s:Sto}(S:SR K CB H m s)(k:∀a∈m.hid,∀o,H a=some o->(∀ps,o≠.tbl ps)->H' a=some o)(kt:TbS H H'):∀a∈m.hid,H' a≠none/\∀xs o,H' a≠some (.tup xs)/\H' a≠some (.frz o (.tup xs))/\H' a≠some (.frz o (.lst xs))/\∀x,H' a≠some (.frz o (.own x)):=fun a ha=>by
 obtain⟨h1,h2⟩:=S.hs a ha;cases e:H a with
 |none=>exact absurd e h1
 |some o =>
  by_cases t:∃ps,o=.tbl ps
  ·obtain⟨ps,t⟩:=t;rw[t] at e;obtain⟨JC,e'⟩:=kt.1 a ps e;rw[e'];exact⟨by simp,fun _ _=>⟨by simp,by simp,by simp,by simp⟩⟩
  rw[k a ha o e fun ps z=>t ⟨ps,z⟩];rw[e] at h2;exact⟨by simp,h2⟩
def SR.put'{K:aa}{CB:ac}{H:Hp}{m:Mp}{s:Sto}(S:SR K CB H m s){n:Nat}{c c':Cell}(hn:s.get n=some c)(H':Hp)(f':List ac)(k:∀a o,H a=some o->a∉m.fp n->H' a=some o)(HP:∀a∈f',a∈m.fp n\/H a=none)(hok:ExtR H m s H' (m.fput n f') (s.set n c')->CellOk K CB H' (m.fput n f') (s.set n c') n c') :
  SR K CB H' (m.fput n f') (s.set n c')/\ExtR H m s H' (m.fput n f') (s.set n c')/\((∀l,c≠.dfz l)->Ext H m s H' (m.fput n f') (s.set n c')):=by
 have Hc:n∈s.cs.map (·.1):=ai.mpr ⟨_,kY hn,rfl⟩;have hkd:∀a∈m.hid,∀o,H a=some o->(∀ps,o≠.tbl ps)->H' a=some o:=fun a ha o h _=>k a o h fun z=>S.hx n Hc a z ha;have htb:TbS H H':=.of fun a o h od=>k a o h fun z=>by obtain⟨o',e',_,_,no⟩:=(S.get hn).kind z;rw[h] at e';cases e';exact no od
 have hx:ExtR H m s H' (m.fput n f') (s.set n c'):=by
  refine⟨aq _,fun _ _=>rfl,fun a u h p=>?_,fun a u h _ p=>k _ _ h (p.2 n Hc)⟩;have Hr:∃o,H a=some o:=h.elim (fun h=>⟨_,h⟩) fun⟨o,h⟩=>⟨_,h⟩;refine⟨h.elim (fun h=>.inl (k _ _ h (p.2 n Hc))) fun⟨o,h⟩=>.inr ⟨o,k _ _ h (p.2 n Hc)⟩,p.1,fun j hj hm=>?_⟩;have hm:a∈(if j=n then f' else m.fp j):=hm;have Jk:j∈s.cs.map (·.1):=by rw[<-lV (n:=n) (c:=c')];exact hj
  by_cases e:j=n
  ·simp only[e,if_pos] at hm;rcases HP a hm with z|z
   ·exact p.2 n Hc z
   ·obtain⟨o,ho⟩:=Hr;rw[z] at ho;cases ho
  ·simp only[if_neg e] at hm;exact p.2 j Jk hm
 refine⟨⟨?_,?_,fun q hq=>?_,fun j hj i hi Hr a ha hb=>?_,fun j hj a ha hb=>?_,S.hsk hkd htb,S.tbk htb⟩,hx,fun hnd=>⟨⟨hx,fun j l hj h=>?_⟩,rfl,hkd⟩⟩
 ·show((ot n c' s.cs).map (·.1)).Nodup;rw[lV];exact S.nd
 ·intro j hj;have Jk:j∈s.cs.map (·.1):=by rw[<-lV (n:=n) (c:=c')];exact hj
  exact S.lt j Jk
 ·rcases xm S.nd hq with rfl|⟨hq,Hr⟩
  ·exact hok hx
  ·refine(S.ok q hq).keep S hx (fun a ha o h=>k a o h (S.dj _ (ai.mpr ⟨q,hq,rfl⟩) _ Hc Hr a ha)) rfl ?_;show(if q.1=n then f' else m.fp q.1)=_;rw[if_neg Hr]
 ·have ha:a∈(if j=n then f' else m.fp j):=ha;have hb:a∈(if i=n then f' else m.fp i):=hb;have Jk:j∈s.cs.map (·.1):=by rw[<-lV (n:=n) (c:=c')];exact hj
  have Lp:i∈s.cs.map (·.1):=by rw[<-lV (n:=n) (c:=c')];exact hi
  have Hh:∀j∈s.cs.map (·.1),∀a∈m.fp j,H a≠none:=fun j hj a ha z=>by obtain⟨q,hq,rfl⟩:=ai.mp hj;obtain⟨o,e,_⟩:=(S.ok q hq).kind ha;rw[z] at e;cases e
  by_cases e1:j=n
  ·have e2:i≠n:=fun z=>Hr (e1.trans z.symm);simp only[e1,if_pos] at ha;simp only[if_neg e2] at hb;rcases HP a ha with z|z
   ·exact S.dj _ Hc _ Lp (fun z=>e2 z.symm) a z hb
   ·exact Hh i Lp a hb z
  ·simp only[if_neg e1] at ha;by_cases e2:i=n
   ·simp only[e2,if_pos] at hb;rcases HP a hb with z|z
    ·exact S.dj _ Jk _ Hc e1 a ha z
    ·exact Hh j Jk a ha z
   ·simp only[if_neg e2] at hb;exact S.dj _ Jk _ Lp Hr a ha hb
 ·have ha:a∈(if j=n then f' else m.fp j):=ha;have Jk:j∈s.cs.map (·.1):=by rw[<-lV (n:=n) (c:=c')];exact hj
  by_cases e1:j=n
  ·rw[if_pos e1] at ha;rcases HP a ha with z|z
   ·exact S.hx n Hc a z hb
   ·exact(S.hs a hb).1 z
  ·rw[if_neg e1] at ha;exact S.hx j Jk a ha hb
 ·have KG:j≠n:=fun z=>by subst z;have h:s.get j=some (.dfz l):=h;rw[hn] at h;exact hnd l (aO h)
  refine⟨(m6 KG).trans h,fun o ho=>?_⟩;obtain⟨e1,_⟩:=S.ok _ (kY h);exact k _ _ ho (S.dj j (ai.mpr ⟨_,kY h,rfl⟩) n Hc KG _ (by rw[e1];simp))
def SR.put{K:aa}{CB:ac}{H:Hp}{m:Mp}{s:Sto}(S:SR K CB H m s){n:Nat}{c c':Cell}(hn:s.get n=some c)(hnd:∀l,c≠.dfz l)(H':Hp)(f':List ac)(k:∀a o,H a=some o->a∉m.fp n->H' a=some o)(HP:∀a∈f',a∈m.fp n\/H a=none)(hok:ExtR H m s H' (m.fput n f') (s.set n c')->CellOk K CB H' (m.fput n f') (s.set n c') n c'):SR K CB H' (m.fput n f') (s.set n c')/\Ext H m s H' (m.fput n f') (s.set n c') :=
 let⟨a,_,b⟩:=S.put' hn H' f' k HP hok;⟨a,b hnd⟩
def Mp.add(m:Mp)(n:Nat)(p:ac)(f:List ac):Mp:=⟨fun j=>if j=n then p else m.ad j,fun j=>if j=n then f else m.fp j,m.hid⟩
theorem SR.add{K:aa}{CB:ac}{H:Hp}{m:Mp}{s:Sto}(S:SR K CB H m s){c:Cell}(H':Hp)(p:ac)(f:List ac)(k:Same H H')(hf:∀a∈f,H a=none)(hok:Ext H m s H' (m.add s.nx p f) (s.add c)->CellOk K CB H' (m.add s.nx p f) (s.add c) s.nx c) :
  SR K CB H' (m.add s.nx p f) (s.add c)/\Ext H m s H' (m.add s.nx p f) (s.add c):=by
 have Hs:∀j∈s.cs.map (·.1),j≠s.nx:=fun j hj=>aT (S.lt j hj);have Hh:∀j∈s.cs.map (·.1),∀a∈m.fp j,H a≠none:=fun j hj a ha z=>by obtain⟨q,hq,rfl⟩:=ai.mp hj;obtain⟨o,e,_⟩:=(S.ok q hq).kind ha;rw[z] at e;cases e
 have hx:Ext H m s H' (m.add s.nx p f) (s.add c):=by
  refine⟨⟨⟨eG _,fun j hj=>?_,fun a u h q=>⟨h.same k,q.1,fun j hj hm=>?_⟩,fun a u h _ _=>k _ _ h⟩,fun j l hj h=>⟨?_,fun o ho=>k _ _ ho⟩⟩,rfl,fun a _ o h _=>k a o h⟩
  rotate_left 2
  ·show mE ((s.nx,c)::s.cs) j=_;unfold mE;rw[if_neg (fun z=>aT hj z.symm)];exact h
  ·show(if j=s.nx then p else m.ad j)=_;rw[if_neg (aT hj)]
  ·have hm:a∈(if j=s.nx then f else m.fp j):=hm;rcases aj.mp (show j∈s.nx::s.cs.map (·.1) from hj) with e|hj
   ·rw[if_pos e] at hm;have:=hf a hm;rcases h with h|⟨o,h⟩<;>(rw[this] at h;cases h)
   ·rw[if_neg (Hs j hj)] at hm;exact q.2 j hj hm
 have J4:∀j∈s.cs.map (·.1),(m.add s.nx p f).fp j=m.fp j:=fun j hj=>by show(if j=s.nx then f else m.fp j)=_;rw[if_neg (Hs j hj)]
 have JQ:(m.add s.nx p f).fp s.nx=f:=by show(if s.nx=s.nx then f else _)=_;rw[if_pos rfl]
 refine⟨⟨?_,?_,fun q hq=>?_,fun j hj i hi Hr a ha hb=>?_,fun j hj a ha hb=>?_,S.hsk hx.hk (.same k),S.tbk (.same k)⟩,hx⟩
 ·exact aD.mpr ⟨fun z=>Hs _ z rfl,S.nd⟩
 ·intro j hj;rcases aj.mp (show j∈s.nx::s.cs.map (·.1) from hj) with e|hj
  ·rw[e];exact di _
  ·exact cU (S.lt j hj)
 ·rcases aj.mp (show q∈(s.nx,c)::s.cs from hq) with rfl|hq
  ·exact hok hx
  ·have hqm:q.1∈s.cs.map (·.1):=ai.mpr ⟨q,hq,rfl⟩;exact(S.ok q hq).keep S hx.toExtR (fun a ha o h=>k a o h) (hx.ad _ (S.lt _ hqm)) (J4 _ hqm)
 ·rcases aj.mp (show j∈s.nx::s.cs.map (·.1) from hj) with e|hj<;>rcases aj.mp (show i∈s.nx::s.cs.map (·.1) from hi) with e'|hi
  ·exact Hr (e.trans e'.symm)
  ·rw[e,JQ] at ha;rw[J4 i hi] at hb;exact Hh i hi a hb (hf a ha)
  ·rw[J4 j hj] at ha;rw[e',JQ] at hb;exact Hh j hj a ha (hf a hb)
  ·rw[J4 j hj] at ha;rw[J4 i hi] at hb;exact S.dj j hj i hi Hr a ha hb
 ·rcases aj.mp (show j∈s.nx::s.cs.map (·.1) from hj) with e|hj
  ·rw[e,JQ] at ha;exact(S.hs a hb).1 (hf a ha)
  ·rw[J4 j hj] at ha;exact S.hx j hj a ha hb
theorem SR.del{K:aa}{CB:ac}{H:Hp}{m:Mp}{s:Sto}(S:SR K CB H m s)(n:Nat)(hnd:∀l,s.get n≠some (.dfz l)):SR K CB H m (s.del n)/\Ext H m s H m (s.del n):=by
 have Hc:∀j∈(s.del n).cs.map (·.1),j∈s.cs.map (·.1):=fun j hj=>by obtain⟨q,hq,rfl⟩:=ai.mp hj;exact ai.mpr ⟨q,pk hq,rfl⟩
 have hx:Ext H m s H m (s.del n):=⟨⟨⟨aq _,fun _ _=>rfl,fun a u h p=>⟨h,p.1,fun j hj=>p.2 j (Hc j hj)⟩,fun _ _ h _ _=>h⟩,fun j l hj h=>⟨(rP (fun z=>hnd l (by rw[<-z];exact h))).trans h,fun o h=>h⟩⟩,rfl,fun _ _ _ h _=>h⟩;exact⟨⟨zy S.nd,fun j hj=>S.lt j (Hc j hj),fun q hq=>(S.ok q (pk hq)).keep S hx.toExtR (fun _ _ _ h=>h) rfl rfl,fun j hj i hi=>S.dj j (Hc j hj) i (Hc i hi),fun j hj=>S.hx j (Hc j hj),S.hs,S.tb⟩,hx⟩
inductive Out (α:Type) where
 |ok (a:α) (s:Sto)|ex (c:ac) (s:Sto)|bad
def Out.bind{α β:Type}(o:Out α)(k:α->Sto->Out β):Out β:=match o with
 |.ok a s=>k a s
 |.ex c s=>.ex c s
 |.bad=>.bad
abbrev En:=List (Option PV)
abbrev XE:=En->Sto->Out PV
abbrev XT:=En->Sto->Out Bool
abbrev XA:=En->Sto->Out (List PV)
inductive SO where
 |nx (ρ:En) (s:Sto)|rt (v:PV) (s:Sto)|bk (ρ:En) (s:Sto)|ct (ρ:En) (s:Sto)|ex (c:ac) (s:Sto)|bad
abbrev XS:=En->Sto->SO
def Post{α β:Type}(K:aa)(CB:ac)(R:Hp->Mp->Sto->β->α->Prop)(E:XK)(o:Out α)(H:Hp)(m:Mp)(s:Sto)(Q:β->Hp->Prop):Prop:=match o with
 |.ok v s'=>∀u H' m',Ext H m s H' m' s'->SR K CB H' m' s'->R H' m' s' u v->Q u H'
 |.ex c s'=>∀H' m',Ext H m s H' m' s'->SR K CB H' m' s'->E (.ref c) none H'
 |.bad=>False
def Post.shift{α β:Type}{K:aa}{CB:ac}{R:Hp->Mp->Sto->β->α->Prop}{E:XK}{o:Out α}{H H1:Hp}{m m1:Mp}{s s1:Sto}{Q:β->Hp->Prop}(e:Ext H m s H1 m1 s1)(h:Post K CB R E o H m s Q):Post K CB R E o H1 m1 s1 Q:=by
 cases o with
 |ok v s'=>exact fun u H' m' x S r=>h u H' m' (e.trans x) S r
 |ex c s'=>exact fun H' m' x S=>h H' m' (e.trans x) S
 |bad=>exact h
theorem Post.bind{α β α' β':Type}{K:aa}{CB:ac}{R:Hp->Mp->Sto->β->α->Prop}{R':Hp->Mp->Sto->β'->α'->Prop}{E:XK}{o:Out α}{k:α->Sto->Out α'}{H:Hp}{m:Mp}{s:Sto}{Q:β'->Hp->Prop}{Q1:β->Hp->Prop}(h:Post K CB R' E (o.bind k) H m s Q)(f:∀v s1 u H1 m1,Ext H m s H1 m1 s1->SR K CB H1 m1 s1->R H1 m1 s1 u v->Post K CB R' E (k v s1) H1 m1 s1 Q->Q1 u H1):Post K CB R E o H m s Q1:=by
 cases o with
 |ok v s1=>exact fun u H1 m1 x S r=>f v s1 u H1 m1 x S r (Post.shift x h)
 |ex c s'=>exact h
 |bad=>exact h
def Post.here{α β:Type}{K:aa}{CB:ac}{R:Hp->Mp->Sto->β->α->Prop}{E:XK}{v:α}{H:Hp}{m:Mp}{s:Sto}{Q:β->Hp->Prop}{u:β}(h:Post K CB R E (.ok v s) H m s Q)(S:SR K CB H m s)(r:R H m s u v):Q u H:=h u H m .refl S r
def Post.new{α β:Type}{K:aa}{CB:ac}{R:Hp->Mp->Sto->β->α->Prop}{E:XK}{v:α}{H:Hp}{m:Mp}{s:Sto}{Q:β->Hp->Prop}{u:β}{p:ac}{o:HO}(h:Post K CB R E (.ok v s) H m s Q)(S:SR K CB H m s)(hp:H p=none)(r:Ext H m s (upd H p o) m s->SR K CB (upd H p o) m s->R (upd H p o) m s u v):Q u (upd H p o):=by
 have k:Same H (upd H p o):=My.nE hp;exact h u _ m (.same k) (S.same k) (r (.same k) (S.same k))
structure ER(K:aa)(H:Hp)(m:Mp)(s:Sto)(σ:St)(ρ:En):Prop where
 len:ρ.length=σ.length
 at_:∀(i:Nat)(p:PV),ρ[i]?=some (some p)->∃u,σ[i]?=some (some u)/\Rep K H m s u p
theorem ER.ext{K:aa}{H H':Hp}{m m':Mp}{s s':Sto}{σ:St}{ρ:En}(h:ER K H m s σ ρ)(e:Ext H m s H' m' s'):ER K H' m' s' σ ρ :=
 ⟨h.len,fun i p q=>let⟨u,a,b⟩:=h.at_ i p q;⟨u,a,b.ext e⟩⟩
theorem ER.set{K:aa}{H:Hp}{m:Mp}{s:Sto}{σ:St}{ρ:En}{u:V}{p:PV}(h:ER K H m s σ ρ)(i:Nat)(r:Rep K H m s u p):ER K H m s (σ.set i (some u)) (ρ.set i (some p)):=by
 refine⟨by simp[h.len],fun j q e=>?_⟩;rw[gR] at e ⊢;by_cases c:i=j
 ·rw[if_pos c] at e ⊢;by_cases d:i<ρ.length
  ·rw[if_pos d] at e;rw[if_pos (by rw[<-h.len];exact d)];cases e;exact⟨u,rfl,r⟩
  ·rw[if_neg d] at e;cases e
 ·rw[if_neg c] at e ⊢;exact h.at_ j q e
def ER.cons{K:aa}{H:Hp}{m:Mp}{s:Sto}{σ:St}{ρ:En}{u:V}{p:PV}(h:ER K H m s σ ρ)(r:Rep K H m s u p):ER K H m s (some u::σ) (some p::ρ):=by
 refine⟨by simp[h.len],fun j q e=>?_⟩;cases j with
 |zero=>simp at e;subst e;exact⟨u,rfl,r⟩
 |succ j=>exact h.at_ j q (by simpa using e)
theorem ER.start{K:aa}{H:Hp}{m:Mp}{s:Sto}:∀{vs:List V}{ps:List PV},Reps K H m s vs ps->∀n,ER K H m s (vs.map some++aK n none) (ps.map some++aK n none)
 |_,_,.nil,n=>⟨by simp,fun i p e=>by
   have e:(aK n (none:Option PV))[i]?=some (some p):=by simpa using e
   rw[fI] at e;split at e<;>cases e⟩
 |_,_,.cons a b,n=>(ER.start b n).cons a
def lA(ix:List Nat)(ρ:En):En:=ix.map fun i=>(ρ[i]?).getD none
theorem ER.capt{K:aa}{H:Hp}{m:Mp}{s:Sto}{σ:St}{ρ:En}(h:ER K H m s σ ρ)(ix:List Nat):ER K H m s (capt ix σ) (lA ix ρ):=by
 refine⟨by simp[L2.capt,lA],fun j q e=>?_⟩;unfold lA at e;unfold L2.capt;rw[aY] at e ⊢;cases c:ix[j]? with
 |none=>rw[c] at e;cases e
 |some i =>
  rw[c] at e;have e:(ρ[i]?).getD none=some q:=aO e;cases d:ρ[i]? with
  |none=>rw[d] at e;cases e
  |some o =>
   rw[d] at e;have e:o=some q:=e;subst e;obtain⟨u,h1,h2⟩:=h.at_ i q d;refine⟨u,?_,h2⟩;show some ((σ[i]?).getD none)=_;rw[h1];rfl
def TDE(K:aa)(CB:ac)(E:XK)(f:XE):TE:=fun σ H Q=>∃ρ s m,ER K H m s σ ρ/\SR K CB H m s/\Post K CB (Rep K) E (f ρ s) H m s Q
def TDT(K:aa)(CB:ac)(E:XK)(f:XT):TT:=fun σ H Q=>∃ρ s m,ER K H m s σ ρ/\SR K CB H m s/\Post K CB (fun _ _ _ u v=>u=v) E (f ρ s) H m s Q
def TDA(K:aa)(CB:ac)(E:XK)(f:XA):TA:=fun σ H Q=>∃ρ s m,ER K H m s σ ρ/\SR K CB H m s/\Post K CB (Reps K) E (f ρ s) H m s Q
def PostS(K:aa)(CB:ac)(E:XK)(o:SO)(H:Hp)(m:Mp)(s:Sto)(D:Ends):Prop:=match o with
 |.nx ρ' s'=>∀σ' H' m',Ext H m s H' m' s'->SR K CB H' m' s'->ER K H' m' s' σ' ρ'->D.nx σ' H'
 |.rt v s'=>∀u H' m',Ext H m s H' m' s'->SR K CB H' m' s'->Rep K H' m' s' u v->D.rt u H'
 |.bk ρ' s'=>∀σ' H' m',Ext H m s H' m' s'->SR K CB H' m' s'->ER K H' m' s' σ' ρ'->D.bk σ' H'
 |.ct ρ' s'=>∀σ' H' m',Ext H m s H' m' s'->SR K CB H' m' s'->ER K H' m' s' σ' ρ'->D.ct σ' H'
 |.ex c s'=>∀H' m',Ext H m s H' m' s'->SR K CB H' m' s'->E (.ref c) none H'
 |.bad=>False
def TDS(K:aa)(CB:ac)(E:XK)(g:XS):TS:=fun D σ H=>∃ρ s m,ER K H m s σ ρ/\SR K CB H m s/\PostS K CB E (g ρ s) H m s D
structure DE(X:Cx)(CB:ac)(E:XK)(e:aN)(f:XE):Prop where
 pe:PE X e (TDE X.K CB E f)
structure DT(X:Cx)(CB:ac)(E:XK)(e:aN)(f:XT):Prop where
 pt:PT X e (TDT X.K CB E f)
structure DW(X:Cx)(CB:ac)(E:XK)(e:aN)(f:XT):Prop where
 pw:PW X e (TDT X.K CB E f)
structure DA(X:Cx)(CB:ac)(E:XK)(es:List aN)(f:XA):Prop where
 pa:PA X es (TDA X.K CB E f)
structure DS(X:Cx)(CB:ac)(E:XK)(st:bM)(g:XS):Prop where
 ps:PS X st (TDS X.K CB E g)
structure DSs(X:Cx)(CB:ac)(E:XK)(st:List bM)(g:XS):Prop where
 pss:PSs X st (TDS X.K CB E g)
def PE.mono{X:Cx}{e:aN}{t t':TE}(h:PE X e t)(k:∀σ H Q,t' σ H Q->t σ H Q):PE X e t':=fun GX s σ H Q I q=>h GX s σ H Q I (k σ H Q q)
def PT.mono{X:Cx}{e:aN}{t t':TT}(h:PT X e t)(k:∀σ H Q,t' σ H Q->t σ H Q):PT X e t':=fun GX s σ H Q I q=>h GX s σ H Q I (k σ H Q q)
def PW.mono{X:Cx}{e:aN}{t t':TT}(h:PW X e t)(k:∀σ H Q,t' σ H Q->t σ H Q):PW X e t':=fun w GX s σ H Q I q=>h w GX s σ H Q I (k σ H Q q)
def PA.mono{X:Cx}{e:List aN}{t t':TA}(h:PA X e t)(k:∀σ H Q,t' σ H Q->t σ H Q):PA X e t':=fun pos GX s σ H Q I q=>h pos GX s σ H Q I (k σ H Q q)
def PS.mono{X:Cx}{e:bM}{t t':TS}(h:PS X e t)(k:∀D σ H,t' D σ H->t D σ H):PS X e t':=fun GX s σ H D I q=>h GX s σ H D I (k D σ H q)
def PSs.mono{X:Cx}{e:List bM}{t t':TS}(h:PSs X e t)(k:∀D σ H,t' D σ H->t D σ H):PSs X e t':=fun GX s σ H D I q=>h GX s σ H D I (k D σ H q)
def xVar(i:Nat)(ρ:En)(s:Sto):Out PV:=match ρ[i]? with
 |some (some p)=>.ok p s
 |_=>.bad
def xC(p:PV)(_:En)(s:Sto):Out PV:=.ok p s
def x1(f:XE)(F:PV->Sto->Out PV)(ρ:En)(s:Sto):Out PV:=(f ρ s).bind F
def x2(f g:XE)(F:PV->PV->Sto->Out PV)(ρ:En)(s:Sto):Out PV:=(f ρ s).bind fun v s1=>(g ρ s1).bind fun w s2=>F v w s2
def xNil(_:En)(s:Sto):Out (List PV):=.ok [] s
def xCons(f:XE)(g:XA)(ρ:En)(s:Sto):Out (List PV):=(f ρ s).bind fun v s1=>(g ρ s1).bind fun vs s2=>.ok (v::vs) s2
section
variable{X:Cx}{CB:ac}{E:XK}{a b c e:aN}{es:List aN}{f g h:XE}{fa:XA}{p pos G0:Pos}{x:Str}
def Op2(K:aa)(CB:ac)(E:XK)(r:R2)(F:PV->PV->Sto->Out PV):Prop:=∀H m s v w x y Q,SR K CB H m s->Rep K H m s x v->Rep K H m s y w->Post K CB (Rep K) E (F v w s) H m s Q->r x y H Q
def OpN(K:aa)(CB:ac)(E:XK)(r:List V->Hp->VK->Prop)(F:List PV->Sto->Out PV):Prop:=∀H m s v x Q,SR K CB H m s->Reps K H m s x v->Post K CB (Rep K) E (F v s) H m s Q->r x H Q
def two{r:R2}{F:PV->PV->Sto->Out PV}(o:Op2 X.K CB E r F){σ:St}{H:Hp}{Q:VK}(q:TDE X.K CB E (x2 f g F) σ H Q):tOp r (TDE X.K CB E f) (TDE X.K CB E g) σ H Q:=by obtain⟨ρ,s,m,er,S,P⟩:=q;exact⟨ρ,s,m,er,S,P.bind fun v s1 u H1 m1 e1 S1 r1 P1=>⟨ρ,s1,m1,er.ext e1,S1,P1.bind fun w s2 u2 H2 m2 e2 S2 r2 P2=>o H2 m2 s2 v w u u2 Q S2 (r1.ext e2) r2 P2⟩⟩
def jM(i:Nat)(hN:X.N[i]?=some x:=by rfl)(hv:Vis X.env.scope x:=by first|exact dI rfl|exact f7 (dI rfl)|exact f7 (f7 rfl))(hd:NDb x:=by decide)(Ie:(x==("__classdict__":Str))=false:=by decide):DE X CB E (.Name x pos) (xVar i):=⟨(yX hN hv hd Ie).mono fun σ H Q ⟨ρ,s,m,er,S,P⟩=>by
 unfold xVar at P;split at P
 ·rename_i q hq;obtain⟨u,h1,h2⟩:=er.at_ i q hq;exact⟨u,h1,P.here S h2⟩
 ·exact P.elim⟩
def jT{i:Int}{j:Nat}:DE X CB E (.Constant (.int i) j pos) (xC (.int i)):=⟨pe_int.mono fun σ H Q ⟨ρ,s,m,er,S,P⟩=>P.here S .int⟩
def wF{i:Bool}{j:Nat}:DE X CB E (.Constant (.bool i) j pos) (xC (.bl i)):=⟨pe_bl.mono fun σ H Q ⟨ρ,s,m,er,S,P⟩=>P.here S .bl⟩
def sB{i:Str}{j:Nat}:DE X CB E (.Constant (.str i) j pos) (xC (.str i)):=⟨pe_str.mono fun σ H Q ⟨ρ,s,m,er,S,P⟩=>P.here S .str⟩
def GC{j:Nat}:DE X CB E (.Constant .none j pos) (xC .non):=⟨pe_non.mono fun σ H Q ⟨ρ,s,m,er,S,P⟩=>P.here S .non⟩
def tJ{op:Operator}{r:R2}{F:PV->PV->Sto->Out PV}(ho:OpR X (cH op) r)(o:Op2 X.K CB E r F)(ha:DE X CB E a f)(hb:DE X CB E b g):DE X CB E (.BinOp a op b pos) (x2 f g F):=⟨(oE ho ha.pe hb.pe).mono fun σ H Q q=>two o q⟩
def de_cmp{op:gY}{r:R2}{F:PV->PV->Sto->Out PV}(ho:OpR X (bI op) r)(o:Op2 X.K CB E r F)(ha:DE X CB E a f)(hb:DE X CB E b g)(hm:ce op b=false):DE X CB E (.Compare a [op] [b] pos) (x2 f g F):=⟨(zk ho ha.pe hb.pe hm).mono fun σ H Q q=>two o q⟩
def xTr(f:XE)(ρ:En)(s:Sto):Out Bool:=(f ρ s).bind fun v s1=>match v with
 |.bl b=>.ok b s1
 |_=>.bad
def TDT.tst{σ:St}{H:Hp}{Q:Bool->Hp->Prop}(q:TDT X.K CB E (xTr f) σ H Q):TDE X.K CB E f σ H fun x H1=>∃k,x=.bl k/\Q k H1:=by obtain⟨ρ,s,m,er,S,P⟩:=q;refine⟨ρ,s,m,er,S,P.bind fun v s1 u H1 m1 e1 S1 r1 P1=>?_⟩;cases r1<;>first|exact P1.elim|exact⟨_,rfl,P1.here S1 rfl⟩
def dt_cmp{op:gY}{r:R2}{F:PV->PV->Sto->Out PV}(ho:OpR X (bI op) r)(o:Op2 X.K CB E r F)(ha:DE X CB E a f)(hb:DE X CB E b g)(hm:ce op b=false):DT X CB E (.Compare a [op] [b] pos) (xTr (x2 f g F)):=⟨(pP ho ha.pe hb.pe hm).mono fun σ H Q q=>two o (TDT.tst q)⟩
def wB(h:DE X CB E e f)(he:∀HD,isTrue e X.env HD=(do let v <-HD;ig e.pos;holding [v] (truthy v)):=by intro _;rfl):DT X CB E e (xTr f):=⟨(qz h.pe he).mono fun σ H Q q=>TDT.tst q⟩
def xChain(f g h:XE)(F G:PV->PV->Sto->Out PV)(ρ:En)(s:Sto):Out PV:=(f ρ s).bind fun v s1=>(g ρ s1).bind fun w s2=>(F v w s2).bind fun z s3=>match z with
 |.bl true=>(h ρ s3).bind fun y s4=>G w y s4
 |.bl false=>.ok (.bl false) s3
 |_=>.bad
def xNot(f:XT)(ρ:En)(s:Sto):Out Bool:=(f ρ s).bind fun b s1=>.ok (!b) s1
def xAnd(f g:XT)(ρ:En)(s:Sto):Out Bool:=(f ρ s).bind fun b s1=>if b=true then g ρ s1 else .ok false s1
def xOr(f g:XT)(ρ:En)(s:Sto):Out Bool:=(f ρ s).bind fun b s1=>if b=true then .ok true s1 else g ρ s1
variable{t u:XT}{lY:List aN}
def CC(h:DT X CB E a t):DT X CB E (.UnaryOp .Not a pos) (xNot t):=⟨(uq h.pt).mono fun σ H Q ⟨ρ,s,m,er,S,P⟩ =>
 ⟨ρ,s,m,er,S,P.bind fun v s1 b H1 m1 e1 S1 r1 P1=>by cases r1;exact P1.here S1 rfl⟩⟩
def D8(h:DT X CB E a t):DW X CB E (.BoolOp .And [a] pos) t:=⟨Dd h.pt⟩
def Gr(h:DT X CB E a t):DW X CB E (.BoolOp .Or [a] pos) t:=⟨Cc h.pt⟩
def Gs(h:DT X CB E a t)(k:DW X CB E (.BoolOp .And (b::lY) pos) u):DW X CB E (.BoolOp .And (a::b::lY) pos) (xAnd t u):=⟨(FC h.pt k.pw).mono fun σ H Q ⟨ρ,s,m,er,S,P⟩ =>
 ⟨ρ,s,m,er,S,P.bind fun v s1 b H1 m1 e1 S1 r1 P1=>by
  cases r1;refine qh (fun c=>?_) fun c=>?_
  ·rw[if_pos c] at P1;exact⟨ρ,s1,m1,er.ext e1,S1,P1⟩
  ·rw[if_neg c] at P1;exact P1.here S1 rfl⟩⟩
def dw_or(h:DT X CB E a t)(k:DW X CB E (.BoolOp .Or (b::lY) pos) u):DW X CB E (.BoolOp .Or (a::b::lY) pos) (xOr t u):=⟨(EW h.pt k.pw).mono fun σ H Q ⟨ρ,s,m,er,S,P⟩ =>
 ⟨ρ,s,m,er,S,P.bind fun v s1 b H1 m1 e1 S1 r1 P1=>by
  cases r1;refine qh (fun c=>?_) fun c=>?_
  ·rw[if_pos c] at P1;exact P1.here S1 rfl
  ·rw[if_neg c] at P1;exact⟨ρ,s1,m1,er.ext e1,S1,P1⟩⟩⟩
def DW.dt(h:DW X CB E a t):DT X CB E a t:=⟨h.pw.pt⟩
def xAndV(f g:XE)(ρ:En)(s:Sto):Out PV:=(f ρ s).bind fun v s1=>match v with
 |.bl true=>g ρ s1
 |.bl false=>.ok (.bl false) s1
 |_=>.bad
def xOrV(f g:XE)(ρ:En)(s:Sto):Out PV:=(f ρ s).bind fun v s1=>match v with
 |.bl true=>.ok (.bl true) s1
 |.bl false=>g ρ s1
 |_=>.bad
def xNotV(f:XE)(ρ:En)(s:Sto):Out PV:=(f ρ s).bind fun v s1=>match v with
 |.bl b=>.ok (.bl (!b)) s1
 |_=>.bad
def GB{op:BoolOp}(h:DE X CB E a f):DE X CB E (.BoolOp op [a] pos) f:=⟨yY h.pe⟩
def GF(h:DE X CB E a f)(k:DE X CB E (.BoolOp .And (b::lY) pos) g):DE X CB E (.BoolOp .And (a::b::lY) pos) (xAndV f g):=⟨(Ci h.pe k.pe).mono fun σ H Q ⟨ρ,s,m,er,S,P⟩ =>
 ⟨ρ,s,m,er,S,P.bind fun v s1 b H1 m1 e1 S1 r1 P1=>by
  cases r1 with
  |bl =>
   rename_i b;cases b
   ·exact⟨_,rfl,E7 (P1.here S1 .bl)⟩
   ·exact⟨_,rfl,E6 ⟨ρ,s1,m1,er.ext e1,S1,P1⟩⟩
  |_=>exact P1.elim⟩⟩
def zb:DA X CB E [] xNil:=⟨pa_nil.mono fun σ H Q ⟨ρ,s,m,er,S,P⟩=>P.here S .nil⟩
def jV(ha:DE X CB E e f)(hr:DA X CB E es fa)(hs:SEb X e es:=by rfl):DA X CB E (e::es) (xCons f fa):=⟨(jZ ha.pe hr.pa hs).mono fun σ H Q ⟨ρ,s,m,er,S,P⟩ =>
 ⟨ρ,s,m,er,S,P.bind fun v s1 u H1 m1 e1 S1 r1 P1=>⟨ρ,s1,m1,er.ext e1,S1,P1.bind fun w s2 u2 H2 m2 e2 S2 r2 P2=>P2.here S2 (.cons (r1.ext e2) r2)⟩⟩⟩
def jU(ha:DE X CB E e f)(hs:ar [e] X.env=(false,eval e X.env)::ar [] X.env:=by rfl):DA X CB E [e] (xCons f xNil):=jV ha zb hs
theorem Reps.length{K:aa}{H:Hp}{m:Mp}{s:Sto}:∀{vs:List V}{l:List PV},Reps K H m s vs l->vs.length=l.length
 |_,_,.nil=>rfl
 |_,_,.cons _ b=>congrArg Nat.succ b.length
def sz5{n:Nat}(h:n<=100000):n<=aB:=aC h (by decide)
def sz6{n:Nat}(h:n<100000):n<aB:=au h (by decide)
def xTup(fa:XA)(ρ:En)(s:Sto):Out PV:=(fa ρ s).bind fun vs s1=>if vs.length<=100000 then .ok (.tup vs) s1 else .bad
def xLst(fa:XA)(ρ:En)(s:Sto):Out PV:=(fa ρ s).bind fun vs s1=>if vs.length<=100000 then .ok (.lst vs) s1 else .bad
def xLstC(fa:XA)(ρ:En)(s:Sto):Out PV:=(fa ρ s).bind fun vs s1=>if vs.length<=100000 then .ok (.ref s1.nx) (s1.add (.lst vs)) else .bad
def uI{x1}(h:DA X CB E es fa):DE X CB E (.Tuple es x1 pos) (xTup fa):=⟨(uw h.pa).mono fun σ H Q ⟨ρ,s,m,er,S,P⟩ =>
 ⟨ρ,s,m,er,S,P.bind fun v s1 u H1 m1 e1 S1 r1 P1=>by
  split at P1
  ·rename_i hl;exact⟨by rw[r1.length];exact sz5 hl,fun p hp=>P1.new S1 hp fun ex S'=>.tup (.inl ⟨.inl jR,S'.pure_tup jR⟩) (r1.ext ex)⟩
  ·exact P1.elim⟩⟩
def sC(h:DA X CB E es fa):DE X CB E (.List es pos) (xLst fa):=⟨(Cf h.pa).mono fun σ H Q ⟨ρ,s,m,er,S,P⟩ =>
 ⟨ρ,s,m,er,S,P.bind fun v s1 u H1 m1 e1 S1 r1 P1=>by
  split at P1
  ·rename_i hl;exact⟨by rw[r1.length];exact sz5 hl,fun p hp=>P1.new S1 hp fun ex S'=>.lst jR (S1.pure_none hp) (r1.ext ex)⟩
  ·exact P1.elim⟩⟩
def SR.newL{K:aa}{H:Hp}{m:Mp}{s:Sto}{vs:List V}{l:List PV}{p:ac}(S:SR K CB H m s)(hp:H p=none)(r:Reps K H m s vs l):SR K CB (upd H p (.lst vs)) (m.add s.nx p [p]) (s.add (.lst l))/\Ext H m s (upd H p (.lst vs)) (m.add s.nx p [p]) (s.add (.lst l)) :=
 S.add _ p [p] (My.nE hp) (fun a ha=>by rw[al.mp ha];exact hp) fun ex=>by
  have e1:(m.add s.nx p [p]).ad s.nx=p:=by show(if s.nx=s.nx then p else _)=_;rw[if_pos rfl]
  have e2:(m.add s.nx p [p]).fp s.nx=[p]:=by show(if s.nx=s.nx then [p] else _)=_;rw[if_pos rfl]
  exact⟨by rw[e1,e2],vs,by rw[e1];exact jR,r.ext ex⟩
def SR.newD{K:aa}{H H':Hp}{m:Mp}{s:Sto}{vs:List (Key×V)}{l:List (Key×PV)}{p:ac}(S:SR K CB H m s)(hp:H p=none)(k:Same H H')(hd:H' p=some (.dK vs))(r:RepKs K H m s vs l):SR K CB H' (m.add s.nx p [p]) (s.add (.dct l))/\Ext H m s H' (m.add s.nx p [p]) (s.add (.dct l)) :=
 S.add _ p [p] k (fun a ha=>by rw[al.mp ha];exact hp) fun ex=>by
  have e1:(m.add s.nx p [p]).ad s.nx=p:=by show(if s.nx=s.nx then p else _)=_;rw[if_pos rfl]
  have e2:(m.add s.nx p [p]).fp s.nx=[p]:=by show(if s.nx=s.nx then [p] else _)=_;rw[if_pos rfl]
  exact⟨by rw[e1,e2],vs,by rw[e1];exact hd,r.ext ex⟩
def Mp.add_ad{m:Mp}{n:Nat}{p:ac}{f:List ac}:(m.add n p f).ad n=p:=by show(if n=n then p else _)=_;rw[if_pos rfl]
def Rep.new{K:aa}{H:Hp}{m:Mp}{s:Sto}{p:ac}{f:List ac}{c:Cell}:Rep K H (m.add s.nx p f) (s.add c) (.ref p) (.ref s.nx):=by have h:Rep K H (m.add s.nx p f) (s.add c) (.ref ((m.add s.nx p f).ad s.nx)) (.ref s.nx):=.ref (di _);rw[Mp.add_ad] at h;exact h
def tK(h:DA X CB E es fa):DE X CB E (.List es pos) (xLstC fa):=⟨(Cf h.pa).mono fun σ H Q ⟨ρ,s,m,er,S,P⟩ =>
 ⟨ρ,s,m,er,S,P.bind fun v s1 u H1 m1 e1 S1 r1 P1=>by
  split at P1
  ·rename_i hl;refine⟨by rw[r1.length];exact sz5 hl,fun p hp=>?_⟩;obtain⟨S2,e2⟩:=S1.newL hp r1;exact P1 _ _ _ e2 S2 .new
  ·exact P1.elim⟩⟩
end
end L2
namespace Fra
def Cop(a b:Int):Prop:=ay a b=1
def Low(q:Int×Int):Prop:=0<q.2/\Cop q.1 q.2
def red(q:Int×Int):Int×Int:=(q.1/(ay q.1 q.2:Int),q.2/(ay q.1 q.2:Int))
def Cop.symm{a b:Int}(h:Cop a b):Cop b a:=by unfold Cop at *;rw[Int.gcd_comm];exact h
def mV{a a' b:Int}(d:a∣a')(h:Cop a' b):Cop a b:=Nat.Coprime.coprime_dvd_left (d8.mpr d) h
def tM{a b c:Int}(h1:Cop a c)(h2:Cop b c):Cop (a*b) c:=by unfold Cop ay at *;rw[gu];exact Nat.Coprime.mul_left h1 h2
def zC{a b c:Int}(h:Cop a b)(d:a∣b*c):a∣c:=by have d':=d8.mpr d;rw[gu] at d';exact d8.mp (Nat.Coprime.dvd_of_dvd_mul_left h d')
def zD{a b k:Int}(h:Cop a b):Cop (a+k*b) b:=by
 unfold Cop at *;have g1:(ay (a+k*b) b:Int)∣a+k*b:=eA ..;have g2:(ay (a+k*b) b:Int)∣b:=ci ..;have g3:(ay (a+k*b) b:Int)∣a:=by
  have:=Int.dvd_sub g1 (Int.dvd_trans g2 (Int.dvd_mul_left k b));have e:a+k*b-k*b=a:=by omega
  rw[e] at this;exact this
 have g4:=Int.dvd_gcd g3 g2;rw[h] at g4;exact Nat.dvd_one.mp g4
def yv{p q:Int×Int}(hp:Low p)(hq:Low q)(h:p.1*q.2=q.1*p.2):p=q:=by obtain⟨a,b⟩:=p;obtain⟨c,d⟩:=q;obtain⟨h1,h2⟩:=hp;obtain⟨h3,h4⟩:=hq;simp only at h h1 h2 h3 h4;have d1:b∣d:=zC h2.symm ⟨c,by rw[h];exact bz _ _⟩;have d2:d∣b:=zC h4.symm ⟨a,by rw[<-h];exact bz _ _⟩;have e:b=d:=Int.dvd_antisymm (by omega) (by omega) d1 d2;subst e;have:a=c:=eY (by omega) h;rw[this]
def pO{q:Int×Int}(h:0<q.2):Low (red q)/\(red q).1*q.2=q.1*(red q).2:=by
 obtain⟨a,b⟩:=q;simp only at h;have hg:0<ay a b:=bN _ (by omega);obtain⟨u,hu⟩:(ay a b:Int)∣a:=eA ..;obtain⟨v,hv⟩:(ay a b:Int)∣b:=ci ..;have eu:a/(ay a b:Int)=u:=iA (by omega) hu;have ev:b/(ay a b:Int)=v:=iA (by omega) hv;have hc:Cop u v:=by
  have e:ay ((ay a b:Int)*u) ((ay a b:Int)*v)=ay a b*ay u v:=by rw[hR];rfl
  rw[<-hu,<-hv] at e;unfold Cop;have:ay a b*ay u v=ay a b*1:=by omega
  exact fk hg this
 have hv0:0<v:=by
  by_cases z:0<v
  ·exact z
  ·have:(ay a b:Int)*v<=0:=dH (by omega) (by omega);omega
 unfold red;simp only;rw[eu,ev];refine⟨⟨hv0,hc⟩,?_⟩;show u*b=a*v;have e1:u*b=u*((ay a b:Int)*v):=by rw[<-hv]
 have e2:a*v=(ay a b:Int)*u*v:=by rw[<-hu]
 rw[e1,e2,bz (ay a b:Int) u,aX]
def FA{p q:Int×Int}(hp:Low p)(hq:0<q.2)(h:p.1*q.2=q.1*p.2):p=red q:=by
 obtain⟨r1,r2⟩:=pO hq;refine yv hp r1 ?_;have e:p.1*(red q).2*q.2=(red q).1*p.2*q.2:=by rw[dG,h,dG q.1,<-r2,dG]
 exact eY (by omega) e
def addK(p q:Int×Int):Int×Int :=
 let d:Int:=ay p.2 q.2;let t:=p.1*(q.2/d)+q.1*(p.2/d);let e:Int:=ay t d
 (t/e,p.2/d*(q.2/e))
def kT(p q:Int×Int):Int×Int:=red (p.1*q.2+q.1*p.2,p.2*q.2)
def EG{p q:Int×Int}(hp:Low p)(hq:Low q):addK p q=kT p q:=by
 obtain⟨n1,b1⟩:=p;obtain⟨n2,b2⟩:=q;obtain⟨h1,h2⟩:=hp;obtain⟨h3,h4⟩:=hq;simp only at h1 h2 h3 h4;unfold addK kT;simp only;have hd:0<ay b1 b2:=bN _ (by omega);obtain⟨u,hu⟩:(ay b1 b2:Int)∣b1:=eA ..;obtain⟨v,hv⟩:(ay b1 b2:Int)∣b2:=ci ..;have huv:Cop u v:=by
  have e:ay ((ay b1 b2:Int)*u) ((ay b1 b2:Int)*v)=ay b1 b2*ay u v:=by rw[hR];rfl
  rw[<-hu,<-hv] at e;have:ay b1 b2*ay u v=ay b1 b2*1:=by omega
  exact fk hd this
 generalize hD:(ay b1 b2:Int)=d at *;have d0:0<d:=by omega
 subst hu;subst hv;rw[dC _ (by omega:d≠0),dC _ (by omega:d≠0)];have pos:∀{x:Int},0<d*x->0<x:=fun{x} hx=>by
  by_cases z:0<x
  ·exact z
  ·have:d*x<=0:=dH (by omega) (by omega);omega
 have u0:=pos h1;have v0:=pos h3;have MY:Cop (n1*v+n2*u) u:=zD (tM (mV (Int.dvd_refl _) (mV ⟨d,bz _ _⟩ h2.symm).symm) huv.symm);have MX:Cop (n1*v+n2*u) v:=by rw[Int.add_comm];exact zD (tM (mV ⟨d,bz _ _⟩ h4.symm).symm huv)
 generalize hT:n1*v+n2*u=t at *;have he:0<ay t d:=bN _ (by omega);obtain⟨t',ht⟩:(ay t d:Int)∣t:=eA ..;obtain⟨e',hE⟩:(ay t d:Int)∣d:=ci ..;have cte:Cop t' e':=by
  have e:ay ((ay t d:Int)*t') ((ay t d:Int)*e')=ay t d*ay t' e':=by rw[hR];rfl
  rw[<-ht,<-hE] at e;have:ay t d*ay t' e'=ay t d*1:=by omega
  exact fk he this
 generalize hG:(ay t d:Int)=g at *;have g0:0<g:=by omega
 have e0:0<e':=by
  by_cases z:0<e'
  ·exact z
  ·have:g*e'<=0:=dH (by omega) (by omega);omega
 have q1:t/g=t':=by rw[ht];exact dC _ (by omega)
 have q2:d*v/g=e'*v:=by rw[hE,aX];exact dC _ (by omega)
 rw[q1,q2];refine FA ⟨br u0 (br e0 v0),?_⟩ (br h1 h3) ?_
 ·have d1:t'∣t:=⟨g,by rw[ht];exact bz _ _⟩;exact(tM (mV d1 MY).symm (tM cte.symm (mV d1 MX).symm)).symm
 ·show t'*(d*u*(d*v))=(n1*(d*v)+n2*(d*u))*(u*(e'*v));have e1:n1*(d*v)+n2*(d*u)=d*t:=by rw[<-hT,Int.mul_add,dW,dW n2]
  rw[e1];have e2:d*t*(u*(e'*v))=d*(g*t')*(u*(e'*v)):=by rw[<-ht]
  have e3:t'*(d*u*(d*v))=t'*(d*u*(g*e'*v)):=by rw[<-hE]
  rw[e2,e3];simp only[aX,dW,bz]
def xQ{p q:Int×Int}(hp:Low p)(hq:Low q):Low (kT p q):=(pO (br hp.1 hq.1)).1
end Fra
namespace L2
open PySem PySem.Spec PyProof.Rows
def lsOf(s:Sto):PV->Option (List PV)
 |.lst l=>some l
 |.seq l=>some l
 |.ref n=>match s.get n with
  |some (.lst l)=>some l
  |_=>none
 |_=>none
def dcOf(s:Sto):PV->Option (List (Key×PV))
 |.dct l=>some l
 |.ref n=>match s.get n with
  |some (.dct l)=>some l
  |some (.dfz l)=>some l
  |_=>none
 |_=>none
def kyOf:PV->Option Key
 |.int i=>some (.inl i)
 |.str x=>some (.inr x)
 |_=>none
def toV:PV->Option V
 |.non=>some .non
 |.bl b=>some (.bl b)
 |.int i=>some (.int i)
 |.str x=>some (.str x)
 |_=>none
def toVs:List PV->Option (List V)
 |[]=>some []
 |p::l=>match toV p,toVs l with
  |some v,some vs=>some (v::vs)
  |_,_=>none
def lO(l:List (Key×PV))(k:Key):Option PV:=(l.find? fun kv=>decide (kv.1=k)).map (·.2)
def vh(l:List (Key×PV))(k:Key)(p:PV):List (Key×PV) :=
 if(l.any fun kv=>decide (kv.1=k))=true then l.map (fun kv=>if kv.1=k then(kv.1,p) else kv) else l++[(k,p)]
def sD(f:PV->Option PyData):List PV->Option (List PyData)
 |[]=>some []
 |p::l=>match f p,sD f l with
  |some d,some ds=>some (d::ds)
  |_,_=>none
def PV.data(s:Sto):Nat->PV->Option PyData
 |0,_=>none
 |_+1,.non=>some .none
 |_+1,.bl b=>some (.bool b)
 |_+1,.int i=>some (.int i)
 |_+1,.str x=>if cK x=true then some (.str x) else none
 |k+1,.tup l=>(sD (PV.data s k) l).map .tuple
 |k+1,.lst l=>(sD (PV.data s k) l).map .list
 |k+1,.seq l=>(sD (PV.data s k) l).map .list
 |k+1,.ref n=>match s.get n with
  |some (.lst l)=>(sD (PV.data s k) l).map .list
  |_=>none
 |_+1,_=>none
section
variable{K:aa}{CB:ac}{H:Hp}{m:Mp}{s:Sto}{x y:V}{v w:PV}
def Rep.ls(S:SR K CB H m s)(r:Rep K H m s x v){l:List PV}(e:lsOf s v=some l):∃a vs,x=.ref a/\SqL K H a vs/\Reps K H m s vs l:=by
 cases r with
 |lst h _ q=>cases e;exact⟨_,_,rfl,SqL.of h,q⟩
 |seq h q=>cases e;exact⟨_,_,rfl,h.elim (fun z=>.inl (.inr z.1)) .inr,q⟩
 |ref h =>
  rename_i n;have e:(match s.get n with|some (.lst l)=>some l|_=>none)=some l:=e;split at e<;>cases e
  rename_i hg;obtain⟨_,vs,h1,h2⟩:=S.get hg;exact⟨_,vs,rfl,SqL.of h1,h2⟩
 |_=>cases e
def Rep.tp(r:Rep K H m s x (.tup l)):∃a vs,x=.ref a/\SqT K H a vs/\Reps K H m s vs l:=by
 cases r with
 |tup h q=>exact⟨_,_,rfl,h.elim (fun z=>.inl z.1) .inr,q⟩
def Rep.dc(S:SR K CB H m s)(r:Rep K H m s x v){l:List (Key×PV)}(e:dcOf s v=some l):∃a vs,x=.ref a/\Rd H a (.dK vs)/\RepKs K H m s vs l:=by
 cases r with
 |dct h _ q=>cases e;exact⟨_,_,rfl,h,q⟩
 |ref h =>
  rename_i n;have e:(match s.get n with|some (.dct l)=>some l|some (.dfz l)=>some l|_=>none)=some l:=e;split at e<;>cases e
  ·rename_i hg;obtain⟨_,vs,h1,h2⟩:=S.get hg;exact⟨_,vs,rfl,.inl h1,h2⟩
  ·rename_i hg;obtain⟨_,ob,vs,h1,h2⟩:=S.get hg;exact⟨_,vs,rfl,.inr ⟨ob,h1⟩,h2⟩
 |_=>cases e
theorem Rep.toV(r:Rep K H m s x v){z:V}(e:L2.toV v=some z):x=z:=by cases r<;>first|cases e;rfl|cases e
theorem Reps.toVs:∀{vs:List V}{l:List PV}{zs:List V},Reps K H m s vs l->L2.toVs l=some zs->vs=zs
 |_,_,_,.nil,e=>by cases e;rfl
 |_,_,_,.cons a b,e=>by
  unfold L2.toVs at e;split at e<;>cases e
  rename_i h1 h2;rw[a.toV h1,b.toVs h2]
def tV{v:PV}{z:V}(e:L2.toV v=some z):oj z=true:=by cases v<;>first|cases e;rfl|cases e
theorem rl:∀{l:List PV}{zs:List V},L2.toVs l=some zs->zs.all oj=true
 |[],_,e=>by cases e;rfl
 |p::l,_,e=>by
  unfold L2.toVs at e;split at e<;>cases e
  rename_i h1 h2;rw[gE,tV h1,rl h2];rfl
theorem Reps.get:∀{vs:List V}{l:List PV}{i:Nat}{p:PV},Reps K H m s vs l->l[i]?=some p->∃u,vs[i]?=some u/\Rep K H m s u p
 |_,_,_,_,.nil,e=>by simp at e
 |_,_,0,_,.cons a _,e=>by simp at e;subst e;exact⟨_,rfl,a⟩
 |_,_,i+1,p,.cons _ b,e=>by obtain⟨u,h1,h2⟩:=b.get (i:=i) (p:=p) (by simpa using e);exact⟨u,by simpa using h1,h2⟩
theorem Reps.atI{vs:List V}{l:List PV}(r:Reps K H m s vs l){i:Int}{p:PV}(e:L2.atI l i=some p):∃u,L2.atI vs i=some u/\Rep K H m s u p:=by
 unfold L2.atI at e ⊢;rw[r.length];cases c:ixN l.length i with
 |none=>rw[c] at e;cases e
 |some j=>rw[c] at e;exact r.get e
theorem Reps.append:∀{vs ws:List V}{l k:List PV},Reps K H m s vs l->Reps K H m s ws k->Reps K H m s (vs++ws) (l++k)
 |_,_,_,_,.nil,q=>q
 |_,_,_,_,.cons a b,q=>.cons a (b.append q)
theorem Reps.drop:∀{vs:List V}{l:List PV}(n:Nat),Reps K H m s vs l->Reps K H m s (vs.drop n) (l.drop n)
 |_,_,0,r=>r
 |_,_,_+1,.nil=>.nil
 |_,_,n+1,.cons _ b=>b.drop n
theorem Reps.take:∀{vs:List V}{l:List PV}(n:Nat),Reps K H m s vs l->Reps K H m s (vs.take n) (l.take n)
 |_,_,0,_=>.nil
 |_,_,_+1,.nil=>.nil
 |_,_,n+1,.cons a b=>.cons a (b.take n)
theorem Reps.set:∀{vs:List V}{l:List PV}{u:V}{p:PV}(i:Nat),Reps K H m s vs l->Rep K H m s u p->Reps K H m s (vs.set i u) (l.set i p)
 |_,_,_,_,_,.nil,_=>.nil
 |_,_,_,_,0,.cons _ b,r=>.cons r b
 |_,_,_,_,i+1,.cons a b,r=>.cons a (b.set i r)
theorem Reps.strs:∀{vs:List V}{ss:List Str},Reps K H m s vs (ss.map PV.str)->vs=ss.map V.str
 |_,[],.nil=>rfl
 |_,x::ss,.cons a b=>by cases a;rw[Reps.strs (ss:=ss) b];rfl
theorem Reps.ofStrs:∀(ss:List Str),Reps K H m s (ss.map V.str) (ss.map PV.str)
 |[]=>.nil
 |_::r=>.cons .str (Reps.ofStrs r)
theorem RepKs.keys:∀{vs:List (Key×V)}{l:List (Key×PV)},RepKs K H m s vs l->vs.map (·.1)=l.map (·.1)
 |_,_,.nil=>rfl
 |_,_,.cons _ b=>by simp[b.keys]
theorem RepKs.length{vs:List (Key×V)}{l:List (Key×PV)}(r:RepKs K H m s vs l):vs.length=l.length:=by have:=congrArg b7 r.keys;simpa using this
theorem RepKs.val:∀{vs:List (Key×V)}{l:List (Key×PV)}(k:Key),RepKs K H m s vs l->(∀p,lO l k=some p->∃u,lX vs k=some u/\Rep K H m s u p)/\(lO l k=none->lX vs k=none)
 |_,_,k,.nil=>⟨fun p e=>(by cases e),fun _=>rfl⟩
 |_,_,k,.cons (k:=q) (p:=p0) (v:=v0) a b=>by
  by_cases e:q=k
  ·refine⟨fun p h=>⟨v0,qH e,?_⟩,fun h=>?_⟩
   ·unfold lO at h;simp[e] at h;subst h;exact a
   ·unfold lO at h;simp[e] at h
  ·rw[qI e];have h2:∀{l:List (Key×PV)},lO ((q,p0)::l) k=lO l k:=fun{l}=>by unfold lO;simp[e]
   rw[h2];exact b.val k
theorem RepKs.any{vs:List (Key×V)}{l:List (Key×PV)}(r:RepKs K H m s vs l)(k:Key):(vs.any fun kv=>decide (kv.1=k))=l.any fun kv=>decide (kv.1=k):=by
 have h:∀{β:Type}(l:List (Key×β)),(l.any fun kv=>decide (kv.1=k))=(l.map (·.1)).any fun j=>decide (j=k):=fun l=>by rw[fQ];rfl
 rw[h,h,r.keys]
theorem RepKs.mapput:∀{vs:List (Key×V)}{l:List (Key×PV)}{u:V}{p:PV}(k:Key),RepKs K H m s vs l->Rep K H m s u p->RepKs K H m s (vs.map fun kv=>if kv.1=k then(kv.1,u) else kv) (l.map fun kv=>if kv.1=k then(kv.1,p) else kv)
 |_,_,_,_,_,.nil,_=>.nil
 |_,_,u,p,k,.cons (k:=q) a b,r=>by
  rw[aG,aG];by_cases e:q=k
  ·rw[if_pos e,if_pos e];exact .cons r (b.mapput k r)
  ·rw[if_neg e,if_neg e];exact .cons a (b.mapput k r)
theorem RepKs.append:∀{vs ws:List (Key×V)}{l k:List (Key×PV)},RepKs K H m s vs l->RepKs K H m s ws k->RepKs K H m s (vs++ws) (l++k)
 |_,_,_,_,.nil,q=>q
 |_,_,_,_,.cons a b,q=>.cons a (b.append q)
def RepKs.put{vs:List (Key×V)}{l:List (Key×PV)}{u:V}{p:PV}(k:Key)(q:RepKs K H m s vs l)(r:Rep K H m s u p):RepKs K H m s (oH vs k u) (vh l k p):=by
 unfold oH vh;rw[q.any];split
 ·exact q.mapput k r
 ·exact q.append (.cons r .nil)
def nI{k:Key}(r:Rep K H m s x v)(e:kyOf v=some k):x=kV k:=by cases r<;>first|cases e;rfl|cases e
end
section
variable{X:Cx}{CB:ac}{E:XK}
theorem Reps.readss{sh:ah}{H:Hp}{m:Mp}{s:Sto}{k:Nat}(ih:∀{v:V}{p:PV}{u:ae}{d:PyData},Rep X.K H m s v p->RelV v u->PV.data s k p=some d->(∃as,Reads sh.heap u d as)/\d.canLay0=true/\d.depth<=k) :
  ∀{v:List V}{p:List PV}{u:List ae}{d:List PyData},Reps X.K H m s v p->Vals v u->sD (PV.data s k) p=some d->(∃as,ReadsAll sh.heap u.toArray.toList d as)/\jx d=true/\PyData.depthAll d<=k
 |_,_,_,_,.nil,.nil,e=>by unfold sD at e;cases e;exact⟨⟨_,.nil⟩,rfl,a6 _⟩
 |_,_,_,_,.cons a b,.cons r rs,e=>by
  unfold sD at e;split at e<;>cases e
  rename_i h1 h2;obtain⟨⟨as,r1⟩,r2,r3⟩:=ih a r h1;obtain⟨⟨bs,q1⟩,q2,q3⟩:=Reps.readss ih b rs h2;refine⟨⟨_,.cons r1 (by simpa using q1)⟩,by unfold jx;rw[r2,q2];rfl,?_⟩;unfold PyData.depthAll;omega
theorem Rep.reads{GX:List (ac×Obj)}{σ:St}{H:Hp}{sh:ah}{m:Mp}{s:Sto}(I:Inv X GX σ H sh)(S:SR X.K CB H m s):∀(k:Nat){v:V}{p:PV}{u:ae}{d:PyData},Rep X.K H m s v p->RelV v u->PV.data s k p=some d ->
  (∃as,Reads sh.heap u d as)/\d.canLay0=true/\d.depth<=k
 |0,_,p,_,_,_,_,e=>by cases p<;>(unfold PV.data at e;cases e)
 |k+1,_,_,_,_,.non,ru,e=>by cases ru;unfold PV.data at e;cases e;exact⟨⟨_,.none⟩,rfl,a6 _⟩
 |k+1,_,_,_,_,.bl,ru,e=>by cases ru;unfold PV.data at e;cases e;exact⟨⟨_,.bool _⟩,rfl,a6 _⟩
 |k+1,_,_,_,_,.int,ru,e=>by obtain⟨t,rfl⟩:=ru;unfold PV.data at e;cases e;exact⟨⟨_,.int _ _⟩,rfl,a6 _⟩
 |k+1,_,_,_,_,.str,ru,e=>by
  obtain⟨t,rfl⟩:=ru;unfold PV.data at e;split at e<;>cases e
  rename_i h;exact⟨⟨_,.str _ _⟩,h,a6 _⟩
 |k+1,_,_,_,_,.tup (l:=l) h q,ru,e=>by
  cases ru;unfold PV.data at e;cases c:sD (PV.data s k) l with
  |none=>rw[c] at e;cases e
  |some ds =>
   rw[c] at e;cases e;obtain⟨its,rv,⟨o,g1,g2,n,g3⟩,_⟩:=I.tuple (h.elim (fun z=>(.inl z.1:SqT X.K H _ _)) .inr);obtain⟨⟨as,r1⟩,r2,r3⟩:=Reps.readss (Rep.reads I S k) q rv c;exact⟨⟨_,.tuple g1 g2 g3 r1⟩,by unfold f6;exact r2,by unfold gG;omega⟩
 |k+1,_,_,_,_,.lst (l:=l) h _ q,ru,e=>by
  cases ru;unfold PV.data at e;cases c:sD (PV.data s k) l with
  |none=>rw[c] at e;cases e
  |some ds =>
   rw[c] at e;cases e;obtain⟨its,rv,⟨o,n,g1,g2,_,g3⟩,_⟩:=I.list (SqL.of h);obtain⟨⟨as,r1⟩,r2,r3⟩:=Reps.readss (Rep.reads I S k) q rv c;exact⟨⟨_,.list g1 g2 g3 r1⟩,by unfold f6;exact r2,by unfold gG;omega⟩
 |k+1,_,_,_,_,.seq (l:=l) h q,ru,e=>by
  cases ru;unfold PV.data at e;cases c:sD (PV.data s k) l with
  |none=>rw[c] at e;cases e
  |some ds =>
   rw[c] at e;cases e;obtain⟨its,rv,⟨o,n,g1,g2,_,g3⟩,_⟩:=I.list (h.elim (fun z=>(.inl (.inr z.1):SqL X.K H _ _)) .inr);obtain⟨⟨as,r1⟩,r2,r3⟩:=Reps.readss (Rep.reads I S k) q rv c;exact⟨⟨_,.list g1 g2 g3 r1⟩,by unfold f6;exact r2,by unfold gG;omega⟩
 |k+1,_,_,_,_,.dct _ _ _,_,e=>by unfold PV.data at e;cases e
 |k+1,_,_,_,_,.exc _ _,_,e=>by unfold PV.data at e;cases e
 |k+1,_,_,_,_,.clo _,_,e=>by unfold PV.data at e;cases e
 |k+1,_,_,_,_,.ref _,ru,e=>by
  cases ru;unfold PV.data at e;split at e<;>first|cases e|skip
  rename_i l hg;cases c:sD (PV.data s k) l with
  |none=>rw[c] at e;cases e
  |some ds =>
   rw[c] at e;cases e;obtain⟨_,vs,h1,q⟩:=S.get hg;obtain⟨its,rv,⟨o,n,g1,g2,_,g3⟩,_⟩:=I.list (SqL.of h1);obtain⟨⟨as,r1⟩,r2,r3⟩:=Reps.readss (Rep.reads I S k) q rv c;exact⟨⟨_,.list g1 g2 g3 r1⟩,by unfold f6;exact r2,by unfold gG;omega⟩
def Bt(k:Nat)(n:Int):Prop:=n.natAbs<2^k
def Bt.mono{k l:Nat}{n:Int}(h:Bt k n)(hl:k<=l):Bt l n:=au h (cD (by decide) hl)
def Bt.mul{k l:Nat}{n m:Int}(h:Bt k n)(g:Bt l m):Bt (k+l) (n*m):=by
 unfold Bt at *;rw[gu,Nat.pow_add];by_cases z:m.natAbs=0
 ·rw[z,Nat.mul_zero];exact Nat.mul_pos (dD k) (dD l)
 ·exact au (Nat.mul_lt_mul_of_pos_right h (Nat.pos_of_ne_zero z)) (jI _ (dU g))
def Bt.neg{k:Nat}{n:Int}(h:Bt k n):Bt k (-n):=by unfold Bt at *;rw[gs];exact h
def Bt.div{k:Nat}{n d:Int}(h:Bt k n):Bt k (n/d):=aZ (Int.natAbs_ediv_le_natAbs n d) h
def Bt.dvd{k:Nat}{n d:Int}(h:Bt k n)(hn:n≠0)(hd:d∣n):Bt k d:=aZ (Nat.le_of_dvd (by omega) (d8.mpr hd)) h
def Bt.log{n:Int}(h:Bt 9000 n)(h0:0<n):n.natAbs.log2<9000:=(Nat.log2_lt (by omega)).mpr h
def xO{i:Int}(h:Bt 20000 i):bL i<=2^20:=by
 unfold bL;split
 ·exact a6 _
 ·rename_i z;have z:i≠0:=by simpa using z
  have:=(Nat.log2_lt (by omega:i.natAbs≠0)).mpr h;omega
def op_mulB:OpR X (cH .Mult) (rI (fun i j=>Bt 20000 i/\Bt 20000 j) fun i j=>.int (i*j)):=opI fun _ _ _ _ _ _ _ hc q=>mul_int q (.of_bits (xO hc.1) (xO hc.2))
def CL(K:aa):R2:=fun x y H Q=>∃l b xs zs,x=.ref l/\y=.ref b/\SqL K H l xs/\SqL K H b zs/\xs.length+zs.length<=aB/\∀p,H p=none->Q (.ref p) (upd H p (.lst (xs++zs)))
def Ds:OpR X (cH .Add) (CL X.K):=by
 intro GX s σ H x y v u Q I rx ry h;obtain⟨l,b,xs,zs,rfl,rfl,hH,hB,hz,q⟩:=h;cases rx;cases ry;obtain⟨its,r,ht,_⟩:=I.list hH;obtain⟨IJ,r2,Mc,_⟩:=I.list hB;have l1:=r.length;have l2:=r2.length;obtain⟨⟨cls,dd,data,sl⟩,n,ho,hc,_,hd⟩:=ht;obtain⟨⟨cls2,dd2,data2,Jq⟩,n2,Jf,KP,_,hd2⟩:=Mc;simp only at hc hd KP hd2;subst hc hd KP hd2;refine concat_meets ⟨_,ho,rfl⟩ ⟨_,Jf,rfl⟩ noFill_list_add seq_list_add PySem.F.slot_list_add PySem.F.entry_list_add (PySem.F.args_list_add_2 _ _) (list_addW l b its.toArray IJ.toArray n n2 dd dd2 sl Jq (by rw[aJ,aJ];omega)) ⟨ho,Jf,?_⟩;have ea:its.toArray++IJ.toArray=(its++IJ).toArray:=by simp
 rw[ea];exact⟨.ref _,_,I.lnew (t':=s.toks) (r.append r2) (by rw[aI];omega),rfl,q _ I.fresh⟩
def GN:R2:=fun x y H Q=>∃a v,x=.ref a/\DGet H a y (some v)/\Q v H
def DV(hu:X.A.units+1<dL):IxR X GN:=by
 intro value G9 GX s σ H x y v u Q I rx ry h hs;obtain⟨a,z,rfl,g,q⟩:=h;obtain rfl:v=aV a:=rx;have hT:=rS I g;unfold gZ;refine ao ?_;rw[getitemInPython_of_ne hT.not_modules];refine ao (wpAny_specialOf hT hV.lookup ?_);have Hd:aP (model X.prog X.w) X.A (subscripted G9 false (.ref a) u) (fun r G2=>aP (model X.prog X.w) X.A (letTemporaryGo value (.ref a) r >>= fun _=>pure r) (EP X GX σ Q) X.xe G2) X.xe s:=by rw[hs];exact wpAny_operating (bo (vy hu I g ry fun w' s3 I3 HG=>(⟨z,H,I3,HG,q⟩:EP X GX σ Q w' s3)) (fun r G2 J8=>ao (wpAny_letTemporaryGo (aH J8))) fun _ _ x=>x)
 first
  |exact aH (ao Hd)
  |exact ao (aH (ao Hd))
  |exact ao Hd
def rInD:R2:=fun y x H Q=>∃a o,x=.ref a/\DGet H a y o/\Q (.bl o.isSome) H
def Db:R2:=fun y x H Q=>∃a o,x=.ref a/\DGet H a y o/\Q (.bl (!o.isSome)) H
def ym(hu:X.A.units+1<dL):OpR X (bI .In) rInD:=by intro GX s σ H y x v u Q I ry rx h;obtain⟨a,o,rfl,g,q⟩:=h;obtain rfl:u=aV a:=rx;exact d_in hu I g ry fun s3 I3=>⟨.bl o.isSome,H,I3,rfl,q⟩
def ux(hu:X.A.units+1<dL):OpR X (bI .NotIn) Db:=by intro GX s σ H y x v u Q I ry rx h;obtain⟨a,o,rfl,g,q⟩:=h;obtain rfl:u=aV a:=rx;exact Ew hu I g ry fun s3 I3=>⟨.bl (!o.isSome),H,I3,rfl,q⟩
def An:CallR X (.builtin "len") (fun xs H Q=>∃a kvs,xs=[V.ref a]/\Rd H a (.dK kvs)/\Q (.int kvs.length) H):=by intro GX s σ H xs us Q I r h;obtain⟨a,kvs,rfl,ha,q⟩:=h;obtain⟨u,rfl,ru⟩:=oB r;cases ru;exact Fc I ha fun t s' I'=>⟨.int kvs.length,H,I',⟨t,rfl⟩,q⟩
def GO(K:aa)(CB:ac)(neg:Bool):R2:=fun x y H Q=>∃m s v w d e,SR K CB H m s/\Rep K H m s x v/\Rep K H m s y w/\PV.data s 12 v=some d/\PV.data s 12 w=some e/\Q (.bl (if neg then !dy d e else dy d e)) H
def FU{CB:ac}(hu:X.A.units+12<dL):OpR X (bI .Eq) (GO X.K CB false):=by intro GX s σ H x y v u Q I rx ry h;obtain⟨m,t,p,q,d,e,S,r1,r2,e1,e2,k⟩:=h;obtain⟨⟨as,a1⟩,a2,a3⟩:=r1.reads I S 12 rx e1;obtain⟨⟨bs,b1⟩,b2,b3⟩:=r2.reads I S 12 ry e2;exact SeqAt.rcAt_reads a1 b1 a2 b2 (by omega) _ _ _ _ ⟨.bl _,H,I,rfl,k⟩
def FQ{CB:ac}(hu:X.A.units+12<dL):OpR X (bI .NotEq) (GO X.K CB true):=by intro GX s σ H x y v u Q I rx ry h;obtain⟨m,t,p,q,d,e,S,r1,r2,e1,e2,k⟩:=h;obtain⟨⟨as,a1⟩,a2,a3⟩:=r1.reads I S 12 rx e1;obtain⟨⟨bs,b1⟩,b2,b3⟩:=r2.reads I S 12 ry e2;exact SeqAt.rcNeAt_reads a1 b1 a2 b2 (by omega) _ _ _ _ ⟨.bl _,H,I,rfl,k⟩
end
def nz(i j:Int):Prop:=(Bt 20000 i/\Bt 20000 j)\/CMul i j
def yN(j:Int):Prop:=0<j/\Bt 9000 j
noncomputable instance (i j:Int):Decidable (nz i j):=cE _
noncomputable instance (j:Int):Decidable (yN j):=cE _
def fAdd(v w:PV)(s:Sto):Out PV:=match v,w with
 |.int i,.int j=>.ok (.int (i+j)) s
 |.str x,.str y=>if x.length+y.length<=100000 then .ok (.str (x++y)) s else .bad
 |v,w=>match lsOf s v,lsOf s w with
  |some l,some k=>if l.length+k.length<=100000 then .ok (.lst (l++k)) s else .bad
  |_,_=>.bad
def fSub(v w:PV)(s:Sto):Out PV:=match v,w with
 |.int i,.int j=>.ok (.int (i-j)) s
 |_,_=>.bad
def fMul(v w:PV)(s:Sto):Out PV:=match v,w with
 |.int i,.int j=>if nz i j then .ok (.int (i*j)) s else .bad
 |.lst l,.int k=>if -(2^63)<=k/\k<2^63/\l.length*k.toNat<=100000 then .ok (.lst (aK k.toNat l).flatten) s else .bad
 |_,_=>.bad
def fDiv(v w:PV)(s:Sto):Out PV:=match v,w with
 |.int i,.int j=>if yN j then .ok (.int (i/j)) s else .bad
 |_,_=>.bad
def fMod(v w:PV)(s:Sto):Out PV:=match v,w with
 |.int i,.int j=>if 0<j then .ok (.int (i%j)) s else .bad
 |_,_=>.bad
def fPow(v w:PV)(s:Sto):Out PV:=match v,w with
 |.int i,.int j=>if 0<=j/\j<=1000000/\i.natAbs<2^64 then .ok (.int (i^j.toNat)) s else .bad
 |_,_=>.bad
def fCmp(p:Int->Int->Bool)(v w:PV)(s:Sto):Out PV:=match v,w with
 |.int i,.int j=>.ok (.bl (p i j)) s
 |_,_=>.bad
abbrev fLt:=fCmp fun i j=>decide (i<j)
abbrev fGt:=fCmp fun i j=>decide (j<i)
abbrev fGe:=fCmp fun i j=>decide (j<=i)
def fEqN(neg:Bool)(v w:PV)(s:Sto):Out PV:=match PV.data s 12 v,PV.data s 12 w with
 |some d,some e=>.ok (.bl (if neg then !dy d e else dy d e)) s
 |_,_=>.bad
abbrev fEq:=fEqN false
abbrev fNe:=fEqN true
def PV.isNon:PV->Bool
 |.non=>true
 |_=>false
def fIs(v w:PV)(s:Sto):Out PV:=match w with
 |.non=>.ok (.bl v.isNon) s
 |_=>.bad
def fIsnt(v w:PV)(s:Sto):Out PV:=match w with
 |.non=>.ok (.bl (!v.isNon)) s
 |_=>.bad
def xS(neg b:Bool):Bool:=if neg then !b else b
def mB(neg:Bool)(v w:PV)(s:Sto):Out PV:=match dcOf s w with
 |some l=>match kyOf v with
  |some k=>.ok (.bl (xS neg (lO l k).isSome)) s
  |none=>.bad
 |none=>match toV v with
  |none=>.bad
  |some x=>match w with
   |.tup l=>match toVs l with
    |some zs=>.ok (.bl (xS neg (inV x zs))) s
    |none=>.bad
   |w=>match lsOf s w with
    |some l=>match toVs l with
     |some zs=>.ok (.bl (xS neg (inV x zs))) s
     |none=>.bad
    |none=>.bad
abbrev fIn:=mB false
abbrev oF:=mB true
def fIx(v w:PV)(s:Sto):Out PV:=match v with
 |.tup l=>match w with
  |.int i=>match atI l i with
   |some p=>.ok p s
   |none=>.bad
  |_=>.bad
 |.str x=>match w with
  |.int i=>match atI x.cps.toList i with
   |some c=>if x.length<=100000 then .ok (.str ⟨#[c]⟩) s else .bad
   |none=>.bad
  |_=>.bad
 |v=>match lsOf s v with
  |some l=>match w with
   |.int i=>match atI l i with
    |some p=>.ok p s
    |none=>.bad
   |_=>.bad
  |none=>match dcOf s v with
   |some l=>match kyOf w with
    |some k=>match lO l k with
     |some p=>.ok p s
     |none=>.bad
    |none=>.bad
   |none=>.bad
def fNeg(v:PV)(s:Sto):Out PV:=match v with
 |.int i=>.ok (.int (-i)) s
 |_=>.bad
section
variable{X:Cx}{CB:ac}{E:XK}
def o_add:Op2 X.K CB E (fun x y H Q=>rI0 (fun i j=>V.int (i+j)) x y H Q\/(∃i j,x=V.str i/\y=V.str j/\i.length+j.length<=aB/\Q (V.str (i++j)) H)\/CL X.K x y H Q) fAdd:=by
 intro H m s v w x y Q S rx ry P;unfold fAdd at P;split at P
 ·cases rx;cases ry;exact .inl ⟨_,_,rfl,rfl,P.here S .int⟩
 ·cases rx;cases ry;split at P
  ·rename_i h;exact .inr (.inl ⟨_,_,rfl,rfl,sz5 h,P.here S .str⟩)
  ·exact P.elim
 ·split at P
  ·rename_i l k h1 h2;split at P
   ·rename_i h;obtain⟨a,vs,rfl,q1,r1⟩:=rx.ls S h1;obtain⟨b,ws,rfl,q2,r2⟩:=ry.ls S h2;exact .inr (.inr ⟨a,b,vs,ws,rfl,rfl,q1,q2,by rw[r1.length,r2.length];exact sz5 h,fun p hp=>P.new S hp fun ex S'=>.lst jR (S.pure_none hp) ((r1.append r2).ext ex)⟩)
   ·exact P.elim
  ·exact P.elim
def Dt:OpR X (cH .Add) (fun x y H Q=>rI0 (fun i j=>V.int (i+j)) x y H Q\/(∃i j,x=V.str i/\y=V.str j/\i.length+j.length<=aB/\Q (V.str (i++j)) H)\/CL X.K x y H Q):=op_add.or (op_add_str.or Ds)
def o_sub:Op2 X.K CB E (rI0 fun i j=>V.int (i-j)) fSub:=by
 intro H m s v w x y Q S rx ry P;unfold fSub at P;split at P
 ·cases rx;cases ry;exact⟨_,_,rfl,rfl,P.here S .int⟩
 ·exact P.elim
theorem Reps.rep{K:aa}{H:Hp}{m:Mp}{s:Sto}{vs:List V}{l:List PV}(r:Reps K H m s vs l):∀n,Reps K H m s (aK n vs).flatten (aK n l).flatten
 |0=>.nil
 |n+1=>by rw[ck,ck,cT,cT];exact r.append (r.rep n)
def o_mul:Op2 X.K CB E (fun x y H Q=>(rI (fun i j=>Bt 20000 i/\Bt 20000 j) (fun i j=>V.int (i*j)) x y H Q\/rI CMul (fun i j=>V.int (i*j)) x y H Q)\/GJ x y H Q) fMul:=by
 intro H m s v w x y Q S rx ry P;unfold fMul at P;split at P
 ·cases rx;cases ry;split at P
  ·rename_i h;rcases h with h|h
   ·exact .inl (.inl ⟨_,_,rfl,rfl,h,P.here S .int⟩)
   ·exact .inl (.inr ⟨_,_,rfl,rfl,h,P.here S .int⟩)
  ·exact P.elim
 ·split at P
  ·rename_i h;cases rx with
   |lst h1 _ r1 =>
    cases ry;exact .inr ⟨_,_,_,rfl,rfl,h1,h.1,h.2.1,by rw[r1.length];exact sz5 h.2.2,fun p hp=>P.new S hp fun ex S'=>.lst jR (S.pure_none hp) ((r1.rep _).ext ex)⟩
  ·exact P.elim
 ·exact P.elim
def Dr:OpR X (cH .Mult) (fun x y H Q=>(rI (fun i j=>Bt 20000 i/\Bt 20000 j) (fun i j=>V.int (i*j)) x y H Q\/rI CMul (fun i j=>V.int (i*j)) x y H Q)\/GJ x y H Q):=(op_mulB.or FR).or FO
def o_div:Op2 X.K CB E (rI (fun _ j=>0<j/\j.natAbs.log2<9000) fun i j=>V.int (i/j)) fDiv:=by
 intro H m s v w x y Q S rx ry P;unfold fDiv at P;split at P
 ·cases rx;cases ry;split at P
  ·rename_i h;exact⟨_,_,rfl,rfl,⟨h.1,h.2.log h.1⟩,P.here S .int⟩
  ·exact P.elim
 ·exact P.elim
def o_mod:Op2 X.K CB E (rI (fun _ j=>0<j) fun i j=>V.int (i%j)) fMod:=by
 intro H m s v w x y Q S rx ry P;unfold fMod at P;split at P
 ·cases rx;cases ry;split at P
  ·rename_i h;exact⟨_,_,rfl,rfl,h,P.here S .int⟩
  ·exact P.elim
 ·exact P.elim
def o_pow:Op2 X.K CB E (rI CPow fun i j=>V.int (i^j.toNat)) fPow:=by
 intro H m s v w x y Q S rx ry P;unfold fPow at P;split at P
 ·cases rx;cases ry;split at P
  ·rename_i h;exact⟨_,_,rfl,rfl,h,P.here S .int⟩
  ·exact P.elim
 ·exact P.elim
def CN{p:Int->Int->Bool}:Op2 X.K CB E (rI0 fun i j=>V.bl (p i j)) (fCmp p):=by
 intro H m s v w x y Q S rx ry P;unfold fCmp at P;split at P
 ·cases rx;cases ry;exact⟨_,_,rfl,rfl,P.here S .bl⟩
 ·exact P.elim
def E3{neg:Bool}:Op2 X.K CB E (GO X.K CB neg) (fEqN neg):=by
 intro H m s v w x y Q S rx ry P;unfold fEqN at P;split at P
 ·rename_i d e h1 h2;exact⟨m,s,v,w,d,e,S,rx,ry,h1,h2,P.here S .bl⟩
 ·exact P.elim
def GP(neg:Bool):R2:=fun y x H Q=>∃a o,x=.ref a/\DGet H a y o/\Q (.bl (xS neg o.isSome)) H
def o_in{neg:Bool}:Op2 X.K CB E (fun x y H Q=>GP neg x y H Q\/rIn X.K neg x y H Q) (mB neg):=by
 intro H m s v w x y Q S rx ry P;unfold mB at P;split at P
 ·rename_i l hl;split at P
  ·rename_i k hk;obtain⟨a,vs,rfl,q,r⟩:=ry.dc S hl;refine .inl ⟨a,lX vs k,rfl,.inl ⟨vs,k,q,nI rx hk,rfl⟩,?_⟩;obtain⟨r1,r2⟩:=r.val k;cases c:lO l k with
   |none=>rw[r2 c];rw[c] at P;exact P.here S .bl
   |some p=>obtain⟨u,e,_⟩:=r1 p c;rw[e];rw[c] at P;exact P.here S .bl
  ·exact P.elim
 ·split at P
  ·exact P.elim
  ·rename_i z hz;have ez:=rx.toV hz;subst ez;split at P
   ·split at P
    ·rename_i l zs Kr;obtain⟨a,vs,rfl,q,r⟩:=ry.tp;have e:=r.toVs Kr;subst e;exact .inr ⟨a,vs,rfl,.inr q,tV hz,rl Kr,P.here S .bl⟩
    ·exact P.elim
   ·split at P
    ·rename_i l hl;split at P
     ·rename_i zs Kr;obtain⟨a,vs,rfl,q,r⟩:=ry.ls S hl;have e:=r.toVs Kr;subst e;exact .inr ⟨a,vs,rfl,.inl q,tV hz,rl Kr,P.here S .bl⟩
     ·exact P.elim
    ·exact P.elim
def FS(hu:X.A.units+1<dL):OpR X (bI .In) (fun x y H Q=>GP false x y H Q\/rIn X.K false x y H Q):=(ym hu).or zX
def zW(hu:X.A.units+1<dL):OpR X (bI .NotIn) (fun x y H Q=>GP true x y H Q\/rIn X.K true x y H Q):=(ux hu).or vR
def o_ix:Op2 X.K CB E (fun x y H Q=>(GK X.K x y H Q\/GL x y H Q)\/(GM X.K x y H Q\/GN x y H Q)) fIx:=by
 intro H m s v w x y Q S rx ry P;unfold fIx at P;split at P
 ·split at P
  ·split at P
   ·rename_i p hp;cases ry;obtain⟨a,vs,rfl,q,r⟩:=rx.tp;obtain⟨u,e,ru⟩:=r.atI hp;exact .inl (.inl ⟨a,vs,_,u,rfl,rfl,q,e,P.here S ru⟩)
   ·exact P.elim
  ·exact P.elim
 ·split at P
  ·split at P
   ·rename_i c hc;split at P
    ·rename_i hl;cases rx;cases ry;exact .inl (.inr ⟨_,_,c,rfl,rfl,sz5 hl,hc,P.here S .str⟩)
    ·exact P.elim
   ·exact P.elim
  ·exact P.elim
 ·split at P
  ·rename_i l hl;split at P
   ·split at P
    ·rename_i p hp;cases ry;obtain⟨a,vs,rfl,q,r⟩:=rx.ls S hl;obtain⟨u,e,ru⟩:=r.atI hp;exact .inr (.inl ⟨a,vs,_,u,rfl,rfl,q,e,P.here S ru⟩)
    ·exact P.elim
   ·exact P.elim
  ·split at P
   ·rename_i l hl;split at P
    ·rename_i k hk;split at P
     ·rename_i p hp;obtain⟨a,vs,rfl,q,r⟩:=rx.dc S hl;obtain⟨u,e,ru⟩:=(r.val k).1 p hp;exact .inr (.inr ⟨a,u,rfl,.inl ⟨vs,k,q,nI ry hk,e.symm⟩,P.here S ru⟩)
     ·exact P.elim
    ·exact P.elim
   ·exact P.elim
def ix_U(hu:X.A.units+1<dL):IxR X (fun x y H Q=>(GK X.K x y H Q\/GL x y H Q)\/(GM X.K x y H Q\/GN x y H Q)):=(ix_tup.or sw).or (ix_list.or (DV hu))
variable{a b c e:aN}{es:List aN}{f g h:XE}{fa:XA}{p pos G0 GY:Pos}{x:Str}
def kP(ha:DE X CB E a f)(hb:DE X CB E b g):DE X CB E (.BinOp a .Add b pos) (x2 f g fAdd):=tJ Dt o_add ha hb
def uJ(ha:DE X CB E a f)(hb:DE X CB E b g):DE X CB E (.BinOp a .Sub b pos) (x2 f g fSub):=tJ FN o_sub ha hb
def lg(ha:DE X CB E a f)(hb:DE X CB E b g):DE X CB E (.BinOp a .Mult b pos) (x2 f g fMul):=tJ Dr o_mul ha hb
def wD(ha:DE X CB E a f)(hb:DE X CB E b g):DE X CB E (.BinOp a .FloorDiv b pos) (x2 f g fDiv):=tJ nG o_div ha hb
def qE(ha:DE X CB E a f)(hb:DE X CB E b g):DE X CB E (.BinOp a .Mod b pos) (x2 f g fMod):=tJ Ck o_mod ha hb
def uK(ha:DE X CB E a f)(hb:DE X CB E b g):DE X CB E (.BinOp a .Pow b pos) (x2 f g fPow):=tJ FP o_pow ha hb
def hu12{A:bx}{k:Nat}(hr:Room k A):A.units+12<dL:=aZ (jJ (by decide:12<=64) _) hr.units
def ky(ha:DE X CB E a f)(hb:DE X CB E b g){jr:Nat}(hr:Room jr X.A:=by assumption)(hs:zK b:=by exact fun _ _=>rfl):DE X CB E (.Subscript a b pos) (x2 f g fIx):=⟨(ny (ix_U (lK hr)) ha.pe hb.pe hs).mono fun σ H Q q=>two o_ix q⟩
structure CmpR(X:Cx)(CB:ac)(E:XK)(op:gY)(F:PV->PV->Sto->Out PV):Prop where
 ex:∃r,OpR X (bI op) r/\Op2 X.K CB E r F
def c_lt:CmpR X CB E .Lt fLt:=⟨_,EY,CN⟩
def GV:CmpR X CB E .Gt fGt:=⟨_,E1,CN⟩
def c_ge:CmpR X CB E .GtE fGe:=⟨_,CM,CN⟩
def Ff{jr:Nat}(hr:Room jr X.A:=by assumption):CmpR X CB E .Eq fEq:=⟨_,FU (hu12 hr),E3⟩
def GU{jr:Nat}(hr:Room jr X.A:=by assumption):CmpR X CB E .NotEq fNe:=⟨_,FQ (hu12 hr),E3⟩
def c_in{jr:Nat}(hr:Room jr X.A:=by assumption):CmpR X CB E .In fIn:=⟨_,FS (lK hr),o_in⟩
def wu{jr:Nat}(hr:Room jr X.A:=by assumption):CmpR X CB E .NotIn oF:=⟨_,zW (lK hr),o_in⟩
def de_cp{op:gY}{F:PV->PV->Sto->Out PV}(r:CmpR X CB E op F)(ha:DE X CB E a f)(hb:DE X CB E b g)(hm:ce op b=false:=by first|exact pR _|with_unfolding_all rfl):DE X CB E (.Compare a [op] [b] pos) (x2 f g F):=let⟨_,r1,r2⟩:=r.ex;L2.de_cmp r1 r2 ha hb hm
def mU{op:gY}{F:PV->PV->Sto->Out PV}(r:CmpR X CB E op F)(ha:DE X CB E a f)(hb:DE X CB E b g)(hm:ce op b=false:=by first|exact pR _|with_unfolding_all rfl):DT X CB E (.Compare a [op] [b] pos) (xTr (x2 f g F)):=let⟨_,r1,r2⟩:=r.ex;L2.dt_cmp r1 r2 ha hb hm
abbrev XO':=En->Sto->Out (Option Int)
def TDO(K:aa)(CB:ac)(E:XK)(f:XO'):TO:=fun σ H Q=>∃ρ s m,ER K H m s σ ρ/\SR K CB H m s/\Post K CB (fun _ _ _ u v=>u=v) E (f ρ s) H m s Q
structure DO(X:Cx)(CB:ac)(E:XK)(e:Option aN)(f:XO'):Prop where
 po:PO X e (TDO X.K CB E f)
def xNoP(_:En)(s:Sto):Out (Option Int):=.ok none s
def xPart(f:XE)(ρ:En)(s:Sto):Out (Option Int):=(f ρ s).bind fun v s1=>match v with
 |.int i=>.ok (some i) s1
 |_=>.bad
def PO.mono{e:Option aN}{t t':TO}(h:PO X e t)(k:∀σ H Q,t' σ H Q->t σ H Q):PO X e t':=fun GX s σ H Q I q=>h GX s σ H Q I (k σ H Q q)
def wo:DO X CB E none xNoP:=⟨po_none.mono fun σ H Q ⟨ρ,s,m,er,S,P⟩=>P.here S rfl⟩
def wn(h:DE X CB E e f):DO X CB E (some e) (xPart f):=⟨(Dg h.pe).mono fun σ H Q ⟨ρ,s,m,er,S,P⟩=>⟨ρ,s,m,er,S,P.bind fun v s1 u H1 m1 e1 S1 r1 P1=>by cases r1<;>first|exact P1.elim|exact⟨_,rfl,P1.here S1 rfl⟩⟩⟩
def yP(l:List PV)(lo hi:Option Int):List PV:=(l.drop (HT.sIx l.length 0 lo)).take (HT.sIx l.length l.length hi-HT.sIx l.length 0 lo)
def fSl(v:PV)(lo hi:Option Int)(s:Sto):Out PV:=match v with
 |.tup l=>if HT.sIx l.length 0 lo=0/\HT.sIx l.length l.length hi=l.length then .bad else .ok (.tup (yP l lo hi)) s
 |v=>match lsOf s v with
  |some l=>.ok (.lst (yP l lo hi)) s
  |none=>.bad
def xSl(f:XE)(lo hi:XO')(ρ:En)(s:Sto):Out PV:=(f ρ s).bind fun v s1=>(lo ρ s1).bind fun l s2=>(hi ρ s2).bind fun u s3=>fSl v l u s3
def Reps.cut{K:aa}{H:Hp}{m:Mp}{s:Sto}{vs:List V}{l:List PV}(r:Reps K H m s vs l)(lo hi:Option Int):Reps K H m s (zB vs lo hi) (yP l lo hi):=by unfold zB yP;rw[r.length];exact(r.drop _).take _
def CQ{lo hi:Option aN}{fl fh:XO'}{p2:Pos}(ha:DE X CB E a f)(hl:DO X CB E lo fl)(hh:DO X CB E hi fh):DE X CB E (.Subscript a (.Slice lo hi none p2) pos) (xSl f fl fh) :=
 ⟨(A7 (sl_list.or Fu) ha.pe hl.po hh.po).mono fun σ H Q ⟨ρ,s,m,er,S,P⟩=>⟨ρ,s,m,er,S,P.bind fun v s1 u H1 m1 e1 S1 r1 P1=>⟨ρ,s1,m1,er.ext e1,S1,P1.bind fun l s2 l' H2 m2 e2 S2 r2 P2=>by
  cases r2;refine⟨ρ,s2,m2,(er.ext e1).ext e2,S2,P2.bind fun k s3 k' H3 m3 e3 S3 r3 P3=>?_⟩;cases r3;have r1:=(r1.ext e2).ext e3;unfold fSl at P3;split at P3
  ·split at P3
   ·exact P3.elim
   ·rename_i hn;obtain⟨a,vs,rfl,q,r⟩:=r1.tp;exact .inr ⟨a,vs,rfl,q,by rw[r.length];exact hn,fun p hp=>P3.new S3 hp fun ex S'=>.tup (.inl ⟨.inl jR,S'.pure_tup jR⟩) ((r.cut _ _).ext ex)⟩
  ·split at P3
   ·rename_i l hl;obtain⟨a,vs,rfl,q,r⟩:=r1.ls S3 hl;exact .inl ⟨a,vs,rfl,q,fun p hp=>P3.new S3 hp fun ex S'=>.lst jR (S3.pure_none hp) ((r.cut _ _).ext ex)⟩
   ·exact P3.elim⟩⟩⟩
def xB(fa:XA)(F:List PV->Sto->Out PV)(ρ:En)(s:Sto):Out PV:=(fa ρ s).bind F
def nOf{r:List V->Hp->VK->Prop}{F:List PV->Sto->Out PV}(o:OpN X.K CB E r F){σ:St}{H:Hp}{Q:VK}(q:TDE X.K CB E (xB fa F) σ H Q):tCB r (TDA X.K CB E fa) σ H Q:=by obtain⟨ρ,s,m,er,S,P⟩:=q;exact⟨ρ,s,m,er,S,P.bind fun v s1 u H1 m1 e1 S1 r1 P1=>o H1 m1 s1 v u Q S1 r1 P1⟩
structure BltR(X:Cx)(CB:ac)(E:XK)(fv:ae)(F:List PV->Sto->Out PV):Prop where
 ex:∃r,CallR X fv r/\OpN X.K CB E r F
def kC{id:String}{F:List PV->Sto->Out PV}(r:BltR X CB E (.builtin id) F)(ha:DA X CB E (e::es) fa)(hg:Gl X x:=by rfl)(hm:X.mg x=none:=by first|exact T.b_len|exact T.b_str|exact T.b_sorted|exact T.b_tuple|exact T.b_int|exact T.b_list|exact T.b_abs|exact T.b_all|exact T.b_any|exact T.b_max|exact T.b_bool|exact T.b_dict)(hv:bj x=some (.builtin id):=by first|exact wG|exact vD|exact GH|exact CG|exact bt_any|exact bt_max)(hn:x≠"__name__":=by decide)(HC:NDb x:=by decide)(hs:SEb X e es:=by rfl)(Hn:(bV pos (ar es X.env)).any (·.1)=false:=by rfl):DE X CB E (.Call (.Name x p) (e::es) [] pos) (xB fa F) :=
 let⟨_,r1,r2⟩:=r.ex;⟨(li r1 hg hm hv ha.pa hn HC hs Hn).mono fun σ H Q q=>nOf r2 q⟩
def Ak{T:String}{F:List PV->Sto->Out PV}(r:BltR X CB E (.type T) F)(ha:DA X CB E (e::es) fa)(hg:Gl X x:=by rfl)(hm:X.mg x=none:=by first|exact T.b_len|exact T.b_str|exact T.b_sorted|exact T.b_tuple|exact T.b_int|exact T.b_list|exact T.b_abs|exact T.b_all|exact T.b_any|exact T.b_max|exact T.b_bool|exact T.b_dict)(hv:bj x=some (.type T):=by first|exact CD|exact xN|exact CF|exact zG|exact bt_dict)(hn:x≠"__name__":=by decide)(HC:NDb x:=by decide)(hs:SEb X e es:=by rfl)(Hn:(bV pos (ar es X.env)).any (·.1)=false:=by rfl):DE X CB E (.Call (.Name x p) (e::es) [] pos) (xB fa F) :=
 let⟨_,r1,r2⟩:=r.ex;⟨(zV r1 hg hm hv ha.pa hn HC hs Hn).mono fun σ H Q q=>nOf r2 q⟩
def fLen(vs:List PV)(s:Sto):Out PV:=match vs with
 |[.tup l]=>.ok (.int l.length) s
 |[.str x]=>if x.length<=100000 then .ok (.int x.length) s else .bad
 |[v]=>match lsOf s v with
  |some l=>.ok (.int l.length) s
  |none=>match dcOf s v with
   |some l=>.ok (.int l.length) s
   |none=>.bad
 |_=>.bad
def b_len:BltR X CB E (.builtin "len") fLen:=⟨_,call_len_seq.or (call_len_str.or An),by
 intro H m s v x Q S rx P;unfold fLen at P;split at P
 ·cases rx with
  |cons r n =>
   cases n;obtain⟨a,vs,rfl,q,r⟩:=r.tp;rw[<-r.length] at P;exact .inl ⟨a,vs,rfl,.inr q,P.here S .int⟩
 ·cases rx with
  |cons r n =>
   cases n;cases r;split at P
   ·rename_i h;exact .inr (.inl ⟨_,rfl,sz5 h,P.here S .int⟩)
   ·exact P.elim
 ·cases rx with
  |cons r n =>
   cases n;split at P
   ·rename_i l hl;obtain⟨a,vs,rfl,q,r⟩:=r.ls S hl;rw[<-r.length] at P;exact .inl ⟨a,vs,rfl,.inl q,P.here S .int⟩
   ·split at P
    ·rename_i l hl;obtain⟨a,vs,rfl,q,r⟩:=r.dc S hl;rw[<-r.length] at P;exact .inr (.inr ⟨a,vs,rfl,q,P.here S .int⟩)
    ·exact P.elim
 ·exact P.elim⟩
def fAbs(vs:List PV)(s:Sto):Out PV:=match vs with
 |[.int i]=>.ok (.int (if i<0 then -i else i)) s
 |_=>.bad
def b_abs:BltR X CB E (.builtin "abs") fAbs:=⟨_,BL,by
 intro H m s v x Q S rx P;unfold fAbs at P;split at P
 ·cases rx with
  |cons r n=>cases n;cases r;exact⟨_,rfl,P.here S .int⟩
 ·exact P.elim⟩
def fInt(vs:List PV)(s:Sto):Out PV:=match vs with
 |[.int i]=>.ok (.int i) s
 |[.bl b]=>.ok (.int (if b=true then 1 else 0)) s
 |_=>.bad
def b_int:BltR X CB E (.type "int") fInt:=⟨_,Ap,by
 intro H m s v x Q S rx P;unfold fInt at P;split at P
 ·cases rx with
  |cons r n=>cases n;cases r;exact .inl ⟨_,rfl,P.here S .int⟩
 ·cases rx with
  |cons r n=>cases n;cases r;exact .inr ⟨_,rfl,P.here S .int⟩
 ·exact P.elim⟩
def fTuple(vs:List PV)(s:Sto):Out PV:=match vs with
 |[v]=>match lsOf s v with
  |some l=>.ok (.tup l) s
  |none=>.bad
 |_=>.bad
def b_tuple:BltR X CB E (.type "tuple") fTuple:=⟨_,uL,by
 intro H m s v x Q S rx P;unfold fTuple at P;split at P
 ·cases rx with
  |cons r n =>
   cases n;split at P
   ·rename_i l hl;obtain⟨a,vs,rfl,q,r⟩:=r.ls S hl;exact⟨a,vs,rfl,.inl ⟨q,fun p hp=>P.new S hp fun ex S'=>.tup (.inl ⟨.inl jR,S'.pure_tup jR⟩) (r.ext ex)⟩⟩
   ·exact P.elim
 ·exact P.elim⟩
def fList(vs:List PV)(s:Sto):Out PV:=match vs with
 |[.tup l]=>.ok (.lst l) s
 |[v]=>match lsOf s v with
  |some l=>.ok (.lst l) s
  |none=>.bad
 |_=>.bad
def pK:List PV->Option (List Str)
 |[]=>some []
 |.str x::l=>(pK l).map (x::·)
 |_=>none
theorem rm:∀{l:List PV}{ss:List Str},pK l=some ss->l=ss.map PV.str
 |[],_,e=>by cases e;rfl
 |p::l,ss,e=>by
  unfold pK at e;split at e
  ·rename_i h;cases h
  ·rename_i x l' h;cases h;cases c:pK l with
   |none=>rw[c] at e;cases e
   |some t=>rw[c] at e;cases e;rw[rm c];rfl
  ·cases e
def pZ(ss:List Str):pK (ss.map PV.str)=some ss:=by
 induction ss with
 |nil=>rfl
 |cons x r ih=>rw[aG];unfold pK;rw[ih];rfl
def keysOf:List (Key×PV)->Option (List Str)
 |[]=>some []
 |(.inr x,_)::l=>(keysOf l).map (x::·)
 |_=>none
theorem rF:∀{l:List (Key×PV)}{ss:List Str},keysOf l=some ss->l.map (·.1)=ss.map am
 |[],_,e=>by cases e;rfl
 |p::l,ss,e=>by
  unfold keysOf at e;split at e
  ·rename_i h;cases h
  ·rename_i x _ l' h;cases h;cases c:keysOf l with
   |none=>rw[c] at e;cases e
   |some t=>rw[c] at e;cases e;rw[aG,rF c];rfl
  ·cases e
def ki(vs:List PV)(s:Sto):Out PV:=match vs with
 |[v]=>match lsOf s v with
  |some l=>match pK l with
   |some ss=>if ss.length<64 then .ok (.lst ((srt ss).map PV.str)) s else .bad
   |none=>.bad
  |none=>match dcOf s v with
   |some l=>match keysOf l with
    |some ss=>if ss.length<64 then .ok (.lst ((srt ss).map PV.str)) s else .bad
    |none=>.bad
   |none=>.bad
 |_=>.bad
def b_sorted(hc:X.calm=true):BltR X CB E (.builtin "sorted") ki:=⟨_,call_sortedL.or (nT hc),by
 intro H m s v x Q S rx P;unfold ki at P;split at P
 ·cases rx with
  |cons r n =>
   cases n;split at P
   ·rename_i l hl;split at P
    ·rename_i ss hs;split at P
     ·rename_i IU;obtain⟨a,vs,rfl,q,r⟩:=r.ls S hl;have e:=rm hs;subst e;rw[r.strs] at q;exact .inl ⟨a,ss,rfl,q,IU,fun p hp=>P.new S hp fun ex S'=>.lst jR (S.pure_none hp) (.ofStrs _)⟩
     ·exact P.elim
    ·exact P.elim
   ·split at P
    ·rename_i l hl;split at P
     ·rename_i ss hs;split at P
      ·rename_i IU;obtain⟨a,vs,rfl,q,r⟩:=r.dc S hl;exact .inr ⟨a,vs,ss,rfl,q,r.keys.trans (rF hs),IU,fun p hp=>P.new S hp fun ex S'=>.lst jR (S.pure_none hp) (.ofStrs _)⟩
      ·exact P.elim
     ·exact P.elim
    ·exact P.elim
 ·exact P.elim⟩
def Fg:List PV->Option (List Bool)
 |[]=>some []
 |.bl x::l=>(Fg l).map (x::·)
 |_=>none
def fAll(vs:List PV)(s:Sto):Out PV:=match vs with
 |[v]=>match lsOf s v with
  |some l=>match Fg l with
   |some bs=>.ok (.bl (bs.all id)) s
   |none=>.bad
  |none=>.bad
 |_=>.bad
def xJoin(f:XE)(fa:XA)(ρ:En)(s:Sto):Out PV:=(f ρ s).bind fun v s1=>match v with
 |.str z=>(fa ρ s1).bind fun vs s2=>match vs with
  |[w]=>match lsOf s2 w with
   |some l=>match pK l with
    |some ys=>if(ys.map (·.length)).sum+ys.length*z.length<=16777216 then .ok (.str (Txt.join z ys)) s2 else .bad
    |none=>.bad
   |none=>.bad
  |_=>.bad
 |_=>.bad
def El(ho:DE X CB E a f)(ha:DA X CB E (e::es) fa)(Hj:cy a "join" X.env (eval a X.env)=eval a X.env:=by rfl)(IN:((bV GY (ar (e::es) X.env)).all (fun x=>!x.1)&&(f9 GY (dX [] X.env)).all (fun x=>x.1.isSome)
   && decide ((e::es).length+([]:List fg).length+(if([]:List fg).isEmpty then 0 else 1)<30))=true:=by rfl)(Hi:(G0.endLine==GY.line)=true:=by rfl)(hs:SEb X e es:=by rfl)(HI:(bV GY (ar es X.env)).any (·.1)=false:=by rfl) :
  DE X CB E (.Call (.Attribute a "join" G0) (e::es) [] GY) (xJoin f fa) :=
 ⟨(EX PySem.F.plainAttrs_str PySem.F.slot_str_join PySem.F.type_str_join DB ho.pe ha.pa Hj IN Hi hs HI).mono fun σ H Q ⟨ρ,s,m,er,S,P⟩=>⟨ρ,s,m,er,S,P.bind fun v s1 u H1 m1 e1 S1 r1 P1=>by
  split at P1
  ·cases r1;refine⟨rfl,ρ,s1,m1,er.ext e1,S1,P1.bind fun vs s2 us H2 m2 e2 S2 r2 P2=>?_⟩;split at P2
   ·cases r2 with
    |cons r n =>
     cases n;split at P2
     ·rename_i l hl;split at P2
      ·rename_i ys hy;split at P2
       ·rename_i hz;obtain⟨b,vs,rfl,q,r⟩:=r.ls S2 hl;have e:=rm hy;subst e;rw[r.strs] at q;exact⟨_,b,ys,rfl,rfl,q,hz,P2.here S2 .str⟩
       ·exact P2.elim
      ·exact P2.elim
     ·exact P2.elim
   ·exact P2.elim
  ·exact P1.elim⟩⟩
def xAppend(f:XE)(fa:XA)(ρ:En)(s:Sto):Out PV:=(f ρ s).bind fun v s1=>match v with
 |.ref n=>match s1.get n with
  |some (.lst _)=>(fa ρ s1).bind fun vs s2=>match vs with
   |[w]=>match s2.get n with
    |some (.lst l)=>if l.length<100000 then .ok .non (s2.set n (.lst (l++[w]))) else .bad
    |_=>.bad
   |_=>.bad
  |_=>.bad
 |_=>.bad
def SR.putL{K:aa}{H:Hp}{m:Mp}{s:Sto}{n:Nat}{l l':List PV}{vs':List V}(S:SR K CB H m s)(hn:s.get n=some (.lst l))(r:Reps K H m s vs' l') :
  SR K CB (upd H (m.ad n) (.lst vs')) (m.fput n [m.ad n]) (s.set n (.lst l'))/\Ext H m s (upd H (m.ad n) (.lst vs')) (m.fput n [m.ad n]) (s.set n (.lst l')):=by
 obtain⟨e1,vs,h1,_⟩:=S.get hn;refine S.put hn (by intro _ z;cases z) _ _ (fun a o h ha=>?_) (fun a ha=>.inl (by rw[e1];exact ha)) fun ex=>⟨by show(if n=n then [m.ad n] else m.fp n)=_;rw[if_pos rfl];rfl,vs',jR,r.ext0 ex⟩;rw[e1,al] at ha;rw[jN ha];exact h
def SR.putD{K:aa}{H:Hp}{m:Mp}{s:Sto}{n:Nat}{l l':List (Key×PV)}{vs':List (Key×V)}(S:SR K CB H m s)(hn:s.get n=some (.dct l))(r:RepKs K H m s vs' l') :
  SR K CB (upd H (m.ad n) (.dK vs')) (m.fput n [m.ad n]) (s.set n (.dct l'))/\Ext H m s (upd H (m.ad n) (.dK vs')) (m.fput n [m.ad n]) (s.set n (.dct l')):=by
 obtain⟨e1,vs,h1,_⟩:=S.get hn;refine S.put hn (by intro _ z;cases z) _ _ (fun a o h ha=>?_) (fun a ha=>.inl (by rw[e1];exact ha)) fun ex=>⟨by show(if n=n then [m.ad n] else m.fp n)=_;rw[if_pos rfl];rfl,vs',jR,r.ext0 ex⟩;rw[e1,al] at ha;rw[jN ha];exact h
def vw(ho:DE X CB E a f)(ha:DA X CB E (e::es) fa)(Hj:cy a "append" X.env (eval a X.env)=eval a X.env:=by rfl)(IN:((bV GY (ar (e::es) X.env)).all (fun x=>!x.1)&&(f9 GY (dX [] X.env)).all (fun x=>x.1.isSome)
   && decide ((e::es).length+([]:List fg).length+(if([]:List fg).isEmpty then 0 else 1)<30))=true:=by rfl)(Hi:(G0.endLine==GY.line)=true:=by rfl)(hs:SEb X e es:=by rfl)(HI:(bV GY (ar es X.env)).any (·.1)=false:=by rfl) :
  DE X CB E (.Call (.Attribute a "append" G0) (e::es) [] GY) (xAppend f fa) :=
 ⟨(EX fj jc PySem.F.type_list_append vn ho.pe ha.pa Hj IN Hi hs HI).mono fun σ H Q ⟨ρ,s,m,er,S,P⟩=>⟨ρ,s,m,er,S,P.bind fun v s1 u H1 m1 e1 S1 r1 P1=>by
  split at P1
  ·split at P1
   ·rename_i n _ _ hg;obtain⟨_,ID,h0,_⟩:=S1.get hg;cases r1 with
    |ref hn =>
    refine⟨.inl ⟨rfl,ID,SqL.of h0⟩,ρ,s1,m1,er.ext e1,S1,P1.bind fun vs s2 us H2 m2 e2 S2 r2 P2=>?_⟩;split at P2
    ·cases r2 with
     |cons r n' =>
      cases n';split at P2
      ·rename_i l Jl;split at P2
       ·rename_i hl;obtain⟨f1,vs1,h1,q1⟩:=S2.get Jl;obtain⟨S3,e3⟩:=S2.putL Jl (q1.append (.cons r .nil));rw[<-e2.ad _ hn];exact⟨_,vs1,_,rfl,rfl,h1,by rw[q1.length];exact sz6 hl,P2 _ _ _ e3 S3 .non⟩
       ·exact P2.elim
      ·exact P2.elim
    ·exact P2.elim
   ·exact P1.elim
  ·exact P1.elim⟩⟩
def xGet(f g h:XE)(ρ:En)(s:Sto):Out PV:=(f ρ s).bind fun v s1=>match dcOf s1 v with
 |some _=>(g ρ s1).bind fun w s2=>(h ρ s2).bind fun z s3=>match dcOf s3 v with
  |some l=>match kyOf w with
   |some k=>.ok ((lO l k).getD z) s3
   |none=>.bad
  |none=>.bad
 |none=>.bad
def GD(ho:DE X CB E a f)(he:DE X CB E b g)(hf:DE X CB E c h){jr:Nat}(hr:Room jr X.A:=by assumption)(mm:M2 X a "get" G0 b c GY:=by exact⟨rfl,rfl,rfl,rfl⟩):DE X CB E (.Call (.Attribute a "get" G0) [b,c] [] GY) (xGet f g h) :=
 ⟨(tX (lK hr) ho.pe he.pe hf.pe mm).mono fun σ H Q ⟨ρ,s,m,er,S,P⟩=>⟨ρ,s,m,er,S,P.bind fun v s1 u H1 m1 e1 S1 r1 P1=>by
  split at P1
  ·rename_i l0 JM;obtain⟨a,ID,rfl,q0,_⟩:=r1.dc S1 JM;refine⟨a,rfl,.inl ⟨ID,q0⟩,ρ,s1,m1,er.ext e1,S1,P1.bind fun w s2 u2 H2 m2 e2 S2 r2 P2=>⟨ρ,s2,m2,(er.ext e1).ext e2,S2,P2.bind fun z s3 u3 H3 m3 e3 S3 r3 P3=>?_⟩⟩;split at P3
   ·rename_i l hl;split at P3
    ·rename_i k hk;obtain⟨a',vs,ea,q,r⟩:=((r1.ext e2).ext e3).dc S3 hl;cases ea;refine⟨lX vs k,.inl ⟨vs,k,q,nI (r2.ext e3) hk,rfl⟩,?_⟩;obtain⟨v1,v2⟩:=r.val k;cases cc:lO l k with
     |none=>rw[v2 cc];rw[cc] at P3;exact P3.here S3 r3
     |some p=>obtain⟨u,e,ru⟩:=v1 p cc;rw[e];rw[cc] at P3;exact P3.here S3 ru
    ·exact P3.elim
   ·exact P3.elim
  ·exact P1.elim⟩⟩
def xNewD(_:En)(s:Sto):Out PV:=.ok (.ref s.nx) (s.add (.dct []))
def zA:DE X CB E (.Dict [] [] pos) xNewD:=⟨pe_dnewK.mono fun σ H Q ⟨ρ,s,m,er,S,P⟩ p hp=>by obtain⟨S2,e2⟩:=S.newD hp (My.nE hp) jR .nil;exact P _ _ _ e2 S2 .new⟩
end
def Out.so{α:Type}(o:Out α)(k:α->Sto->SO):SO:=match o with
 |.ok a s=>k a s
 |.ex c s=>.ex c s
 |.bad=>.bad
def SO.noex:SO->SO
 |.ex _ _=>.bad
 |o=>o
def PostS.shift{K:aa}{CB:ac}{E:XK}{o:SO}{H H1:Hp}{m m1:Mp}{s s1:Sto}{D:Ends}(e:Ext H m s H1 m1 s1)(h:PostS K CB E o H m s D):PostS K CB E o H1 m1 s1 D:=by
 cases o with
 |nx=>exact fun σ' H' m' x=>h σ' H' m' (e.trans x)
 |rt=>exact fun σ' H' m' x=>h σ' H' m' (e.trans x)
 |bk=>exact fun σ' H' m' x=>h σ' H' m' (e.trans x)
 |ct=>exact fun σ' H' m' x=>h σ' H' m' (e.trans x)
 |ex=>exact fun H' m' x=>h H' m' (e.trans x)
 |bad=>exact h
theorem Post.so{α β:Type}{K:aa}{CB:ac}{R:Hp->Mp->Sto->β->α->Prop}{E:XK}{o:Out α}{k:α->Sto->SO}{H:Hp}{m:Mp}{s:Sto}{D:Ends}{Q1:β->Hp->Prop}(h:PostS K CB E (o.so k) H m s D)(f:∀v s1 u H1 m1,Ext H m s H1 m1 s1->SR K CB H1 m1 s1->R H1 m1 s1 u v->PostS K CB E (k v s1) H1 m1 s1 D->Q1 u H1):Post K CB R E o H m s Q1:=by
 cases o with
 |ok v s1=>exact fun u H1 m1 x S r=>f v s1 u H1 m1 x S r (PostS.shift x h)
 |ex c s'=>exact h
 |bad=>exact h
def PostS.next{K:aa}{CB:ac}{E:XK}{ρ:En}{H:Hp}{m:Mp}{s:Sto}{D:Ends}{σ:St}(h:PostS K CB E (.nx ρ s) H m s D)(S:SR K CB H m s)(er:ER K H m s σ ρ):D.nx σ H:=h σ H m .refl S er
theorem PostS.noex{K:aa}{CB:ac}{E:XK}{o:SO}{H:Hp}{m:Mp}{s:Sto}{D:Ends}(h:PostS K CB E o.noex H m s D):PostS K CB E0 o H m s D:=by cases o<;>first|exact h|exact bh h
def xSet(i:Nat)(f:XE)(ρ:En)(s:Sto):SO:=(f ρ s).so fun v s1=>.nx (ρ.set i (some v)) s1
def xRet(f:XE)(ρ:En)(s:Sto):SO:=(f ρ s).so fun v s1=>.rt v s1
def xRetN(_:En)(s:Sto):SO:=.rt .non s
def xDo(f:XE)(ρ:En)(s:Sto):SO:=(f ρ s).so fun _ s1=>.nx ρ s1
def xIf(t:XT)(g h:XS)(ρ:En)(s:Sto):SO:=(t ρ s).so fun b s1=>if b=true then g ρ s1 else h ρ s1
def xEnd(ρ:En)(s:Sto):SO:=.nx ρ s
def xSeq(g h:XS)(ρ:En)(s:Sto):SO:=match g ρ s with
 |.nx ρ' s'=>h ρ' s'
 |o=>o
section
variable{X:Cx}{CB:ac}{E:XK}{a b c e:aN}{es:List aN}{f g h:XE}{fa:XA}{t:XT}{p pos Hg G0 GY:Pos}{x:Str}{st:bM}{lY Ip Io:List bM}{u v:XS}
theorem PS.nox{t:TS}(h:PS X.nox st t):PS X st t:=fun GX s σ H D I hw=>bo (h GX s σ H D (I.wish _) hw) (fun _ _ q=>q.unwish) fun _ _ z=>bh z
def kj(i:Nat)(he:DE X CB E e f)(hN:X.N.Nodup:=by exact ‹FnScope _ _ _›.nd)(hi:X.N[i]?=some x:=by rfl)(hx:Loc X.env.scope x:=by first|exact dI rfl|exact f7 rfl)(hs:cW e (some (.Name x Hg)) pos.line X.env=pure false:=by rfl)(hf:X.fn x=true\/X.env.scope.names.lookup x=some .local:=by first|exact .inl rfl|exact .inr rfl|assumption):DS X CB E (.Assign [.Name x Hg] e pos) (xSet i f) :=
 ⟨(nF hN hi hx he.pe hs hf).mono fun D σ H ⟨ρ,s,m,er,S,P⟩=>⟨ρ,s,m,er,S,Post.so P fun v s1 u H1 m1 e1 S1 r1 P1=>P1.next S1 ((er.ext e1).set i r1)⟩⟩
def k7(he:DE X CB E e f):DS X CB E (.Return (some e) pos) (xRet f) :=
 ⟨(oC he.pe).mono fun D σ H ⟨ρ,s,m,er,S,P⟩=>⟨ρ,s,m,er,S,Post.so P fun v s1 u H1 m1 e1 S1 r1 P1=>P1 u H1 m1 .refl S1 r1⟩⟩
def D9:DS X CB E (.Return none pos) xRetN:=⟨ps_retN.mono fun D σ H ⟨ρ,s,m,er,S,P⟩=>P .non H m .refl S .non⟩
def tH(he:DE X CB E e f)(hs:cW e none pos.line X.env=pure false:=by rfl):DS X CB E (.Expr e pos) (xDo f) :=
 ⟨(mh he.pe hs).mono fun D σ H ⟨ρ,s,m,er,S,P⟩=>⟨ρ,s,m,er,S,Post.so P fun v s1 u H1 m1 e1 S1 r1 P1=>P1.next S1 (er.ext e1)⟩⟩
def nC(hc:DT X CB E c t)(ha:DSs X CB E Ip u)(hb:DSs X CB E Io v):DS X CB E (.If c Ip Io pos) (xIf t u v) :=
 ⟨(qK hc.pt ha.pss hb.pss).mono fun D σ H ⟨ρ,s,m,er,S,P⟩=>⟨ρ,s,m,er,S,Post.so P fun v s1 u H1 m1 e1 S1 r1 P1=>by
  cases r1;refine qh (fun c=>?_) fun c=>?_
  ·rw[if_pos c] at P1;exact⟨ρ,s1,m1,er.ext e1,S1,P1⟩
  ·rw[if_neg c] at P1;exact⟨ρ,s1,m1,er.ext e1,S1,P1⟩⟩⟩
def kW:DSs X CB E [] xEnd:=⟨pss_nil.mono fun D σ H ⟨ρ,s,m,er,S,P⟩=>P.next S er⟩
def ke(h:DS X CB E st u):DSs X CB E [st] u:=⟨km h.ps⟩
def jQ(h:DS X CB E st u)(k:DSs X CB E lY v):DSs X CB E (st::lY) (xSeq u v) :=
 ⟨(kf h.ps k.pss).mono fun D σ H ⟨ρ,s,m,er,S,P⟩=>⟨ρ,s,m,er,S,by
  unfold xSeq at P;cases c:u ρ s with
  |nx ρ' s'=>rw[c] at P;exact fun σ' H' m' x S' er'=>⟨ρ',s',m',er',S',PostS.shift x P⟩
  |rt=>rw[c] at P;exact P
  |bk=>rw[c] at P;exact P
  |ct=>rw[c] at P;exact P
  |ex=>rw[c] at P;exact P
  |bad=>rw[c] at P;exact P⟩⟩
abbrev XG:=PV->En->Sto->Option En
abbrev XGs:=List PV->En->Sto->Option En
def TDG(K:aa)(CB:ac)(h:XG):TG:=fun v σ H Q=>∃ρ s m q ρ',ER K H m s σ ρ/\SR K CB H m s/\Rep K H m s v q/\h q ρ s=some ρ'/\∀σ',ER K H m s σ' ρ'->Q σ' H
def TDGs(K:aa)(CB:ac)(h:XGs):TGs:=fun v σ H Q=>∃ρ s m q ρ',ER K H m s σ ρ/\SR K CB H m s/\Reps K H m s v q/\h q ρ s=some ρ'/\∀σ',ER K H m s σ' ρ'->Q σ' H
structure DG(X:Cx)(CB:ac)(tg:aN)(h:XG):Prop where
 pg:PG X tg (TDG X.K CB h)
structure DGs(X:Cx)(CB:ac)(tg:List aN)(h:XGs):Prop where
 pgs:PGs X tg (TDGs X.K CB h)
def PG.mono{tg:aN}{t t':TG}(h:PG X tg t)(k:∀v σ H Q,t' v σ H Q->t v σ H Q):PG X tg t':=fun GX s σ H v u Q I r q=>h GX s σ H v u Q I r (k v σ H Q q)
def PGs.mono{tg:List aN}{t t':TGs}(h:PGs X tg t)(k:∀v σ H Q,t' v σ H Q->t v σ H Q):PGs X tg t':=fun GX s σ H v u Q I r q=>h GX s σ H v u Q I r (k v σ H Q q)
def PG.or{tg:aN}{t t':TG}(h:PG X tg t)(h':PG X tg t'):PG X tg (fun v σ H Q=>t v σ H Q\/t' v σ H Q):=fun GX s σ H v u Q I r q=>q.elim (h GX s σ H v u Q I r) (h' GX s σ H v u Q I r)
def yName(i:Nat)(q:PV)(ρ:En)(_:Sto):Option En:=some (ρ.set i (some q))
def yNil(q:List PV)(ρ:En)(_:Sto):Option En:=match q with
 |[]=>some ρ
 |_=>none
def yCons(h:XG)(k:XGs)(q:List PV)(ρ:En)(s:Sto):Option En:=match q with
 |p::r=>(h p ρ s).bind fun ρ'=>k r ρ' s
 |[]=>none
def yTup(n:Nat)(k:XGs)(q:PV)(ρ:En)(s:Sto):Option En:=match q with
 |.tup l=>if l.length=n then k l ρ s else none
 |q=>match lsOf s q with
  |some l=>if l.length=n then k l ρ s else none
  |none=>none
def kJ(i:Nat)(hN:X.N.Nodup:=by exact ‹FnScope _ _ _›.nd)(hi:X.N[i]?=some x:=by rfl)(hx:Loc X.env.scope x:=by first|exact dI rfl|exact f7 rfl)(hf:X.fn x=true\/X.env.scope.names.lookup x=some .local:=by first|exact .inl rfl|exact .inr rfl|assumption):DG X CB (.Name x pos) (yName i) :=
 ⟨(zi hN hi hx hf).mono fun v σ H Q ⟨ρ,s,m,q,ρ',er,S,r,e,k⟩=>by cases e;exact k _ (er.set i r)⟩
def rc:DGs X CB [] yNil:=⟨pgs_nil.mono fun v σ H Q ⟨ρ,s,m,q,ρ',er,S,r,e,k⟩=>by
 unfold yNil at e;split at e<;>cases e
 cases r;exact⟨rfl,k _ er⟩⟩
def lf{h:XG}{k:XGs}(h1:DG X CB e h)(h2:DGs X CB es k)(hs:(b8 (e::es) X.env).map (·.2)=assign e X.env::(b8 es X.env).map (·.2):=by rfl):DGs X CB (e::es) (yCons h k) :=
 ⟨(AY h1.pg h2.pgs hs).mono fun v σ H Q ⟨ρ,s,m,q,ρ',er,S,r,e,kk⟩=>by
  unfold yCons at e;split at e
  ·rename_i p r';cases r with
   |cons a b =>
    cases c:h p ρ s with
    |none=>rw[c] at e;cases e
    |some ρ1 =>
     rw[c] at e;exact⟨_,_,rfl,ρ,s,m,p,ρ1,er,S,a,c,fun σ1 er1=>⟨ρ1,s,m,r',ρ',er1,S,b,e,kk⟩⟩
  ·cases e⟩
def uH{k:XGs}{n k0:Nat}(h:DGs X CB es k)(hc:X.calm=true:=by rfl)(hn:(b8 es X.env).length=n:=by rfl)(Ic:(b8 es X.env).findIdx? (·.1)=none:=by rfl):DG X CB (.Tuple es k0 pos) (yTup n k) :=
 ⟨((FI hc h.pgs hn Ic).or (FK hc h.pgs hn Ic)).mono fun v σ H Q ⟨ρ,s,m,q,ρ',er,S,r,e,kk⟩=>by
  unfold yTup at e;split at e
  ·split at e
   ·rename_i hl;obtain⟨a,vs,rfl,q1,r1⟩:=r.tp;exact .inl ⟨a,vs,rfl,q1,r1.length.trans hl,ρ,s,m,_,ρ',er,S,r1,e,kk⟩
   ·cases e
  ·split at e
   ·rename_i l JM;split at e
    ·rename_i hl;obtain⟨a,vs,rfl,q1,r1⟩:=r.ls S JM;exact .inr ⟨a,vs,rfl,q1,r1.length.trans hl,ρ,s,m,_,ρ',er,S,r1,e,kk⟩
    ·cases e
   ·cases e⟩
def xAsg(f:XE)(h:XG)(ρ:En)(s:Sto):SO:=(f ρ s).so fun v s1=>match h v ρ s1 with
 |some ρ'=>.nx ρ' s1
 |none=>.bad
def y9{h:XG}{tg:aN}(he:DE X CB E e f)(hg:DG X CB tg h)(hs:fS [tg] e pos.line X.env=pure false:=by rfl)(hw:fT [tg] e X.env=pure none:=by rfl)(h1:(b8 [tg] X.env).map (·.2)=[assign tg X.env]:=by rfl):DS X CB E (.Assign [tg] e pos) (xAsg f h) :=
 ⟨(Ce he.pe hg.pg hs hw h1).mono fun D σ H ⟨ρ,s,m,er,S,P⟩=>⟨ρ,s,m,er,S,Post.so P fun v s1 u H1 m1 e1 S1 r1 P1=>by
  split at P1
  ·rename_i ρ' hρ;exact⟨ρ,s1,m1,v,ρ',er.ext e1,S1,r1,hρ,fun σ' er'=>P1.next S1 er'⟩
  ·exact P1.elim⟩⟩
def xPar(i j:Nat)(fa:XA)(ρ:En)(s:Sto):SO:=(fa ρ s).so fun vs s1=>match vs with
 |[v,w]=>.nx ((ρ.set i (some v)).set j (some w)) s1
 |_=>.bad
def Gw{i j:Nat}{y:Str}{px py pt:Pos}{kt k2 pt2}(hc:X.calm=true)(hN:X.N.Nodup)(hi:X.N[i]?=some x)(hj:X.N[j]?=some y)(KH:i≠j)(hx:X.env.scope.names.lookup x=some .local)(hy:X.env.scope.names.lookup y=some .local)(ha:DA X CB E [a,b] fa)(hw:fT [.Tuple [.Name x px,.Name y py] kt pt] (.Tuple [a,b] k2 pt2) X.env=pure (some [x,y]))(hs:fS [.Tuple [.Name x px,.Name y py] kt pt] (.Tuple [a,b] k2 pt2) pos.line X.env=pure false:=by rfl):DS X CB E (.Assign [.Tuple [.Name x px,.Name y py] kt pt] (.Tuple [a,b] k2 pt2) pos) (xPar i j fa) :=
 ⟨(FG hc hN hi hj KH hx hy ha.pa hw hs).mono fun D σ H ⟨ρ,s,m,er,S,P⟩=>⟨ρ,s,m,er,S,Post.so P fun v s1 u H1 m1 e1 S1 r1 P1=>by
  split at P1
  ·cases r1 with
   |cons a b =>
    cases b with
    |cons b c=>cases c;exact⟨_,_,rfl,P1.next S1 (((er.ext e1).set i a).set j b)⟩
  ·exact P1.elim⟩⟩
def ol(o i v:PV)(s:Sto):Option Sto:=match o with
 |.ref n=>match s.get n with
  |some (.lst l)=>match i with
   |.int k=>match ixN l.length k with
    |some j=>some (s.set n (.lst (l.set j v)))
    |none=>none
   |_=>none
  |some (.dct l)=>match kyOf i with
   |some k=>if l.length<100000 then some (s.set n (.dct (vh l k v))) else none
   |none=>none
  |_=>none
 |_=>none
def xPut(fo fi fv:XE)(ρ:En)(s:Sto):SO:=(fv ρ s).so fun v s1=>(fo ρ s1).so fun o s2=>(fi ρ s2).so fun i s3=>match ol o i v s3 with
 |some s4=>.nx ρ s4
 |none=>.bad
def EV:V->V->V->Hp->(Hp->Prop)->Prop:=fun o i v H Q=>∃a H',o=.ref a/\DPut H a i v H'/\Q H'
def AH(hu:X.A.units+1<dL):PSet X EV:=by intro GX s σ H o i v ov iv u Q I ro ri rv h;obtain⟨a,H',rfl,g,q⟩:=h;obtain rfl:ov=aV a:=ro;exact vx hu I g ri rv fun s4 I4=>⟨H',I4,q⟩
def PSet.or{t t':Fi}(h:PSet X t)(h':PSet X t'):PSet X (fun o i v H Q=>t o i v H Q\/t' o i v H Q):=fun GX s σ H o i v ov iv u Q I r1 r2 r3 q=>q.elim (h GX s σ H o i v ov iv u Q I r1 r2 r3) (h' GX s σ H o i v ov iv u Q I r1 r2 r3)
def FD{K:aa}{H:Hp}{m:Mp}{s s':Sto}{o i v:PV}{xo xi xv:V}(S:SR K CB H m s)(ro:Rep K H m s xo o)(ri:Rep K H m s xi i)(rv:Rep K H m s xv v)(e:ol o i v s=some s'){Q:Hp->Prop}(hq:∀H' m',Ext H m s H' m' s'->SR K CB H' m' s'->Q H'):EU xo xi xv H Q\/EV xo xi xv H Q:=by
 unfold ol at e;split at e
 ·split at e
  ·rename_i l hg;split at e
   ·split at e
    ·rename_i j hj;cases e;cases ro;cases ri;obtain⟨_,vs,h1,q1⟩:=S.get hg;obtain⟨S2,e2⟩:=S.putL hg (q1.set j rv);exact .inl ⟨_,vs,_,j,rfl,rfl,h1,by rw[q1.length];exact hj,hq _ _ e2 S2⟩
    ·cases e
   ·cases e
  ·rename_i l hg;split at e
   ·rename_i k hk;split at e
    ·rename_i hl;cases e;cases ro;obtain⟨_,vs,h1,q1⟩:=S.get hg;obtain⟨S2,e2⟩:=S.putD hg (q1.put k rv);exact .inr ⟨_,_,rfl,.inl ⟨vs,k,h1,nI ri hk,by rw[q1.length];exact sz6 hl,rfl⟩,hq _ _ e2 S2⟩
    ·cases e
   ·cases e
  ·cases e
 ·cases e
def sA{HW:Pos}(ho:DE X CB E a f)(hi:DE X CB E b g)(hv:DE X CB E e h){jr:Nat}(hr:Room jr X.A:=by assumption)(hs:fS [gj a b HW] e pos.line X.env=pure false:=by rfl)(hw:fT [gj a b HW] e X.env=pure none:=by rfl)(h1:(b8 [gj a b HW] X.env).map (·.2)=[assign (gj a b HW) X.env]:=by rfl)(ha:∀v,assign (.Subscript a b HW) X.env v=(do
   let ov <-holding [v] (eval a X.env);let iv <-holding [v,ov] (eval b X.env)
   ig HW
   holding [v,ov,iv] (setItem ov iv v)
   release [v,ov,iv] []):=by intro _;rfl):DS X CB E (.Assign [.Subscript a b HW] e pos) (xPut f g h) :=
 ⟨(Ce hv.pe (FJ ho.pe hi.pe (set_list.or (AH (lK hr))) ha) hs hw h1).mono fun D σ H ⟨ρ,s,m,er,S,P⟩=>⟨ρ,s,m,er,S,Post.so P fun v s1 u H1 m1 e1 S1 r1 P1 =>
  ⟨ρ,s1,m1,er.ext e1,S1,Post.so P1 fun o s2 uo H2 m2 e2 S2 r2 P2=>⟨ρ,s2,m2,(er.ext e1).ext e2,S2,Post.so P2 fun i s3 ui H3 m3 e3 S3 r3 P3=>by
   split at P3
   ·rename_i s4 h4;exact FD S3 (r2.ext e3) r3 ((r1.ext e2).ext e3) h4 fun H' m' x S'=>P3 σ H' m' x S' ((((er.ext e1).ext e2).ext e3).ext x)
   ·exact P3.elim⟩⟩⟩⟩
def mQ(K:aa)(CB:ac)(J:It)(l:List PV)(H0:Hp)(m0:Mp)(s0:Sto):Prop:=∀i H m s,Ext0 H0 m0 s0 H m s->SR K CB H m s ->
 (∀q,l[i]?=some q->J.go i H/\∀x H',J.yld i H x H'->Ext H m s H' m s/\SR K CB H' m s/\Rep K H' m s x q)/\(l.length<=i->J.stop i H)
def TDI(K:aa)(CB:ac)(E:XK)(f:XA):TI:=fun σ H R=>∃ρ s m,ER K H m s σ ρ/\SR K CB H m s/\match f ρ s with
 |.ok l s'=>∀J H' m',Ext H m s H' m' s'->SR K CB H' m' s'->mQ K CB J l H' m' s'->R J H'
 |.ex c s'=>∀H' m',Ext H m s H' m' s'->SR K CB H' m' s'->E (.ref c) none H'
 |.bad=>False
structure DI(X:Cx)(CB:ac)(E:XK)(tg e:aN)(f:XA):Prop where
 pi:PI X tg e (TDI X.K CB E f)
def PI.mono{tg:aN}{t t':TI}(h:PI X tg e t)(k:∀σ H R,t' σ H R->t σ H R):PI X tg e t':=fun GX s σ H R I q=>h GX s σ H R I (k σ H R q)
end
section
variable{X:Cx}{CB:ac}{E:XK}{a b c e tg:aN}{es:List aN}{f g h:XE}{fa fi:XA}{t:XT}{p pos Hg G0 GY:Pos}{x:Str}{st:bM}{lY Ip Io:List bM}{u v:XS}
def xIter(f:XE)(ρ:En)(s:Sto):Out (List PV):=(f ρ s).bind fun v s1=>match v with
 |.lst l=>.ok l s1
 |.seq l=>.ok l s1
 |.tup l=>.ok l s1
 |_=>.bad
def E5{K:aa}{H0:Hp}{m0:Mp}{s0:Sto}{b:ac}{q:PV}{l:List PV}(r:Rep K H0 m0 s0 (.ref b) q)(hl:∀s,lsOf s q=some l):mQ K CB (Itl K b) l H0 m0 s0:=by intro i H m s ex S;obtain⟨b',vs,e,hq,rs⟩:=(r.ext0 ex.toExtR).ls S (hl s);cases e;refine⟨fun q' Ia=>?_,fun hi=>⟨vs,hq,by rw[rs.length];exact hi⟩⟩;obtain⟨u,hu,ru⟩:=rs.get Ia;refine⟨⟨vs,u,hq,hu⟩,fun x H' ⟨e1,e2⟩=>?_⟩;subst e1;have e3:=e2 vs hq;rw[hu] at e3;cases e3;exact⟨.refl,S,ru⟩
def iterT{K:aa}{H0:Hp}{m0:Mp}{s0:Sto}{b:ac}{l:List PV}(r:Rep K H0 m0 s0 (.ref b) (.tup l)):mQ K CB (Itt K b) l H0 m0 s0:=by intro i H m s ex S;obtain⟨b',vs,e,hq,rs⟩:=(r.ext0 ex.toExtR).tp;cases e;refine⟨fun q' Ia=>?_,fun hi=>⟨vs,hq,by rw[rs.length];exact hi⟩⟩;obtain⟨u,hu,ru⟩:=rs.get Ia;refine⟨⟨vs,u,hq,hu⟩,fun x H' ⟨e1,e2⟩=>?_⟩;subst e1;have e3:=e2 vs hq;rw[hu] at e3;cases e3;exact⟨.refl,S,ru⟩
def iLT(K:aa)(tl:TE):TI:=fun σ H R=>tl σ H fun x H1=>(∃a,x=.ref a/\(∃xs,SqL K H1 a xs)/\R (Itl K a) H1)\/(∃a,x=.ref a/\(∃xs,SqT K H1 a xs)/\R (Itt K a) H1)
def pi_lt{tl:TE}(hl:PE X e tl):PI X tg e (iLT X.K tl):=by
 intro GX s σ H R I h;refine thn (hl GX s σ H _ I h) fun v s1 ⟨x,H1,I1,r1,q1⟩=>?_;rcases q1 with⟨a,e,⟨xs,hq⟩,q⟩|⟨a,e,⟨xs,hq⟩,q⟩
 ·subst e;cases r1;obtain⟨its,rv,p,hz⟩:=I1.list hq;refine ib p.isList ?_;refine⟨s1.heap.objs.size,[s1.heap.objs.size],_,_,H1,rfl,I1.kept (t':=s1.toks) fun b o e=>av _ e,va a _,⟨_,a7 _ rfl,rfl,rfl⟩,fun b hb=>?_,q⟩;have e:b=s1.heap.objs.size:=by simpa using hb
  subst e;exact I1.fpOk (aq _) (I1.hok.fresh (aq _))
 ·subst e;cases r1;obtain⟨its,rv,p,hz⟩:=I1.tuple hq;refine wpAny_pyIter_tuple (show s1.heap.IsTuple a its.toArray from p) ?_;refine⟨s1.heap.objs.size,[s1.heap.objs.size],_,_,H1,rfl,I1.kept (t':=s1.toks) fun b o e=>av _ e,xV a _,⟨_,a7 _ rfl,rfl,rfl⟩,fun b hb=>?_,q⟩;have e:b=s1.heap.objs.size:=by simpa using hb
  subst e;exact I1.fpOk (aq _) (I1.hok.fresh (aq _))
theorem TDI.bind{σ:St}{H:Hp}{R:It->Hp->Prop}{F:PV->Sto->Out (List PV)}(q:TDI X.K CB E (fun ρ s=>(f ρ s).bind F) σ H R){Q:VK}(k:∀v s1 u H1 m1,SR X.K CB H1 m1 s1->Rep X.K H1 m1 s1 u v->(match F v s1 with
  |.ok l s'=>∀J H' m',Ext H1 m1 s1 H' m' s'->SR X.K CB H' m' s'->mQ X.K CB J l H' m' s'->R J H'
  |.ex c s'=>∀H' m',Ext H1 m1 s1 H' m' s'->SR X.K CB H' m' s'->E (.ref c) none H'
  |.bad=>False)->Q u H1):TDE X.K CB E f σ H Q:=by
 obtain⟨ρ,s,m,er,S,P⟩:=q;refine⟨ρ,s,m,er,S,?_⟩;cases c:f ρ s with
 |ok v s1 =>
  simp only[c,Out.bind] at P;refine fun u H1 m1 e1 S1 r1=>k v s1 u H1 m1 S1 r1 ?_;cases d:F v s1 with
  |ok l s'=>rw[d] at P;exact fun J H' m' x=>P J H' m' (e1.trans x)
  |ex c' s'=>rw[d] at P;exact fun H' m' x=>P H' m' (e1.trans x)
  |bad=>rw[d] at P;exact P
 |ex c' s'=>simp only[c,Out.bind] at P;exact P
 |bad=>simp only[c,Out.bind] at P
def yO(hl:DE X CB E e f):DI X CB E tg e (xIter f):=⟨(pi_lt hl.pe).mono fun σ H R q=>TDI.bind q fun v s1 u H1 m1 S1 r1 P=>by
 cases r1 with
 |lst h1 h2 h3=>exact .inl ⟨_,rfl,⟨_,SqL.of h1⟩,P _ _ _ .refl S1 (E5 (.lst h1 h2 h3) fun _=>rfl)⟩
 |seq h1 h3=>exact .inl ⟨_,rfl,⟨_,h1.elim (fun z=>.inl (.inr z.1)) .inr⟩,P _ _ _ .refl S1 (E5 (.seq h1 h3) fun _=>rfl)⟩
 |tup h1 h3=>exact .inr ⟨_,rfl,⟨_,h1.elim (fun z=>.inl z.1) .inr⟩,P _ _ _ .refl S1 (iterT (.tup h1 h3))⟩
 |_=>exact P.elim⟩
def strP(x:Str):List PV:=x.cps.toList.map fun c=>PV.str ⟨#[c]⟩
def xIterS(f:XE)(ρ:En)(s:Sto):Out (List PV):=(f ρ s).bind fun v s1=>match v with
 |.str x=>.ok (strP x) s1
 |_=>.bad
def pN(lo:Int)(n:Nat):List PV:=(bi n).map fun(k:Nat)=>PV.int (lo+k)
def xRng1(fa:XA)(ρ:En)(s:Sto):Out (List PV):=(fa ρ s).bind fun vs s1=>match vs with
 |[.int j]=>if -(2^62)<=j/\j<2^62 then .ok (pN 0 j.toNat) s1 else .bad
 |_=>.bad
def iterR{K:aa}{lo:Int}{n:Nat}{H0:Hp}{m0:Mp}{s0:Sto}:mQ K CB (Itr lo n) (pN lo n) H0 m0 s0:=by
 intro i H m s ex S;refine⟨fun q hq=>?_,fun hi=>?_⟩
 ·unfold pN at hq;rw[aY] at hq;by_cases hi:i<n
  ·rw[eP hi] at hq;cases hq;exact⟨hi,fun x H' ⟨e1,e2⟩=>by subst e1 e2;exact⟨.refl,S,.int⟩⟩
  ·rw[jh (by simpa using hi)] at hq;cases hq
 ·unfold pN at hi;rw[af,List.length_range] at hi;exact hi
def TDI.bindA{σ:St}{H:Hp}{R:It->Hp->Prop}{F:List PV->Sto->Out (List PV)}(q:TDI X.K CB E (fun ρ s=>(fa ρ s).bind F) σ H R){Q:List V->Hp->Prop}(k:∀v s1 u H1 m1,SR X.K CB H1 m1 s1->Reps X.K H1 m1 s1 u v->(match F v s1 with
  |.ok l s'=>∀J H' m',Ext H1 m1 s1 H' m' s'->SR X.K CB H' m' s'->mQ X.K CB J l H' m' s'->R J H'
  |.ex c s'=>∀H' m',Ext H1 m1 s1 H' m' s'->SR X.K CB H' m' s'->E (.ref c) none H'
  |.bad=>False)->Q u H1):TDA X.K CB E fa σ H Q:=by
 obtain⟨ρ,s,m,er,S,P⟩:=q;refine⟨ρ,s,m,er,S,?_⟩;cases c:fa ρ s with
 |ok v s1 =>
  simp only[c,Out.bind] at P;refine fun u H1 m1 e1 S1 r1=>k v s1 u H1 m1 S1 r1 ?_;cases d:F v s1 with
  |ok l s'=>rw[d] at P;exact fun J H' m' x=>P J H' m' (e1.trans x)
  |ex c' s'=>rw[d] at P;exact fun H' m' x=>P H' m' (e1.trans x)
  |bad=>rw[d] at P;exact P
 |ex c' s'=>simp only[c,Out.bind] at P;exact P
 |bad=>simp only[c,Out.bind] at P
def mO(ha:DA X CB E [a] fa)(hg:Gl X "range":=by rfl)(hm:X.mg "range"=none:=by exact T.b_range)(hs:ar [a] X.env=[(false,eval a X.env)]:=by rfl):DI X CB E tg (.Call (.Name "range" p) [a] [] pos) (xRng1 fa) :=
 ⟨(zT hg hm ha.pa hs).mono fun σ H R q=>TDI.bindA q fun v s1 u H1 m1 S1 r1 P=>by
  split at P
  ·rename_i l s' hF;split at hF
   ·split at hF<;>cases hF
    rename_i hj;cases r1 with
    |cons r n=>cases n;cases r;exact⟨_,rfl,hj.1,hj.2,P _ _ _ .refl S1 iterR⟩
   ·cases hF
  ·rename_i hF;split at hF
   ·split at hF<;>cases hF
   ·cases hF
  ·exact P.elim⟩
def yw:Key->PV
 |.inl i=>.int i
 |.inr x=>.str x
def xIterD(f:XE)(ρ:En)(s:Sto):Out (List PV):=(f ρ s).bind fun v s1=>match v with
 |.dct l=>.ok (l.map fun kv=>yw kv.1) s1
 |_=>.bad
def iDict(tl:TE):TI:=fun σ H R=>tl σ H fun x H1=>∃d kvs,x=.ref d/\((H1 d=some (.dK kvs)/\∀ob,R (Itd d ob kvs) (upd H1 d (.frz ob (.dK kvs))))\/∃ob,H1 d=some (.frz ob (.dK kvs))/\R (Itd d ob kvs) H1)
def Dj{tl:TE}(hl:PE X e tl):PI X tg e (iDict tl):=by
 intro GX s σ H R I h;refine thn (hl GX s σ H _ I h) fun v s1 ⟨x,H1,I1,r1,q1⟩=>?_;obtain⟨d,kvs,e,q1⟩:=q1;subst e;cases r1;have hd:Rd H1 d (.dK kvs):=q1.elim (fun z=>.inl z.1) fun⟨ob,z,_⟩=>.inr ⟨ob,z⟩;obtain⟨z,JF,vs,rel,dd⟩:=qP I1.hok hd;obtain⟨ep,at_⟩:=dd.dictAt;obtain⟨ob,es,ho,Mw,KN,hrest⟩:=id at_;refine wpAny_pyIter_dict JF at_ ?_;have hl:=rel.length;have I2:Inv X GX σ H1 { s1 with heap:=s1.heap.push { cls:=.type "dict_keyiterator",data:=.fields #[.ref d,.int 0 0,.int vs.length 0,.int ep 0] } }:=I1.kept (t':=s1.toks) fun b o e=>av _ e;have Hr:s1.heap.objs.size≠d:=fun z=>by have:=aE ho;rw[z] at this;exact cO _ this
 have Ir:(0<=kvs.length/\(s1.heap.push { cls:=.type "dict_keyiterator",data:=.fields #[.ref d,.int 0 0,.int vs.length 0,.int ep 0] }).IsKeyIter s1.heap.objs.size d 0 kvs.length ep):=by refine⟨a6 _,{ cls:=.type "dict_keyiterator",data:=.fields #[.ref d,.int 0 0,.int vs.length 0,.int ep 0] },a7 _ rfl,rfl,?_⟩;rw[hl];rfl
 rcases q1 with⟨MC,q⟩|⟨Js,MC,q⟩
 ·refine⟨s1.heap.objs.size,[s1.heap.objs.size],_,Itd d ob kvs,_,rfl,I2.freeze MC (av _ ho),vb d _ ob kvs es ep KN,Ir,fun b hb=>?_,q ob⟩;have e:b=s1.heap.objs.size:=by simpa using hb
  subst e;refine I1.fpOk (aq _) ?_;rw[jN Hr];exact I1.hok.fresh (aq _)
 ·have e0:Js=ob:=by obtain⟨e1,_⟩:=(show ObjOk X.prog X.w H1 s1.heap d (.frz Js (.dK kvs)) from I1.hok d _ MC);rw[ho] at e1;exact(aO e1).symm
  subst e0;refine⟨s1.heap.objs.size,[s1.heap.objs.size],_,Itd d Js kvs,_,rfl,I2,vb d _ Js kvs es ep KN,Ir,fun b hb=>?_,q⟩;have e:b=s1.heap.objs.size:=by simpa using hb
  subst e;exact I1.fpOk (aq _) (I1.hok.fresh (aq _))
def Gd{K:aa}{H:Hp}{m:Mp}{s:Sto}(k:Key):Rep K H m s (kV k) (yw k):=by
 cases k with
 |inl i=>exact .int
 |inr x=>exact .str
theorem RepKs.get:∀{K:aa}{H:Hp}{m:Mp}{s:Sto}{vs:List (Key×V)}{l:List (Key×PV)}{i:Nat}{q:Key×PV},RepKs K H m s vs l->l[i]?=some q->∃w,vs[i]?=some w/\w.1=q.1
 |_,_,_,_,_,_,_,_,.nil,e=>by simp at e
 |_,_,_,_,_,_,0,_,.cons _ _,e=>by simp at e;subst e;exact⟨_,rfl,rfl⟩
 |_,_,_,_,_,_,i+1,q,.cons _ b,e=>by obtain⟨w,h1,h2⟩:=b.get (i:=i) (q:=q) (by simpa using e);exact⟨w,by simpa using h1,h2⟩
def iterD{K:aa}{H0:Hp}{m0:Mp}{s0:Sto}{d:ac}{ob:Obj}{kvs:List (Key×V)}{l:List (Key×PV)}(hd:∀H m s,Ext0 H0 m0 s0 H m s->SR K CB H m s->H d=some (.frz ob (.dK kvs)))(r:RepKs K H0 m0 s0 kvs l):mQ K CB (Itd d ob kvs) (l.map fun kv=>yw kv.1) H0 m0 s0:=by
 intro i H m s ex S;have h:=hd H m s ex S;refine⟨fun q hq=>?_,fun hi=>⟨by rw[r.length];simpa using hi,h⟩⟩;rw[aY] at hq;cases c:l[i]? with
 |none=>rw[c] at hq;cases hq
 |some kv =>
  rw[c] at hq;cases hq;obtain⟨w,h1,h2⟩:=r.get c;refine⟨⟨(bD.mp h1).1,h⟩,fun x H' ⟨e1,kv',e2,e3⟩=>?_⟩;subst e1 e3;rw[h1] at e2;cases e2;rw[h2];exact⟨.refl,S,Gd _⟩
def k6(body:PV->XS):List PV->XS
 |[],ρ,s=>.nx ρ s
 |q::l,ρ,s=>match body q ρ s with
  |.nx ρ' s'=>k6 body l ρ' s'
  |.ct ρ' s'=>k6 body l ρ' s'
  |.bk ρ' s'=>.nx ρ' s'
  |o=>o
def kE(y:XG)(u:XS)(q:PV)(ρ:En)(s:Sto):SO:=match y q ρ s with
 |some ρ'=>u ρ' s
 |none=>.bad
def xFor(fi:XA)(y:XG)(body:XS)(ρ:En)(s:Sto):SO:=((fi ρ s).so fun l s1=>k6 (kE y body) l ρ s1).noex
def xE{y:XG}{J:It}{l:List PV}{H1:Hp}{m1:Mp}{s1:Sto}{σ:St}{ρ:En}{D:Ends}(S1:SR X.K CB H1 m1 s1)(er:ER X.K H1 m1 s1 σ ρ)(it:mQ X.K CB J l H1 m1 s1)(P:PostS X.K CB E0 (k6 (kE y u) l ρ s1) H1 m1 s1 D) :
  ∃W:Nat->Nat->St->Hp->Prop,(∃m,W 0 m σ H1)/\∀i m σ H,W i m σ H ->
   (J.stop i H/\D.nx σ H)\/(J.go i H/\∃N:St->Hp->Prop,(∀σ' H',N σ' H'->∃m',m'<m/\W (i+1) m' σ' H')/\∀x H',J.yld i H x H'->(TDG X.K CB y) x σ H' fun σ2 H2=>(TDS X.K CB E0 u) { D with nx:=N,ct:=N,bk:=D.nx } σ2 H2):=by
 refine⟨fun i k σ' H'=>∃ρ' s' m',ER X.K H' m' s' σ' ρ'/\SR X.K CB H' m' s'/\Ext H1 m1 s1 H' m' s'/\i<=l.length/\k=l.length-i/\PostS X.K CB E0 (k6 (kE y u) (l.drop i) ρ' s') H' m' s' D,⟨l.length,ρ,s1,m1,er,S1,.refl,a6 _,rfl,P⟩,?_⟩
 rintro i k σ' H' ⟨ρ',s',m',er',S',Lu,Lp,rfl,P'⟩
 obtain⟨Kq,Kp⟩:=it i H' m' s' Lu.toExt0 S';by_cases Hs:i<l.length
 ·right;have hq:l[i]?=some l[i]:=bc Hs;obtain⟨go,yl⟩:=Kq _ hq;rw[fc Hs] at P';refine⟨go,fun σ2 H2=>∃ρ2 s2 m2,ER X.K H2 m2 s2 σ2 ρ2/\SR X.K CB H2 m2 s2/\Ext H1 m1 s1 H2 m2 s2/\PostS X.K CB E0 (k6 (kE y u) (l.drop (i+1)) ρ2 s2) H2 m2 s2 D,fun σ2 H2 ⟨ρ2,s2,m2,a1,a2,a3,a4⟩=>⟨l.length-(i+1),by omega,ρ2,s2,m2,a1,a2,a3,Hs,rfl,a4⟩,fun x H2 hy=>?_⟩;obtain⟨e2,S2,r2⟩:=yl x H2 hy;unfold k6 at P';have hbo:kE y u l[i] ρ' s'=match y l[i] ρ' s' with|some ρ'=>u ρ' s'|none=>.bad:=rfl
  rw[hbo] at P';cases hyq:y l[i] ρ' s' with
  |none=>rw[hyq] at P';exact P'.elim
  |some ρ2 =>
   rw[hyq] at P';have P':=PostS.shift e2 P';dsimp only at P';refine⟨ρ',s',m',l[i],ρ2,er'.ext e2,S2,r2,hyq,fun σ2 K0=>⟨ρ2,s',m',K0,S2,?_⟩⟩;cases cb:u ρ2 s' with
   |nx ρ3 s3=>rw[cb] at P';exact fun σ3 H3 m3 e3 S3 IV=>⟨ρ3,s3,m3,IV,S3,(Lu.trans e2).trans e3,PostS.shift e3 P'⟩
   |ct ρ3 s3=>rw[cb] at P';exact fun σ3 H3 m3 e3 S3 IV=>⟨ρ3,s3,m3,IV,S3,(Lu.trans e2).trans e3,PostS.shift e3 P'⟩
   |bk ρ3 s3=>rw[cb] at P';exact P'
   |rt v3 s3=>rw[cb] at P';exact P'
   |ex c3 s3=>rw[cb] at P';exact P'
   |bad=>rw[cb] at P';exact P'
 ·left;have Ik:l.length<=i:=ei Hs;rw[fP Ik] at P';exact⟨Kp Ik,P'.next S' er'⟩
def qD{y:XG}(hi:DI X.nox CB E0 tg e fi)(hg:DG X.nox CB tg y)(hb:DSs X.nox CB E0 Ip u)(hc:X.calm=true:=by rfl)(hs:∀x,bY e X.env x=pure x:=by intro _;rfl):DS X CB E (.For tg e Ip [] pos) (xFor fi y u) :=
 ⟨PS.nox ((Cd (X:=X.nox) fz hc hi.pi hg.pg hb.pss hs).mono fun D σ H ⟨ρ,s,m,er,S,P⟩=>by
  have P:=PostS.noex P;refine⟨ρ,s,m,er,S,?_⟩;cases c:fi ρ s with
  |bad=>rw[c] at P;exact P
  |ex c' s'=>rw[c] at P;exact P
  |ok l s1 =>
   rw[c] at P;intro J H1 m1 e1 S1 it;exact xE (X:=X.nox) S1 (er.ext e1) it (PostS.shift e1 P))⟩
def kq(c:XT)(b:XS):Nat->XS
 |0,_,_=>.bad
 |n+1,ρ,s=>(c ρ s).so fun t s1=>if t=true then(match b ρ s1 with
  |.nx ρ' s'=>kq c b n ρ' s'
  |.ct ρ' s'=>kq c b n ρ' s'
  |.bk ρ' s'=>.nx ρ' s'
  |o=>o) else .nx ρ s1
open Classical in
def pJ(c:XT)(b:XS)(ρ:En)(s:Sto):SO:=if h:∃n,kq c b n ρ s≠.bad then(kq c b h.choose ρ s).noex else .bad
def t7{c:aN}(hc:DT X.nox CB E0 c t)(hb:DSs X.nox CB E0 Ip u):DS X CB E (.While c Ip [] pos) (pJ t u) :=
 ⟨PS.nox ((xr (X:=X.nox) fz hc.pt hb.pss).mono fun D σ H ⟨ρ,s,m,er,S,P⟩=>by
  unfold pJ at P;split at P
  ·rename_i h;have P:=PostS.noex P;refine⟨fun n σ' H'=>∃ρ' s' m',ER X.K H' m' s' σ' ρ'/\SR X.K CB H' m' s'/\PostS X.K CB E0 (kq t u n ρ' s') H' m' s' D,⟨_,ρ,s,m,er,S,P⟩,?_⟩
   rintro n σ' H' ⟨ρ',s',m',er',S',P'⟩
   cases n with
   |zero=>exact P'.elim
   |succ n =>
    refine⟨ρ',s',m',er',S',Post.so P' fun b s1 b' H1 m1 e1 S1 r1 P1=>?_⟩;cases r1;refine qh (fun cb=>?_) fun cb=>?_
    ·rw[if_pos cb] at P1;refine⟨fun σ2 H2=>∃ρ2 s2 m2,ER X.K H2 m2 s2 σ2 ρ2/\SR X.K CB H2 m2 s2/\PostS X.K CB E0 (kq t u n ρ2 s2) H2 m2 s2 D,fun σ2 H2 q=>⟨n,di _,q⟩,ρ',s1,m1,er'.ext e1,S1,?_⟩;cases cu:u ρ' s1 with
     |nx ρ3 s3=>rw[cu] at P1;exact fun σ3 H3 m3 e3 S3 IV=>⟨ρ3,s3,m3,IV,S3,PostS.shift e3 P1⟩
     |ct ρ3 s3=>rw[cu] at P1;exact fun σ3 H3 m3 e3 S3 IV=>⟨ρ3,s3,m3,IV,S3,PostS.shift e3 P1⟩
     |bk ρ3 s3=>rw[cu] at P1;exact P1
     |rt v3 s3=>rw[cu] at P1;exact P1
     |ex c3 s3=>rw[cu] at P1;exact P1
     |bad=>rw[cu] at P1;exact P1
    ·rw[if_neg cb] at P1;exact P1.next S1 (er'.ext e1)
  ·exact P.elim)⟩
theorem oK{c:XT}{b:XS}:∀{n:Nat}{ρ:En}{s:Sto},kq c b n ρ s≠.bad->kq c b (n+1) ρ s=kq c b n ρ s
 |0,_,_,h=>absurd rfl h
 |n+1,ρ,s,h=>by
  unfold kq at h ⊢;cases hc:c ρ s with
  |ok t s1 =>
   rw[hc] at h;simp only[Out.so] at h ⊢;by_cases ht:t=true
   ·rw[if_pos ht] at h ⊢;rw[if_pos ht];cases hb:b ρ s1 with
    |nx ρ' s'=>rw[hb] at h;exact oK h
    |ct ρ' s'=>rw[hb] at h;exact oK h
    |_=>rfl
   ·rw[if_neg ht,if_neg ht]
  |ex=>rfl
  |bad=>rfl
def uW{c:XT}{b:XS}{n k:Nat}{ρ:En}{s:Sto}(h:kq c b n ρ s≠.bad):kq c b (n+k) ρ s=kq c b n ρ s:=by
 induction k with
 |zero=>rfl
 |succ k ih=>rw[<-Nat.add_assoc,oK (by rw[ih];exact h),ih]
def uV{c:XT}{b:XS}{n:Nat}{ρ:En}{s:Sto}{o:SO}(h:kq c b n ρ s=o)(ho:o≠.bad):pJ c b ρ s=o.noex:=by have hx:∃n,kq c b n ρ s≠.bad:=⟨n,by rw[h];exact ho⟩;unfold pJ;rw[dif_pos hx];have h1:=uW (k:=n) hx.choose_spec;have h2:=uW (k:=hx.choose) (show kq c b n ρ s≠.bad by rw[h];exact ho);rw[jf] at h2;rw[<-h1,h2,h]
end
def me(c:XT)(e:XE)(cap:En):List PV->Sto->Out (List PV)
 |[],s=>.ok [] s
 |q::l,s=>match c (some q::cap) s with
  |.ok true s1=>match e (some q::cap) s1 with
   |.ok v s2=>match me c e cap l s2 with
    |.ok vs s3=>.ok (v::vs) s3
    |_=>.bad
   |_=>.bad
  |.ok false s1=>me c e cap l s1
  |_=>.bad
def om{c:XT}{e:XE}{cap:En}{q:PV}{l:List PV}{s:Sto}:me c e cap (q::l) s=match c (some q::cap) s with
  |.ok true s1=>match e (some q::cap) s1 with
   |.ok v s2=>match me c e cap l s2 with
    |.ok vs s3=>.ok (v::vs) s3
    |_=>.bad
   |_=>.bad
  |.ok false s1=>me c e cap l s1
  |_=>.bad:=rfl
theorem xK{c:XT}{e:XE}{cap:En}:∀{l:List PV}{s s':Sto}{k:ac},me c e cap l s≠.ex k s'
 |[],_,_,_,h=>by cases h
 |q::l,s,s',k,h=>by
  unfold me at h;split at h
  ·split at h
   ·split at h<;>cases h
   ·cases h
  ·exact xK h
  ·cases h
def pY(_:En)(s:Sto):Out Bool:=.ok true s
def n9(fi:XA)(ix:List Nat)(c:XT)(e:XE)(ρ:En)(s:Sto):Out PV:=(fi ρ s).bind fun l s1=>if l.length<=100000 then(me c e (lA ix ρ) l s1).bind fun vs s2=>.ok (.lst vs) s2 else .bad
structure DIfs(X:Cx)(CB:ac)(He:List aN)(t:XT):Prop where
 pifs:zL X He (TDT X.K CB E0 t)
section
variable{X:Cx}{CB:ac}{E:XK}{a b c e Hk iter tg:aN}{es He:List aN}{f g h:XE}{fa fi:XA}{t:XT}{p px pos Hg G0 GY:Pos}{x:Str}{st:bM}{lY Ip Io:List bM}{u v:XS}{scope:cA}{fr:List Str}{ix:List Nat}
def t9:DIfs X CB [] pY:=⟨fun GX s σ H Q I ⟨ρ,s',m,er,S,P⟩=>tW GX s σ H Q I (P.here S rfl)⟩
def BB(h:DT X CB E0 c t):DIfs X CB [c] t:=⟨AW h.pt⟩
def Mp.hide(m:Mp)(d:ac):Mp:=⟨m.ad,m.fp,d::m.hid⟩
def Mp.bare(m:Mp)(l:List ac):Mp:=⟨m.ad,m.fp,l⟩
theorem Ext0.hide{H:Hp}{m:Mp}{s:Sto}{d:ac}{o:HO}(hd:H d=none):Ext0 H m s (upd H d o) (m.hide d) s :=
 ⟨⟨aq _,fun _ _=>rfl,fun a u h p=>⟨h.same (My.nE hd),fun z=>(aj.mp z).elim (h.ne hd) p.1,p.2⟩,fun a u h _ _=>My.nE hd _ _ h⟩,fun j l _ h=>⟨h,fun o ho=>My.nE hd _ _ ho⟩⟩
theorem SR.hide{K:aa}{H:Hp}{m:Mp}{s:Sto}{d:ac}{xs:List V}(S:SR K CB H m s)(hd:H d=none):SR K CB (upd H d (.lst xs)) (m.hide d) s:=by
 have k:=My.nE (o:=.lst xs) hd;have S1:=S.same k;have e0:Ext0 H m s (upd H d (.lst xs)) (m.hide d) s:=Ext0.hide hd;have Hr:∀n∈s.cs.map (·.1),∀a∈m.fp n,a≠d:=fun n hn a ha z=>by obtain⟨q,hq,rfl⟩:=ai.mp hn;obtain⟨o,e,_⟩:=(S.ok q hq).kind ha;rw[z,hd] at e;cases e
 refine⟨S.nd,S.lt,fun q hq=>?_,S.dj,fun n hn a ha hb=>(aj.mp hb).elim (Hr n hn a ha) (S.hx n hn a ha),fun a ha=>?_,fun P q t=>⟨ak _ (S1.tb P q t).1,(S1.tb P q t).2⟩⟩
 ·have:=S.ok q hq;cases c:q.2 with
  |lst l=>rw[c] at this;obtain⟨a1,vs,a2,a3⟩:=this;exact⟨a1,vs,k _ _ a2,a3.ext0 e0.toExtR⟩
  |dct l=>rw[c] at this;obtain⟨a1,vs,a2,a3⟩:=this;exact⟨a1,vs,k _ _ a2,a3.ext0 e0.toExtR⟩
  |dfz l=>rw[c] at this;obtain⟨a1,ob,vs,a2,a3⟩:=this;exact⟨a1,ob,vs,k _ _ a2,a3.ext0 e0.toExtR⟩
  |obj C fs=>rw[c] at this;obtain⟨a1,dx,vs,a2,a3,a4⟩:=this;exact⟨a1,dx,vs,k _ _ a2,a3,a4.ext0 e0.toExtR⟩
  |book pp L =>
   have:=S1.ok q hq;rw[c] at this;exact this
 ·rcases aj.mp ha with rfl|ha
  ·rw[jR];exact⟨by simp,fun _ _=>⟨by simp,by simp,by simp,by simp⟩⟩
  ·exact S1.hs a ha
def Ext0.redo{K:aa}{H:Hp}{m:Mp}{s:Sto}{d:ac}{o u0:HO}(S:SR K CB H m s)(hd:d∈m.hid)(hu:H d=some u0)(Jw:¬Odd u0):Ext0 H m s (upd H d o) m s:=by
 have ne:∀a,Pur m s a->a≠d:=fun a p z=>p.1 (z▸hd);refine⟨⟨aq _,fun _ _=>rfl,fun a u h p=>⟨?_,p⟩,fun a u h _ p=>by rw[jN (ne a p)];exact h⟩,fun j l _ h=>⟨h,fun o ho=>?_⟩⟩
 rotate_left
 ·obtain⟨e1,_⟩:=S.ok _ (kY h);rw[jN (show m.ad j≠d from fun z=>S.hx j (ai.mpr ⟨_,kY h,rfl⟩) (m.ad j) (by rw[e1];simp) (by rw[z];exact hd))];exact ho
 exact h.elim (fun h=>.inl (by rw[jN (ne a p)];exact h)) fun⟨o,h⟩=>.inr ⟨o,by rw[jN (ne a p)];exact h⟩
theorem SR.redo{K:aa}{H:Hp}{m:Mp}{s:Sto}{d:ac}{xs ys:List V}(S:SR K CB H m s)(hd:d∈m.hid)(hl:H d=some (.lst xs)):SR K CB (upd H d (.lst ys)) m s:=by
 have e0:Ext0 H m s (upd H d (.lst ys)) m s:=Ext0.redo S hd hl uD;have nt:∀(t:ac)(us:List V),SqT K H t us->SqT K (upd H d (.lst ys)) t us:=fun t us h=>by
  rcases h with h|h
  ·refine .inl (e0.pu _ _ h ?_).1;exact h.elim (fun h=>S.pure_tup h) fun⟨_,h⟩=>S.pure_frz (.inl h)
  ·exact .inr h
 refine⟨S.nd,S.lt,fun q hq=>?_,S.dj,S.hx,fun a ha=>?_,S.tbk (.upd hl uD)⟩
 ·have hn:q.1∈s.cs.map (·.1):=ai.mpr ⟨q,hq,rfl⟩;have kp:∀a∈m.fp q.1,∀o,H a=some o->upd H d (.lst ys) a=some o:=fun a ha o h=>by rw[jN (show a≠d from fun z=>S.hx _ hn a ha (by rw[z];exact hd))];exact h
  have:=S.ok q hq;cases c:q.2 with
  |lst l=>rw[c] at this;obtain⟨a1,vs,a2,a3⟩:=this;exact⟨a1,vs,kp _ (by rw[a1];simp) _ a2,a3.ext0 e0.toExtR⟩
  |dct l=>rw[c] at this;obtain⟨a1,vs,a2,a3⟩:=this;exact⟨a1,vs,kp _ (by rw[a1];simp) _ a2,a3.ext0 e0.toExtR⟩
  |dfz l=>rw[c] at this;obtain⟨a1,ob,vs,a2,a3⟩:=this;exact⟨a1,ob,vs,kp _ (by rw[a1];simp) _ a2,a3.ext0 e0.toExtR⟩
  |obj C fs=>rw[c] at this;obtain⟨a1,dx,vs,a2,a3,a4⟩:=this;exact⟨a1,dx,vs,kp _ (by rw[a1];simp) _ a2,a3,a4.ext0 e0.toExtR⟩
  |book pp L =>
   rw[c] at this;obtain⟨z,L',B,e1,e2⟩:=this;rw[e2] at kp;have kb:∀a∈My.BFp (m.ad q.1) z L',∀o,H a=some o->upd H d (.lst ys) a=some o:=kp;refine⟨z,L',⟨kb _ (by simp[My.BFp]) _ B.ob,kb _ (by simp[My.BFp]) _ B.pp,kb _ (by simp[My.BFp]) _ B.tt,kb _ (by simp[My.BFp]) _ B.mm,kb _ (by simp[My.BFp]) _ B.ll,B.hh.keep (fun o h=>kb _ (by simp[My.BFp]) _ h),fun q' Ia=>?_,B.nd,B.p6,B.h8⟩,e1,e2⟩;obtain⟨ts,h1,h2,h3⟩:=B.he q' Ia;refine⟨ts,h1,kb _ ?_ _ h2,fun y hy=>nt _ _ (h3 y hy)⟩;unfold My.BFp;simp only[aj];right;right;right;right;right;right;exact ai.mpr ⟨q',Ia,rfl⟩
 ·by_cases e:a=d
  ·subst e;rw[jR];exact⟨by simp,fun _ _=>⟨by simp,by simp,by simp,by simp⟩⟩
  ·rw[jN e];exact S.hs a ha
def Ext0.show{H:Hp}{m:Mp}{s:Sto}{d:ac}{l:List ac}(hm:m.hid=d::l):Ext0 H m s H (m.bare l) s :=
 ⟨⟨aq _,fun _ _=>rfl,fun a u h p=>⟨h,fun z=>p.1 (by rw[hm];exact ak _ z),p.2⟩,fun a u h _ _=>h⟩,fun j l _ h=>⟨h,fun o h=>h⟩⟩
theorem SR.show{K:aa}{H:Hp}{m:Mp}{s:Sto}{d:ac}{l:List ac}{u0:HO}(S:SR K CB H m s)(hm:m.hid=d::l)(hu:H d=some u0)(Jw:¬Odd u0):SR K CB H (m.bare l) s:=by
 have e0:Ext0 H m s H (m.bare l) s:=Ext0.show hm;refine⟨S.nd,S.lt,fun q hq=>?_,S.dj,fun n hn a ha hb=>S.hx n hn a ha (by rw[hm];exact ak _ hb),fun a ha=>S.hs a (by rw[hm];exact ak _ ha),fun P q t=>⟨?_,(S.tb P q t).2⟩⟩
 rotate_left
 ·obtain⟨h1,ps,h2,_⟩:=S.tb P q t;rw[hm] at h1;rcases aj.mp h1 with z|z
  ·rw[z,hu] at h2;cases h2;exact absurd (.inl ⟨_,rfl⟩) Jw
  ·exact z
 have:=S.ok q hq;cases c:q.2 with
 |lst l=>rw[c] at this;obtain⟨a1,vs,a2,a3⟩:=this;exact⟨a1,vs,a2,a3.ext0 e0.toExtR⟩
 |dct l=>rw[c] at this;obtain⟨a1,vs,a2,a3⟩:=this;exact⟨a1,vs,a2,a3.ext0 e0.toExtR⟩
 |dfz l=>rw[c] at this;obtain⟨a1,ob,vs,a2,a3⟩:=this;exact⟨a1,ob,vs,a2,a3.ext0 e0.toExtR⟩
 |obj C fs=>rw[c] at this;obtain⟨a1,dx,vs,a2,a3,a4⟩:=this;exact⟨a1,dx,vs,a2,a3,a4.ext0 e0.toExtR⟩
 |book pp L=>rw[c] at this;exact this
theorem ER.ext0{K:aa}{H H':Hp}{m m':Mp}{s s':Sto}{σ:St}{ρ:En}(h:ER K H m s σ ρ)(e:ExtR H m s H' m' s'):ER K H' m' s' σ ρ :=
 ⟨h.len,fun i p q=>let⟨u,a,b⟩:=h.at_ i p q;⟨u,a,b.ext0 e⟩⟩
structure Cmp(K:aa)(CB:ac)(D:ac)(H1:Hp)(m1:Mp)(s1:Sto)(cap:St)(ρ:En)(ys:List V)(done:List PV)(H2:Hp)(m2:Mp)(s2:Sto):Prop where
 hid:m2.hid=D::m1.hid
 at_:H2 D=some (.lst ys)
 sr:SR K CB H2 m2 s2
 er:ER K H2 m2 s2 cap ρ
 rs:Reps K H2 m2 s2 ys done
 ex:Ext H1 m1 s1 H2 (m2.bare m1.hid) s2
 e0:Ext0 H1 m1 s1 H2 m2 s2
def Cmp.start{K:aa}{D:ac}{H1:Hp}{m1:Mp}{s1:Sto}{cap:St}{ρ:En}(S:SR K CB H1 m1 s1)(er:ER K H1 m1 s1 cap ρ)(hD:H1 D=none):Cmp K CB D H1 m1 s1 cap ρ [] [] (upd H1 D (.lst [])) (m1.hide D) s1 :=
 ⟨rfl,jR,S.hide hD,er.ext0 (Ext0.hide hD).toExtR,.nil,Ext.same (My.nE hD),Ext0.hide hD⟩
def Ext.into{K:aa}{D:ac}{H1 H2 H5:Hp}{m1 m2 m5:Mp}{s1 s2 s5:Sto}(hid:m2.hid=D::m1.hid)(S2:SR K CB H2 m2 s2)(hD:H1 D=none)(a:Ext H1 m1 s1 H2 (m2.bare m1.hid) s2)(b:Ext H2 m2 s2 H5 m5 s5):Ext H1 m1 s1 H5 (m5.bare m1.hid) s5:=by
 have pr:∀c u,Rd H1 c u->Pur m1 s1 c->Rd H2 c u/\Pur m2 s2 c:=fun c u h p=>by obtain⟨h1,p1⟩:=a.pu c u h p;refine⟨h1,fun z=>?_,p1.2⟩;rw[hid] at z;exact(aj.mp z).elim (h.ne hD) p.1
 refine⟨⟨⟨aC a.nx b.nx,fun n h=>(b.ad n (au h a.nx)).trans (a.ad n h),fun c u h p=>?_,fun c u h n p=>?_⟩,fun j l hj h=>?_⟩,rfl,fun c hc o h n=>?_⟩
 ·obtain⟨h1,p1⟩:=pr c u h p;obtain⟨h2,p2⟩:=b.pu c u h1 p1;exact⟨h2,p.1,p2.2⟩
 ·obtain⟨_,p1⟩:=pr c _ (.inl h) p;exact b.el c u (a.el c u h n p) n p1
 ·obtain⟨h1,k1⟩:=a.df j l hj h;obtain⟨h2,k2⟩:=b.df j l (au hj a.nx) h1;have e:m2.ad j=m1.ad j:=a.ad j hj;rw[e] at k2;exact⟨h2,fun o h=>k2 o (k1 o h)⟩
 ·exact b.hk c (by rw[hid];exact ak _ hc) o (a.hk c hc o h n) n
def Cmp.step{K:aa}{D:ac}{H1 H2 H5:Hp}{m1 m2 m5:Mp}{s1 s2 s5:Sto}{cap:St}{ρ:En}{ys:List V}{done:List PV}(C:Cmp K CB D H1 m1 s1 cap ρ ys done H2 m2 s2)(hD:H1 D=none)(b:Ext H2 m2 s2 H5 m5 s5)(S5:SR K CB H5 m5 s5):Cmp K CB D H1 m1 s1 cap ρ ys done H5 m5 s5 :=
 ⟨b.hd.trans C.hid,b.hk D (by rw[C.hid];exact ap) _ C.at_ (by intro _ z;cases z),S5,C.er.ext b,C.rs.ext b,Ext.into C.hid C.sr hD C.ex b,C.e0.trans b.toExt0⟩
def Cmp.push{K:aa}{D:ac}{H1 H2:Hp}{m1 m2:Mp}{s1 s2:Sto}{cap:St}{ρ:En}{ys:List V}{done:List PV}{v:V}{q:PV}(C:Cmp K CB D H1 m1 s1 cap ρ ys done H2 m2 s2)(hD:H1 D=none)(r:Rep K H2 m2 s2 v q):Cmp K CB D H1 m1 s1 cap ρ (ys++[v]) (done++[q]) (upd H2 D (.lst (ys++[v]))) m2 s2:=by
 have hm:D∈m2.hid:=by rw[C.hid];exact ap
 have e0:Ext0 H2 m2 s2 (upd H2 D (.lst (ys++[v]))) m2 s2:=Ext0.redo C.sr hm C.at_ uD;refine⟨C.hid,jR,C.sr.redo hm C.at_,C.er.ext0 e0.toExtR,(C.rs.append (.cons r .nil)).ext0 e0.toExtR,⟨⟨⟨C.ex.nx,C.ex.ad,fun c u h p=>?_,fun c u h n p=>?_⟩,fun j l hj h=>⟨(C.ex.df j l hj h).1,fun o ho=>?_⟩⟩,rfl,fun c hc o h n=>?_⟩,C.e0.trans e0⟩
 ·obtain⟨h1,p1⟩:=C.ex.pu c u h p;have ne:=h.ne hD;exact⟨h1.elim (fun h=>.inl (by rw[jN ne];exact h)) fun⟨o,h⟩=>.inr ⟨o,by rw[jN ne];exact h⟩,p1⟩
 ·rw[jN (jY h hD)];exact C.ex.el c u h n p
 ·rw[jN (jY ho hD)];exact(C.ex.df j l hj h).2 o ho
 ·rw[jN (jY h hD)];exact C.ex.hk c hc o h n
theorem Cmp.done{K:aa}{D:ac}{H1 H2:Hp}{m1 m2:Mp}{s1 s2:Sto}{cap:St}{ρ:En}{ys:List V}{done:List PV}(C:Cmp K CB D H1 m1 s1 cap ρ ys done H2 m2 s2):SR K CB H2 (m2.bare m1.hid) s2/\(D∉m1.hid->Rep K H2 (m2.bare m1.hid) s2 (.ref D) (.lst done)):=by refine⟨C.sr.show C.hid C.at_ uD,fun hn=>.lst C.at_ ⟨hn,fun n hh z=>C.sr.hx n hh D z (by rw[C.hid];exact ap)⟩ (C.rs.ext0 (Ext0.show C.hid).toExtR)⟩
def BG{σ:St}{H1:Hp}{m1:Mp}{s1:Sto}{ρ:En}{J:It}{l:List PV}{D:ac}{Q:VK}{t:XT}(S1:SR X.K CB H1 m1 s1)(er:ER X.K H1 m1 s1 σ ρ)(it:mQ X.K CB J l H1 m1 s1)(hD:H1 D=none)(G1:l.length<=100000)(P:Post X.K CB (Rep X.K) E ((me t f (lA ix ρ) l s1).bind fun vs s2=>.ok (.lst vs) s2) H1 m1 s1 Q):CompB J (TDT X.K CB E0 t) (TDE X.K CB E0 f) (capt ix σ) D H1 Q:=by
 refine⟨fun i k ys H2=>∃done m2 s2,Cmp X.K CB D H1 m1 s1 (capt ix σ) (lA ix ρ) ys done H2 m2 s2/\i<=l.length/\ys.length<=i/\k=l.length-i/\(me t f (lA ix ρ) l s1).bind (fun vs s2=>.ok (PV.lst vs) s2)=(me t f (lA ix ρ) (l.drop i) s2).bind fun vs s2=>.ok (.lst (done++vs)) s2,⟨l.length,[],m1.hide D,s1,Cmp.start S1 (er.capt ix) hD,a6 _,a6 _,rfl,?_⟩,?_⟩
 ·simp
 rintro i k ys H2 ⟨done,m2,s2,C,hi,hy,rfl,eq⟩
 obtain⟨Kq,Kp⟩:=it i H2 m2 s2 C.e0 C.sr;by_cases Hs:i<l.length
 ·right;have hq:l[i]?=some l[i]:=bc Hs;obtain⟨go,yl⟩:=Kq _ hq;refine⟨go,fun x H3 L7=>?_⟩;obtain⟨e3,S3,r3⟩:=yl x H3 L7;have C3:=C.step hD e3 S3;rw[fc Hs] at eq;rw[eq] at P;rw[om] at P eq;refine⟨some l[i]::lA ix ρ,s2,m2,C3.er.cons r3,S3,?_⟩;cases ct:t (some l[i]::lA ix ρ) s2 with
  |bad=>rw[ct] at P;exact P.elim
  |ex c3 s3=>rw[ct] at P;exact P.elim
  |ok bt s3 =>
   rw[ct] at P eq;intro b4 H4 m4 e4 S4 hb;subst hb;have C4:=C3.step hD e4 S4;cases b4 with
   |false =>
    exact E7 ⟨l.length-(i+1),by omega,done,m4,s3,C4,Hs,by omega,rfl,eq⟩
   |true =>
    refine E6 ⟨some l[i]::lA ix ρ,s3,m4,C4.er.cons (r3.ext e4),S4,?_⟩;dsimp only at P eq;cases cf:f (some l[i]::lA ix ρ) s3 with
    |bad=>rw[cf] at P;exact P.elim
    |ex c5 s5=>rw[cf] at P;exact P.elim
    |ok v s5 =>
     rw[cf] at eq;intro w H5 m5 e5 S5 r5;have C5:=C4.step hD e5 S5;refine⟨C5.at_,aZ (aC hy (aC hi G1)) (by decide),l.length-(i+1),by omega,done++[v],m5,s5,C5.push hD r5,Hs,by simp;omega,rfl,?_⟩;rw[eq];dsimp only;cases hh:me t f (lA ix ρ) (l.drop (i+1)) s5 with
     |ok vs s6=>simp[Out.bind]
     |ex c6 s6=>exact absurd hh xK
     |bad=>rfl
 ·left;have Ik:l.length<=i:=ei Hs;rw[fP Ik] at eq;rw[eq] at P;unfold me at P;obtain⟨M4,rd⟩:=C.done;refine⟨Kp Ik,C.at_,P (.ref D) H2 (m2.bare m1.hid) C.ex M4 ?_⟩;rw[cB];exact rd fun z=>(S1.hs D z).1 hD
def tN{σ:St}{H:Hp}{Q:VK}{t:XT}(q:TDE X.K CB E (n9 fi ix t f) σ H Q):CI (TDI X.K CB E fi) ix (TDT X.K CB E0 t) (TDE X.K CB E0 f) σ H Q:=by
 obtain⟨ρ,s,m,er,S,P⟩:=q;refine⟨ρ,s,m,er,S,?_⟩;unfold n9 at P;cases c:fi ρ s with
 |bad=>rw[c] at P;exact P
 |ex c' s'=>rw[c] at P;exact P
 |ok l s1 =>
  rw[c] at P;dsimp only[Out.bind] at P;split at P
  ·rename_i G1;intro J H1 m1 e1 S1 it D hD;exact BG S1 (er.ext e1) it hD G1 (Post.shift e1 P)
  ·exact P.elim
def wq(hi:DI X CB E (.Name x px) iter fi)(he:∀cl C G2 G5 fp,DE (blk X scope cl C (x::fr) G2 G5 fp) CB E0 Hk f)(ht:∀cl C G2 G5 fp,DIfs (blk X scope cl C (x::fr) G2 G5 fp) CB He t:=by exact fun _ _ _ _ _=>t9)(hc:X.calm=true:=by rfl)(S:CompOk X.N X.env.scope scope x fr ix:=by exact cokS ‹FnScope _ _ _›)(hs:∀v,bY iter X.env v=pure v:=by intro _;rfl):DE X CB E (.ListComp Hk [⟨.Name x px,iter,He,0⟩] scope pos) (n9 fi ix t f) :=
 ⟨(wd hc S hi.pi (fun cl C G2 G5 fp=>(ht cl C G2 G5 fp).pifs) (fun cl C G2 G5 fp=>(he cl C G2 G5 fp).pe) hs).mono fun σ H Q q=>tN q⟩
def yL{i:Nat}{y:Str}{py HF:Pos}(hi:DI X CB E (.Name x px) iter fi)(he:∀cl C G2 G5 fp,DE (blk X scope cl C (x::fr) G2 G5 fp) CB E0 Hk f)(ht:∀cl C G2 G5 fp,DIfs (blk X scope cl C (x::fr) G2 G5 fp) CB He t:=by exact fun _ _ _ _ _=>t9)(hN:X.N.Nodup:=by exact ‹FnScope _ _ _›.nd)(JO:X.N[i]?=some y:=by rfl)(Jj:X.env.scope.names.lookup y=some .local:=by rfl)(hc:X.calm=true:=by rfl)(S:CompOk X.N X.env.scope scope x fr ix:=by exact cokS ‹FnScope _ _ _›)(JG:cW (.ListComp Hk [⟨.Name x px,iter,He,0⟩] scope pos) (some (.Name y py)) HF.line X.env=pure true:=by rfl)(hs:∀v,bY iter X.env v=pure v:=by intro _;rfl):DS X CB E (.Assign [.Name y py] (.ListComp Hk [⟨.Name x px,iter,He,0⟩] scope pos) HF) (xSet i (n9 fi ix t f)) :=
 ⟨(yi hN JO Jj hc S hi.pi (fun cl C G2 G5 fp=>(ht cl C G2 G5 fp).pifs) (fun cl C G2 G5 fp=>(he cl C G2 G5 fp).pe) JG hs).mono fun D σ H ⟨ρ,s,m,er,S,P⟩ =>
  tN ⟨ρ,s,m,er,S,Post.so P fun v s1 u H1 m1 e1 S1 r1 P1=>P1.next S1 ((er.ext e1).set i r1)⟩⟩
end
abbrev XF:=List PV->Sto->Out PV
def spD(K:aa)(CB:ac)(n:Nat)(D:XF):Sp:=fun vs H Q E=>vs.length=n/\∃ps s m,Reps K H m s vs ps/\SR K CB H m s/\Post K CB (Rep K) E (D ps s) H m s Q
def xCall(n:Nat)(D:XF)(fa:XA)(ρ:En)(s:Sto):Out PV:=(fa ρ s).bind fun vs s1=>if vs.length=n then D vs s1 else .bad
def fnD(N:Nat)(g:XS)(vs:List PV)(s:Sto):Out PV:=match g (vs.map some++aK (N-vs.length) none) s with
 |.nx _ s'=>.ok .non s'
 |.rt v s'=>.ok v s'
 |.ex c s'=>.ex c s'
 |_=>.bad
section
variable{X:Cx}{CB:ac}{E:XK}{a b c e Hk iter tg:aN}{es He:List aN}{f g h:XE}{fa fi:XA}{t:XT}{p px py pos Hg G0 GY:Pos}{x y:Str}{st:bM}{lY Ip Io:List bM}{u v:XS}{scope:cA}{fr:List Str}{ix:List Nat}{n k:Nat}{D:XF}{ps:List Str}
def kN(F:Fn X.prog X.w X.K X.mg X.base x k ps (spD X.K CB n D))(ha:DA X CB E (e::es) fa){jr:Nat}(hr:Room jr X.A:=by assumption)(hk:k<=jr:=by first|decide|omega)(hg:Gl X x:=by rfl)(hx:mz (CXo X.prog X.w) X E:=by first|exact ma|exact qA)(HC:NDb x:=by decide)(he:SEb X e es:=by rfl)(Hn:(bV pos (ar es X.env)).any (·.1)=false:=by rfl):DE X CB E (.Call (.Name x p) (e::es) [] pos) (xCall n D fa) :=
 ⟨(qL F (hr.mono hk) hg hx ha.pa HC he Hn).mono fun σ H Q ⟨ρ,s,m,er,S,P⟩=>⟨ρ,s,m,er,S,P.bind fun v s1 u H1 m1 e1 S1 r1 P1=>by
  split at P1
  ·rename_i hl;rw[cB];exact⟨by rw[r1.length];exact hl,v,s1,m1,r1,S1,P1⟩
  ·exact P1.elim⟩⟩
def xBM(n:Nat)(D:XF)(f:XE)(fa:XA)(ρ:En)(s:Sto):Out PV:=(f ρ s).bind fun o s1=>match o with
 |.ref k=>match s1.get k with
  |some (.book _ _)=>(fa ρ s1).bind fun vs s2=>if vs.length+1=n then D (.ref k::vs) s2 else .bad
  |_=>.bad
 |_=>.bad
def wE{pl:Sem Bool}{m:Str}(ho:DE X CB E a f)(M:Mt X.prog X.w X.K X.mg X.base CB m k ps (spD X.K CB n D))(ha:DA X CB E (e::es) fa)(Jw:∀z,(My.bf z).lookup m=none:=by exact fun z=>My.pH z){jr:Nat}(hr:Room jr X.A:=by assumption)(hk:k<=jr:=by first|decide|omega)(hx:mz (CXo X.prog X.w) X E:=by first|exact ma|exact qA)(Ic:SEb X e es:=by rfl)(Hn:(bV pos (ar es X.env)).any (·.1)=false:=by rfl)(ht:eval (.Call (.Attribute a m G0) (e::es) [] pos) X.env=(do
   let ov <-eval a X.env
   ig G0.atName
   let(f,first) <-holding [ov] (iB ov m pl)
   callWith pos f first (bV pos (ar (e::es) X.env)) (f9 pos (dX [] X.env))):=by rfl):DE X CB E (.Call (.Attribute a m G0) (e::es) [] pos) (xBM n D f fa) :=
 ⟨(pC (pl:=pl) ho.pe M (hr.mono hk) hx ha.pa Ic Hn ht).mono fun σ H Q ⟨ρ,s,m,er,S,P⟩=>⟨ρ,s,m,er,S,P.bind fun v s1 u H1 m1 e1 S1 r1 P1=>by
  split at P1
  ·split at P1
   ·rename_i hg;obtain⟨z,L',B,_,_⟩:=S1.get hg;cases r1 with
    |ref hn =>
    refine⟨_,_,_,rfl,B.ob,Jw z,ρ,s1,m1,er.ext e1,S1,P1.bind fun vs s2 us H2 m2 e2 S2 r2 P2=>?_⟩;split at P2
    ·rename_i hl;rw[cB];refine⟨by rw[bR,r2.length];exact hl,_,s2,m2,.cons ?_ r2,S2,P2⟩;exact(Rep.ref hn).ext e2
    ·exact P2.elim
   ·exact P1.elim
  ·exact P1.elim⟩⟩
def xBook(_:En)(s:Sto):Out PV:=.ok (.ref s.nx) (s.add (.book [] []))
def B8(K:aa)(C:ac):Sp:=fun vs H Q _=>∃(p dx:ac),vs=[.ref p]/\H p=some (.ins C dx [])/\∀z H',(∀c∈[z.dp,z.dt,z.dm,z.dl,z.dh],H c=none)->My.BookAt K C H' p z [] []->(∀c o,H c=some o->c≠p->H' c=some o)->Q .non H'
def Eu(M:MkB X.prog X.w X.K X.mg X.base x CB k ps (B8 X.K CB)){jr:Nat}(hr:Room jr X.A:=by assumption)(hk:k+1<=jr:=by first|decide|omega)(hg:Gl X x:=by rfl)(hx:mz (CXo X.prog X.w) X E:=by first|exact ma|exact qA)(HC:NDb x:=by decide):DE X CB E (.Call (.Name x p) [] [] pos) xBook :=
 ⟨(FM M (hr.mono hk) hg hx HC).mono fun σ H Q ⟨ρ,s,m,er,S,P⟩ b dx hb hdx Hr=>by
  refine⟨b,dx,rfl,jR,fun z H' hz B kp=>⟨rfl,?_⟩⟩;have hk:Same H H':=fun c o h=>by have h1:c≠b:=jY h hb;have h2:c≠dx:=jY h hdx;exact kp c o (by rw[jN h1,jN h2];exact h) h1
  have hzn:∀c∈[z.dp,z.dt,z.dm,z.dl,z.dh],H c=none:=fun c hc=>by
   have h:=hz c hc;have n1:c≠b:=fun e=>by rw[e,jR] at h;cases h
   have n2:c≠dx:=fun e=>by rw[jN n1,e,jR] at h;cases h
   rw[jN n1,jN n2] at h;exact h
  obtain⟨S2,e2⟩:=S.add (c:=.book [] []) H' b (My.BFp b z []) hk (fun a ha=>by
   unfold My.BFp at ha;rcases aj.mp ha with rfl|ha
   ·exact hb
   ·exact hzn a (by simpa using ha)) fun ex=>by
    refine⟨z,[],?_,rfl,?_⟩
    ·rw[Mp.add_ad];exact B
    ·rw[Mp.add_ad];show(if s.nx=s.nx then _ else _)=_;rw[if_pos rfl]
  exact P _ _ _ e2 S2 .new⟩
def oi{P:az}{w:aU}{K:aa}{mg:Str->Option ae}{base:ba}{qual:Str}{fa:ac}{fd:bJ}{N:List Str}(F:Fun K x qual st fa fd)(S:FnScope N ps (jS st))(hps:ps.length=n)(hb:∀(G3:ae)(A:bx)(outer:List Env)(s:ah)(H:Hp)(E:XK),Room k (A.deeper (dF qual (jS st) s.heap.objs.size fa G3))->FnScope N ps (jS st)->DSs (xJ (CXo P w) P w K mg base N qual (jS st) fa G3 A outer s H E) CB E (kO st) u) :
  FnOk P w K mg base (CXo P w) (k+1) fa fd ps (spD K CB n (fnD N.length u)):=by
 refine F.okX S (fun vs H Q E h=>by rw[hps];exact h.1) (fun G3 A outer s H vs Q E hr h=>?_);obtain⟨hl,JC,s',m,r,S',P'⟩:=h;refine⟨_,(hb G3 A outer s H E hr S).pss,JC.map some++aK (N.length-JC.length) none,s',m,?_,S',?_⟩
 ·unfold start;rw[r.length];exact ER.start r _
 ·unfold fnD at P';cases cc:u (JC.map some++aK (N.length-JC.length) none) s' with
  |nx ρ1 s1=>rw[cc] at P';exact fun σ' H' m' x S1 er=>P' .non H' m' x S1 .non
  |rt v1 s1=>rw[cc] at P';exact fun u' H' m' x S1 r1=>P' u' H' m' x S1 r1
  |ex c1 s1=>rw[cc] at P';exact P'
  |bk=>rw[cc] at P';exact P'.elim
  |ct=>rw[cc] at P';exact P'.elim
  |bad=>rw[cc] at P';exact P'.elim
open Classical in
def Sto.only(s:Sto)(n:Nat):Sto:=⟨s.nx,s.cs.filter fun q=>decide (q.1<n)⟩
def xOnly(f:XE)(ρ:En)(s:Sto):Out PV:=(f ρ s).bind fun v s1=>.ok v (s1.only s.nx)
def frz1(v:PV)(s:Sto):Out PV:=match v with
 |.ref n=>match s.get n with
  |some (.lst l)=>.ok (.lst l) (s.del n)
  |some (.dct l)=>.ok (.dct l) (s.del n)
  |_=>.bad
 |_=>.bad
def xFrz(f:XE)(ρ:En)(s:Sto):Out PV:=(f ρ s).bind frz1
def SR.frz{K:aa}{H:Hp}{m:Mp}{s s':Sto}{x:V}{v w:PV}(S:SR K CB H m s)(r:Rep K H m s x v)(e:frz1 v s=.ok w s'):SR K CB H m s'/\Ext H m s H m s'/\Rep K H m s' x w:=by
 unfold frz1 at e;split at e
 ·rename_i n;have pu:∀c,s.get n=some c->m.fp n=[m.ad n]->Pur m (s.del n) (m.ad n):=fun c hg e1=>by have Hc:n∈s.cs.map (·.1):=ai.mpr ⟨_,kY hg,rfl⟩;refine⟨S.hx n Hc _ (by rw[e1];simp),fun j hj z=>?_⟩;obtain⟨q,hq,rfl⟩:=ai.mp hj;have Hr:=zw S.nd hq;exact S.dj n Hc q.1 (ai.mpr ⟨q,pk hq,rfl⟩) (fun z=>Hr z.symm) _ (by rw[e1];simp) z
  split at e
  ·rename_i l hg;cases e;cases r;obtain⟨e1,vs,h1,h2⟩:=S.get hg;have hnd:∀l,s.get n≠some (.dfz l):=fun l z=>by rw[hg] at z;cases z
   exact⟨(S.del n hnd).1,(S.del n hnd).2,.lst h1 (pu _ hg e1) (h2.ext (S.del n hnd).2)⟩
  ·rename_i l hg;cases e;cases r;obtain⟨e1,vs,h1,h2⟩:=S.get hg;have hnd:∀l,s.get n≠some (.dfz l):=fun l z=>by rw[hg] at z;cases z
   exact⟨(S.del n hnd).1,(S.del n hnd).2,.dct (.inl h1) (pu _ hg e1) (h2.ext (S.del n hnd).2)⟩
  ·cases e
 ·cases e
def GE(h:DE X CB E e f):DE X CB E e (xFrz f):=⟨h.pe.mono fun σ H Q ⟨ρ,s,m,er,S,P⟩=>⟨ρ,s,m,er,S,P.bind fun v s1 u H1 m1 e1 S1 r1 P1=>by
 cases cc:frz1 v s1 with
 |ok w s2 =>
  rw[cc] at P1;obtain⟨S2,e2,r2⟩:=S1.frz r1 cc;exact P1 u H1 m1 e2 S2 r2
 |ex c' s' =>
  exfalso;unfold frz1 at cc;split at cc
  ·split at cc<;>cases cc
  ·cases cc
 |bad=>rw[cc] at P1;exact P1.elim⟩⟩
def thawD(d:ac)(D:Ends):Ends:={ nx:=fun σ H'=>∃ob kvs,H' d=some (.frz ob (.dK kvs))/\D.nx σ (upd H' d (.dK kvs)),rt:=fun v H'=>∃ob kvs,H' d=some (.frz ob (.dK kvs))/\D.rt v (upd H' d (.dK kvs)),bk:=fun σ H'=>∃ob kvs,H' d=some (.frz ob (.dK kvs))/\D.bk σ (upd H' d (.dK kvs)),ct:=fun σ H'=>∃ob kvs,H' d=some (.frz ob (.dK kvs))/\D.ct σ (upd H' d (.dK kvs)) }
def Df{tt:TS}(h:PS X st tt):PS X st (fun D σ H=>∃d Kn,H d=some (.dK Kn)/\tt (thawD d D) σ H):=by
 intro GX s σ H D I ⟨d,Kn,hd,q⟩;have n3:∀o v,X.Ha0 d≠some (.frz o v):=fun o v z=>by rw[I.base.frzs d o v z] at hd;cases hd
 refine thn (h GX s σ H _ I q) fun fl s1 h1=>?_;cases fl with
 |next=>obtain⟨σ1,H1,I1,ob,kvs,e1,q1⟩:=h1;exact⟨σ1,_,I1.thaw e1 n3,q1⟩
 |brk=>obtain⟨σ1,H1,I1,ob,kvs,e1,q1⟩:=h1;exact⟨σ1,_,I1.thaw e1 n3,q1⟩
 |cont=>obtain⟨σ1,H1,I1,ob,kvs,e1,q1⟩:=h1;exact⟨σ1,_,I1.thaw e1 n3,q1⟩
 |ret u=>obtain⟨v,σ1,H1,I1,r1,ob,kvs,e1,q1⟩:=h1;exact⟨v,σ1,_,I1.thaw e1 n3,r1,q1⟩
def SR.freezeC{K:aa}{H:Hp}{m:Mp}{s:Sto}{n:Nat}{l:List (Key×PV)}(S:SR K CB H m s)(hg:s.get n=some (.dct l)):∃vs,H (m.ad n)=some (.dK vs)/\∀ob,∃m',m'.ad=m.ad/\SR K CB (upd H (m.ad n) (.frz ob (.dK vs))) m' (s.set n (.dfz l))/\Ext H m s (upd H (m.ad n) (.frz ob (.dK vs))) m' (s.set n (.dfz l))/\RepKs K (upd H (m.ad n) (.frz ob (.dK vs))) m' (s.set n (.dfz l)) vs l:=by
 obtain⟨e1,vs,h1,r1⟩:=S.get hg;refine⟨vs,h1,fun ob=>⟨m.fput n [m.ad n],rfl,?_⟩⟩;have:=S.put (c':=.dfz l) hg (by intro _ z;cases z) (upd H (m.ad n) (.frz ob (.dK vs))) [m.ad n] (fun a o h ha=>by rw[e1,al] at ha;rw[jN ha];exact h) (fun a ha=>.inl (by rw[e1];exact ha)) fun ex=>⟨by show(if n=n then [m.ad n] else m.fp n)=_;rw[if_pos rfl];rfl,ob,vs,jR,r1.ext0 ex⟩
 exact⟨this.1,this.2,r1.ext this.2⟩
theorem ExtR.trans{H H1 H2:Hp}{m m1 m2:Mp}{s s1 s2:Sto}(a:ExtR H m s H1 m1 s1)(b:ExtR H1 m1 s1 H2 m2 s2):ExtR H m s H2 m2 s2 :=
 ⟨aC a.nx b.nx,fun n h=>(b.ad n (au h a.nx)).trans (a.ad n h),fun c u h p=>let⟨h1,p1⟩:=a.pu c u h p;b.pu c u h1 p1,fun c x h n p=>b.el c x (a.el c x h n p) n (a.pu c _ (.inl h) p).2⟩
def SR.thawC{K:aa}{H H1:Hp}{m m1:Mp}{s s1:Sto}{n:Nat}{l:List (Key×PV)}(h0:∀l,s.get n≠some (.dfz l))(hn:n<s.nx)(e:Ext H m s H1 m1 s1)(S:SR K CB H1 m1 s1)(hg:s1.get n=some (.dfz l)) :
  ∃ob vs,H1 (m.ad n)=some (.frz ob (.dK vs))/\∃m2,SR K CB (upd H1 (m.ad n) (.dK vs)) m2 (s1.set n (.dct l))/\Ext H m s (upd H1 (m.ad n) (.dK vs)) m2 (s1.set n (.dct l))/\ExtR H1 m1 s1 (upd H1 (m.ad n) (.dK vs)) m2 (s1.set n (.dct l)):=by
 have ea:m1.ad n=m.ad n:=e.ad n hn;have Hc:n∈s1.cs.map (·.1):=ai.mpr ⟨_,kY hg,rfl⟩;obtain⟨e1,ob,vs,h1,r1⟩:=S.get hg;rw[ea] at e1 h1;refine⟨ob,vs,h1,m1.fput n [m.ad n],?_⟩;obtain⟨S2,x2,_⟩:=S.put' (c':=.dct l) hg (upd H1 (m.ad n) (.dK vs)) [m.ad n] (fun a o h ha=>by rw[e1,al] at ha;rw[jN ha];exact h) (fun a ha=>.inl (by rw[e1];exact ha)) fun ex=>⟨by show(if n=n then [m.ad n] else m1.fp n)=[m1.ad n];rw[if_pos rfl,ea],vs,by show upd H1 (m.ad n) (.dK vs) (m1.ad n)=_;rw[ea];exact jR,r1.ext0 ex⟩
 refine⟨S2,⟨⟨e.toExtR.trans x2,fun j l' hj h=>?_⟩,e.hd,fun a ha o h n0=>?_⟩,x2⟩
 ·have KG:j≠n:=fun z=>h0 l' (by rw[<-z];exact h);obtain⟨g1,g2⟩:=e.df j l' hj h;refine⟨(m6 KG).trans g1,fun o ho=>?_⟩;obtain⟨e3,_⟩:=S.ok _ (kY g1);have Hr:m.ad j≠m.ad n:=fun z=>S.dj j (ai.mpr ⟨_,kY g1,rfl⟩) n Hc KG (m1.ad j) (by rw[e3];simp) (by rw[e1,e.ad j hj,z];simp);rw[jN Hr];exact g2 o ho
 ·have ha':a∈m1.hid:=by rw[e.hd];exact ha
  have Hr:a≠m.ad n:=fun z=>S.hx n Hc a (by rw[e1,z];simp) ha';rw[jN Hr];exact e.hk a ha o h n0
def thw(n:Nat)(s:Sto):Option Sto:=match s.get n with
 |some (.dfz l)=>some (s.set n (.dct l))
 |_=>none
def zf{s:Sto}{n:Nat}{c c':Cell}(h:s.get n=some c):(s.set n c').get n=some c':=by
 have:∀{l:List (Nat×Cell)},mE l n=some c->mE (ot n c' l) n=some c':=by
  intro l;induction l with
  |nil=>intro h;cases h
  |cons q r ih =>
   intro h;obtain⟨k,d⟩:=q;unfold ot;split
   ·unfold mE;rw[if_pos rfl]
   ·rename_i hk;unfold mE at h ⊢;rw[if_neg hk] at h ⊢;exact ih h
 exact this h
def iterC{K:aa}{H1:Hp}{m1:Mp}{s1:Sto}{n:Nat}{ob:Obj}{vs:List (Key×V)}{l:List (Key×PV)}(S1:SR K CB H1 m1 s1)(hg:s1.get n=some (.dfz l)){d:ac}(ea:m1.ad n=d)(h1:H1 d=some (.frz ob (.dK vs)))(r:RepKs K H1 m1 s1 vs l):mQ K CB (Itd d ob vs) (l.map fun kv=>yw kv.1) H1 m1 s1 :=
 iterD (fun H m s ex S=>by have:=(ex.df n l (S1.getlt hg) hg).2;rw[ea] at this;exact this _ h1) r
def SO.thaw(n:Nat):SO->SO
 |.nx ρ s=>match thw n s with
  |some s'=>.nx ρ s'
  |none=>.bad
 |.rt v s=>match thw n s with
  |some s'=>.rt v s'
  |none=>.bad
 |_=>.bad
def At(j:Nat)(y:XG)(body:XS)(ρ:En)(s:Sto):SO:=match ρ[j]? with
 |some (some (.ref n))=>match s.get n with
  |some (.dct l)=>(k6 (kE y body) (l.map fun kv=>yw kv.1) ρ (s.set n (.dfz l))).thaw n
  |_=>.bad
 |_=>.bad
def Ea(j:Nat){yy:XG}(hg:DG X.nox CB tg yy)(hb:DSs X.nox CB E0 Ip u)(hc:X.calm=true:=by rfl)(hN:X.N[j]?=some y:=by rfl)(hv:Vis X.env.scope y:=by first|exact dI rfl|exact f7 (dI rfl))(hs:∀x,bY (.Name y py) X.env x=pure x:=by intro _;rfl)(hd:NDb y:=by decide)(Ie:(y==("__classdict__":Str))=false:=by decide):DS X CB E (.For tg (.Name y py) Ip [] pos) (At j yy u) :=
 ⟨PS.nox ((Df (Cd (X:=X.nox) fz hc (Dj (yX (X:=X.nox) hN hv hd Ie)) hg.pg hb.pss hs)).mono fun D σ H ⟨ρ,s,m,er,S,P⟩=>by
  unfold At at P;split at P
  ·rename_i n hρ;split at P
   ·rename_i l hg;obtain⟨u0,hu,ru⟩:=er.at_ j _ hρ;cases ru with
    |ref hn =>
    obtain⟨vs,h1,hf⟩:=S.freezeC hg;refine⟨m.ad n,vs,h1,_,hu,m.ad n,vs,rfl,.inl ⟨h1,fun ob=>?_⟩⟩;obtain⟨m1,ea,S1,e1,r1⟩:=hf ob;have hg1:(s.set n (.dfz l)).get n=some (.dfz l):=zf hg;have ea':m1.ad n=m.ad n:=by rw[ea]
    have h0:∀l',s.get n≠some (.dfz l'):=fun l' z=>by rw[hg] at z;cases z
    refine xE (X:=X.nox) (y:=yy) (u:=u) S1 (er.ext e1) (iterC S1 hg1 ea' jR r1) ?_;cases cc:k6 (kE yy u) (l.map fun kv=>yw kv.1) ρ (s.set n (.dfz l)) with
    |nx ρ2 s2 =>
     rw[cc] at P;intro σ2 H2 m2 e2 S2 K0;unfold SO.thaw thw at P;dsimp only at P;split at P
     ·rename_i s3 h3;split at h3<;>cases h3
      rename_i l2 Jl;obtain⟨Js,vs',q1,m3,S3,e3,x3⟩:=SR.thawC h0 hn (e1.trans e2) S2 Jl;exact⟨Js,vs',q1,P σ2 _ m3 e3 S3 (K0.ext0 x3)⟩
     ·exact P.elim
    |rt v2 s2 =>
     rw[cc] at P;intro u2 H2 m2 e2 S2 r2;unfold SO.thaw thw at P;dsimp only at P;split at P
     ·rename_i s3 h3;split at h3<;>cases h3
      rename_i l2 Jl;obtain⟨Js,vs',q1,m3,S3,e3,x3⟩:=SR.thawC h0 hn (e1.trans e2) S2 Jl;exact⟨Js,vs',q1,P u2 _ m3 e3 S3 (r2.ext0 x3)⟩
     ·exact P.elim
    |bk=>rw[cc] at P;exact P.elim
    |ct=>rw[cc] at P;exact P.elim
    |ex=>rw[cc] at P;exact P.elim
    |bad=>rw[cc] at P;exact P.elim
   ·exact P.elim
  ·exact P.elim)⟩
end
def erH(H:Hp)(d:ac):Hp:=fun b=>if b=d then none else H b
def oG{H:Hp}{a d:ac}(h:a≠d):erH H d a=H a:=by unfold erH;rw[if_neg h]
def xF{H:Hp}{d:ac}:erH H d d=none:=by unfold erH;rw[if_pos rfl]
section
variable{X:Cx}{CB:ac}{E:XK}{a b c e Hk iter tg:aN}{es He:List aN}{f g h:XE}{fa fi:XA}{t:XT}{p px py pos Hg G0 GY:Pos}{x y:Str}{st:bM}{lY Ip Io:List bM}{u v:XS}{n k:Nat}{D:XF}{ps:List Str}
def SR.hideD{K:aa}{H:Hp}{m:Mp}{s:Sto}{d:ac}{xs:List (Key×V)}(S:SR K CB H m s)(hd:H d=none):SR K CB (upd H d (.dK xs)) (m.hide d) s:=by
 have k:=My.nE (o:=.dK xs) hd;have S1:=S.same k;have e0:Ext0 H m s (upd H d (.dK xs)) (m.hide d) s:=Ext0.hide hd;have Hr:∀n∈s.cs.map (·.1),∀a∈m.fp n,a≠d:=fun n hn a ha z=>by obtain⟨q,hq,rfl⟩:=ai.mp hn;obtain⟨o,e,_⟩:=(S.ok q hq).kind ha;rw[z,hd] at e;cases e
 refine⟨S.nd,S.lt,fun q hq=>(S.ok q hq).keep S e0.toExtR (fun a _ o h=>k a o h) rfl rfl,S.dj,fun n hn a ha hb=>(aj.mp hb).elim (Hr n hn a ha) (S.hx n hn a ha),fun a ha=>?_,fun P q t=>⟨ak _ (S1.tb P q t).1,(S1.tb P q t).2⟩⟩;rcases aj.mp ha with rfl|ha
 ·rw[jR];exact⟨by simp,fun _ _=>⟨by simp,by simp,by simp,by simp⟩⟩
 ·exact S1.hs a ha
def DY{K:aa}{H H2:Hp}{m m2:Mp}{s s2:Sto}{d:ac}{xs:List (Key×V)}(S:SR K CB H m s)(hd:H d=none)(e:Ext (upd H d (.dK xs)) (m.hide d) s H2 m2 s2)(S2:SR K CB H2 m2 s2) :
  SR K CB (erH H2 d) (m2.bare m.hid) s2/\Ext H m s (erH H2 d) (m2.bare m.hid) s2/\ExtR H2 m2 s2 (erH H2 d) (m2.bare m.hid) s2/\H2 d=some (.dK xs):=by
 have hh:m2.hid=d::m.hid:=e.hd;have Hc:d∈m2.hid:=by rw[hh];exact ap
 have hD:H2 d=some (.dK xs):=e.hk d ap _ jR (by intro _ z;cases z);have tbE:TbS H2 (erH H2 d):=.of fun a o h od=>by rw[oG (show a≠d from fun z=>by rw[z,hD] at h;cases h;exact CO od)];exact h
 have x2:ExtR H2 m2 s2 (erH H2 d) (m2.bare m.hid) s2:=by have ne:∀a,Pur m2 s2 a->a≠d:=fun a p z=>p.1 (by rw[z];exact Hc);refine⟨aq _,fun _ _=>rfl,fun a u h p=>⟨?_,fun z=>p.1 (by rw[hh];exact ak _ z),p.2⟩,fun a u h _ p=>by rw[oG (ne a p)];exact h⟩;exact h.elim (fun h=>.inl (by rw[oG (ne a p)];exact h)) fun⟨o,h⟩=>.inr ⟨o,by rw[oG (ne a p)];exact h⟩
 have fne:∀n∈s2.cs.map (·.1),∀a∈m2.fp n,a≠d:=fun n hn a ha z=>S2.hx n hn a ha (by rw[z];exact Hc);have dn:d∉m.hid:=fun z=>(S.hs d z).1 hd;have h2:∀a∈m.hid,a≠d:=fun a ha z=>dn (by rw[<-z];exact ha);refine⟨⟨S2.nd,S2.lt,fun q hq=>(S2.ok q hq).keep S2 x2 (fun a ha o h=>by rw[oG (fne q.1 (ai.mpr ⟨q,hq,rfl⟩) a ha)];exact h) rfl rfl,S2.dj,fun n hn a ha hb=>S2.hx n hn a ha (by rw[hh];exact ak _ hb),fun a ha=>?_,fun P q t=>⟨?_,tbE.2 P q (S2.tb P q t).2⟩⟩,?_,x2,hD⟩
 ·rw[oG (h2 a ha)];exact S2.hs a (by rw[hh];exact ak _ ha)
 ·obtain⟨h1,ps,h3,_⟩:=S2.tb P q t;rw[hh] at h1;rcases aj.mp h1 with z|z
  ·rw[z,hD] at h3;cases h3
  ·exact z
 ·have e1:=(Ext0.hide (m:=m) (s:=s) (o:=.dK xs) hd).trans e.toExt0;refine⟨⟨e1.toExtR.trans x2,fun j l hj h=>⟨(e1.df j l hj h).1,fun o ho=>?_⟩⟩,rfl,fun a ha o h n0=>?_⟩
  ·rw[oG (jY ho hd)];exact(e1.df j l hj h).2 o ho
  ·rw[oG (h2 a ha)];exact e.hk a (ak _ ha) o (My.nE hd _ _ h) n0
def xDisp(f g:XE)(ρ:En)(s:Sto):Out PV:=match f ρ s with
 |.ok v s1=>match g ρ s1 with
  |.ok w s2=>match kyOf v with
   |some k=>.ok (.ref s2.nx) (s2.add (.dct [(k,w)]))
   |none=>.bad
  |_=>.bad
 |_=>.bad
def Et(hk:DE X CB E a f)(hv:DE X CB E b g):DE X CB E (.Dict [some a] [b] pos) (xDisp f g) :=
 ⟨(zj (xt hk.pe hv.pe zh) rfl rfl (by simp) (by simp)).mono fun σ H Q ⟨ρ,s,m,er,S,P⟩ p0 hp=>by
  have e0:Ext0 H m s (upd H p0 (.dK [])) (m.hide p0) s:=Ext0.hide hp;have hm:SR X.K CB (upd H p0 (.dK [])) (m.hide p0) s:=S.hideD hp;refine⟨ρ,s,m.hide p0,er.ext0 e0.toExtR,hm,?_⟩;unfold xDisp at P;cases c1:f ρ s with
  |bad=>rw[c1] at P;exact P.elim
  |ex c' s'=>rw[c1] at P;exact P.elim
  |ok v s1 =>
   rw[c1] at P;intro u1 H1 m1 e1 S1 r1;refine⟨ρ,s1,m1,(er.ext0 e0.toExtR).ext e1,S1,?_⟩;dsimp only at P;cases c2:g ρ s1 with
   |bad=>rw[c2] at P;exact P.elim
   |ex c' s'=>rw[c2] at P;exact P.elim
   |ok w s2 =>
    rw[c2] at P;intro u2 H2 m2 e2 S2 r2;dsimp only at P;split at P
    ·rename_i k hk;obtain⟨S3,e3,x3,hD⟩:=DY S hp (e1.trans e2) S2;have ek:u1=kV k:=nI r1 hk;refine⟨hD,[(k,u2)],by rw[ek];rfl,by simp,?_⟩;have Lo:Same (erH H2 p0) (upd H2 p0 (.dK [(k,u2)])):=fun c o h=>by
      have Hr:c≠p0:=fun z=>by rw[z,xF] at h;cases h
      rw[jN Hr];rw[oG Hr] at h;exact h
     obtain⟨S4,e4⟩:=S3.newD (l:=[(k,w)]) xF Lo jR (.cons (r2.ext0 x3) .nil);exact P _ _ _ (e3.trans e4) S4 .new
    ·exact P.elim⟩
def xIfe(t:XT)(f g:XE)(ρ:En)(s:Sto):Out PV:=(t ρ s).bind fun b s1=>if b=true then f ρ s1 else g ρ s1
inductive Ty5 where
 |int|bool|str|tuple|list
def Ty5.nm:Ty5->String
 |.int=>"int"|.bool=>"bool"|.str=>"str"|.tuple=>"tuple"|.list=>"list"
inductive Ty7 where
 |int|bool|str|tuple|list|non|dict
def Ty7.nm:Ty7->String
 |.int=>"int"|.bool=>"bool"|.str=>"str"|.tuple=>"tuple"|.list=>"list"|.non=>"NoneType"|.dict=>"dict"
def GS:Ty7->Ty5->Bool
 |.int,.int=>true|.bool,.bool=>true|.bool,.int=>true|.str,.str=>true|.tuple,.tuple=>true|.list,.list=>true
 |_,_=>false
def DQ(K:aa):∀(t:Ty7)(u:Ty5),bu K (.type t.nm) (.type u.nm)=some (GS t u)
 |.int,.int=>by kernel_rfl
 |.int,.bool=>by kernel_rfl
 |.int,.str=>by kernel_rfl
 |.int,.tuple=>by kernel_rfl
 |.int,.list=>by kernel_rfl
 |.bool,.int=>by kernel_rfl
 |.bool,.bool=>by kernel_rfl
 |.bool,.str=>by kernel_rfl
 |.bool,.tuple=>by kernel_rfl
 |.bool,.list=>by kernel_rfl
 |.str,.int=>by kernel_rfl
 |.str,.bool=>by kernel_rfl
 |.str,.str=>by kernel_rfl
 |.str,.tuple=>by kernel_rfl
 |.str,.list=>by kernel_rfl
 |.tuple,.int=>by kernel_rfl
 |.tuple,.bool=>by kernel_rfl
 |.tuple,.str=>by kernel_rfl
 |.tuple,.tuple=>by kernel_rfl
 |.tuple,.list=>by kernel_rfl
 |.list,.int=>by kernel_rfl
 |.list,.bool=>by kernel_rfl
 |.list,.str=>by kernel_rfl
 |.list,.tuple=>by kernel_rfl
 |.list,.list=>by kernel_rfl
 |.non,.int=>by kernel_rfl
 |.non,.bool=>by kernel_rfl
 |.non,.str=>by kernel_rfl
 |.non,.tuple=>by kernel_rfl
 |.non,.list=>by kernel_rfl
 |.dict,.int=>by kernel_rfl
 |.dict,.bool=>by kernel_rfl
 |.dict,.str=>by kernel_rfl
 |.dict,.tuple=>by kernel_rfl
 |.dict,.list=>by kernel_rfl
def tyOf(s:Sto):PV->Option Ty7
 |.int _=>some .int
 |.bl _=>some .bool
 |.str _=>some .str
 |.non=>some .non
 |.tup _=>some .tuple
 |v=>match lsOf s v with
  |some _=>some .list
  |none=>none
def xIsiT(T:Ty5)(f:XE)(ρ:En)(s:Sto):Out PV:=(f ρ s).bind fun v s1=>match tyOf s1 v with
 |some k=>.ok (.bl (GS k T)) s1
 |none=>.bad
def Ep(T5:Ty5)(ha:DE X CB E a f)(hx:x=(T5.nm:String):=by rfl)(JP:Gl X "isinstance":=by rfl)(JK:X.mg "isinstance"=none:=by exact T.b_isinstance)(hg:Gl X x:=by rfl)(hm:X.mg x=none:=by first|exact T.b_str|exact T.b_tuple|exact T.b_int|exact T.b_list|exact T.b_bool)(hv:bj x=some (.type T5.nm):=by first|exact CD|exact xN|exact CF|exact zG|exact Ey)(hn:x≠"__name__":=by decide)(hd:NDb x:=by decide)(hs:ar [a,.Name x px] X.env=(false,eval a X.env)::ar [.Name x px] X.env:=by rfl)(Hn:(bV pos (ar [.Name x px] X.env)).any (·.1)=false:=by rfl):DE X CB E (.Call (.Name "isinstance" p) [a,.Name x px] [] pos) (xIsiT T5 f) :=
 ⟨(li ua JP JK lU (jZ ha.pe (jZ (zl (v:=.ty T5.nm) hg hm hv rfl hn hd) pa_nil) hs) (by decide) (by decide) hs Hn).mono fun σ H Q ⟨ρ,s,m,er,S,P⟩=>⟨ρ,s,m,er,S,P.bind fun v s1 u H1 m1 e1 S1 r1 P1=>by
  split at P1
  ·rename_i k hk;refine⟨u,.ty T5.nm,.type k.nm,GS k T5,rfl,.inr ⟨_,rfl⟩,?_,DQ _ k T5,P1.here S1 .bl⟩;cases r1 with
   |non=>cases hk;exact .inl .non
   |bl=>cases hk;exact .inl (.bl _)
   |int=>cases hk;exact .inl (.int _)
   |str=>cases hk;exact .inl (.str _)
   |tup h1 h2=>cases hk;exact .inr (.inr (.inr ⟨_,_,rfl,rfl,h1.elim (fun z=>.inl z.1) .inr⟩))
   |lst h1 h2 h3=>cases hk;exact .inr (.inr (.inl ⟨_,_,rfl,rfl,SqL.of h1⟩))
   |seq h1 h3=>cases hk;exact .inr (.inr (.inl ⟨_,_,rfl,rfl,h1.elim (fun z=>.inl (.inr z.1)) .inr⟩))
   |dct h1 h2 h3=>cases hk
   |exc h1 h2=>cases hk
   |clo h1=>cases hk
   |ref h1 =>
    rename_i n;have hk:(match lsOf s1 (.ref n) with|some _=>some Ty7.list|none=>none)=some k:=hk;split at hk<;>cases hk
    rename_i l hl;obtain⟨b,vs,eb,q,_⟩:=(Rep.ref h1).ls S1 hl;cases eb;exact .inr (.inr (.inl ⟨_,vs,rfl,rfl,q⟩))
  ·exact P1.elim⟩⟩
end
end L2
namespace My
open PySem L2
def top(i:Nat):bM:=PySem.Challenge.pw_wholeowners_k61_whom_a_house_reaches.main.body.getD i (.Pass ⟨0,0,0,0⟩)
structure Adr where
 OwnError:ac
 NoName:ac
 Twice:ac
 TooMany:ac
 NoHolder:ac
 NoHouse:ac
 NoLoss:ac
 NoShare:ac
 NoText:ac
 Whole:ac
 Book:ac
 ZERO:ac
 ONE:ac
 HALF:ac
 t8:Tok
 t6:Tok
 u8:Tok
 kx:ac->ac->Bool
def Tup2(K:aa)(a:ac)(i j:Int):Prop:=∃(o:Obj)(its:Array ae)(n:Nat),K.lookup a=some o/\o.cls=.type "tuple"/\o.data=.seq its n/\its.size<=aB/\Vals [.int i,.int j] its.toList
structure Txt(K:aa)(mg:Str->Option ae)(a:Adr):Prop where
 b_len:mg "len"=none
 b_range:mg "range"=none
 b_all:mg "all"=none
 b_int:mg "int"=none
 b_abs:mg "abs"=none
 b_sorted:mg "sorted"=none
 b_tuple:mg "tuple"=none
 b_list:mg "list"=none
 b_str:mg "str"=none
 b_bool:mg "bool"=none
 b_isinstance:mg "isinstance"=none
 b_ValueError:mg "ValueError"=none
 b_any:mg "any"=none
 b_set:mg "set"=none
 b_max:mg "max"=none
 c_OwnError:mg "OwnError"=some (.ref a.OwnError)
 c_NoName:mg "NoName"=some (.ref a.NoName)
 c_Twice:mg "Twice"=some (.ref a.Twice)
 c_TooMany:mg "TooMany"=some (.ref a.TooMany)
 c_NoHolder:mg "NoHolder"=some (.ref a.NoHolder)
 c_NoHouse:mg "NoHouse"=some (.ref a.NoHouse)
 c_NoLoss:mg "NoLoss"=some (.ref a.NoLoss)
 c_NoShare:mg "NoShare"=some (.ref a.NoShare)
 c_NoText:mg "NoText"=some (.ref a.NoText)
 c_Whole:mg "Whole"=some (.ref a.Whole)
 x_OwnError:Exc K a.OwnError
 x_NoName:Exc K a.NoName
 x_Twice:Exc K a.Twice
 x_TooMany:Exc K a.TooMany
 x_NoHolder:Exc K a.NoHolder
 x_NoHouse:Exc K a.NoHouse
 x_NoLoss:Exc K a.NoLoss
 x_NoShare:Exc K a.NoShare
 g_LONGEST_NAME:mg "LONGEST_NAME"=some (.int 8 a.t8)
 g_MOST_PERSONS:mg "MOST_PERSONS"=some (.int 6 a.t6)
 g_MOST_HOUSES:mg "MOST_HOUSES"=some (.int 8 a.u8)
 g_ZERO:mg "ZERO"=some (.ref a.ZERO)
 g_ONE:mg "ONE"=some (.ref a.ONE)
 zero:Tup2 K a.ZERO 0 1
 one:Tup2 K a.ONE 1 1
 cl:Cls K a.Book
 nA_people:NoAttr K a.Book "people"
 nA_things_of:NoAttr K a.Book "things_of"
 nA_mark_of:NoAttr K a.Book "mark_of"
 nA_loss_of:NoAttr K a.Book "loss_of"
 nA_held_of:NoAttr K a.Book "held_of"
def Txt.r_LONGEST_NAME{K:aa}{mg:Str->Option ae}{a:Adr}(T:Txt K mg a):RelV (.int 8) (.int 8 a.t8):=⟨_,rfl⟩
def Txt.r_MOST_PERSONS{K:aa}{mg:Str->Option ae}{a:Adr}(T:Txt K mg a):RelV (.int 6) (.int 6 a.t6):=⟨_,rfl⟩
def Txt.r_MOST_HOUSES{K:aa}{mg:Str->Option ae}{a:Adr}(T:Txt K mg a):RelV (.int 8) (.int 8 a.u8):=⟨_,rfl⟩
def Txt.r_ZERO{K:aa}{mg:Str->Option ae}{a:Adr}(T:Txt K mg a):RelV (.ref a.ZERO) (.ref a.ZERO):=rfl
def Txt.r_ONE{K:aa}{mg:Str->Option ae}{a:Adr}(T:Txt K mg a):RelV (.ref a.ONE) (.ref a.ONE):=rfl
def yesT{te:TE}{cap:St}{H:Hp}{Kt:VK}{Kf:Hp->Prop}(h:te cap H Kt):tYes cap H fun b H4=>if b=true then te cap H4 Kt else Kf H4:=by
 show if true=true then te cap H Kt else Kf H
 rw[if_pos rfl];exact h
def vf(c:Nat):(!decide ((⟨#[c]⟩:Str).cps.toList<(aF "a").cps.toList))=decide (97<=c):=by show(!decide ([c]<[97]))=decide (97<=c);rw[bQ];simp[ji]
def zP(c:Nat):(!decide ((aF "z").cps.toList<(⟨#[c]⟩:Str).cps.toList))=decide (c<=122):=by show(!decide ([122]<[c]))=decide (c<=122);rw[bQ];simp[ji]
def ue{x:Str}{i c:Nat}{g:Nat->V}(hc:x.cps[i]?=some c):(x.cps.toList.take i).map g++[g c]=(x.cps.toList.take (i+1)).map g:=by
 have hc:x.cps.toList[i]?=some c:=by simpa using hc
 rw[ft,hc,ax];rfl
section
variable{P:az}{w:aU}{K:aa}{mg:Str->Option ae}{base:ba}{a:Adr}{f:ac}{fd:bJ}
abbrev pB:bM:=top 25
def x9:FnScope ["text"] ["text"] (jS pB):=fsc
def low(c:Nat):Bool:=decide (97<=c)&&decide (c<=122)
def qu(x:Str):Bool:=decide (1<=x.length)&&decide (x.length<=8)&&x.cps.toList.all low
def sN:Sp:=fun vs H Q _=>∃x,vs=[.str x]/\Nm x/\∀H',Same H H'->Q (.bl (qu x)) H'
def yo(F:Fun K "is_name" "is_name" pB f fd)(T:Txt K mg a):FnOk P w K mg base (CXo P w) 1 f fd ["text"] sN:=by
 refine F.okN x9 (fun vs H Q E h=>?_) (fun G3 A outer s H vs Q E hr h=>?_)
 ·obtain⟨x,rfl,_⟩:=h;rfl
 ·obtain⟨x,rfl,nm,k⟩:=h;have hu:=lK hr;refine⟨_,(@km _ _ _ (@oC _ _ _ _ (@Ci _ _ _ _ _ _ _ (xw EZ EZ pe_int (@li _ _ _ _ _ _ _ _ _ call_len_str rfl T.b_len wG (@jZ _ _ _ _ _ (pv 0) pa_nil (by rfl)) (by decide) (by decide) (by rfl) (by rfl)) (mi rfl T.g_LONGEST_NAME T.r_LONGEST_NAME)) (@yY _ _ _ _ _ (@li _ _ _ _ _ _ _ _ _ BJ rfl T.b_all CG (@jZ _ _ _ _ _ (wd (fr:=[]) (ix:=[]) rfl (by exact(show CompOk ["text"] (jS pB) _ _ _ _ from cok)) (FH (pv 0)) (fun _ _ _ _ _=>tW) (fun _ _ _ _ _=>(xw vk vk pe_str (pv 0) pe_str))) pa_nil (by rfl)) (by decide) (by decide) (by rfl) (by rfl)))))),?_⟩;have G1:x.length<=aB:=aC nm.1 (by decide);refine⟨_,rfl,_,rfl,G1,_,_,rfl,rfl,_,rfl,qh (fun h=>?_) (fun h=>?_)⟩
  ·have h1:(1:Int)<=(x.length:Int):=of_decide_eq_true h;refine⟨_,_,rfl,rfl,_,rfl,qh (fun h=>?_) (fun h=>?_)⟩
   ·have h2:(x.length:Int)<=8:=of_decide_eq_true h;refine⟨_,rfl,x,rfl,fun D hD=>?_⟩;refine zE (J:=Its x) x.cps.size (fun i ys H'=>H'=upd H D (.lst ys)/\ys=(x.cps.toList.take i).map fun c=>V.bl (low c)) ⟨rfl,rfl⟩ G1 (fun i ys H' r=>by rw[r.1];exact jR) (fun i ys H' hi _=>hi) ?_ ?_
    ·rintro i ys H' v H'' hi ⟨rfl,rfl⟩ ⟨rfl,c,hc,rfl⟩ Kt Kf k1 k2
     have Hd:∀b,b=low c->Kt (V.bl b) (upd H D (.lst ((x.cps.toList.take i).map fun c=>V.bl (low c)))):=fun b hb=>by refine k1 _ _ jR ⟨by rw[CV],?_⟩;rw[hb,ue hc]
     refine yesT ⟨_,rfl,_,_,rfl,rfl,_,rfl,qh (fun h=>?_) (fun h=>?_)⟩
     ·refine⟨_,_,rfl,rfl,Hd _ ?_⟩;rw[vf] at h;rw[zP];unfold low;rw[h,gF]
     ·refine Hd _ ?_;rw[vf] at h;unfold low;rw[cg.mpr h,dP]
    ·rintro ys H' hl ⟨rfl,rfl⟩
     have e:List.take x.cps.size x.cps.toList=x.cps.toList:=List.take_of_length_le (by simp);rw[e];refine⟨aq _,D,x.cps.toList.map low,rfl,SqL.of (by rw[jR,aL];rfl),rfl,?_⟩;have e2:(x.cps.toList.map low).all id=qu x:=by
      have h1:1<=x.length:=by omega
      have h2:x.length<=8:=by omega
      unfold qu;rw[decide_eq_true h1,decide_eq_true h2,List.all_map,gF,gF];rfl
     rw[e2];exact k _ (nE hD)
   ·have h2:¬x.length<=8:=fun z=>h (decide_eq_true (by omega));have e2:false=qu x:=by unfold qu;rw[decide_eq_false h2,Bool.and_false,dP]
    show Q (.bl false) H;rw[e2];exact k _ fun _ _ z=>z
  ·have h2:¬ 1<=x.length:=fun z=>h (decide_eq_true (by omega));have e2:false=qu x:=by unfold qu;rw[decide_eq_false h2,dP,dP]
   refine⟨_,rfl,E7 ?_⟩;show Q (.bl false) H;rw[e2];exact k _ fun _ _ z=>z
abbrev oO:bM:=top 26
def vL:FnScope ["number"] ["number"] (jS oO):=fsc
def qp(a:Adr):Sp:=fun vs H Q E=>∃n,vs=[.int n]/\(n<0->E (.ref a.NoLoss) none H)/\(0<=n->Q .non H)
def vS(F:Fun K "need_loss" "need_loss" oO f fd)(T:Txt K mg a):FnOk P w K mg base (CXo P w) 1 f fd ["number"] (qp a):=by
 refine F.okX vL (fun vs H Q E h=>?_) (fun G3 A outer s H vs Q E hr h=>?_)
 ·obtain⟨x,rfl,_⟩:=h;rfl
 ·obtain⟨n,rfl,k1,k2⟩:=h;have hu:=lK hr;refine⟨_,(@km _ _ _ (@qK _ _ _ _ _ _ _ _ (@pP _ _ _ _ _ _ _ _ EY (pv 0) pe_int (pR _)) (@km _ _ _ (mf T.x_NoLoss rfl T.c_NoLoss rfl pe_str sY)) pss_nil)),?_⟩;refine⟨_,rfl,_,_,rfl,rfl,_,rfl,qh (fun h=>?_) (fun h=>?_)⟩
  ·exact k1 (of_decide_eq_true h)
  ·exact k2 (Int.not_lt.mp fun z=>h (decide_eq_true z))
abbrev oU:bM:=mq (top 27) 0
def vQ:FnScope ["self"] ["self"] (jS oU):=fsc
def AS(dp dt dm dl dh dx:ac):og "held_of" (.ref dh) (og "loss_of" (.ref dl) (og "mark_of" (.ref dm) (og "things_of" (.ref dt) (og "people" (.ref dp) []))))=bf ⟨dx,dp,dt,dm,dl,dh⟩:=by simp only[og,if_neg (show ¬((aF "people")=aF "things_of") by decide +kernel),if_neg (show ¬((aF "people")=aF "mark_of") by decide +kernel),if_neg (show ¬((aF "people")=aF "loss_of") by decide +kernel),if_neg (show ¬((aF "people")=aF "held_of") by decide +kernel),if_neg (show ¬((aF "things_of")=aF "mark_of") by decide +kernel),if_neg (show ¬((aF "things_of")=aF "loss_of") by decide +kernel),if_neg (show ¬((aF "things_of")=aF "held_of") by decide +kernel),if_neg (show ¬((aF "mark_of")=aF "loss_of") by decide +kernel),if_neg (show ¬((aF "mark_of")=aF "held_of") by decide +kernel),if_neg (show ¬((aF "loss_of")=aF "held_of") by decide +kernel)];rfl
structure IniAt(C:ac)(H0 H:Hp)(p dx:ac)(fs:List (Str×V))(ds:List ac):Prop where
 ob:H p=some (.ins C dx fs)
 dd:∀c∈ds,H c=some (.dK [])
 fr:∀c∈ds,H0 c=none
 nd:(p::ds).Nodup
 kp:∀c o,H0 c=some o->c≠p->H c=some o
 len:fs.length<=ds.length
def IniAt.at_{C:ac}{H0 H:Hp}{p dx d:ac}{fs:List (Str×V)}{ds:List ac}(I:IniAt C H0 H p dx fs ds)(h:H d=none):(upd H d (.dK [])) p=some (.ins C dx fs):=by rw[jN (jY I.ob h)];exact I.ob
def IniAt.step{C:ac}{H0 H:Hp}{p dx d:ac}{fs:List (Str×V)}{ds:List ac}{f:Str}(I:IniAt C H0 H p dx fs ds)(h:H d=none) :
  IniAt C H0 (upd (upd H d (.dK [])) p (.ins C dx (og f (.ref d) fs))) p dx (og f (.ref d) fs) (ds++[d]):=by
 have n1:p≠d:=jY I.ob h;obtain⟨m1,m2⟩:=aD.mp I.nd;have m3:d∉ds:=fun z=>by rw[I.dd d z] at h;cases h
 refine⟨jR,fun c hc=>?_,fun c hc=>?_,?_,fun c o e hc=>?_,?_⟩
 ·rcases aA.mp hc with hc|hc
  ·have c1:c≠p:=fun z=>m1 (by rw[<-z];exact hc);have c2:c≠d:=fun z=>m3 (by rw[<-z];exact hc);rw[jN c1,jN c2];exact I.dd c hc
  ·rw[al.mp hc,jN n1.symm,jR]
 ·rcases aA.mp hc with hc|hc
  ·exact I.fr c hc
  ·rw[al.mp hc];cases q:H0 d with
   |none=>rfl
   |some o=>rw[I.kp d o q n1.symm] at h;cases h
 ·refine aD.mpr ⟨fun z=>?_,qY m2 m3⟩;rcases aA.mp z with z|z
  ·exact m1 z
  ·exact n1 (al.mp z)
 ·rw[jN hc,jN (fun z=>by rw[z] at e;rw[I.kp d o e (z▸hc)] at h;cases h)];exact I.kp c o e hc
 ·rw[aI];exact aC (oX _ _ _) (Nat.add_le_add_right I.len 1)
def C0(K:aa)(C:ac):Sp:=fun vs H Q _=>∃(p dx:ac),vs=[.ref p]/\H p=some (.ins C dx [])/\∀z H',(∀c∈[z.dp,z.dt,z.dm,z.dl,z.dh],H c=none)->BookAt K C H' p z [] []->(∀c o,H c=some o->c≠p->H' c=some o)->Q .non H'
def Dy(F:Fun K "__init__" "Book.__init__" oU f fd)(T:Txt K mg a):FnOk P w K mg base (CXo P w) 1 f fd ["self"] (C0 K a.Book):=by
 refine F.okN vQ (fun vs H Q E h=>?_) (fun G3 A outer s H vs Q E hr h=>?_)
 ·obtain⟨p,dx,rfl,_⟩:=h;rfl
 ·obtain⟨p,dx,rfl,hp,k⟩:=h;have hu:=lK hr;refine⟨_,(@kf _ _ _ _ _ (ur (pv 0) pe_dnewK rfl) (@kf _ _ _ _ _ (ur (pv 0) pe_dnewK rfl) (@kf _ _ _ _ _ (ur (pv 0) pe_dnewK rfl) (@kf _ _ _ _ _ (ur (pv 0) pe_dnewK rfl) (@km _ _ _ (ur (pv 0) pe_dnewK rfl)))))),?_⟩;have I0:IniAt a.Book H H p dx [] []:=⟨hp,by simp,by simp,by simp,fun c o e _=>e,aq _⟩;intro dp h1;refine⟨_,rfl,p,_,dx,_,rfl,I0.at_ h1,T.cl,T.nA_people,aZ I0.len (show 0<1000 by decide),?_⟩;have I1:=I0.step (f:="people") h1;intro dt h2;refine⟨_,rfl,p,_,dx,_,rfl,I1.at_ h2,T.cl,T.nA_things_of,aZ I1.len (show 1<1000 by decide),?_⟩;have I2:=I1.step (f:="things_of") h2;intro dm h3;refine⟨_,rfl,p,_,dx,_,rfl,I2.at_ h3,T.cl,T.nA_mark_of,aZ I2.len (show 2<1000 by decide),?_⟩;have I3:=I2.step (f:="mark_of") h3;intro dl h4;refine⟨_,rfl,p,_,dx,_,rfl,I3.at_ h4,T.cl,T.nA_loss_of,aZ I3.len (show 3<1000 by decide),?_⟩;have I4:=I3.step (f:="loss_of") h4;intro dh h5;refine⟨_,rfl,p,_,dx,_,rfl,I4.at_ h5,T.cl,T.nA_held_of,aZ I4.len (show 4<1000 by decide),?_⟩;have I5:=I4.step (f:="held_of") h5;refine k ⟨dx,dp,dt,dm,dl,dh⟩ _ (fun c hc=>I5.fr c (by simpa using hc)) ⟨?_,I5.dd dp (by simp),I5.dd dt (by simp),I5.dd dm (by simp),I5.dd dl (by simp),⟨[],I5.dd dh (by simp),.nil,iz⟩,fun e he=>(by cases he),I5.nd,a6 _,a6 _⟩ I5.kp;rw[<-AS];exact I5.ob
abbrev l9:bM:=mq (top 27) 1
def qU:FnScope ["self","name"] ["self","name"] (jS l9):=fsc
def mZ(K:aa)(C:ac):Sp:=fun vs H Q _=>∃b z GZ L x,vs=[.ref b,.str x]/\BookAt K C H b z GZ L/\Q (.bl (lT L x)) H
def wQ(F:Fun K "is_house" "Book.is_house" l9 f fd)(T:Txt K mg a):FnOk P w K mg base (CXo P w) 1 f fd ["self","name"] (mZ K a.Book):=by
 refine F.okN qU (fun vs H Q E h=>?_) (fun G3 A outer s H vs Q E hr h=>?_)
 ·obtain⟨b,z,GZ,L,x,rfl,_⟩:=h;rfl
 ·obtain⟨b,z,GZ,L,x,rfl,B,k⟩:=h;have hu:=lK hr;refine⟨_,(@km _ _ _ (@oC _ _ _ _ (Cg (Cj hu (pv 1) (ni (pv 0) rfl))))),?_⟩;refine⟨_,rfl,_,rfl,b,_,_,_,_,rfl,B.ob,T.cl,T.nA_held_of,re z,_,_,rfl,B.hh.dget x,?_⟩;rw[nq,bX];exact k
abbrev lN:bM:=mq (top 27) 2
def ql:FnScope ["self","name"] ["self","name"] (jS lN):=fsc
def nK(K:aa)(C:ac):Sp:=fun vs H Q _=>∃b z GZ L x,vs=[.ref b,.str x]/\BookAt K C H b z GZ L/\Q (.bl (lv GZ x||lT L x)) H
def vT(F:Fun K "is_holder" "Book.is_holder" lN f fd)(T:Txt K mg a)(Hv:Mt P w K mg base a.Book "is_house" 1 ["self","name"] (mZ K a.Book)):FnOk P w K mg base (CXo P w) 2 f fd ["self","name"] (nK K a.Book):=by
 refine F.okN ql (fun vs H Q E h=>?_) (fun G3 A outer s H vs Q E hr h=>?_)
 ·obtain⟨b,z,GZ,L,x,rfl,_⟩:=h;rfl
 ·obtain⟨b,z,GZ,L,x,rfl,B,k⟩:=h;have hu:=lK hr;refine⟨_,(@km _ _ _ (@oC _ _ _ _ (@pe_or _ _ _ _ _ _ _ (Cg (Cj hu (pv 1) (ni (pv 0) rfl))) (@yY _ _ _ _ _ (pC (pv 0) Hv (hr.mono (by first|decide|omega)) qA (@jZ _ _ _ _ _ (pv 1) pa_nil (by rfl))))))),?_⟩;refine⟨_,rfl,_,rfl,b,_,_,_,_,rfl,B.ob,T.cl,T.nA_people,rL z,_,_,rfl,DGet.k (k:=am x) B.pp,_,rfl,qh (fun h=>?_) (fun h=>?_)⟩
  ·rw[nq (key:=fun n=>n),bX] at h;unfold lv at k;rw[h] at k;exact k
  ·rw[nq (key:=fun n=>n),bX] at h;unfold lv at k;rw[cg.mpr h] at k;exact⟨_,rfl,b,_,_,rfl,B.ob,pH z,_,rfl,b,z,GZ,L,x,rfl,B,k⟩
abbrev lw:bM:=mq (top 27) 3
def pX:FnScope ["self","name"] ["self","name"] (jS lw):=fsc
def lQ(K:aa)(a:Adr):Sp:=fun vs H Q E=>∃b z GZ L x,vs=[.ref b,.str x]/\BookAt K a.Book H b z GZ L/\Nm x/\(lT L x=true->Q .non H)/\(lT L x=false->E (.ref a.NoHouse) none H)
def uy(F:Fun K "need_house" "Book.need_house" lw f fd)(T:Txt K mg a)(Hv:Mt P w K mg base a.Book "is_house" 1 ["self","name"] (mZ K a.Book)):FnOk P w K mg base (CXo P w) 2 f fd ["self","name"] (lQ K a):=by
 refine F.okX pX (fun vs H Q E h=>?_) (fun G3 A outer s H vs Q E hr h=>?_)
 ·obtain⟨b,z,GZ,L,x,rfl,_⟩:=h;rfl
 ·obtain⟨b,z,GZ,L,x,rfl,B,nm,k1,k2⟩:=h;have hu:=lK hr;refine⟨_,(@km _ _ _ (@qK _ _ _ _ _ _ _ _ (uq (qz (pC (pv 0) Hv (hr.mono (by first|decide|omega)) ma (@jZ _ _ _ _ _ (pv 1) pa_nil (by rfl))))) (@km _ _ _ (mf T.x_NoHouse rfl T.c_NoHouse rfl (yk (ut (sk (pv 1) uu))) sY)) pss_nil)),?_⟩;refine⟨_,rfl,b,_,_,rfl,B.ob,pH z,_,rfl,b,z,GZ,L,x,rfl,B,_,rfl,qh (fun h=>?_) (fun h=>?_)⟩
  ·exact⟨_,rfl,⟨x,rfl,nm⟩,fun y=>k2 (nbT h)⟩
  ·exact k1 (nbF h)
abbrev lh:bM:=mq (top 27) 4
def o9:FnScope ["self","name"] ["self","name"] (jS lh):=fsc
def mF(K:aa)(a:Adr):Sp:=fun vs H Q E=>∃b z GZ L x,vs=[.ref b,.str x]/\BookAt K a.Book H b z GZ L/\Nm x/\((lv GZ x||lT L x)=true->Q .non H)/\((lv GZ x||lT L x)=false->E (.ref a.NoHolder) none H)
def sH(F:Fun K "need_holder" "Book.need_holder" lh f fd)(T:Txt K mg a)(Hm:Mt P w K mg base a.Book "is_holder" 2 ["self","name"] (nK K a.Book)):FnOk P w K mg base (CXo P w) 3 f fd ["self","name"] (mF K a):=by
 refine F.okX o9 (fun vs H Q E h=>?_) (fun G3 A outer s H vs Q E hr h=>?_)
 ·obtain⟨b,z,GZ,L,x,rfl,_⟩:=h;rfl
 ·obtain⟨b,z,GZ,L,x,rfl,B,nm,k1,k2⟩:=h;have hu:=lK hr;refine⟨_,(@km _ _ _ (@qK _ _ _ _ _ _ _ _ (uq (qz (pC (pv 0) Hm (hr.mono (by first|decide|omega)) ma (@jZ _ _ _ _ _ (pv 1) pa_nil (by rfl))))) (@km _ _ _ (mf T.x_NoHolder rfl T.c_NoHolder rfl (yk (ut (sk (pv 1) uu))) sY)) pss_nil)),?_⟩;refine⟨_,rfl,b,_,_,rfl,B.ob,pH z,_,rfl,b,z,GZ,L,x,rfl,B,_,rfl,qh (fun h=>?_) (fun h=>?_)⟩
  ·exact⟨_,rfl,⟨x,rfl,nm⟩,fun y=>k2 (nbT h)⟩
  ·exact k1 (nbF h)
abbrev kZ:bM:=mq (top 27) 5
def oo:FnScope ["self","name"] ["self","name"] (jS kZ):=fsc
def nj(a:Adr)(GZ:List Str)(L:List (Ent×ac))(x:Str):Option ac:=if qu x=false then some a.NoName else if(lv GZ x||lT L x)=true then some a.Twice else none
def oM(K:aa)(a:Adr):Sp:=fun vs H Q E=>∃b z GZ L x,vs=[.ref b,.str x]/\BookAt K a.Book H b z GZ L/\Nm x/\(nj a GZ L x=none->∀H',Same H H'->Q .non H')/\(∀c,nj a GZ L x=some c->∀H',Same H H'->E (.ref c) none H')
def wP(F:Fun K "need_new_name" "Book.need_new_name" kZ f fd)(T:Txt K mg a)(IC:Fn P w K mg base "is_name" 1 ["text"] sN)(Hm:Mt P w K mg base a.Book "is_holder" 2 ["self","name"] (nK K a.Book)):FnOk P w K mg base (CXo P w) 3 f fd ["self","name"] (oM K a):=by
 refine F.okX oo (fun vs H Q E h=>?_) (fun G3 A outer s H vs Q E hr h=>?_)
 ·obtain⟨b,z,GZ,L,x,rfl,_⟩:=h;rfl
 ·obtain⟨b,z,GZ,L,x,rfl,B,nm,k1,k2⟩:=h;have hu:=lK hr;refine⟨_,(@kf _ _ _ _ _ (@qK _ _ _ _ _ _ _ _ (uq (qz (@qL _ _ _ _ _ _ _ _ _ _ _ IC (hr.mono (by first|decide|omega)) rfl ma (@jZ _ _ _ _ _ (pv 1) pa_nil (by rfl)) (by decide) (by rfl) (by rfl)))) (@km _ _ _ (mf T.x_NoName rfl T.c_NoName rfl (yk (ut (sk (pv 1) uu))) sY)) pss_nil) (@km _ _ _ (@qK _ _ _ _ _ _ _ _ (qz (pC (pv 0) Hm (hr.mono (by first|decide|omega)) ma (@jZ _ _ _ _ _ (pv 1) pa_nil (by rfl)))) (@km _ _ _ (mf T.x_Twice rfl T.c_Twice rfl (yk (ut (sk (pv 1) uu))) sY)) pss_nil))),?_⟩;refine⟨_,rfl,x,rfl,nm,fun H1 s1=>⟨_,rfl,qh (fun h=>?_) (fun h=>?_)⟩⟩
  ·refine⟨_,rfl,⟨x,rfl,nm⟩,fun y=>k2 _ ?_ H1 s1⟩;have h:qu x=false:=nbT h;unfold nj;rw[if_pos h]
  ·have h:qu x=true:=nbF h;have B1:=B.same s1;refine⟨_,rfl,b,_,_,rfl,B1.ob,pH z,_,rfl,b,z,GZ,L,x,rfl,B1,_,rfl,qh (fun h2=>?_) (fun h2=>?_)⟩
   ·refine⟨_,rfl,⟨x,rfl,nm⟩,fun y=>k2 _ ?_ H1 s1⟩;unfold nj;rw[if_neg (by rw[h];decide),if_pos h2]
   ·refine k1 ?_ H1 s1;unfold nj;rw[if_neg (by rw[h];decide),if_neg h2]
end
mutual
inductive D where
 |i (n:Int)
 |s (x:Str)
 |l (xs:DL)
 |t (xs:DL)
inductive DL where
 |nil
 |cons (x:D) (xs:DL)
end
mutual
def DAt(K:aa)(H:Hp):D->V->Prop
 |.i n,v=>v=.int n
 |.s x,v=>v=.str x
 |.l xs,v=>∃a vs,v=.ref a/\SqL K H a vs/\DLAt K H xs vs
 |.t xs,v=>∃a vs,v=.ref a/\SqT K H a vs/\DLAt K H xs vs
def DLAt(K:aa)(H:Hp):DL->List V->Prop
 |.nil,vs=>vs=[]
 |.cons x xs,vs=>∃v r,vs=v::r/\DAt K H x v/\DLAt K H xs r
end
def AM{K:aa}{H H':Hp}{a:ac}{xs:List V}(s:Same H H')(h:SqL K H a xs):SqL K H' a xs:=Same.seq s h
def xn{K:aa}{H H':Hp}{a:ac}{xs:List V}(s:Same H H')(h:SqT K H a xs):SqT K H' a xs:=pL h fun c o e _=>s c o e
mutual
theorem DAt.same{K:aa}{H H':Hp}(s:Same H H'):∀(d:D)(v:V),DAt K H d v->DAt K H' d v
 |.i n,v,h=>h
 |.s x,v,h=>h
 |.l xs,v,h=>by
  obtain⟨a,vs,e,q,r⟩:=h;exact⟨a,vs,e,AM s q,DLAt.same s xs vs r⟩
 |.t xs,v,h=>by obtain⟨a,vs,e,q,r⟩:=h;exact⟨a,vs,e,xn s q,DLAt.same s xs vs r⟩
theorem DLAt.same{K:aa}{H H':Hp}(s:Same H H'):∀(d:DL)(vs:List V),DLAt K H d vs->DLAt K H' d vs
 |.nil,vs,h=>h
 |.cons x xs,vs,h=>by obtain⟨v,r,e,h1,h2⟩:=h;exact⟨v,r,e,DAt.same s x v h1,DLAt.same s xs r h2⟩
end
def kL(l:List (Str×Int×Int))(n:Str):Str×Int×Int:=(l.find? fun q=>decide (q.1=n)).getD (n,0,1)
def ly(L:List (Ent×ac))(n:Str):Option (Ent×ac):=L.find? fun e=>decide (e.1.nm=n)
def nD{L:List (Ent×ac)}{n:Str}{e:Ent×ac}(h:ly L n=some e):e∈L:=fb h
section
variable{P:az}{w:aU}{K:aa}{mg:Str->Option ae}{base:ba}{a:Adr}{f:ac}{fd:bJ}
abbrev ng:bM:=mq (top 27) 6
def sG:FnScope ["self","name"] ["self","name"] (jS ng):=fsc
def pQ(a:Adr)(GZ:List Str)(L:List (Ent×ac))(x:Str):Option ac:=match nj a GZ L x with
 |some c=>some c
 |none=>if 6<=GZ.length then some a.TooMany else none
def ve(K:aa)(a:Adr):Sp:=fun vs H Q E=>∃b z GZ L x,vs=[.ref b,.str x]/\BookAt K a.Book H b z GZ L/\Nm x /\
 (pQ a GZ L x=none->∀H',BookAt K a.Book H' b z (GZ++[x]) L->(∀c o,H c=some o->c≠z.dp->H' c=some o)->Q .non H')/\(∀c,pQ a GZ L x=some c->∀H',Same H H'->E (.ref c) none H')
def rM{GZ:List Str}{L:List (Ent×ac)}{x:Str}(h:nj a GZ L x=none):qu x=true/\lv GZ x=false/\lT L x=false:=by
 unfold nj at h;split at h
 ·cases h
 ·split at h
  ·cases h
  ·rename_i h1 h2;have h2:¬(lv GZ x||lT L x)=true:=h2;refine⟨by simpa using h1,?_,?_⟩
   ·cases q:lv GZ x with
    |false=>rfl
    |true=>rw[q] at h2;exact absurd rfl h2
   ·cases q:lT L x with
    |false=>rfl
    |true=>rw[q,Bool.or_true] at h2;exact absurd rfl h2
def zZ(F:Fun K "person" "Book.person" ng f fd)(T:Txt K mg a)(G8:Mt P w K mg base a.Book "need_new_name" 3 ["self","name"] (oM K a)):FnOk P w K mg base (CXo P w) 4 f fd ["self","name"] (ve K a):=by
 refine F.okX sG (fun vs H Q E h=>?_) (fun G3 A outer s H vs Q E hr h=>?_)
 ·obtain⟨b,z,GZ,L,x,rfl,_⟩:=h;rfl
 ·obtain⟨b,z,GZ,L,x,rfl,B,nm,k1,k2⟩:=h;have hu:=lK hr;refine⟨_,(@kf _ _ _ _ _ (@mh _ _ _ _ (pC (pv 0) G8 (hr.mono (by first|decide|omega)) ma (@jZ _ _ _ _ _ (pv 1) pa_nil (by rfl))) (by rfl)) (@kf _ _ _ _ _ (@qK _ _ _ _ _ _ _ _ (@pP _ _ _ _ _ _ _ _ CM (@li _ _ _ _ _ _ _ _ _ vC rfl T.b_len wG (@jZ _ _ _ _ _ (ni (pv 0) rfl) pa_nil (by rfl)) (by decide) (by decide) (by rfl) (by rfl)) (mi rfl T.g_MOST_PERSONS T.r_MOST_PERSONS) (pR _)) (@km _ _ _ (mf T.x_TooMany rfl T.c_TooMany rfl pe_str sY)) pss_nil) (@km _ _ _ (ou hu (ni (pv 0) rfl) (pv 1) pe_bl rfl)))),?_⟩;refine⟨_,rfl,b,_,_,rfl,B.ob,pH z,_,rfl,b,z,GZ,L,x,rfl,B,nm,fun hd H1 s1=>?_,fun c hc H1 s1=>?_⟩
  ·have B1:=B.same s1;refine⟨_,rfl,b,_,_,_,_,rfl,B1.ob,T.cl,T.nA_people,rL z,_,_,rfl,B1.pp,_,_,rfl,rfl,_,rfl,qh (fun h=>?_) (fun h=>?_)⟩
   ·refine k2 _ ?_ H1 s1;unfold pQ;rw[hd];have h:(6:Int)<=((GZ.map fun n=>((am n:Key),V.bl true)).length:Int):=of_decide_eq_true h;rw[af] at h;exact if_pos (by omega)
   ·have h:¬(6:Int)<=((GZ.map fun n=>((am n:Key),V.bl true)).length:Int):=fun z=>h (decide_eq_true z);rw[af] at h;have hl:GZ.length<6:=by omega
    have Jw:lX (GZ.map fun n=>((am n:Key),V.bl true)) (am x)=none:=by rw[nq (key:=fun n=>n)];have:=(rM hd).2.1;unfold lv at this;rw[fF];exact eS.mp this |> eW.mp
    refine⟨_,rfl,b,_,_,_,_,rfl,B1.ob,T.cl,T.nA_people,rL z,_,rfl,_,_,rfl,DPut.k (k:=am x) B1.pp (by rw[af];exact au hl (by decide)),?_⟩;have JS:pQ a GZ L x=none:=by unfold pQ;rw[hd];exact if_neg (by omega)
    refine k1 JS _ ?_ fun c o e hc=>by rw[jN hc];exact s1 c o e
    obtain⟨hb,Kx⟩:=aD.mp B1.nd;obtain⟨hp,hr2⟩:=aD.mp Kx;have ne:∀c,c∈z.dt::z.dm::z.dl::z.dh::L.map (·.2)->c≠z.dp:=fun c hc e=>hp (e▸hc);refine⟨?_,?_,?_,?_,?_,?_,fun e he=>?_,B1.nd,by rw[aI];simp;omega,B1.h8⟩
    ·rw[jN (fun e=>hb (by rw[e];simp))];exact B1.ob
    ·rw[jR,pb _ Jw,ax];rfl
    ·rw[jN (ne _ (by simp))];exact B1.tt
    ·rw[jN (ne _ (by simp))];exact B1.mm
    ·rw[jN (ne _ (by simp))];exact B1.ll
    ·exact B1.hh.keep fun o h=>by rw[jN (ne _ (by simp))];exact h
    ·refine(B1.he e he).keep (fun o h=>?_) fun c o h x=>?_
     ·rw[jN (ne _ (by simp only[aj];right;right;right;right;exact ai.mpr ⟨e,he,rfl⟩))];exact h
     ·rw[jN (yq h B1.pp (by rcases x with⟨xs,rfl|⟨ob,rfl⟩⟩<;>intro z<;>cases z))];exact h
  ·refine k2 c ?_ H1 s1;unfold pQ;rw[hc]
abbrev nQ:bM:=mq (top 27) 7
def um:FnScope ["self","name","owner","things","mark","loss"] ["self","name","owner","things","mark","loss"] (jS nQ):=fsc
def nJ(a:Adr)(GZ:List Str)(L:List (Ent×ac))(x o:Str)(l:Int):Option ac:=match nj a GZ L x with
 |some c=>some c
 |none=>if(lv GZ o||lT L o)=false then some a.NoHolder else if l<0 then some a.NoLoss else if 8<=L.length then some a.TooMany else none
def xk(K:aa)(a:Adr):Sp:=fun vs H Q E=>∃b z GZ L x o t m l,vs=[.ref b,.str x,.str o,.int t,.int m,.int l]/\BookAt K a.Book H b z GZ L/\Nm x/\Nm o /\
 (nJ a GZ L x o l=none->∀p H',H p=none->BookAt K a.Book H' b z GZ (L++[(⟨x,t,m,l,[(o,1,1)]⟩,p)])->(∀c u,H c=some u->c∉[z.dt,z.dm,z.dl,z.dh]->H' c=some u)->Q .non H')/\(∀c,nJ a GZ L x o l=some c->∀H',Same H H'->E (.ref c) none H')
def lZ{L:List (Ent×ac)}{x:Str}(v:Ent×ac->V)(h:lT L x=false):lX (L.map fun e=>((am e.1.nm:Key),v e)) (am x)=none:=by rw[nq (key:=fun e:Ent×ac=>e.1.nm)];unfold lT at h;rw[fF];exact eS.mp h |> eW.mp
def Bc(F:Fun K "house" "Book.house" nQ f fd)(T:Txt K mg a)(G8:Mt P w K mg base a.Book "need_new_name" 3 ["self","name"] (oM K a))(G4:Mt P w K mg base a.Book "need_holder" 3 ["self","name"] (mF K a))(Ih:Fn P w K mg base "need_loss" 1 ["number"] (qp a)):FnOk P w K mg base (CXo P w) 4 f fd ["self","name","owner","things","mark","loss"] (xk K a):=by
 refine F.okX um (fun vs H Q E h=>?_) (fun G3 A outer s H vs Q E hr h=>?_)
 ·obtain⟨b,z,GZ,L,x,o,t,m,l,rfl,_⟩:=h;rfl
 ·obtain⟨b,z,GZ,L,x,o,t,m,l,rfl,B,nm,no,k1,k2⟩:=h;have hu:=lK hr;refine⟨_,(@kf _ _ _ _ _ (@mh _ _ _ _ (pC (pv 0) G8 (hr.mono (by first|decide|omega)) ma (@jZ _ _ _ _ _ (pv 1) pa_nil (by rfl))) (by rfl)) (@kf _ _ _ _ _ (@mh _ _ _ _ (pC (pv 0) G4 (hr.mono (by first|decide|omega)) ma (@jZ _ _ _ _ _ (pv 2) pa_nil (by rfl))) (by rfl)) (@kf _ _ _ _ _ (@mh _ _ _ _ (@qL _ _ _ _ _ _ _ _ _ _ _ Ih (hr.mono (by first|decide|omega)) rfl ma (@jZ _ _ _ _ _ (pv 5) pa_nil (by rfl)) (by decide) (by rfl) (by rfl)) (by rfl)) (@kf _ _ _ _ _ (@qK _ _ _ _ _ _ _ _ (@pP _ _ _ _ _ _ _ _ CM (@li _ _ _ _ _ _ _ _ _ vC rfl T.b_len wG (@jZ _ _ _ _ _ (ni (pv 0) rfl) pa_nil (by rfl)) (by decide) (by decide) (by rfl) (by rfl)) (mi rfl T.g_MOST_HOUSES T.r_MOST_HOUSES) (pR _)) (@km _ _ _ (mf T.x_TooMany rfl T.c_TooMany rfl pe_str sY)) pss_nil) (@kf _ _ _ _ _ (ou hu (ni (pv 0) rfl) (pv 1) (pv 3) rfl) (@kf _ _ _ _ _ (ou hu (ni (pv 0) rfl) (pv 1) (pv 4) rfl) (@kf _ _ _ _ _ (ou hu (ni (pv 0) rfl) (pv 1) (pv 5) rfl) (@km _ _ _ (ou hu (ni (pv 0) rfl) (pv 1) (zj (xt (pv 2) (mi rfl T.g_ONE T.r_ONE) zh) rfl rfl (by decide) (by decide)) rfl))))))))),?_⟩;refine⟨_,rfl,b,_,_,rfl,B.ob,pH z,_,rfl,b,z,GZ,L,x,rfl,B,nm,fun hd H1 s1=>?_,fun c hc H1 s1=>?_⟩
  ·have B1:=B.same s1;refine⟨_,rfl,b,_,_,rfl,B1.ob,pH z,_,rfl,b,z,GZ,L,o,rfl,B1,no,fun ho=>?_,fun ho=>?_⟩
   ·refine⟨_,rfl,l,rfl,fun hl=>?_,fun hl=>?_⟩
    ·refine k2 _ ?_ H1 s1;unfold nJ;rw[hd];show(if(lv GZ o||lT L o)=false then some a.NoHolder else _)=_;rw[if_neg (by rw[ho];decide),if_pos hl]
    ·obtain⟨Th,eh,ph,nh⟩:=B1.hh;have L4:Th.length=L.length:=by rw[ph.length_eq,af]
     refine⟨_,rfl,b,_,_,_,_,rfl,B1.ob,T.cl,T.nA_held_of,re z,_,_,rfl,eh,_,_,rfl,rfl,_,rfl,qh (fun h=>?_) (fun h=>?_)⟩
     ·refine k2 _ ?_ H1 s1;have h:(8:Int)<=(Th.length:Int):=of_decide_eq_true h;rw[L4] at h;unfold nJ;rw[hd];show(if(lv GZ o||lT L o)=false then some a.NoHolder else _)=_;rw[if_neg (by rw[ho];decide),if_neg (by omega),if_pos (by omega)]
     ·have h:¬(8:Int)<=(Th.length:Int):=fun z=>h (decide_eq_true z);rw[L4] at h;have Mq:L.length<8:=by omega
      have JS:nJ a GZ L x o l=none:=by unfold nJ;rw[hd];show(if(lv GZ o||lT L o)=false then some a.NoHolder else _)=_;rw[if_neg (by rw[ho];decide),if_neg (by omega),if_neg (by omega)]
      have hx:=(rM hd).2.2;have sz:∀{v:Ent×ac->V},(L.map fun e=>((am e.1.nm:Key),v e)).length<aB:=fun{v}=>by rw[af];exact au Mq (by decide)
      obtain⟨hb,r1⟩:=aD.mp B1.nd;obtain⟨hp,r2⟩:=aD.mp r1;obtain⟨ht,r3⟩:=aD.mp r2;obtain⟨hm,r4⟩:=aD.mp r3;obtain⟨hll,r5⟩:=aD.mp r4;obtain⟨hh,r6⟩:=aD.mp r5;refine⟨_,rfl,_,rfl,b,_,_,_,_,rfl,B1.ob,T.cl,T.nA_things_of,Aq z,_,rfl,_,_,rfl,DPut.k (k:=am x) B1.tt sz,?_⟩;have Lw:b≠z.dt:=fun e=>hb (by rw[e];simp);have M0:b≠z.dm:=fun e=>hb (by rw[e];simp);have b_l:b≠z.dl:=fun e=>hb (by rw[e];simp);have b_h:b≠z.dh:=fun e=>hb (by rw[e];simp);have p_t:z.dp≠z.dt:=fun e=>hp (by rw[e];simp);have p_m:z.dp≠z.dm:=fun e=>hp (by rw[e];simp);have p_l:z.dp≠z.dl:=fun e=>hp (by rw[e];simp);have p_h:z.dp≠z.dh:=fun e=>hp (by rw[e];simp);have LH:z.dt≠z.dm:=fun e=>ht (by rw[e];simp);have LI:z.dt≠z.dl:=fun e=>ht (by rw[e];simp);have t_h:z.dt≠z.dh:=fun e=>ht (by rw[e];simp);have LV:z.dm≠z.dl:=fun e=>hm (by rw[e];simp);have m_h:z.dm≠z.dh:=fun e=>hm (by rw[e];simp);have l_h:z.dl≠z.dh:=fun e=>hll (by rw[e];simp);refine⟨_,rfl,_,rfl,b,_,_,_,_,rfl,(by rw[jN Lw];exact B1.ob),T.cl,T.nA_mark_of,Ez z,_,rfl,_,_,rfl,DPut.k (k:=am x) (by rw[jN LH.symm];exact B1.mm) sz,?_⟩;refine⟨_,rfl,_,rfl,b,_,_,_,_,rfl,(by rw[jN M0,jN Lw];exact B1.ob),T.cl,T.nA_loss_of,EA z,_,rfl,_,_,rfl,DPut.k (k:=am x) (by rw[jN LV.symm,jN LI.symm];exact B1.ll) sz,?_⟩;intro p Jv;have e0:∀c,c≠z.dt->c≠z.dm->c≠z.dl->∀A B C,(upd (upd (upd H1 z.dt A) z.dm B) z.dl C) c=H1 c:=fun c c1 c2 c3 A B C=>by rw[jN c3,jN c2,jN c1]
      have K9:p≠z.dt:=fun e=>by rw[e,jN LI,jN LH,jR] at Jv;cases Jv
      have La:p≠z.dm:=fun e=>by rw[e,jN LV,jR] at Jv;cases Jv
      have Lb:p≠z.dl:=fun e=>by rw[e,jR] at Jv;cases Jv
      have IE:H1 p=none:=by rw[e0 p K9 La Lb] at Jv;exact Jv
      have hp0:H p=none:=s1.free IE;have Lc:p≠z.dh:=fun e=>by rw[e,eh] at IE;cases IE
      have Ld:p≠b:=fun e=>by rw[e,B1.ob] at IE;cases IE
      have q_p:p≠z.dp:=fun e=>by rw[e,B1.pp] at IE;cases IE
      refine⟨_,rfl,jR,[(am o,.ref a.ONE)],rfl,(show 1<=15 by decide),_,rfl,b,_,_,_,_,rfl,(by rw[jN Ld.symm,jN Ld.symm,e0 b Lw M0 b_l];exact B1.ob),T.cl,T.nA_held_of,re z,_,rfl,_,_,rfl,DPut.k (k:=am x) (by rw[jN Lc.symm,jN Lc.symm,e0 z.dh t_h.symm m_h.symm l_h.symm];exact eh) (by rw[L4];exact au Mq (by decide)),?_⟩;have KY:∀c,c≠p->c≠z.dh->c≠z.dt->c≠z.dm->c≠z.dl->∀A B C D E F,(upd (upd (upd (upd (upd (upd H1 z.dt A) z.dm B) z.dl C) p D) p E) z.dh F) c=H1 c:=fun c c1 c2 c3 c4 c5 A B C D E F=>by rw[jN c2,jN c1,jN c1,jN c5,jN c4,jN c3]
      refine k1 JS p _ hp0 ?_ fun c u e hc=>?_
      ·refine⟨?_,?_,?_,?_,?_,?_,fun e he=>?_,?_,B1.p6,by rw[aI];exact Mq⟩
       ·rw[KY b Ld.symm b_h Lw M0 b_l];exact B1.ob
       ·rw[KY z.dp q_p.symm p_h p_t p_m p_l];exact B1.pp
       ·rw[jN t_h,jN K9.symm,jN K9.symm,jN LI,jN LH,jR,pb _ (lZ _ hx),ax];rfl
       ·rw[jN m_h,jN La.symm,jN La.symm,jN LV,jR,pb _ (lZ _ hx),ax];rfl
       ·rw[jN l_h,jN Lb.symm,jN Lb.symm,jR,pb _ (lZ _ hx),ax];rfl
       ·have hv:lX Th (am x)=none:=by rw[w5 ph nh];exact lZ _ hx
        refine⟨_,jR,?_,?_⟩
        ·rw[pb _ hv,ax];exact ph.append_right _
        ·rw[ax,ax,aG,da];refine qY nh fun hq=>?_;obtain⟨kv,hkv,ekv⟩:=ai.mp hq;have e1:=(sJ (k:=kv.1) (v:=kv.2) nh).mpr hkv;rw[ekv,lZ _ hx] at e1;cases e1
       ·rcases aA.mp he with he|he
        ·have Lq:e.2∈L.map (·.2):=ai.mpr ⟨e,he,rfl⟩;have d1:e.2≠z.dh:=fun q=>hh (q▸Lq);have d2:e.2≠z.dt:=fun q=>ht (by rw[<-q];simp only[aj];right;right;right;exact Lq);have d3:e.2≠z.dm:=fun q=>hm (by rw[<-q];simp only[aj];right;right;exact Lq);have d4:e.2≠z.dl:=fun q=>hll (by rw[<-q];simp only[aj];right;exact Lq);have d5:e.2≠p:=fun q=>by obtain⟨ts,_,q2,_⟩:=B1.he e he;rw[q,IE] at q2;cases q2
         refine(B1.he e he).keep (fun u h=>?_) fun c u h y=>?_
         ·rw[KY e.2 d5 d1 d2 d3 d4];exact h
         ·have nt:∀{q:ac}{kv:List (Key×V)},H1 q=some (.dK kv)->c≠q:=fun hq=>yq h hq (by rcases y with⟨xs,rfl|⟨ob,rfl⟩⟩<;>intro z<;>cases z);rw[KY c (jY h IE) (nt eh) (nt B1.tt) (nt B1.mm) (nt B1.ll)];exact h
        ·rw[al.mp he];refine⟨[a.ONE],rfl,?_,fun q hq=>?_⟩
         ·rw[jN Lc,jR];rfl
         ·rw[al.mp hq];exact .inr T.one
       ·have hpL:p∉L.map (·.2):=fun hq=>by obtain⟨e,he,rfl⟩:=ai.mp hq;obtain⟨ts,_,q2,_⟩:=B1.he e he;rw[IE] at q2;cases q2
        have:=qY (k:=p) B1.nd (by
         intro hq;simp only[aj] at hq;rcases hq with e|e|e|e|e|e|e
         ·exact Ld e
         ·exact q_p e
         ·exact K9 e
         ·exact La e
         ·exact Lb e
         ·exact Lc e
         ·exact hpL e)
        rw[ax];exact this
      ·have e1:=s1 c u e;have c0:c≠p:=jY e1 IE;simp only[aj,fH,or_false,not_or] at hc;rw[KY c c0 hc.2.2.2 hc.1 hc.2.1 hc.2.2.1];exact e1
   ·refine k2 _ ?_ H1 s1;unfold nJ;rw[hd];exact if_pos ho
  ·refine k2 c ?_ H1 s1;unfold nJ;rw[hc]
def PairAt(K:aa)(H:Hp)(q:Str×Int×Int)(v:V):Prop:=∃t u,v=.ref t/\SqT K H t [.str q.1,.ref u]/\SqT K H u [.int q.2.1,.int q.2.2]
def PairAt.keep{K:aa}{H H':Hp}{q:Str×Int×Int}{v:V}(h:PairAt K H q v)(k:∀c o,H c=some o->(∃xs,o=.tup xs\/∃ob,o=.frz ob (.tup xs))->H' c=some o):PairAt K H' q v:=by obtain⟨t,u,e,h1,h2⟩:=h;exact⟨t,u,e,pL h1 k,pL h2 k⟩
def CW{H:Hp}{p:ac}{xs:List V}{o':HO}(hp:H p=some (.lst xs)):∀c o,H c=some o->(∃xs,o=.tup xs\/∃ob,o=.frz ob (.tup xs))->(upd H p o') c=some o:=fun c o h x=>by rw[jN (yq h hp (by rcases x with⟨xs,rfl|⟨ob,rfl⟩⟩<;>intro z<;>cases z))];exact h
def AA{l:List (Str×Int×Int)}{ts:List ac}(hl:ts.length=l.length){n:Str}(hn:n∈l.map (·.1)):∃q,(l.zip ts).find? (fun q=>decide (q.1.1=n))=some q/\q∈l.zip ts/\q.1=kL l n/\(kL l n).1=n:=by
 have e:(l.zip ts).map (·.1)=l:=g5 (by omega);cases h:(l.zip ts).find? (fun q=>decide (q.1.1=n)) with
 |none =>
  exfalso;rw[bS] at h;rw[<-e,aL] at hn;obtain⟨q,hq,e2⟩:=ai.mp hn;exact h q hq (decide_eq_true e2)
 |some q =>
  have e2:l.find? (fun q=>decide (q.1=n))=some q.1:=by rw[<-e,eX];show((l.zip ts).find? (fun q=>decide (q.1.1=n))).map (·.1)=some q.1;rw[h];rfl
  have e3:kL l n=q.1:=by unfold kL;rw[e2];rfl
  exact⟨q,rfl,fb h,e3.symm,by rw[e3];simpa using fW h⟩
def BU{L:List (Ent×ac)}{x:Str}{e:Ent×ac}(v:Ent×ac->V)(h:ly L x=some e):lX (L.map fun e=>((am e.1.nm:Key),v e)) (am x)=some (v e):=by rw[nq (key:=fun e:Ent×ac=>e.1.nm)];unfold ly at h;rw[h];rfl
abbrev lS:bM:=mq (top 27) 14
def sc_Book_shares:FnScope ["self","house","held"] ["self","house"] (jS lS):=fsc
def vd(K:aa)(a:Adr):Sp:=fun vs H Q E=>∃b z GZ L x,vs=[.ref b,.str x]/\BookAt K a.Book H b z GZ L/\Nm x /\
 (∀e,ly L x=some e->e.1.held.length<64/\∀l ys H',H l=none->Same H H'->H' l=some (.lst ys)->eM (PairAt K H') ((srt (e.1.held.map (·.1))).map (kL e.1.held)) ys->Q (.ref l) H')/\(ly L x=none->E (.ref a.NoHouse) none H)
def zY(F:Fun K "shares" "Book.shares" lS f fd)(T:Txt K mg a)(Hf:Mt P w K mg base a.Book "need_house" 2 ["self","name"] (lQ K a)):FnOk P w K mg base (CXo P w) 3 f fd ["self","house"] (vd K a):=by
 refine F.okX sc_Book_shares (fun vs H Q E h=>?_) (fun G3 A outer s H vs Q E hr h=>?_)
 ·obtain⟨b,z,GZ,L,x,rfl,_⟩:=h;rfl
 ·obtain⟨b,z,GZ,L,x,rfl,B,nm,k1,k2⟩:=h;have hu:=lK hr;refine⟨_,(@kf _ _ _ _ _ (@mh _ _ _ _ (pC (pv 0) Hf (hr.mono (by first|decide|omega)) ma (@jZ _ _ _ _ _ (pv 1) pa_nil (by rfl))) (by rfl)) (@kf _ _ _ _ _ (@nF _ _ (2) _ _ _ _ sc_Book_shares.nd rfl (f7 rfl) (@sT _ _ _ _ _ _ hu (ni (pv 0) rfl) (pv 1) (fun _ _=>rfl)) (by rfl) (by first|exact .inl rfl|exact .inr rfl|assumption)) (@km _ _ _ (@oC _ _ _ _ (wd (fr:=["held"]) (ix:=[2]) rfl (by exact(show CompOk ["self","house","held"] (jS lS) _ _ _ _ from cok)) (Dh (@li _ _ _ _ _ _ _ _ _ (nT rfl) rfl T.b_sorted vD (@jZ _ _ _ _ _ (pv 2) pa_nil (by rfl)) (by decide) (by decide) (by rfl) (by rfl))) (fun _ _ _ _ _=>tW) (fun _ _ _ _ _=>(uw (jZ (pv 0) (jZ (sT hu (pv 1) (pv 0) (fun _ _=>rfl)) pa_nil))))))))),?_⟩;refine⟨_,rfl,b,_,_,rfl,B.ob,pH z,_,rfl,b,z,GZ,L,x,rfl,B,nm,fun h=>?_,fun h=>k2 ?_⟩
  ·cases he:ly L x with
   |none=>unfold lT at h;unfold ly at he;rw[he] at h;cases h
   |some e =>
    obtain⟨IU,k1⟩:=k1 e he;obtain⟨ts,hl,hd,hts⟩:=B.he e (nD he);have KC:(((e.1.held.zip ts).map fun q=>((am q.1.1:Key),V.ref q.2)).map (·.1))=(e.1.held.map (·.1)).map am:=by
     rw[aL,aL];have e1:(e.1.held.zip ts).map (·.1)=e.1.held:=g5 (by omega)
     conv=>rhs;rw[<-e1,aL]
     rfl
    refine⟨_,rfl,b,_,_,_,_,rfl,B.ob,T.cl,T.nA_held_of,re z,_,rfl,_,.ref e.2,rfl,?_,_,rfl,e.2,_,e.1.held.map (·.1),rfl,.inl hd,KC,by rw[af];exact IU,fun l JM=>?_⟩
    ·have:=B.hh.dget x;rw[BU _ he] at this;exact this
    ·refine⟨l,rfl,⟨_,SqL.of jR⟩,fun D hD=>?_⟩;have lD:l≠D:=jY jR hD;have MK:H D=none:=by rw[jN lD.symm] at hD;exact hD
     have hDp:e.2≠D:=jY hd MK;refine zE (J:=Itl K l) (srt (e.1.held.map (·.1))).length (fun i ys H'=>Same H H'/\H' D=some (.lst ys)/\H' l=some (.lst ((srt (e.1.held.map (·.1))).map V.str))/\eM (PairAt K H') (((srt (e.1.held.map (·.1))).take i).map (kL e.1.held)) ys)
      ⟨?_,jR,?_,.nil⟩ ?_ (fun i ys H' r=>r.2.1) (fun i ys H' hi r=>⟨_,.str ((srt (e.1.held.map (·.1)))[i]),SqL.of r.2.2.1,by simp[hi]⟩) ?_ ?_
     ·exact(nE JM).trans (nE hD)
     ·rw[jN lD,jR]
     ·rw[p4,af];exact aC (dU IU) (by decide)
     ·rintro i ys Hx v H' hi ⟨s1,h1,h2,h3⟩ ⟨rfl,hy⟩ Kt Kf q1 q2
      have hv:=hy _ (SqL.of h2);have ev:v=.str ((srt (e.1.held.map (·.1)))[i]):=by rw[aY,bc hi] at hv;exact(aO hv).symm
      subst ev;have JL:(srt (e.1.held.map (·.1)))[i]∈e.1.held.map (·.1):=(kl _).mem_iff.mp (de hi);obtain⟨q,f1,f2,f3,f4⟩:=AA hl JL;have Jc:lX ((e.1.held.zip ts).map fun q=>((am q.1.1:Key),V.ref q.2)) (am ((srt (e.1.held.map (·.1)))[i]))=some (.ref q.2):=by rw[nq (key:=fun q:(Str×Int×Int)×ac=>q.1.1),f1];rfl
      refine yesT ⟨_,rfl,_,rfl,_,rfl,e.2,.ref q.2,rfl,?_,(show 2<=aB by decide),fun p hp=>?_⟩
      ·have:=DGet.k (k:=am ((srt (e.1.held.map (·.1)))[i])) (s1 _ _ hd);rw[Jc] at this;exact this
      ·have pD:D≠p:=jY h1 hp;have pl:l≠p:=jY h2 hp;refine q1 _ _ (by rw[jN pD];exact h1) ⟨?_,jR,?_,?_⟩
       ·intro c o hc;rw[jN (fun z=>by rw[z] at hc;rw[MK] at hc;cases hc),jN (jY (s1 c o hc) hp)];exact s1 c o hc
       ·rw[jN lD,jN pl];exact h2
       ·have kp:∀c o,H' c=some o->(∃xs,o=.tup xs\/∃ob,o=.frz ob (.tup xs))->(upd (upd H' p (.tup [.str ((srt (e.1.held.map (·.1)))[i]),.ref q.2])) D (.lst (ys++[.ref p]))) c=some o:=fun c o hc x=>by rw[CW (xs:=ys) (by rw[jN pD];exact h1) c o (by rw[jN (jY hc hp)];exact hc) x]
        have e5:((srt (e.1.held.map (·.1))).take (i+1)).map (kL e.1.held)=((srt (e.1.held.map (·.1))).take i).map (kL e.1.held)++[kL e.1.held ((srt (e.1.held.map (·.1)))[i])]:=by rw[ft,bc hi,ax];rfl
        rw[e5];refine iU (eM.mapP h3 fun q v hq=>hq.keep kp) ⟨p,q.2,rfl,?_,?_⟩
        ·refine SqT.of ?_;rw[jN pD.symm,jR,f4]
        ·rw[<-f3];exact pL (hts q f2) fun c o hc x=>kp c o (s1 c o hc) x
     ·rintro ys H' hy ⟨s1,h1,h2,h3⟩
      refine⟨⟨_,SqL.of h2,by rw[af];exact aq _⟩,k1 D ys H' MK s1 h1 ?_⟩;rw[fG] at h3;exact h3
  ·unfold lT at h;unfold ly;exact eS.mp h |> eW.mp
end
end My
namespace L2
open PySem PySem.Spec PyProof.Rows
section
variable{X:Cx}
def rEqT(K:aa):R2:=fun x y H Q=>∃p q xs ys,x=.ref p/\y=.ref q/\SqT K H p xs/\SqT K H q ys/\xs.length=ys.length/\xs.all oj=true/\ys.all oj=true/\Q (.bl (D7 xs ys)) H
def FT(hu:X.A.units<dL):OpR X (bI .Eq) (rEqT X.K):=by
 intro GX s σ H x y v u Q I rx ry h;obtain⟨p,q,xs,ys,rfl,rfl,hp,hq,hl,fx,fy,k⟩:=h;cases rx;cases ry;obtain⟨its,r,pl,_⟩:=I.tuple hp;obtain⟨IJ,r2,pl2,_⟩:=I.tuple hq;have e1:=r.length;have e2:=r2.length;refine SeqAt.eq_tupleAt pl pl2 hu (yx r r2 hl fx fy) ⟨.bl _,H,I,rfl,?_⟩;have e3:its.toArray.size=IJ.toArray.size:=by simp;omega
 rw[e3,Nat.min_self,beq_self_eq_true,Bool.and_true,aJ,<-e2,<-hl,<-xG hl];exact k
end
end L2
namespace My
open PySem L2 Fra
def xD(x y:Int)(h:0<y):ay y (x%y)=ay x y:=by
 have e:x%y=x-(x/y)*y:=by rw[Int.emod_def,bz]
 rw[e,Int.gcd_comm,Int.gcd_sub_mul_right_left]
def Bx{x:Int}(h:0<=x):(ay x 0:Int)=x:=by rw[Int.gcd_zero_right];omega
structure Sz(q:Int×Int):Prop where
 low:Low q
 bt:Bt 8900 q.1
 bb:Bt 8900 q.2
def FrAt(K:aa)(H:Hp)(p:ac)(q:Int×Int):Prop:=SqT K H p [.int q.1,.int q.2]
def FrAt.same{K:aa}{H H':Hp}{p:ac}{q:Int×Int}(h:FrAt K H p q)(s:Same H H'):FrAt K H' p q:=xn s h
section
variable{P:az}{w:aU}{K:aa}{mg:Str->Option ae}{base:ba}{a:Adr}{f:ac}{fd:bJ}
abbrev lM:bM:=top 17
def sc_common_divisor:FnScope ["number","other","rest"] ["number","other"] (jS lM):=fsc
def B6:Sp:=fun vs H Q _=>∃n m,vs=[.int n,.int m]/\0<m/\Q (.int (ay n m)) H
def FX(F:Fun K "common_divisor" "common_divisor" lM f fd)(T:Txt K mg a):FnOk P w K mg base (CXo P w) 1 f fd ["number","other"] B6:=by
 refine F.okN sc_common_divisor (fun vs H Q E h=>?_) (fun G3 A outer s H vs Q E hr h=>?_)
 ·obtain⟨n,m,rfl,_⟩:=h;rfl
 ·obtain⟨n,m,rfl,hm,k⟩:=h;have hu:=lK hr;refine⟨_,(@kf _ _ _ _ _ (xr fz (@pP _ _ _ _ _ _ _ _ op_ne (pv 1) pe_int (pR _)) (@kf _ _ _ _ _ (@nF _ _ (2) _ _ _ _ sc_common_divisor.nd rfl (dI rfl) (@oE _ _ _ _ _ _ _ _ Ck (pv 0) (pv 1)) (by rfl) (by first|exact .inl rfl|exact .inr rfl|assumption)) (@kf _ _ _ _ _ (@nF _ _ (0) _ _ _ _ sc_common_divisor.nd rfl (dI rfl) (pv 1) (by rfl) (by first|exact .inl rfl|exact .inr rfl|assumption)) (@km _ _ _ (@nF _ _ (1) _ _ _ _ sc_common_divisor.nd rfl (dI rfl) (pv 2) (by rfl) (by first|exact .inl rfl|exact .inr rfl|assumption)))))) (@km _ _ _ (@oC _ _ _ _ (pv 0)))),?_⟩;refine⟨fun c σ H'=>H'=H/\∃x y v,σ=[some (.int x),some (.int y),v]/\0<=y/\c=y.toNat/\ay x y=ay n m/\(y=0->0<=x),⟨_,rfl,n,m,_,rfl,by omega,rfl,rfl,by omega⟩,?_⟩
  rintro c σ H' ⟨rfl,x,y,v,rfl,hy,rfl,hg,hx⟩
  refine⟨_,rfl,rfl,_,rfl,qh (fun h=>?_) (fun h=>?_)⟩
  ·have JE:0<y:=by have:¬(V.int y=V.int 0):=of_decide_eq_false (nbT h);have:y≠0:=fun z=>this (by rw[z]);omega
   refine⟨fun σ' H''=>H''=H'/\∃v',σ'=[some (.int y),some (.int (x%y)),v'],?_,?_⟩
   ·rintro σ' H'' ⟨rfl,v',rfl⟩
    have m0:=cC x (show y≠0 by omega);have m1:=b6 x JE;exact⟨(x%y).toNat,by omega,rfl,_,_,_,rfl,m0,rfl,(xD x y JE).trans hg,fun _=>hy⟩
   ·exact⟨_,rfl,_,rfl,_,_,rfl,rfl,JE,_,rfl,_,rfl,rfl,_,rfl⟩
  ·have JE:y=0:=V.int.inj (of_decide_eq_true (nbF h));subst JE;refine⟨_,rfl,?_⟩;rw[Bx (hx rfl) |>.symm,hg];exact k
abbrev yV:bM:=top 18
def sc_plus:FnScope ["first","second","common","top","shared"] ["first","second"] (jS yV):=fsc
def sM(K:aa):Sp:=fun vs H Q _=>∃p1 p2 q1 q2,vs=[.ref p1,.ref p2]/\FrAt K H p1 q1/\FrAt K H p2 q2/\Sz q1/\Sz q2/\∀x,H x=none->Q (.ref x) (upd H x (.tup [.int (kT q1 q2).1,.int (kT q1 q2).2]))
def Dx(F:Fun K "plus" "plus" yV f fd)(T:Txt K mg a)(Hb:Fn P w K mg base "common_divisor" 1 ["number","other"] B6):FnOk P w K mg base (CXo P w) 2 f fd ["first","second"] (sM K):=by
 refine F.okN sc_plus (fun vs H Q E h=>?_) (fun G3 A outer s H vs Q E hr h=>?_)
 ·obtain⟨p1,p2,q1,q2,rfl,_⟩:=h;rfl
 ·obtain⟨p1,p2,⟨t1,b1⟩,⟨t2,b2⟩,rfl,h1,h2,s1,s2,k⟩:=h;have hu:=lK hr;refine⟨_,(@kf _ _ _ _ _ (@nF _ _ (2) _ _ _ _ sc_plus.nd rfl (dI rfl) (@qL _ _ _ _ _ _ _ _ _ _ _ Hb (hr.mono (by first|decide|omega)) rfl qA (@jZ _ _ _ _ _ (@ny _ _ _ _ _ _ _ ix_tup (pv 0) pe_int (fun _ _=>rfl)) (@jZ _ _ _ _ _ (@ny _ _ _ _ _ _ _ ix_tup (pv 1) pe_int (fun _ _=>rfl)) pa_nil (by rfl)) (by rfl)) (by decide) (by rfl) (by rfl)) (by rfl) (by first|exact .inl rfl|exact .inr rfl|assumption)) (@kf _ _ _ _ _ (@nF _ _ (3) _ _ _ _ sc_plus.nd rfl (dI rfl) (@oE _ _ _ _ _ _ _ _ op_add (@oE _ _ _ _ _ _ _ _ op_mulB (@ny _ _ _ _ _ _ _ ix_tup (pv 0) pe_int (fun _ _=>rfl)) (@oE _ _ _ _ _ _ _ _ nG (@ny _ _ _ _ _ _ _ ix_tup (pv 1) pe_int (fun _ _=>rfl)) (pv 2))) (@oE _ _ _ _ _ _ _ _ op_mulB (@ny _ _ _ _ _ _ _ ix_tup (pv 1) pe_int (fun _ _=>rfl)) (@oE _ _ _ _ _ _ _ _ nG (@ny _ _ _ _ _ _ _ ix_tup (pv 0) pe_int (fun _ _=>rfl)) (pv 2)))) (by rfl) (by first|exact .inl rfl|exact .inr rfl|assumption)) (@kf _ _ _ _ _ (@nF _ _ (4) _ _ _ _ sc_plus.nd rfl (dI rfl) (@qL _ _ _ _ _ _ _ _ _ _ _ Hb (hr.mono (by first|decide|omega)) rfl qA (@jZ _ _ _ _ _ (pv 3) (@jZ _ _ _ _ _ (pv 2) pa_nil (by rfl)) (by rfl)) (by decide) (by rfl) (by rfl)) (by rfl) (by first|exact .inl rfl|exact .inr rfl|assumption)) (@km _ _ _ (@oC _ _ _ _ (@uw _ _ _ _ _ (@jZ _ _ _ _ _ (@oE _ _ _ _ _ _ _ _ nG (pv 3) (pv 4)) (@jZ _ _ _ _ _ (@oE _ _ _ _ _ _ _ _ op_mulB (@oE _ _ _ _ _ _ _ _ nG (@ny _ _ _ _ _ _ _ ix_tup (pv 0) pe_int (fun _ _=>rfl)) (pv 2)) (@oE _ _ _ _ _ _ _ _ nG (@ny _ _ _ _ _ _ _ ix_tup (pv 1) pe_int (fun _ _=>rfl)) (pv 4))) pa_nil (by rfl)) (by rfl)))))))),?_⟩;rw[<-EG s1.low s2.low] at k;have b10:0<b1:=s1.low.1;have b20:0<b2:=s2.low.1;have hd:0<ay b1 b2:=bN _ (by omega);have KO:(0:Int)<(ay b1 b2:Int):=by omega
  have bd:Bt 8900 (ay b1 b2:Int):=s1.bb.dvd (show b1≠0 by omega) (eA ..);have ld:=(bd.mono (by decide)).log KO;refine⟨_,rfl,p1,_,1,_,rfl,rfl,h1,kD (j:=1) rfl,_,rfl,p2,_,1,_,rfl,rfl,h2,kD (j:=1) rfl,b1,b2,rfl,b20,?_⟩;refine⟨_,rfl,p1,_,0,_,rfl,rfl,h1,kD (j:=0) rfl,_,rfl,p2,_,1,_,rfl,rfl,h2,kD (j:=1) rfl,_,rfl,_,_,rfl,rfl,⟨KO,ld⟩,_,_,rfl,rfl,⟨s1.bt.mono (by decide),(s2.bb.div).mono (by decide)⟩,?_⟩;refine⟨_,rfl,p2,_,0,_,rfl,rfl,h2,kD (j:=0) rfl,_,rfl,p1,_,1,_,rfl,rfl,h1,kD (j:=1) rfl,_,rfl,_,_,rfl,rfl,⟨KO,ld⟩,_,_,rfl,rfl,⟨s2.bt.mono (by decide),(s1.bb.div).mono (by decide)⟩,_,_,rfl,rfl,?_⟩;have he:0<ay (t1*(b2/(ay b1 b2:Int))+t2*(b1/(ay b1 b2:Int))) (ay b1 b2:Int):=bN _ (by omega);have Mz:(0:Int)<(ay (t1*(b2/(ay b1 b2:Int))+t2*(b1/(ay b1 b2:Int))) (ay b1 b2:Int):Int):=by omega
  have be:Bt 8900 (ay (t1*(b2/(ay b1 b2:Int))+t2*(b1/(ay b1 b2:Int))) (ay b1 b2:Int):Int):=bd.dvd (by omega) (ci ..);have le:=(be.mono (by decide)).log Mz;refine⟨_,rfl,_,rfl,_,_,rfl,KO,?_⟩;refine⟨_,rfl,_,rfl,_,_,rfl,rfl,⟨Mz,le⟩,_,rfl,p1,_,1,_,rfl,rfl,h1,kD (j:=1) rfl,_,rfl,_,_,rfl,rfl,⟨KO,ld⟩,_,rfl,p2,_,1,_,rfl,rfl,h2,kD (j:=1) rfl,_,rfl,_,_,rfl,rfl,⟨Mz,le⟩,_,_,rfl,rfl,⟨(s1.bb.div).mono (by decide),(s2.bb.div).mono (by decide)⟩,(show 2<=aB by decide),fun x hx=>?_⟩;exact k x hx
abbrev wc:bM:=top 19
def AL:FnScope ["first","second"] ["first","second"] (jS wc):=fsc
def xj(K:aa):Sp:=fun vs H Q _=>∃p1 p2 q1 q2,vs=[.ref p1,.ref p2]/\FrAt K H p1 q1/\FrAt K H p2 q2/\Sz q1/\Sz q2/\∀x H',H x=none->Same H H'->H' x=some (.tup [.int (kT q1 (-q2.1,q2.2)).1,.int (kT q1 (-q2.1,q2.2)).2])->Q (.ref x) H'
theorem Sz.neg{q:Int×Int}(h:Sz q):Sz (-q.1,q.2):=⟨⟨h.low.1,by have:=h.low.2;unfold Cop ay at *;simp only[gs];exact this⟩,h.bt.neg,h.bb⟩
def Bb(F:Fun K "minus" "minus" wc f fd)(T:Txt K mg a)(Iv:Fn P w K mg base "plus" 2 ["first","second"] (sM K)):FnOk P w K mg base (CXo P w) 3 f fd ["first","second"] (xj K):=by
 refine F.okN AL (fun vs H Q E h=>?_) (fun G3 A outer s H vs Q E hr h=>?_)
 ·obtain⟨p1,p2,q1,q2,rfl,_⟩:=h;rfl
 ·obtain⟨p1,p2,⟨t1,b1⟩,⟨t2,b2⟩,rfl,h1,h2,s1,s2,k⟩:=h;have hu:=lK hr;refine⟨_,(@km _ _ _ (@oC _ _ _ _ (@qL _ _ _ _ _ _ _ _ _ _ _ Iv (hr.mono (by first|decide|omega)) rfl qA (@jZ _ _ _ _ _ (pv 0) (@jZ _ _ _ _ _ (@uw _ _ _ _ _ (@jZ _ _ _ _ _ (@pe_un _ _ _ _ _ _ Fk (@ny _ _ _ _ _ _ _ ix_tup (pv 1) pe_int (fun _ _=>rfl))) (@jZ _ _ _ _ _ (@ny _ _ _ _ _ _ _ ix_tup (pv 1) pe_int (fun _ _=>rfl)) pa_nil (by rfl)) (by rfl))) pa_nil (by rfl)) (by rfl)) (by decide) (by rfl) (by rfl)))),?_⟩;refine⟨_,rfl,_,rfl,p2,_,0,_,rfl,rfl,h2,kD (j:=0) rfl,_,rfl,_,rfl,p2,_,1,_,rfl,rfl,h2,kD (j:=1) rfl,(show 2<=aB by decide),fun y hy=>?_⟩;have sy:=nE (o:=.tup [.int (-t2),.int b2]) hy;refine⟨p1,y,(t1,b1),(-t2,b2),rfl,h1.same sy,SqT.of jR,s1,s2.neg,fun x hx=>?_⟩;refine k x _ (sy.free hx) (sy.trans (nE hx)) jR
abbrev qd:bM:=top 20
def wJ:FnScope ["first","second"] ["first","second"] (jS qd):=fsc
def xl(K:aa):Sp:=fun vs H Q _=>∃p1 p2 q1 q2,vs=[.ref p1,.ref p2]/\FrAt K H p1 q1/\FrAt K H p2 q2/\Sz q1/\Sz q2/\Q (.bl (decide (q1.1*q2.2>q2.1*q1.2))) H
def Be(F:Fun K "is_above" "is_above" qd f fd)(T:Txt K mg a):FnOk P w K mg base (CXo P w) 1 f fd ["first","second"] (xl K):=by
 refine F.okN wJ (fun vs H Q E h=>?_) (fun G3 A outer s H vs Q E hr h=>?_)
 ·obtain⟨p1,p2,q1,q2,rfl,_⟩:=h;rfl
 ·obtain⟨p1,p2,⟨t1,b1⟩,⟨t2,b2⟩,rfl,h1,h2,s1,s2,k⟩:=h;have hu:=lK hr;refine⟨_,(@km _ _ _ (@oC _ _ _ _ (@zk _ _ _ _ _ _ _ _ E1 (@oE _ _ _ _ _ _ _ _ op_mulB (@ny _ _ _ _ _ _ _ ix_tup (pv 0) pe_int (fun _ _=>rfl)) (@ny _ _ _ _ _ _ _ ix_tup (pv 1) pe_int (fun _ _=>rfl))) (@oE _ _ _ _ _ _ _ _ op_mulB (@ny _ _ _ _ _ _ _ ix_tup (pv 1) pe_int (fun _ _=>rfl)) (@ny _ _ _ _ _ _ _ ix_tup (pv 0) pe_int (fun _ _=>rfl))) (pR _)))),?_⟩;refine⟨_,rfl,p1,_,0,_,rfl,rfl,h1,kD (j:=0) rfl,_,rfl,p2,_,1,_,rfl,rfl,h2,kD (j:=1) rfl,_,_,rfl,rfl,⟨s1.bt.mono (by decide),s2.bb.mono (by decide)⟩,_,rfl,p2,_,0,_,rfl,rfl,h2,kD (j:=0) rfl,_,rfl,p1,_,1,_,rfl,rfl,h1,kD (j:=1) rfl,_,_,rfl,rfl,⟨s2.bt.mono (by decide),s1.bb.mono (by decide)⟩,_,_,rfl,rfl,?_⟩;exact k
end
structure Two(q1 q2:Int×Int):Prop where
 p1:0<q1.2
 p2:0<q2.2
 t1:Bt 9000 q1.1
 t2:Bt 9000 q2.1
 b1:Bt 9000 q1.2
 b2:Bt 9000 q2.2
 bb:Bt 9000 (q1.2*q2.2)
abbrev Hl:=List (Str×Int×Int)
def kg(l:Hl)(n:Str):Int×Int:=(kL l n).2
def kQ(l:Hl)(n:Str)(q:Int×Int):Hl:=if(l.any fun x=>decide (x.1=n))=true then l.map (fun x=>if x.1=n then(n,q) else x) else l++[(n,q)]
def kI(l:Hl)(n:Str):Hl:=l.filter fun x=>decide (x.1≠n)
def HeldZ(K:aa)(H:Hp)(p:ac)(l:Hl)(z:List ((Str×Int×Int)×ac)):Prop :=
 z.map (·.1)=l/\H p=some (.dK (z.map fun q=>(am q.1.1,V.ref q.2)))/\∀q∈z,FrAt K H q.2 q.1.2
def HeldAt.toZ{K:aa}{H:Hp}{p:ac}{l:Hl}(h:HeldAt K H p l):∃z,HeldZ K H p l z:=by obtain⟨ts,hl,hd,ht⟩:=h;exact⟨l.zip ts,g5 (by omega),hd,ht⟩
theorem rj{α β:Type}:∀z:List (α×β),(z.map (·.1)).zip (z.map (·.2))=z
 |[]=>rfl
 |x::r=>congrArg (x::·) (rj r)
def HeldZ.held{K:aa}{H:Hp}{p:ac}{l:Hl}{z:List ((Str×Int×Int)×ac)}(h:HeldZ K H p l z):HeldAt K H p l:=by
 obtain⟨rfl,hd,ht⟩:=h;refine⟨z.map (·.2),by rw[af,af],?_,?_⟩
 ·rw[rj];exact hd
 ·rw[rj];exact ht
def wA{K:aa}{H:Hp}{p x:ac}{q:Int×Int}{kvs:List (Key×V)}{o:HO}(hp:H p=some (.dK kvs))(h:FrAt K H x q):FrAt K (upd H p o) x q :=
 pL h fun c u e y=>by rw[jN (yq e hp (by rcases y with⟨xs,rfl|⟨ob,rfl⟩⟩<;>intro z<;>cases z))];exact e
def HeldZ.val{K:aa}{H:Hp}{p:ac}{l:Hl}{z:List ((Str×Int×Int)×ac)}(h:HeldZ K H p l z)(n:Str) :
  (n∉l.map (·.1)/\lX (z.map fun q=>((am q.1.1:Key),V.ref q.2)) (am n)=none/\kg l n=(0,1))\/(n∈l.map (·.1)/\∃x,lX (z.map fun q=>((am q.1.1:Key),V.ref q.2)) (am n)=some (.ref x)/\FrAt K H x (kg l n)):=by
 obtain⟨rfl,hd,ht⟩:=h;rw[nq (key:=fun q:(Str×Int×Int)×ac=>q.1.1)];unfold kg kL;rw[eX];have e:((fun q:Str×Int×Int=>decide (q.1=n))∘fun x:(Str×Int×Int)×ac=>x.1)=fun x=>decide (x.1.1=n):=rfl;rw[e];cases hf:z.find? (fun x=>decide (x.1.1=n)) with
 |none =>
  left;refine⟨fun hn=>?_,rfl,rfl⟩;rw[bS] at hf;rw[aL] at hn;obtain⟨q,hq,e2⟩:=ai.mp hn;exact hf q hq (decide_eq_true e2)
 |some q =>
  right;have hq:=fb hf;refine⟨?_,q.2,rfl,ht q hq⟩;rw[aL];exact ai.mpr ⟨q,hq,by simpa using fW hf⟩
def HeldZ.put{K:aa}{H:Hp}{p x:ac}{l:Hl}{z:List ((Str×Int×Int)×ac)}{n:Str}{q:Int×Int}(h:HeldZ K H p l z)(hx:FrAt K H x q) :
  ∃z',HeldZ K (upd H p (.dK (oH (z.map fun q=>((am q.1.1:Key),V.ref q.2)) (am n) (.ref x)))) p (kQ l n q) z':=by
 obtain⟨rfl,hd,ht⟩:=h;refine⟨if(z.any fun y=>decide (y.1.1=n))=true then z.map (fun y=>if y.1.1=n then((n,q),x) else y) else z++[((n,q),x)],?_,?_,?_⟩
 ·unfold kQ;rw[fQ];by_cases hb:(z.any fun y=>decide (y.1.1=n))=true
  ·rw[if_pos hb,if_pos (by exact hb),aL,aL];refine bC fun y _=>?_;show(if y.1.1=n then((n,q),x) else y).1=if y.1.1=n then(n,q) else y.1
   by_cases e:y.1.1=n
   ·rw[if_pos e,if_pos e]
   ·rw[if_neg e,if_neg e]
  ·rw[if_neg hb,if_neg (by exact hb),ax];rfl
 ·rw[jR];unfold oH;rw[fQ];have eb:((fun kv:Key×V=>decide (kv.1=am n))∘fun q:(Str×Int×Int)×ac=>((am q.1.1:Key),V.ref q.2))=fun y=>decide (y.1.1=n):=by
   funext y
   show decide ((am y.1.1:Key)=am n)=_;rw[uG]
  rw[eb];by_cases hb:(z.any fun y=>decide (y.1.1=n))=true
  ·rw[if_pos hb,if_pos hb,aL,aL]
   congr 2
   refine bC fun y _=>?_;show(if(am y.1.1:Key)=am n then((am y.1.1:Key),V.ref x) else((am y.1.1:Key),V.ref y.2))=((am (if y.1.1=n then((n,q),x) else y).1.1:Key),V.ref (if y.1.1=n then((n,q),x) else y).2);by_cases e:y.1.1=n
   ·rw[if_pos (by rw[e]),if_pos e,e]
   ·rw[if_neg (fun w=>e (dw w)),if_neg e]
  ·rw[if_neg hb,if_neg hb,ax];rfl
 ·intro y hy;refine wA hd ?_;by_cases hb:(z.any fun y=>decide (y.1.1=n))=true
  ·rw[if_pos hb] at hy;obtain⟨u,hu,rfl⟩:=ai.mp hy;by_cases e:u.1.1=n
   ·rw[if_pos e];exact hx
   ·rw[if_neg e];exact ht u hu
  ·rw[if_neg hb] at hy;rcases aA.mp hy with hy|hy
   ·exact ht y hy
   ·rw[al.mp hy];exact hx
def HeldZ.drop{K:aa}{H:Hp}{p:ac}{l:Hl}{z:List ((Str×Int×Int)×ac)}{n:Str}(h:HeldZ K H p l z) :
  ∃z',HeldZ K (upd H p (.dK (sg (z.map fun q=>((am q.1.1:Key),V.ref q.2)) (am n)))) p (kI l n) z':=by
 obtain⟨rfl,hd,ht⟩:=h;refine⟨z.filter (fun y=>decide (y.1.1≠n)),?_,?_,fun y hy=>wA hd (ht y (cN.mp hy).1)⟩
 ·unfold kI;rw[eJ];rfl
 ·rw[jR];unfold sg;rw[eJ];have eb:((fun kv:Key×V=>decide (kv.1≠am n))∘fun q:(Str×Int×Int)×ac=>((am q.1.1:Key),V.ref q.2))=fun y=>decide (y.1.1≠n):=by
   funext y
   show decide ((am y.1.1:Key)≠am n)=_;rw[bQ,decide_eq_true_iff,decide_eq_true_iff];exact⟨fun h w=>h (by rw[w]),fun h w=>h (dw w)⟩
  rw[eb]
def kB(l:Hl)(n m:Str)(q:Int×Int):kg (kQ l n q) m=if m=n then q else kg l m:=by
 unfold kg kL kQ;by_cases hb:(l.any fun x=>decide (x.1=n))=true
 ·rw[if_pos hb];induction l with
  |nil=>cases hb
  |cons x r ih =>
   rw[aG,bP,bP];by_cases e:x.1=n
   ·rw[if_pos e];by_cases em:m=n
    ·subst em;rw[if_pos rfl,decide_eq_true (show m=m from rfl)];rfl
    ·rw[if_neg em];have e1:decide ((n,q).1=m)=false:=decide_eq_false fun z=>em z.symm;have e2:decide (x.1=m)=false:=decide_eq_false fun z=>em (z.symm.trans e);rw[e1,e2];by_cases hr:(r.any fun x=>decide (x.1=n))=true
     ·have:=ih hr;rw[if_neg em] at this;exact this
     ·have er:r.map (fun x=>if x.1=n then(n,q) else x)=r:=by
       conv=>rhs;rw[<-jp r]
       refine bC fun y hy=>if_neg fun z=>hr (cI.mpr ⟨y,hy,decide_eq_true z⟩)
      show(Option.getD ((r.map fun x=>if x.1=n then(n,q) else x).find? fun q=>decide (q.1=m)) (m,0,1)).2=_;rw[er]
   ·rw[if_neg e];have hr:(r.any fun x=>decide (x.1=n))=true:=by rw[ej,decide_eq_false e,Bool.false_or] at hb;exact hb
    by_cases em:x.1=m
    ·rw[decide_eq_true em];have:¬m=n:=fun z=>e (em.trans z);rw[if_neg this]
    ·rw[decide_eq_false em];exact ih hr
 ·rw[if_neg hb,gS];by_cases em:m=n
  ·subst em;rw[if_pos rfl];have:l.find? (fun q=>decide (q.1=m))=none:=by rw[bS];intro x hx z;exact hb (cI.mpr ⟨x,hx,z⟩)
   rw[this,Option.none_or,bP,decide_eq_true (show(m,q).1=m from rfl)];rfl
  ·rw[if_neg em];have:[(n,q)].find? (fun q=>decide (q.1=m))=none:=by rw[bP,decide_eq_false (show ¬(n,q).1=m from fun z=>em z.symm)];rfl
   rw[this,Option.or_none]
def lW(l:Hl)(n m:Str):kg (kI l n) m=if m=n then(0,1) else kg l m:=by
 unfold kg kL kI;rw[List.find?_filter];by_cases em:m=n
 ·subst em;rw[if_pos rfl];have:l.find? (fun a=>decide (decide (a.1≠m)=true/\decide (a.1=m)=true))=none:=by rw[bS];intro x hx z;have z:=of_decide_eq_true z;exact of_decide_eq_true z.1 (of_decide_eq_true z.2)
  rw[this];rfl
 ·rw[if_neg em];have:(fun a:Str×Int×Int=>decide (decide (a.1≠n)=true/\decide (a.1=m)=true))=fun a=>decide (a.1=m):=by
   funext x
   rw[bQ];simp only[decide_eq_true_iff];exact⟨fun h=>h.2,fun h=>⟨fun z=>em (h.symm.trans z),h⟩⟩
  rw[this]
def kK(l:Hl)(n:Str)(q:Int×Int):(kQ l n q).map (·.1)=if n∈l.map (·.1) then l.map (·.1) else l.map (·.1)++[n]:=by
 unfold kQ;by_cases hb:(l.any fun x=>decide (x.1=n))=true
 ·have:n∈l.map (·.1):=by obtain⟨x,hx,e⟩:=cI.mp hb;exact ai.mpr ⟨x,hx,of_decide_eq_true e⟩
  rw[if_pos hb,if_pos this,aL];refine bC fun x _=>?_;show(if x.1=n then(n,q) else x).1=x.1;by_cases e:x.1=n
  ·rw[if_pos e,e]
  ·rw[if_neg e]
 ·have:¬n∈l.map (·.1):=fun z=>by obtain⟨x,hx,e⟩:=ai.mp z;exact hb (cI.mpr ⟨x,hx,decide_eq_true e⟩)
  rw[if_neg hb,if_neg this,ax];rfl
def qB{l:Hl}(n:Str)(q:Int×Int)(h:(l.map (·.1)).Nodup):((kQ l n q).map (·.1)).Nodup:=by
 rw[kK];by_cases hn:n∈l.map (·.1)
 ·rw[if_pos hn];exact h
 ·rw[if_neg hn];exact qY h hn
def sW(l:Hl)(n:Str):(kI l n).map (·.1)=(l.map (·.1)).filter fun x=>decide (x≠n):=by unfold kI;rw[eJ];rfl
def wf{l:Hl}(n:Str)(h:(l.map (·.1)).Nodup):((kI l n).map (·.1)).Nodup:=by rw[sW];exact h.filter _
def zp(l:Hl)(n:Str)(q:Int×Int):(kQ l n q).length<=l.length+1:=by
 have:=congrArg b7 (kK l n q);rw[af] at this;rw[this];split
 ·rw[af];omega
 ·rw[aI,af];exact aq _
def xx(l:Hl)(n:Str):(kI l n).length<=l.length:=d6 _ _
def sold(l:Hl)(o1 o2:Str)(q:Int×Int):Hl :=
 let r:=kT (kg l o1) (-q.1,q.2);let l1:=if r=(0,1) then kI l o1 else kQ l o1 r
 kQ l1 o2 (kT (kg l1 o2) q)
def Aw(l:Hl)(o1 o2:Str)(q:Int×Int):Hl :=
 let l1:=kQ l o1 (kT (kg l o1) (-q.1,q.2))
 kQ l1 o2 (kT (kg l1 o2) q)
def vg{β:Type}(L:List (Ent×β))(h:Str)(g:Ent->Ent):List (Ent×β):=L.map fun x=>if x.1.nm=h then(g x.1,x.2) else x
def o8{β γ:Type}{L:List (Ent×β)}{h:Str}{g:Ent->Ent}(v:Ent×β->γ)(hv:∀x,v (g x.1,x.2)=v x):(vg L h g).map v=L.map v:=by
 unfold vg;rw[aL];refine bC fun x _=>?_;show v (if x.1.nm=h then(g x.1,x.2) else x)=v x;by_cases e:x.1.nm=h
 ·rw[if_pos e,hv]
 ·rw[if_neg e]
def AJ{β:Type}{L:List (Ent×β)}{h:Str}{g:Ent->Ent}{y:Ent×β}(hy:y∈vg L h g):∃x∈L,(x.1.nm=h/\y=(g x.1,x.2))\/(¬x.1.nm=h/\y=x):=by
 unfold vg at hy;obtain⟨x,hx,rfl⟩:=ai.mp hy;refine⟨x,hx,?_⟩;by_cases e:x.1.nm=h
 ·rw[if_pos e];exact .inl ⟨e,rfl⟩
 ·rw[if_neg e];exact .inr ⟨e,rfl⟩
theorem y7{α β:Type}{key:α->β}:∀{l:List α}{x y:α},(l.map key).Nodup->x∈l->y∈l->key x=key y->x=y
 |[],_,_,_,hx,_,_=>by cases hx
 |z::r,x,y,h,hx,hy,e=>by
  obtain⟨h1,h2⟩:=aD.mp h;rcases aj.mp hx with ex|Lj
  ·rcases aj.mp hy with ey|Ks
   ·exact ex.trans ey.symm
   ·rw[ex] at e;exact absurd (ai.mpr ⟨y,Ks,e.symm⟩) h1
  ·rcases aj.mp hy with ey|Ks
   ·rw[ey] at e;exact absurd (ai.mpr ⟨x,Lj,e⟩) h1
   ·exact y7 h2 Lj Ks e
def xz{L:List (Ent×ac)}{h:Str}{e:Ent×ac}(he:ly L h=some e):e.1.nm=h:=by unfold ly at he;simpa using fW he
def Ai{L:List (Ent×ac)}{h:Str}{e x:Ent×ac}(nd:(L.map (·.1.nm)).Nodup)(he:ly L h=some e)(hx:x∈L)(hn:x.1.nm=h):x=e :=
 y7 (key:=fun x:Ent×ac=>x.1.nm) nd hx (nD he) (hn.trans (xz he).symm)
def BookAt.reheld{K:aa}{C:ac}{H H':Hp}{b:ac}{z:BA}{GZ:List Str}{L:List (Ent×ac)}{h:Str}{e:Ent×ac}{g:Ent->Ent}(B:BookAt K C H b z GZ L)(nd:(L.map (·.1.nm)).Nodup)(he:ly L h=some e)(hg:∀x,g x={ x with held:=(g x).held })(hH:HeldAt K H' e.2 (g e.1).held)(kp:∀c o,H c=some o->c≠e.2->H' c=some o):BookAt K C H' b z GZ (vg L h g):=by
 have KI:=nD he;have e2:e.2∈L.map (·.2):=ai.mpr ⟨e,KI,rfl⟩;obtain⟨n1,r1⟩:=aD.mp B.nd;obtain⟨n2,r2⟩:=aD.mp r1;obtain⟨n3,r3⟩:=aD.mp r2;obtain⟨n4,r4⟩:=aD.mp r3;obtain⟨n5,r5⟩:=aD.mp r4;obtain⟨n6,r6⟩:=aD.mp r5;have g1:∀x,(g x).nm=x.nm:=fun x=>by rw[hg x]
 have g2:∀x,(g x).th=x.th:=fun x=>by rw[hg x]
 have g3:∀x,(g x).mr=x.mr:=fun x=>by rw[hg x]
 have g4:∀x,(g x).ls=x.ls:=fun x=>by rw[hg x]
 refine⟨kp _ _ B.ob fun q=>n1 (q▸by simp only[aj];right;right;right;right;right;exact e2),kp _ _ B.pp fun q=>n2 (q▸by simp only[aj];right;right;right;right;exact e2),?_,?_,?_,?_,?_,?_,B.p6,by unfold vg;rw[af];exact B.h8⟩
 ·rw[o8 (v:=fun e=>((am e.1.nm:Key),V.int e.1.th)) fun x=>by rw[g1,g2]];exact kp _ _ B.tt fun q=>n3 (q▸by simp only[aj];right;right;right;exact e2)
 ·rw[o8 (v:=fun e=>((am e.1.nm:Key),V.int e.1.mr)) fun x=>by rw[g1,g3]];exact kp _ _ B.mm fun q=>n4 (q▸by simp only[aj];right;right;exact e2)
 ·rw[o8 (v:=fun e=>((am e.1.nm:Key),V.int e.1.ls)) fun x=>by rw[g1,g4]];exact kp _ _ B.ll fun q=>n5 (q▸by simp only[aj];right;exact e2)
 ·rw[o8 (v:=fun e=>((am e.1.nm:Key),V.ref e.2)) fun x=>by rw[g1]];exact B.hh.keep fun o h=>kp _ _ h fun q=>n6 (q▸e2)
 ·intro y hy;obtain⟨x,hx,⟨hn,rfl⟩|⟨hn,rfl⟩⟩:=AJ hy
  ·rw[Ai nd he hx hn];exact hH
  ·have hy2:y.2≠e.2:=fun q=>hn (by rw[y7 (key:=fun x:Ent×ac=>x.2) r6 hx KI q];exact xz he);obtain⟨kvs,hk⟩:∃kvs,H e.2=some (.dK kvs):=by obtain⟨ts,_,q,_⟩:=B.he e KI;exact⟨_,q⟩
   refine(B.he y hx).keep (fun o ho=>kp _ _ ho hy2) fun c o ho x=>kp c o ho fun q=>?_;rw[q,hk] at ho;cases ho;rcases x with⟨xs,z|⟨ob,z⟩⟩<;>cases z
 ·rw[o8 (v:=fun e=>e.2) fun x=>rfl];exact B.nd
section
variable{P:az}{w:aU}{K:aa}{mg:Str->Option ae}{base:ba}{a:Adr}{f:ac}{fd:bJ}
end
def Fa(i j:Int):D7 [V.int i,V.int j] [V.int 0,V.int 1]=decide ((i,j)=((0:Int),(1:Int))):=by show(eqV (.int i) (.int 0)&&(eqV (.int j) (.int 1)&&true))=_;have e1:∀i j:Int,eqV (.int i) (.int j)=decide (i=j):=fun i j=>rfl;rw[e1,e1,Bool.and_true,bQ,bT,decide_eq_true_iff,decide_eq_true_iff,decide_eq_true_iff,Prod.mk.injEq]
def bt0(k:Nat):Bt k 0:=dD k
def bt1{k:Nat}(h:k≠0):Bt k 1:=Nat.one_lt_two_pow h
def sz0:Sz (0,1):=⟨⟨by decide,(rfl:ay 0 1=1)⟩,bt0 _,bt1 (by decide)⟩
theorem HeldZ.same{K:aa}{H H':Hp}{p:ac}{l:Hl}{z:List ((Str×Int×Int)×ac)}(h:HeldZ K H p l z)(s:Same H H'):HeldZ K H' p l z :=
 ⟨h.1,s _ _ h.2.1,fun q hq=>(h.2.2 q hq).same s⟩
def HeldZ.get{K:aa}{H:Hp}{p:ac}{l:Hl}{z:List ((Str×Int×Int)×ac)}(h:HeldZ K H p l z){o:ac}(ho:FrAt K H o (0,1))(n:Str) :
  ∃x,(lX (z.map fun q=>((am q.1.1:Key),V.ref q.2)) (am n)).getD (.ref o)=.ref x/\FrAt K H x (kg l n):=by
 rcases h.val n with⟨_,hv,hg⟩|⟨_,x,hv,hx⟩
 ·exact⟨o,by rw[hv];rfl,by rw[hg];exact ho⟩
 ·exact⟨x,by rw[hv];rfl,hx⟩
def lu(l:Hl)(o:Str)(q:Int×Int):Prop:=¬ 0<q.1\/q.1*(kg l o).2>(kg l o).1*q.2
instance (l:Hl) (o:Str) (q:Int×Int):Decidable (lu l o q):=by unfold lu;infer_instance
section
variable{P:az}{w:aU}{K:aa}{mg:Str->Option ae}{base:ba}{a:Adr}{f:ac}{fd:bJ}
abbrev oT:bM:=mq (top 27) 8
def sc_Book_sale:FnScope ["self","house","one","other","share","held","rest"] ["self","house","one","other","share"] (jS oT):=fsc
structure SaleOk(l:Hl)(o1:Str)(q:Int×Int):Prop where
 len:l.length<1000
 sz:∀n,Sz (kg l n)
 rs:¬lu l o1 q->Sz (kT (kg l o1) (-q.1,q.2))
def zd(K:aa)(a:Adr):Sp:=fun vs H Q E=>∃b z GZ L h o1 o2 sp q,vs=[.ref b,.str h,.str o1,.str o2,.ref sp]/\BookAt K a.Book H b z GZ L/\(L.map (·.1.nm)).Nodup/\Nm h/\Nm o1/\Nm o2/\FrAt K H sp q/\Sz q /\
 (∀e,ly L h=some e->SaleOk e.1.held o1 q) /\
 (lT L h=false->E (.ref a.NoHouse) none H) /\
 (lT L h=true->(lv GZ o1||lT L o1)=false->E (.ref a.NoHolder) none H) /\
 (lT L h=true->(lv GZ o1||lT L o1)=true->(lv GZ o2||lT L o2)=false->E (.ref a.NoHolder) none H) /\
 (∀e,ly L h=some e->(lv GZ o1||lT L o1)=true->(lv GZ o2||lT L o2)=true->lu e.1.held o1 q->E (.ref a.NoShare) none H) /\
 (∀e,ly L h=some e->(lv GZ o1||lT L o1)=true->(lv GZ o2||lT L o2)=true->¬lu e.1.held o1 q->∀H',BookAt K a.Book H' b z GZ (vg L h fun x=>{ x with held:=sold x.held o1 o2 q })->(∀c o,H c=some o->c≠e.2->H' c=some o)->Q .non H')
def Dw(F:Fun K "sale" "Book.sale" oT f fd)(T:Txt K mg a)(Hf:Mt P w K mg base a.Book "need_house" 2 ["self","name"] (lQ K a))(G4:Mt P w K mg base a.Book "need_holder" 3 ["self","name"] (mF K a))(HN:Fn P w K mg base "is_above" 1 ["first","second"] (xl K))(Jp:Fn P w K mg base "minus" 3 ["first","second"] (xj K))(Iv:Fn P w K mg base "plus" 2 ["first","second"] (sM K)) :
  FnOk P w K mg base (CXo P w) 4 f fd ["self","house","one","other","share"] (zd K a):=by
 refine F.okX sc_Book_sale (fun vs H Q E h=>?_) (fun G3 A outer s H vs Q E hr h=>?_)
 ·obtain⟨b,z,GZ,L,h,o1,o2,sp,q,rfl,_⟩:=h;rfl
 ·obtain⟨b,z,GZ,L,h,o1,o2,sp,q,rfl,B,nd,nh,n1,n2,hq,sq,hok,k1,k2,k3,k4,k5⟩:=h;have hu:=lK hr;refine⟨_,(@kf _ _ _ _ _ (@mh _ _ _ _ (pC (pv 0) Hf (hr.mono (by first|decide|omega)) ma (@jZ _ _ _ _ _ (pv 1) pa_nil (by rfl))) (by rfl)) (@kf _ _ _ _ _ (@mh _ _ _ _ (pC (pv 0) G4 (hr.mono (by first|decide|omega)) ma (@jZ _ _ _ _ _ (pv 2) pa_nil (by rfl))) (by rfl)) (@kf _ _ _ _ _ (@mh _ _ _ _ (pC (pv 0) G4 (hr.mono (by first|decide|omega)) ma (@jZ _ _ _ _ _ (pv 3) pa_nil (by rfl))) (by rfl)) (@kf _ _ _ _ _ (@nF _ _ (5) _ _ _ _ sc_Book_sale.nd rfl (dI rfl) (@sT _ _ _ _ _ _ hu (ni (pv 0) rfl) (pv 1) (fun _ _=>rfl)) (by rfl) (by first|exact .inl rfl|exact .inr rfl|assumption)) (@kf _ _ _ _ _ (@qK _ _ _ _ _ _ _ _ (PW.pt (EW (uq (qz (@qL _ _ _ _ _ _ _ _ _ _ _ HN (hr.mono (by first|decide|omega)) rfl ma (@jZ _ _ _ _ _ (pv 4) (@jZ _ _ _ _ _ (mi rfl T.g_ZERO T.r_ZERO) pa_nil (by rfl)) (by rfl)) (by decide) (by rfl) (by rfl)))) (Cc (qz (@qL _ _ _ _ _ _ _ _ _ _ _ HN (hr.mono (by first|decide|omega)) rfl ma (@jZ _ _ _ _ _ (pv 4) (@jZ _ _ _ _ _ (@tX _ _ _ _ _ _ _ _ _ hu (pv 5) (pv 2) (mi rfl T.g_ZERO T.r_ZERO) ⟨rfl,rfl,rfl,rfl⟩) pa_nil (by rfl)) (by rfl)) (by decide) (by rfl) (by rfl)))))) (@km _ _ _ (mf T.x_NoShare rfl T.c_NoShare rfl (yk (sk (pv 2) (ut (sk (pv 1) uu)))) sY)) pss_nil) (@kf _ _ _ _ _ (@nF _ _ (6) _ _ _ _ sc_Book_sale.nd rfl (dI rfl) (@qL _ _ _ _ _ _ _ _ _ _ _ Jp (hr.mono (by first|decide|omega)) rfl ma (@jZ _ _ _ _ _ (@sT _ _ _ _ _ _ hu (pv 5) (pv 2) (fun _ _=>rfl)) (@jZ _ _ _ _ _ (pv 4) pa_nil (by rfl)) (by rfl)) (by decide) (by rfl) (by rfl)) (by rfl) (by first|exact .inl rfl|exact .inr rfl|assumption)) (@kf _ _ _ _ _ (@qK _ _ _ _ _ _ _ _ (@pP _ _ _ _ _ _ _ _ (FT (Nat.lt_of_succ_lt hu)) (pv 6) (mi rfl T.g_ZERO T.r_ZERO) (pR _)) (@km _ _ _ (@mh _ _ _ _ (xu (pv 5) (pv 2) ⟨rfl,rfl,rfl,rfl⟩) (by rfl))) (@km _ _ _ (ou hu (pv 5) (pv 2) (pv 6) rfl))) (@km _ _ _ (ou hu (pv 5) (pv 3) (@qL _ _ _ _ _ _ _ _ _ _ _ Iv (hr.mono (by first|decide|omega)) rfl ma (@jZ _ _ _ _ _ (@tX _ _ _ _ _ _ _ _ _ hu (pv 5) (pv 3) (mi rfl T.g_ZERO T.r_ZERO) ⟨rfl,rfl,rfl,rfl⟩) (@jZ _ _ _ _ _ (pv 4) pa_nil (by rfl)) (by rfl)) (by decide) (by rfl) (by rfl)) rfl))))))))),?_⟩;have bn:∀{m:Str},¬m="people"->¬m="things_of"->¬m="mark_of"->¬m="loss_of"->¬m="held_of"->(bf z).lookup m=none:=fun a b c d e=>pH z a b c d e;refine⟨_,rfl,b,_,_,rfl,B.ob,pH z,_,rfl,b,z,GZ,L,h,rfl,B,nh,fun hh=>?_,fun hh=>k1 hh⟩;refine⟨_,rfl,b,_,_,rfl,B.ob,pH z,_,rfl,b,z,GZ,L,o1,rfl,B,n1,fun h1=>?_,fun h1=>k2 hh h1⟩;refine⟨_,rfl,b,_,_,rfl,B.ob,pH z,_,rfl,b,z,GZ,L,o2,rfl,B,n2,fun h2=>?_,fun h2=>k3 hh h1 h2⟩;cases he:ly L h with
  |none=>unfold lT at hh;unfold ly at he;rw[he] at hh;cases hh
  |some e =>
  have KI:=nD he;have ok:=hok e he;obtain⟨zz,Z⟩:=(B.he e KI).toZ;have Jc:=B.hh.dget h;rw[BU _ he] at Jc;have Il:∀H,FrAt K H a.ZERO (0,1):=fun H=>.inr T.zero;refine⟨_,rfl,b,_,_,_,_,rfl,B.ob,T.cl,T.nA_held_of,re z,_,rfl,_,_,rfl,Jc,?_⟩;refine⟨_,rfl,sp,a.ZERO,q,(0,1),rfl,hq,Il H,sq,sz0,_,rfl,qh (fun h3=>?_) (fun h3=>?_)⟩
  ·have h3:=of_decide_eq_false (nbT h3);exact E6 ⟨_,rfl,⟨o1,rfl,n1⟩,_,rfl,⟨h,rfl,nh⟩,fun y=>k4 e he h1 h2 (.inl (by simp only at h3;omega))⟩
  have q0:0<q.1:=by have:=of_decide_eq_true (nbF h3);simp only at this;omega
  obtain⟨x0,Ku,fx0⟩:=Z.get (Il H) o1;refine⟨_,rfl,_,rfl,e.2,rfl,.inl ⟨_,.inl Z.2.1⟩,_,rfl,_,DGet.k (k:=am o1) Z.2.1,?_⟩;rw[Ku];refine⟨sp,x0,q,_,rfl,hq,fx0,sq,ok.sz o1,_,rfl,qh (fun h4=>?_) (fun h4=>?_)⟩
  ·have h4:=of_decide_eq_true h4;exact⟨_,rfl,⟨o1,rfl,n1⟩,_,rfl,⟨h,rfl,nh⟩,fun y=>k4 e he h1 h2 (.inr h4)⟩
  have h4:¬q.1*(kg e.1.held o1).2>(kg e.1.held o1).1*q.2:=fun z=>h4 (decide_eq_true z);have ntm:¬lu e.1.held o1 q:=fun z=>z.elim (fun y=>y q0) h4;rcases Z.val o1 with⟨_,_,hg⟩|⟨hn,x,hv,hx⟩
  ·exfalso;rw[hg] at h4;simp only at h4;omega
  have Ms:DGet H e.2 (.str o1) (some (.ref x)):=by have:=DGet.k (k:=am o1) Z.2.1;rw[hv] at this;exact this
  refine⟨_,rfl,_,rfl,e.2,_,rfl,Ms,_,rfl,x,sp,_,_,rfl,hx,hq,ok.sz o1,sq,fun r H1 hr0 s1 Kx=>?_⟩;have Z1:=Z.same s1;have Hd:∀H2 l1 z2,HeldZ K H2 e.2 l1 z2->sold e.1.held o1 o2 q=kQ l1 o2 (kT (kg l1 o2) q)->(∀c o,H c=some o->c≠e.2->H2 c=some o)->Sz (kg l1 o2)->l1.length<=e.1.held.length->FrAt K H2 sp q ->
    ES (Ay 5) (Ay 3) (xX (sM K) [] E (CH (BW (Ay 5) (Ay 3) (tC (V.ref a.ZERO))) (CH (Ay 4) EJ))) { nx:=fun x H'=>Q V.non H',rt:=Q } [some (V.ref b),some (V.str h),some (V.str o1),some (V.str o2),some (V.ref sp),some (V.ref e.2),some (V.ref r)] H2:=by
   intro H2 l1 z2 Z2 es kp szl len fq;obtain⟨y,hy,fy⟩:=Z2.get (Il H2) o2;refine⟨_,rfl,e.2,rfl,.inl ⟨_,.inl Z2.2.1⟩,_,rfl,_,DGet.k (k:=am o2) Z2.2.1,?_⟩;rw[hy];refine⟨_,rfl,y,sp,_,_,rfl,fy,fq,szl,sq,fun t ht=>?_⟩;have st:=nE (o:=.tup [.int (kT (kg l1 o2) q).1,.int (kT (kg l1 o2) q).2]) ht;have Z3:=Z2.same st;refine⟨_,rfl,_,rfl,e.2,_,rfl,DPut.k (k:=am o2) Z3.2.1 ?_,?_⟩
   ·rw[af,<-af (f:=(·.1)),Z2.1];exact aZ len (fV ok.len (by decide))
   ·obtain⟨z4,Z4⟩:=Z3.put (n:=o2) (x:=t) (q:=kT (kg l1 o2) q) (SqT.of jR);have kp':∀c o,H c=some o->c≠e.2->(upd (upd H2 t (.tup [.int (kT (kg l1 o2) q).1,.int (kT (kg l1 o2) q).2])) e.2 (.dK (oH (z2.map fun q=>((am q.1.1:Key),V.ref q.2)) (am o2) (.ref t)))) c=some o:=fun c o hc hn=>by rw[jN hn];exact st c o (kp c o hc hn)
    refine k5 e he h1 h2 ntm _ (B.reheld nd he (fun x=>rfl) ?_ kp') kp';show HeldAt K _ e.2 (sold e.1.held o1 o2 q);rw[es];exact Z4.held
  refine⟨_,rfl,r,a.ZERO,_,_,rfl,rfl,SqT.of Kx,.inr T.zero,rfl,rfl,rfl,_,rfl,qh (fun h5=>?_) (fun h5=>?_)⟩
  ·rw[Fa] at h5;have h5:kT (kg e.1.held o1) (-q.1,q.2)=(0,1):=of_decide_eq_true h5;refine⟨_,rfl,e.2,rfl,.inl ⟨_,.inl Z1.2.1⟩,_,rfl,_,am o1,.ref x,Z1.2.1,rfl,hv,?_⟩;obtain⟨z2,Z2⟩:=Z1.drop (n:=o1);refine Hd _ _ z2 Z2 ?_ (fun c o hc hn=>by rw[jN hn];exact s1 c o hc) ?_ (xx _ _) (wA Z1.2.1 (hq.same s1))
   ·unfold sold;simp only[h5,if_true]
   ·rw[lW];by_cases e2:o2=o1
    ·rw[if_pos e2];exact sz0
    ·rw[if_neg e2];exact ok.sz o2
  ·rw[Fa] at h5;have h5:¬kT (kg e.1.held o1) (-q.1,q.2)=(0,1):=fun z=>h5 (decide_eq_true z);refine⟨_,rfl,_,rfl,_,rfl,e.2,_,rfl,DPut.k (k:=am o1) Z1.2.1 ?_,?_⟩
   ·rw[af,<-af (f:=(·.1)),Z.1];exact fV ok.len (by decide)
   ·obtain⟨z2,Z2⟩:=Z1.put (n:=o1) (x:=r) (q:=kT (kg e.1.held o1) (-q.1,q.2)) (SqT.of Kx);refine Hd _ _ z2 Z2 ?_ (fun c o hc hn=>by rw[jN hn];exact s1 c o hc) ?_ ?_ (wA Z1.2.1 (hq.same s1))
    ·unfold sold;simp only[h5,if_false]
    ·rw[kB];by_cases e2:o2=o1
     ·rw[if_pos e2];exact ok.rs ntm
     ·rw[if_neg e2];exact ok.sz o2
    ·have:=congrArg b7 (kK e.1.held o1 (kT (kg e.1.held o1) (-q.1,q.2)));rw[if_pos hn,af,af] at this;exact je this
end
def lz(L:List Ent)(n:Str):Option Ent:=L.find? fun e=>decide (e.nm=n)
def kn(L:List Ent)(n:Str):Bool:=(lz L n).isSome
def x6(L:List Ent)(h:Str)(g:Ent->Ent):List Ent:=L.map fun x=>if x.nm=h then g x else x
def vq(L:List (Ent×ac))(n:Str):(ly L n).map (·.1)=lz (L.map (·.1)) n:=by unfold ly lz;rw[eX];rfl
def ms(L:List (Ent×ac))(n:Str):lT L n=kn (L.map (·.1)) n:=by unfold kn;rw[<-vq];unfold lT ly;rw[bX]
def AK(L:List (Ent×ac))(h:Str)(g:Ent->Ent):(vg L h g).map (·.1)=x6 (L.map (·.1)) h g:=by
 unfold vg x6;rw[aL,aL];refine bC fun x _=>?_;show(if x.1.nm=h then(g x.1,x.2) else x).1=if x.1.nm=h then g x.1 else x.1
 split<;>rfl
def nu(a:Adr)(pp:List Str)(L:List Ent)(x:Str):Option ac:=if qu x=false then some a.NoName else if(lv pp x||kn L x)=true then some a.Twice else none
def qX(a:Adr)(pp:List Str)(L:List Ent)(x:Str):Option ac:=match nu a pp L x with
 |some c=>some c
 |none=>if 6<=pp.length then some a.TooMany else none
def rb(a:Adr)(pp:List Str)(L:List Ent)(x o:Str)(l:Int):Option ac:=match nu a pp L x with
 |some c=>some c
 |none=>if(lv pp o||kn L o)=false then some a.NoHolder else if l<0 then some a.NoLoss else if 8<=L.length then some a.TooMany else none
def sV(a:Adr)(pp:List Str)(L:List (Ent×ac))(x:Str):nj a pp L x=nu a pp (L.map (·.1)) x:=by unfold nj nu;rw[ms]
def sS(a:Adr)(pp:List Str)(L:List (Ent×ac))(x:Str):pQ a pp L x=qX a pp (L.map (·.1)) x:=by unfold pQ qX;rw[sV];try (cases nu a pp (L.map (·.1)) x<;>rfl)
def tw(a:Adr)(pp:List Str)(L:List (Ent×ac))(x o:Str)(l:Int):nJ a pp L x o l=rb a pp (L.map (·.1)) x o l:=by unfold nJ rb;rw[sV,ms,af];try (cases nu a pp (L.map (·.1)) x<;>rfl)
noncomputable instance (x:Str):Decidable (Nm x):=cE _
def lI(vs:List PV)(s:Sto)(k:Nat->List Str->List Ent->List PV->Out PV):Out PV:=match vs with
 |.ref n::r=>match s.get n with
  |some (.book pp L)=>k n pp L r
  |_=>.bad
 |_=>.bad
def pA(a:Adr)(vs:List PV)(s:Sto):Out PV:=lI vs s fun n pp L r=>match r with
 |[.str x]=>if Nm x then(match qX a pp L x with
  |none=>.ok .non (s.set n (.book (pp++[x]) L))
  |some c=>.ex c s) else .bad
 |_=>.bad
def rh(a:Adr)(vs:List PV)(s:Sto):Out PV:=lI vs s fun n pp L r=>match r with
 |[.str x,.str o,.int t,.int m,.int l]=>if Nm x/\Nm o then(match rb a pp L x o l with
  |none=>.ok .non (s.set n (.book pp (L++[⟨x,t,m,l,[(o,1,1)]⟩])))
  |some c=>.ex c s) else .bad
 |_=>.bad
def frP(q:Int×Int):PV:=.tup [.int q.1,.int q.2]
def wx(q:Str×Int×Int):PV:=.tup [.str q.1,frP q.2]
def ze(l:List (Str×Int×Int)):PV:=.lst ((srt (l.map (·.1))).map fun n=>wx (kL l n))
def pz(a:Adr)(vs:List PV)(s:Sto):Out PV:=lI vs s fun _ _ L r=>match r with
 |[.str x]=>if Nm x then(match lz L x with
  |none=>.ex a.NoHouse s
  |some e=>if e.held.length<64 then .ok (ze e.held) s else .bad) else .bad
 |_=>.bad
def mX(_:Adr)(vs:List PV)(s:Sto):Out PV:=lI vs s fun _ _ L r=>match r with
 |[.str x]=>.ok (.bl (kn L x)) s
 |_=>.bad
def kS(a:Adr)(vs:List PV)(s:Sto):Out PV:=lI vs s fun _ _ L r=>match r with
 |[.str x]=>if Nm x then(if kn L x=true then .ok .non s else .ex a.NoHouse s) else .bad
 |_=>.bad
structure SaleE(L:List Ent)(h o1 o2:Str)(q:Int×Int):Prop where
 nd:(L.map (·.nm)).Nodup
 nm:Nm h/\Nm o1/\Nm o2
 sz:Sz q
 ok:∀e,lz L h=some e->SaleOk e.held o1 q
noncomputable instance (L:List Ent) (h o1 o2:Str) (q:Int×Int):Decidable (SaleE L h o1 o2 q):=cE _
def qG(a:Adr)(vs:List PV)(s:Sto):Out PV:=lI vs s fun n pp L r=>match r with
 |[.str h,.str o1,.str o2,.tup [.int t,.int b]]=>if SaleE L h o1 o2 (t,b) then(match lz L h with
  |none=>.ex a.NoHouse s
  |some e=>if(lv pp o1||kn L o1)=false then .ex a.NoHolder s else if(lv pp o2||kn L o2)=false then .ex a.NoHolder s
   else if lu e.held o1 (t,b) then .ex a.NoShare s else .ok .non (s.set n (.book pp (x6 L h fun x=>{ x with held:=sold x.held o1 o2 (t,b) })))) else .bad
 |_=>.bad
section
variable{K:aa}{H:Hp}{m:Mp}{s:Sto}{a:Adr}
def GQ{CB:ac}(S:SR K CB H m s){n:Nat}{pp LM:List Str}{L:List Ent}{L' L2:List (Ent×ac)}{z:BA}{H':Hp}(hg:s.get n=some (.book pp L))(eF:m.fp n=BFp (m.ad n) z L')(B':BookAt K CB H' (m.ad n) z LM L2)(k:∀a o,H a=some o->a∉BFp (m.ad n) z L'->H' a=some o)(HP:∀a∈BFp (m.ad n) z L2,a∈BFp (m.ad n) z L'\/H a=none) :
  SR K CB H' (m.fput n (BFp (m.ad n) z L2)) (s.set n (.book LM (L2.map (·.1))))/\Ext H m s H' (m.fput n (BFp (m.ad n) z L2)) (s.set n (.book LM (L2.map (·.1)))) :=
 S.put hg (by intro _ z;cases z) H' _ (by rw[eF];exact k) (by rw[eF];exact HP) fun _=>⟨z,L2,B',rfl,by show(if n=n then _ else _)=_;rw[if_pos rfl];rfl⟩
def onB{CB:ac}(S:SR K CB H m s){xs:List V}{vs:List PV}{k:Nat->List Str->List Ent->List PV->Out PV}{E:XK}{Q:VK}(r:Reps K H m s xs vs)(P:Post K CB (Rep K) E (lI vs s k) H m s Q) :
  ∃n pp L z L' us ys,s.get n=some (.book pp L)/\BookAt K CB H (m.ad n) z pp L'/\L'.map (·.1)=L/\m.fp n=BFp (m.ad n) z L'/\xs=.ref (m.ad n)::us/\Reps K H m s us ys/\Post K CB (Rep K) E (k n pp L ys) H m s Q:=by
 unfold lI at P;split at P
 ·rename_i n r';split at P
  ·rename_i pp L hg;obtain⟨z,L',B,e1,e2⟩:=S.get hg;cases r with
   |cons r1 r2 =>
    cases r1;exact⟨n,pp,L,z,L',_,_,hg,B,e1,e2,rfl,r2,P⟩
  ·exact P.elim
 ·exact P.elim
def DZ{L:List (Ent×ac)}{b:ac}{z:BA}{e:Ent×ac}(h:e∈L):e.2∈BFp b z L:=by unfold BFp;simp only[aj];right;right;right;right;right;right;exact ai.mpr ⟨e,h,rfl⟩
def AI(L:List (Ent×ac))(h:Str)(g:Ent->Ent):(vg L h g).map (·.2)=L.map (·.2):=by unfold vg;rw[aL];refine bC fun x _=>?_;show(if x.1.nm=h then(g x.1,x.2) else x).2=x.2;split<;>rfl
def C6(b:ac)(z:BA)(L:List (Ent×ac))(h:Str)(g:Ent->Ent):BFp b z (vg L h g)=BFp b z L:=by unfold BFp;rw[AI]
def sU{us:List V}{x:Str}(r:Reps K H m s us [.str x]):us=[.str x]:=by
 cases r with
 |cons a b=>cases a;cases b;rfl
def xZ(vs:List V)(H:Hp)(Q:VK)(E:XK)(h:spD K a.Book 2 (pA a) vs H Q E):ve K a vs H Q E:=by
 obtain⟨_,ps,s,m,r,S,P⟩:=h;obtain⟨n,pp,L,z,L',us,ys,hg,B,e1,e2,rfl,r',P⟩:=onB S r P;split at P
 ·split at P
  ·rename_i x hx;cases sU r';refine⟨_,z,pp,L',x,rfl,B,hx,fun hd H' B' k=>?_,fun c hd H' k=>?_⟩
   ·rw[sS,e1] at hd;rw[hd] at P;obtain⟨S2,x2⟩:=GQ S hg e2 B' (fun c o h hc=>k c o h fun z=>hc (by rw[z];simp[BFp])) (fun c hc=>.inl hc);rw[e1] at S2 x2;exact P _ _ _ x2 S2 .non
   ·rw[sS,e1] at hd;rw[hd] at P;exact P _ m (.same k) (S.same k)
  ·exact P.elim
 ·exact P.elim
def zO(vs:List V)(H:Hp)(Q:VK)(E:XK)(h:spD K a.Book 6 (rh a) vs H Q E):xk K a vs H Q E:=by
 obtain⟨_,ps,s,m,r,S,P⟩:=h;obtain⟨n,pp,L,z,L',us,ys,hg,B,e1,e2,rfl,r',P⟩:=onB S r P;split at P
 ·split at P
  ·rename_i x o t mm l hx;cases r' with
   |cons q1 r'=>cases r' with
    |cons q2 r'=>cases r' with
     |cons q3 r'=>cases r' with
      |cons q4 r'=>cases r' with
       |cons q5 r' =>
        cases r';cases q1;cases q2;cases q3;cases q4;cases q5;refine⟨_,z,pp,L',x,o,t,mm,l,rfl,B,hx.1,hx.2,fun hd p H' hp B' k=>?_,fun c hd H' k=>?_⟩
        ·rw[tw,e1] at hd;rw[hd] at P;obtain⟨S2,x2⟩:=GQ S hg e2 B' (fun c o h hc=>k c o h fun z=>hc (by unfold BFp;simp only[aj,fH,or_false] at z ⊢;rcases z with z|z|z|z<;>simp[z])) (fun c hc=>by
          unfold BFp at hc ⊢;rw[ax] at hc;simp only[aj,aA,aG,da,fH,or_false] at hc ⊢;rcases hc with h|h|h|h|h|h|h|h
          ·exact .inl (.inl h)
          ·exact .inl (.inr (.inl h))
          ·exact .inl (.inr (.inr (.inl h)))
          ·exact .inl (.inr (.inr (.inr (.inl h))))
          ·exact .inl (.inr (.inr (.inr (.inr (.inl h)))))
          ·exact .inl (.inr (.inr (.inr (.inr (.inr (.inl h))))))
          ·exact .inl (.inr (.inr (.inr (.inr (.inr (.inr h))))))
          ·rw[h];exact .inr hp)
         rw[ax,e1] at S2 x2;exact P _ _ _ x2 S2 .non
        ·rw[tw,e1] at hd;rw[hd] at P;exact P _ m (.same k) (S.same k)
  ·exact P.elim
 ·exact P.elim
def tF{L':List (Ent×ac)}{L:List Ent}{x:Str}(e:L'.map (·.1)=L):(∀q,ly L' x=some q->lz L x=some q.1)/\(ly L' x=none->lz L x=none):=by have:=vq L' x;rw[e] at this;refine⟨fun q h=>?_,fun h=>?_⟩<;>(rw[h] at this;exact this.symm)
theorem vj:∀{l:List (Str×Int×Int)}{vs:List V}{m:Mp}{s:Sto}{CB:ac}{H:Hp},SR K CB H m s->eM (PairAt K H) l vs->Reps K H m s vs (l.map wx)
 |_,_,_,_,_,_,_,.nil=>.nil
 |_,_,m,s,CB,H,S,.cons r t=>by obtain⟨p,q,rfl,h1,h2⟩:=r;have tp:∀{c:ac}{xs:List V},SqT K H c xs->(Rd H c (.tup xs)/\Pur m s c\/KT' K c xs):=fun h=>h.elim (fun z=>.inl ⟨z,z.elim (fun z=>S.pure_tup z) fun⟨_,z⟩=>S.pure_frz (.inl z)⟩) .inr;exact .cons (.tup (tp h1) (.cons .str (.cons (.tup (tp h2) (.cons .int (.cons .int .nil))) .nil))) (vj S t)
def xY(vs:List V)(H:Hp)(Q:VK)(E:XK)(h:spD K a.Book 2 (pz a) vs H Q E):vd K a vs H Q E:=by
 obtain⟨_,ps,s,m,r,S,P⟩:=h;obtain⟨n,pp,L,z,L',us,ys,hg,B,e1,e2,rfl,r',P⟩:=onB S r P;split at P
 ·split at P
  ·rename_i x hx;cases sU r';obtain⟨f1,f2⟩:=tF (x:=x) e1;refine⟨_,z,pp,L',x,rfl,B,hx,fun e he=>?_,fun he=>?_⟩
   ·rw[f1 e he] at P;dsimp only at P;split at P
    ·rename_i IU;refine⟨IU,fun l K5 H' hl k h' pr=>?_⟩;have S':=S.same k;refine P _ H' m (.same k) S' (.lst h' ?_ ?_)
     ·have:=S.pure_none hl;exact this
     ·have:=vj (m:=m) (s:=s) S' pr;rw[aL] at this;exact this
    ·exact P.elim
   ·rw[f2 he] at P;exact P H m .refl S
  ·exact P.elim
 ·exact P.elim
def vJ(vs:List V)(H:Hp)(Q:VK)(E:XK)(h:spD K a.Book 2 (mX a) vs H Q E):mZ K a.Book vs H Q E:=by
 obtain⟨_,ps,s,m,r,S,P⟩:=h;obtain⟨n,pp,L,z,L',us,ys,hg,B,e1,e2,rfl,r',P⟩:=onB S r P;split at P
 ·rename_i x;cases sU r';refine⟨_,z,pp,L',x,rfl,B,?_⟩;rw[ms,e1];exact P.here S .bl
 ·exact P.elim
def sE(vs:List V)(H:Hp)(Q:VK)(E:XK)(h:spD K a.Book 2 (kS a) vs H Q E):lQ K a vs H Q E:=by
 obtain⟨_,ps,s,m,r,S,P⟩:=h;obtain⟨n,pp,L,z,L',us,ys,hg,B,e1,e2,rfl,r',P⟩:=onB S r P;split at P
 ·split at P
  ·rename_i x hx;cases sU r';refine⟨_,z,pp,L',x,rfl,B,hx,fun h=>?_,fun h=>?_⟩
   ·rw[ms,e1] at h;rw[if_pos h] at P;exact P.here S .non
   ·rw[ms,e1] at h;rw[if_neg (by rw[h];decide)] at P;exact P H m .refl S
  ·exact P.elim
 ·exact P.elim
def AF(vs:List V)(H:Hp)(Q:VK)(E:XK)(h:spD K a.Book 5 (qG a) vs H Q E):zd K a vs H Q E:=by
 obtain⟨_,ps,s,m,r,S,P⟩:=h;obtain⟨n,pp,L,z,L',us,ys,hg,B,e1,e2,rfl,r',P⟩:=onB S r P;split at P
 ·split at P
  ·rename_i h o1 o2 t b hs;cases r' with
   |cons q1 r'=>cases r' with
    |cons q2 r'=>cases r' with
     |cons q3 r'=>cases r' with
      |cons q4 r' =>
       cases r';cases q1;cases q2;cases q3;obtain⟨p,ws,rfl,ht,HG⟩:=q4.tp;cases HG with
       |cons w1 w2=>cases w2 with
        |cons w2 w3 =>
         cases w3;cases w1;cases w2;obtain⟨f1,f2⟩:=tF (x:=h) e1;have hh:lT L' h=(lz L h).isSome:=by rw[ms,e1];rfl
         have h1:(lv pp o1||lT L' o1)=(lv pp o1||kn L o1):=by rw[ms,e1]
         have h2:(lv pp o2||lT L' o2)=(lv pp o2||kn L o2):=by rw[ms,e1]
         refine⟨_,z,pp,L',h,o1,o2,p,(t,b),rfl,B,by rw[show L'.map (fun x=>x.1.nm)=L.map (·.nm) by rw[<-e1,aL];rfl];exact hs.nd,hs.nm.1,hs.nm.2.1,hs.nm.2.2,ht,hs.sz,fun e he=>hs.ok _ (f1 e he),fun q=>?_,fun q g1=>?_,fun q g1 g2=>?_,fun e he g1 g2 g3=>?_,fun e he g1 g2 g3 H' B' k=>?_⟩
         ·rw[hh] at q;cases c:lz L h with
          |none=>rw[c] at P;exact P H m .refl S
          |some e=>rw[c] at q;cases q
         ·rw[hh] at q;cases c:lz L h with
          |none=>rw[c] at q;cases q
          |some e=>rw[c] at P;dsimp only at P;rw[if_pos (by rw[<-h1];exact g1)] at P;exact P H m .refl S
         ·rw[hh] at q;cases c:lz L h with
          |none=>rw[c] at q;cases q
          |some e=>rw[c] at P;dsimp only at P;rw[if_neg (by rw[<-h1,g1];decide),if_pos (by rw[<-h2];exact g2)] at P;exact P H m .refl S
         ·rw[f1 e he] at P;dsimp only at P;rw[if_neg (by rw[<-h1,g1];decide),if_neg (by rw[<-h2,g2];decide),if_pos g3] at P;exact P H m .refl S
         ·rw[f1 e he] at P;dsimp only at P;rw[if_neg (by rw[<-h1,g1];decide),if_neg (by rw[<-h2,g2];decide),if_neg g3] at P;obtain⟨S2,x2⟩:=GQ S hg e2 B' (fun c o hc hn=>k c o hc fun z=>hn (by rw[z];exact DZ (nD he))) (fun c hc=>.inl (by rw[C6] at hc;exact hc));rw[AK,e1] at S2 x2;exact P _ _ _ x2 S2 .non
  ·exact P.elim
 ·exact P.elim
theorem Mt.imp{P:az}{w:aU}{mg:Str->Option ae}{base:ba}{C:ac}{mm:Str}{k:Nat}{ps:List Str}{sp Kg:Sp}(M:Mt P w K mg base C mm k ps sp)(h:∀vs H Q E,Kg vs H Q E->sp vs H Q E):Mt P w K mg base C mm k ps Kg :=
 let⟨f,fd,F,b⟩:=M;⟨f,fd,F.imp h,b⟩
noncomputable instance (q:Int×Int):Decidable (Sz q):=cE _
end
end My
namespace L2
open PySem PySem.Spec PyProof.Rows
def NOw(u:HO):Prop:=∀o x,u≠.frz o (.own x)
section
variable{K:aa}{CB:ac}{H H':Hp}{m:Mp}{s:Sto}
mutual
theorem Rep.now(k:∀a u,H a=some u->NOw u->H' a=some u):∀{v:V}{p:PV},Rep K H m s v p->Rep K H' m s v p
 |_,_,.non=>.non
 |_,_,.bl=>.bl
 |_,_,.int=>.int
 |_,_,.str=>.str
 |_,_,.tup h r=>.tup (h.imp (fun z=>⟨z.1.imp (fun h=>k _ _ h (by intro _ _ z;cases z)) fun⟨o,h⟩=>⟨o,k _ _ h (by intro _ _ z;cases z)⟩,z.2⟩) fun z=>z) (Reps.now k r)
 |_,_,.lst h p r=>.lst (k _ _ h (by intro _ _ z;cases z)) p (Reps.now k r)
 |_,_,.seq h r=>.seq (h.imp (fun⟨⟨o,z⟩,p⟩=>⟨⟨o,k _ _ z (by intro _ _ z;cases z)⟩,p⟩) fun z=>z) (Reps.now k r)
 |_,_,.dct h p r=>.dct (h.imp (fun h=>k _ _ h (by intro _ _ z;cases z)) fun⟨o,h⟩=>⟨o,k _ _ h (by intro _ _ z;cases z)⟩) p (RepKs.now k r)
 |_,_,.ref h=>.ref h
 |_,_,.exc h p=>.exc (k _ _ h (by intro _ _ z;cases z)) p
 |_,_,.clo r=>.clo (Reps.now k r)
theorem Reps.now(k:∀a u,H a=some u->NOw u->H' a=some u):∀{v:List V}{p:List PV},Reps K H m s v p->Reps K H' m s v p
 |_,_,.nil=>.nil
 |_,_,.cons a b=>.cons (Rep.now k a) (Reps.now k b)
theorem RepKs.now(k:∀a u,H a=some u->NOw u->H' a=some u):∀{v:List (Key×V)}{p:List (Key×PV)},RepKs K H m s v p->RepKs K H' m s v p
 |_,_,.nil=>.nil
 |_,_,.cons a b=>.cons (Rep.now k a) (RepKs.now k b)
end
variable{cs:List (ac×Obj)}
end
def Fro(H H':Hp):Prop:=∀a o u,H a=some (.frz o u)->H' a=some (.frz o u)
structure CloC(P:az)(w:aU)(K:aa)(mg:Str->Option ae)(base:ba)(k:Nat)(CB f:ac)(vs:List V)(H:Hp)(dr:List PV->PV->Sto->Out PV):Prop where
 ex:∃of fd0 fd ps sp,H f=some (fzO of)/\of.data=.func fd0/\FnOk P w K mg base (CXo P w) k f fd ps sp/\Binds K fd ps [] /\
  ∀H' m s v p l Q,Fro H H'->SR K CB H' m s->Reps K H' m s vs l->Rep K H' m s v p->Post K CB (Rep K) E0 (dr l p s) H' m s Q->sp [v] H' Q E0
open Classical in
section
variable{X:Cx}{CB:ac}{E:XK}{k i:Nat}{x:Str}{p pos:Pos}{e:aN}{g:XE}{f:ac}{vs:List V}{dr:List PV->PV->Sto->Out PV}
end
open Classical in
section
variable{X:Cx}{CB:ac}{E:XK}{k kb:Nat}{fn y q:Str}{p pos lpos:Pos}{g:XE}{params:iG}{body:aN}{scope:cA}{fr:List Str}{ix:List Nat}{cd P:ac}{D:ac->List V->(List PV->PV->Sto->Out PV)->XF}{pn:Str}
end
section
variable{X:Cx}{CB:ac}{E:XK}{a b c e Hk iter tg:aN}{es He:List aN}{f g h:XE}{fa fi:XA}{t:XT}{p px pos Hg G0 GY:Pos}{x:Str}{st:bM}{lY Ip Io:List bM}{u v:XS}{scope:cA}{fr:List Str}{ix:List Nat}
def yS(f:XE)(ρ:En)(s:Sto):Out PV:=(f ρ s).bind fun v s1=>match v with
 |.ref n=>match s1.get n with
  |some (.lst _)=>.ok .non (s1.set n (.lst []))
  |_=>.bad
 |_=>.bad
def BD(ho:DE X CB E a f)(Hj:cy a "clear" X.env (eval a X.env)=eval a X.env:=by rfl)(Hi:(G0.endLine==GY.line)=true:=by rfl):DE X CB E (.Call (.Attribute a "clear" G0) [] [] GY) (yS f) :=
 ⟨(Ch fj jm PySem.F.type_list_clear Bj ho.pe Hj Hi).mono fun σ H Q ⟨ρ,s,m,er,S,P⟩=>⟨ρ,s,m,er,S,P.bind fun v s1 u H1 m1 e1 S1 r1 P1=>by
  split at P1
  ·split at P1
   ·rename_i n _ _ hg;obtain⟨_,ID,h0,_⟩:=S1.get hg;cases r1 with
    |ref hn =>
    obtain⟨S3,e3⟩:=S1.putL (l':=[]) (vs':=[]) hg .nil;exact⟨.inl ⟨rfl,ID,SqL.of h0⟩,_,ID,rfl,rfl,h0,P1 _ _ _ e3 S3 .non⟩
   ·exact P1.elim
  ·exact P1.elim⟩⟩
end
section
variable{prog:az}{w:aU}{A:bx}{R:iD->ah->Prop}{I:ac}{fp wr:List ac}{G:Array jb->Array jb->Prop}{n:Nat}{P:Nat->ae->Prop}{St:Nat->ah->Prop}
end
section
variable{prog:az}{w:aU}{A:bx}{E:ae->ah->Prop}{s:ah}
end
section
variable{X:Cx}{x y:Str}{p q pos LN:Pos}{e:aN}{te:TE}
end
section
variable{X:Cx}{e st:aN}{te:TE}{ts:TO}{pos p2:Pos}
end
section
variable{X:Cx}{CB:ac}{E:XK}{a b c e st:aN}{es:List aN}{f g h:XE}{fa:XA}{t:XT}{p q p2 pos LN:Pos}{x y:Str}
end
section
variable{X:Cx}{Hk iter tg:aN}{He:List aN}{pos:Pos}{scope:cA}{wi:TI}{tc:TT}{te:TE}{gt:TG}{xs fr:List Str}{ix:List Nat}
def wM{i:Nat}{y:Str}{py HF:Pos}(hN:X.N.Nodup)(JO:X.N[i]?=some y)(Jj:X.env.scope.names.lookup y=some .local)(hc:X.calm=true)(S:CompOkG X.N X.env.scope scope xs fr ix)(hi:PI X tg iter wi)(hg:∀cl C G2 G5 fp,PG (blk X scope cl C (xs++fr) G2 G5 fp) tg gt)(ht:∀cl C G2 G5 fp,zL (blk X scope cl C (xs++fr) G2 G5 fp) He tc)(he:∀cl C G2 G5 fp,PE (blk X scope cl C (xs++fr) G2 G5 fp) Hk te)(JG:cW (.ListComp Hk [⟨tg,iter,He,0⟩] scope pos) (some (.Name y py)) HF.line X.env=pure true:=by rfl)(hs:∀v,bY iter X.env v=pure v:=by intro _;rfl):PS X (.Assign [.Name y py] (.ListComp Hk [⟨tg,iter,He,0⟩] scope pos) HF) (EO (BX wi ix gt xs.length tc te) (yH i)):=by
 intro GX s σ H D0 I h;have G7:∀y∈scope.names,y.2=.free->∃c,X.env.cells.lookup y.1=some c:=fun y hy hf=>I.ok.has y.1 (.inl (S.free y hy hf));rw[exec_Assign_Name_used _ _ _ _ JG];refine ao (eQ (ao ?_));show aP _ X.A (do let _ <-comprehension (.ListComp Hk [⟨tg,iter,He,0⟩] scope pos) scope X.env _ (newList []) false (eval iter X.env) (some (assign (.Name y py) X.env))) _ _ s;refine ao (bo (fR (use:=some (assign (.Name y py) X.env)) (Q:=fun _ s'=>SP X GX D0 .next s') rfl hs (nk G7) S.kind S.nm
  (thn (hi GX s σ H _ I h) fun v s1 h1=>thn h1 fun Ko s2 h2=>?_)) (fun _ s' hq=>aH (aH hq)) fun _ _ e=>e)
 obtain⟨it,fp,tn,J,H2,e,I2,T,Ir,f2,q2⟩:=h2;subst e;refine tP (PR:=fun Ha C r s'=>compPost (model X.prog X.w) X.A X.xe (some (assign (.Name y py) X.env)) (fun _ s'=>SP X GX D0 .next s') Ha C r s') hc S hg ht he G7 I2 T Ir f2 q2 fun D C H' s' I' KW ⟨b1,b2,b3,b4⟩ Is q'=>?_;obtain⟨m',IK⟩:=Is;refine ie (rn (v:=.ref D) I' hN JO (.inl Jj) rfl (fun s5 I5 sb=>?_) (.inr Jj));obtain⟨a5,sb,MH⟩:=sb;have ML:C≠a5:=by
  rcases MH with z|z
  ·rw[z];exact b1
  ·exact(b3 _ _ z).symm
 refine⟨m',IK.sameBut sb ML,fun h' Kw=>⟨_,H',?_,q'⟩⟩;exact I5.turned (t':=s5.toks) (it:=C) (fun b o hb e=>Kw.extBut b o hb e) KW b1 (.inr b2) b3 b4
end
def wy(q:PV)(s:Sto):Option (PV×PV):=match q with
 |.tup [p1,p2]=>some (p1,p2)
 |_=>none
def y2:XG:=yTup 2 (yCons (yName 0) (yCons (yName 1) yNil))
def y2_of{q p1 p2:PV}{s:Sto}{cap:En}(h:wy q s=some (p1,p2)):y2 q (none::none::cap) s=some (some p1::some p2::cap):=by
 unfold wy at h;split at h
 ·cases h;rfl
 ·cases h
def ln(c:XT)(e:XE)(cap:En):List PV->Sto->Out (List PV)
 |[],s=>.ok [] s
 |q::l,s=>match wy q s with
  |none=>.bad
  |some p=>match c (some p.1::some p.2::cap) s with
   |.ok true s1=>match e (some p.1::some p.2::cap) s1 with
    |.ok v s2=>match ln c e cap l s2 with
     |.ok vs s3=>.ok (v::vs) s3
     |_=>.bad
    |_=>.bad
   |.ok false s1=>ln c e cap l s1
   |_=>.bad
def rV{c:XT}{e:XE}{cap:En}{q:PV}{l:List PV}{s:Sto}:ln c e cap (q::l) s=match wy q s with
  |none=>.bad
  |some p=>match c (some p.1::some p.2::cap) s with
   |.ok true s1=>match e (some p.1::some p.2::cap) s1 with
    |.ok v s2=>match ln c e cap l s2 with
     |.ok vs s3=>.ok (v::vs) s3
     |_=>.bad
    |_=>.bad
   |.ok false s1=>ln c e cap l s1
   |_=>.bad:=rfl
theorem vA{c:XT}{e:XE}{cap:En}:∀{l:List PV}{s s':Sto}{k:ac},ln c e cap l s≠.ex k s'
 |[],_,_,_,h=>by cases h
 |q::l,s,s',k,h=>by
  unfold ln at h;split at h
  ·cases h
  ·split at h
   ·split at h
    ·split at h<;>cases h
    ·cases h
   ·exact vA h
   ·cases h
def sj(fi:XA)(ix:List Nat)(c:XT)(e:XE)(ρ:En)(s:Sto):Out PV:=(fi ρ s).bind fun l s1=>if l.length<=100000 then(ln c e (lA ix ρ) l s1).bind fun vs s2=>.ok (.lst vs) s2 else .bad
section
variable{X:Cx}{CB:ac}{E:XK}{Hk iter tg:aN}{He:List aN}{f:XE}{fi:XA}{t:XT}{pos:Pos}{scope:cA}{xs fr:List Str}{ix:List Nat}
def ER.weak2{K:aa}{H:Hp}{m:Mp}{s:Sto}{σ:St}{p1 p2:PV}{cap:En}(h:ER K H m s σ (some p1::some p2::cap)):ER K H m s σ (none::none::cap) :=
 ⟨h.len,fun i p q=>by
  match i,q with
  |0,q=>cases q
  |1,q=>cases q
  |i+2,q=>exact h.at_ (i+2) p q⟩
def ER.none2{K:aa}{H:Hp}{m:Mp}{s:Sto}{σ:St}{cap:En}(h:ER K H m s σ cap):ER K H m s (aK 2 none++σ) (none::none::cap) :=
 ⟨by have:=h.len;simp at this ⊢;omega,fun i p q=>by
  match i,q with
  |0,q=>cases q
  |1,q=>cases q
  |i+2,q=>exact h.at_ i p q⟩
def Cmp.env{K:aa}{D:ac}{H1 H2:Hp}{m1 m2:Mp}{s1 s2:Sto}{cap K4:St}{ρ ρ':En}{ys:List V}{done:List PV}(C:Cmp K CB D H1 m1 s1 cap ρ ys done H2 m2 s2)(er:ER K H2 m2 s2 K4 ρ'):Cmp K CB D H1 m1 s1 K4 ρ' ys done H2 m2 s2:=⟨C.hid,C.at_,C.sr,er,C.rs,C.ex,C.e0⟩
def Al{σ:St}{H1:Hp}{m1:Mp}{s1:Sto}{ρ:En}{J:It}{l:List PV}{D:ac}{Q:VK}{t:XT}(S1:SR X.K CB H1 m1 s1)(er:ER X.K H1 m1 s1 σ ρ)(it:mQ X.K CB J l H1 m1 s1)(hD:H1 D=none)(G1:l.length<=100000)(P:Post X.K CB (Rep X.K) E ((ln t f (lA ix ρ) l s1).bind fun vs s2=>.ok (.lst vs) s2) H1 m1 s1 Q):wI J (TDG X.K CB y2) 2 (TDT X.K CB E0 t) (TDE X.K CB E0 f) (capt ix σ) D H1 Q:=by
 refine⟨fun i k ys σ2 H2=>∃done m2 s2,Cmp X.K CB D H1 m1 s1 σ2 (none::none::lA ix ρ) ys done H2 m2 s2/\i<=l.length/\ys.length<=i/\k=l.length-i/\(ln t f (lA ix ρ) l s1).bind (fun vs s2=>.ok (PV.lst vs) s2)=(ln t f (lA ix ρ) (l.drop i) s2).bind fun vs s2=>.ok (.lst (done++vs)) s2,⟨l.length,[],m1.hide D,s1,(Cmp.start S1 (er.capt ix) hD).env ((er.capt ix).none2.ext0 (Ext0.hide hD).toExtR),a6 _,a6 _,rfl,?_⟩,?_⟩
 ·simp
 rintro i k ys σ2 H2 ⟨done,m2,s2,C,hi,hy,rfl,eq⟩
 obtain⟨Kq,Kp⟩:=it i H2 m2 s2 C.e0 C.sr;by_cases Hs:i<l.length
 ·right;have hq:l[i]?=some l[i]:=bc Hs;obtain⟨go,yl⟩:=Kq _ hq;refine⟨go,fun x H3 L7=>?_⟩;obtain⟨e3,S3,r3⟩:=yl x H3 L7;have C3:=C.step hD e3 S3;rw[fc Hs] at eq;rw[eq] at P;rw[rV] at P eq;cases hp:wy l[i] s2 with
  |none=>rw[hp] at P;exact P.elim
  |some pq =>
   obtain⟨p1,p2⟩:=pq;rw[hp] at P eq;dsimp only at P eq;refine⟨_,s2,m2,l[i],_,C3.er,S3,r3,y2_of hp,fun σ3 IV=>?_⟩;have C3:=C3.env IV;refine⟨_,s2,m2,IV,S3,?_⟩;cases ct:t (some p1::some p2::lA ix ρ) s2 with
   |bad=>rw[ct] at P;exact P.elim
   |ex c3 s3=>rw[ct] at P;exact P.elim
   |ok bt s3 =>
    rw[ct] at P eq;intro b4 H4 m4 e4 S4 hb;subst hb;have C4:=C3.step hD e4 S4;cases b4 with
    |false =>
     exact E7 ⟨l.length-(i+1),by omega,done,m4,s3,C4.env C4.er.weak2,Hs,by omega,rfl,eq⟩
    |true =>
     refine E6 ⟨_,s3,m4,C4.er,S4,?_⟩;dsimp only at P eq;cases cf:f (some p1::some p2::lA ix ρ) s3 with
     |bad=>rw[cf] at P;exact P.elim
     |ex c5 s5=>rw[cf] at P;exact P.elim
     |ok v s5 =>
      rw[cf] at eq;intro w H5 m5 e5 S5 r5;have C5:=C4.step hD e5 S5;refine⟨C5.at_,aZ (aC hy (aC hi G1)) (by decide),l.length-(i+1),by omega,done++[v],m5,s5,(C5.push hD r5).env (C5.push hD r5).er.weak2,Hs,by simp;omega,rfl,?_⟩;rw[eq];dsimp only;cases hh:ln t f (lA ix ρ) (l.drop (i+1)) s5 with
      |ok vs s6=>simp[Out.bind]
      |ex c6 s6=>exact absurd hh vA
      |bad=>rfl
 ·left;have Ik:l.length<=i:=ei Hs;rw[fP Ik] at eq;rw[eq] at P;unfold ln at P;obtain⟨M4,rd⟩:=C.done;refine⟨Kp Ik,C.at_,P (.ref D) H2 (m2.bare m1.hid) C.ex M4 ?_⟩;rw[cB];exact rd fun z=>(S1.hs D z).1 hD
def wX{σ:St}{H:Hp}{Q:VK}{t:XT}(q:TDE X.K CB E (sj fi ix t f) σ H Q):BX (TDI X.K CB E fi) ix (TDG X.K CB y2) 2 (TDT X.K CB E0 t) (TDE X.K CB E0 f) σ H Q:=by
 obtain⟨ρ,s,m,er,S,P⟩:=q;refine⟨ρ,s,m,er,S,?_⟩;unfold sj at P;cases c:fi ρ s with
 |bad=>rw[c] at P;exact P
 |ex c' s'=>rw[c] at P;exact P
 |ok l s1 =>
  rw[c] at P;dsimp only[Out.bind] at P;split at P
  ·rename_i G1;intro J H1 m1 e1 S1 it D hD;exact Al S1 (er.ext e1) it hD G1 (Post.shift e1 P)
  ·exact P.elim
variable{Ii IA:Str}{q1 q2 q3:Pos}{kt:Nat}
def Ed{cl:List (Str×ac)}{C:ac}{G2:ah}{G5:Hp}{fp:List ac}(hN:([Ii,IA]++fr).Nodup)(h1:scope.names.lookup Ii=some .local)(h2:scope.names.lookup IA=some .local):DG (blk X scope cl C ([Ii,IA]++fr) G2 G5 fp) CB (.Tuple [.Name Ii q1,.Name IA q2] kt q3) y2 :=
 uH (lf (kJ 0 hN rfl (.inl (cG h1)) (.inr (cG h1))) (lf (kJ 1 hN rfl (.inl (cG h2)) (.inr (cG h2))) rc))
def wW{i:Nat}{y:Str}{py HF:Pos}(hi:DI X CB E (.Tuple [.Name Ii q1,.Name IA q2] kt q3) iter fi)(he:∀cl C G2 G5 fp,DE (blk X scope cl C ([Ii,IA]++fr) G2 G5 fp) CB E0 Hk f)(ht:∀cl C G2 G5 fp,DIfs (blk X scope cl C ([Ii,IA]++fr) G2 G5 fp) CB He t:=by exact fun _ _ _ _ _=>t9)(hN:X.N.Nodup:=by exact ‹FnScope _ _ _›.nd)(JO:X.N[i]?=some y:=by rfl)(Jj:X.env.scope.names.lookup y=some .local:=by rfl)(hc:X.calm=true:=by rfl)(S:CompOkG X.N X.env.scope scope [Ii,IA] fr ix:=by exact cokG ‹FnScope _ _ _›)(h1:scope.names.lookup Ii=some .local:=by rfl)(h2:scope.names.lookup IA=some .local:=by rfl)(JG:cW (.ListComp Hk [⟨.Tuple [.Name Ii q1,.Name IA q2] kt q3,iter,He,0⟩] scope pos) (some (.Name y py)) HF.line X.env=pure true:=by rfl)(hs:∀v,bY iter X.env v=pure v:=by intro _;rfl):DS X CB E (.Assign [.Name y py] (.ListComp Hk [⟨.Tuple [.Name Ii q1,.Name IA q2] kt q3,iter,He,0⟩] scope pos) HF) (xSet i (sj fi ix t f)) :=
 ⟨(wM hN JO Jj hc S hi.pi (fun cl C G2 G5 fp=>(Ed (CB:=CB) S.nd h1 h2).pg) (fun cl C G2 G5 fp=>(ht cl C G2 G5 fp).pifs) (fun cl C G2 G5 fp=>(he cl C G2 G5 fp).pe) JG hs).mono fun D σ H ⟨ρ,s,m,er,S,P⟩ =>
  wX ⟨ρ,s,m,er,S,Post.so P fun v s1 u H1 m1 e1 S1 r1 P1=>P1.next S1 ((er.ext e1).set i r1)⟩⟩
end
def numS(i:Int):Str:=aF (toString i)
section
variable{X:Cx}{CB:ac}{E:XK}{a b e:aN}{f g:XE}{pos p1 p2 p3:Pos}
def Am:CallR X (.type "str") (fun xs H Q=>(∃i,xs=[.int i]/\i.natAbs.log2<1920/\Q (.str (numS i)) H)\/∃x,xs=[.str x]/\Q (.str x) H):=by
 intro GX s σ H xs us Q I r h;rcases h with⟨i,rfl,hz,q⟩|⟨x,rfl,q⟩
 ·obtain⟨u,rfl,t,rfl⟩:=oB r;exact PySem.P.str_of_int hz ⟨.str _,H,I.tok _,⟨_,rfl⟩,q⟩
 ·obtain⟨u,rfl,t,rfl⟩:=oB r;exact PySem.P.str_of_str ⟨.str _,H,I,⟨_,rfl⟩,q⟩
def fStr(vs:List PV)(s:Sto):Out PV:=match vs with
 |[.int i]=>if i.natAbs.log2<1920 then .ok (.str (numS i)) s else .bad
 |[.str x]=>.ok (.str x) s
 |_=>.bad
def b_str:BltR X CB E (.type "str") fStr:=⟨_,Am,by
 intro H m s v x Q S rx P;unfold fStr at P;split at P
 ·split at P
  ·rename_i hz;cases rx with
   |cons r n=>cases n;cases r;exact .inl ⟨_,rfl,hz,P.here S .str⟩
  ·exact P.elim
 ·cases rx with
  |cons r n=>cases n;cases r;exact .inr ⟨_,rfl,P.here S .str⟩
 ·exact P.elim⟩
end
structure DEx(X:Cx)(CB:ac)(e:aN)(f:XE):Prop where
 pex:PEx X e (fun E=>TDE X.K CB E f)
structure DSx(X:Cx)(CB:ac)(st:bM)(u:XS):Prop where
 psx:PSx X st (fun E=>TDS X.K CB E u)
def ud(n:Nat)(D:XF)(fa:XA)(ρ:En)(s:Sto):Out PV:=match fa ρ s with
 |.ok vs s1=>if vs.length=n then D vs s1 else .bad
 |_=>.bad
section
variable{X:Cx}{CB:ac}{E:XK}{a b c e:aN}{es:List aN}{f g h:XE}{fa:XA}{t:XT}{p pos Hg G0 GY np hp:Pos}{x y:Str}{st Kb:bM}{bs Ip:List bM}{u v:XS}{n k:Nat}{D:XF}{ps:List Str}
def PEx.mono{t t':XK->TE}(h:PEx X e t)(k:∀E σ H Q,t' E σ H Q->t E σ H Q):PEx X e t':=fun GX s σ H Q E I q=>h GX s σ H Q E I (k E σ H Q q)
def PSx.mono{t t':XK->TS}(h:PSx X st t)(k:∀E D σ H,t' E D σ H->t E D σ H):PSx X st t':=fun GX s σ H D E I q=>h GX s σ H D E I (k E D σ H q)
def Gy(F:Fn X.prog X.w X.K X.mg X.base x k ps (spD X.K CB n D))(ha:DA X.nox CB E0 (e::es) fa){jr:Nat}(hr:Room jr X.A:=by assumption)(hk:k<=jr:=by first|decide|omega)(hg:Gl X x:=by rfl)(HC:NDb x:=by decide)(he:SEb X e es:=by rfl)(Hn:(bV pos (ar es X.env)).any (·.1)=false:=by rfl):DEx X CB (.Call (.Name x p) (e::es) [] pos) (ud n D fa) :=
 ⟨(FL F (hr.mono hk) hg ha.pa HC he Hn).mono fun E σ H Q ⟨ρ,s,m,er,S,P⟩=>⟨ρ,s,m,er,S,by
  unfold ud at P;cases cc:fa ρ s with
  |bad=>rw[cc] at P;exact P
  |ex c s1=>rw[cc] at P;exact P.elim
  |ok vs s1 =>
   rw[cc] at P;dsimp only at P;split at P
   ·rename_i hl;intro us H1 m1 e1 S1 r1;rw[cB];exact⟨by rw[r1.length];exact hl,vs,s1,m1,r1,S1,Post.shift e1 P⟩
   ·exact P.elim⟩⟩
def AV{te:XK->TE}(he:PEx X e te)(hs:cW e none pos.line X.env=pure false:=by rfl):PSx X (.Expr e pos) (fun E=>EM (te E)):=by intro GX s σ H D E I h;exact wpAny_Expr_any (thn (he GX s σ H _ E I h) fun v s1 ⟨x,H1,I1,r1,q1⟩=>⟨σ,H1,I1,q1⟩) I.quiet hs
def Gu(he:DEx X CB e f)(hs:cW e none pos.line X.env=pure false:=by rfl):DSx X CB (.Expr e pos) (xDo f) :=
 ⟨(AV he.pex hs).mono fun E D σ H ⟨ρ,s,m,er,S,P⟩=>⟨ρ,s,m,er,S,Post.so P fun v s1 u H1 m1 e1 S1 r1 P1=>P1.next S1 (er.ext e1)⟩⟩
open Classical in
def CS(i:Nat)(cl:List ac)(u h:XS)(ρ:En)(s:Sto):SO:=match u ρ s with
 |.ex c s1=>if c∈cl then(match h (ρ.set i (some (.exc c))) s1 with
  |.nx ρ' s'=>.nx (ρ'.set i none) s'
  |.rt v s'=>.rt v s'
  |_=>.bad) else .bad
 |o=>o
def ER.put{K:aa}{H:Hp}{m:Mp}{s:Sto}{σ:St}{ρ:En}(h:ER K H m s σ ρ)(i:Nat):ER K H m s (σ.set i none) (ρ.set i none) :=
 ⟨by rw[ia,ia];exact h.len,fun j p q=>by
  by_cases z:i=j
  ·subst z;rw[gR] at q;split at q
   ·split at q<;>cases q
   ·exact absurd rfl ‹_›
  ·rw[eE z] at q ⊢;exact h.at_ j p q⟩
def Gv{cl:List ac}{D0:ac}{i:Nat}{nm:Str}(hc:X.calm=true)(Ic:X.stack=X.env::X.outer)(hf:X.env.frame=some X.env.locals)(Mw:X.ex=[])(hb:DSx X CB st u)(hg:Gl X x)(hm:X.mg x=some (.ref D0))(ZD:Exc X.K D0)(Jy:∀c∈cl,Exc X.K c/\bU X.K c (.ref D0)=some true)(hN:X.N.Nodup)(hi:X.N[i]?=some nm)(hl:X.env.scope.names.lookup nm=some .local)(hh:∀a,DSs (hnd X a) CB E0 (Kb::bs) v)(hd:NDb x:=by decide) :
  DS X CB E (.Try [st] [.ExceptHandler (some (.Name x np)) (some nm) (Kb::bs) hp] [] [] pos) (CS i cl u v) :=
 ⟨(FF (th:=TDS X.K CB E0 v) hc Ic hf Mw (AU hb.psx) hg hm ZD hN hi hl (fun a=>(hh a).pss) hd).mono fun D σ H ⟨ρ,s,m,er,S,P⟩=>by
  refine⟨ρ,s,m,er,S,?_⟩;unfold CS at P;cases cc:u ρ s with
  |nx=>rw[cc] at P;exact P
  |rt=>rw[cc] at P;exact P
  |bk=>rw[cc] at P;exact P
  |ct=>rw[cc] at P;exact P
  |bad=>rw[cc] at P;exact P
  |ex c s1 =>
   rw[cc] at P;dsimp only at P;split at P
   ·rename_i Hc;intro H' m' e1 S1;refine⟨c,rfl,(Jy c Hc).1,(Jy c Hc).2,fun ad hn=>?_⟩;have k:=My.nE (o:=yJ c ad) hn;have e2:Ext H' m' s1 (upd H' ad (yJ c ad)) m' s1:=.same k;have r2:Rep X.K (upd H' ad (yJ c ad)) m' s1 (.ref ad) (.exc c):=.exc jR (S1.pure_none hn);refine⟨ρ.set i (some (.exc c)),s1,m',((er.ext e1).ext e2).set i r2,S1.same k,?_⟩;have P:=PostS.shift (e1.trans e2) P;cases ch:v (ρ.set i (some (.exc c))) s1 with
    |nx ρ' s'=>rw[ch] at P;exact fun σ' H2 m2 x2 S2 K0=>P _ H2 m2 x2 S2 (K0.put i)
    |rt w s'=>rw[ch] at P;exact P
    |bk=>rw[ch] at P;exact P.elim
    |ct=>rw[ch] at P;exact P.elim
    |ex=>rw[ch] at P;exact P.elim
    |bad=>rw[ch] at P;exact P.elim
   ·exact P.elim⟩
open Classical in
def rW(cl:List ac)(tb:ac->Bool)(f:XE)(ρ:En)(s:Sto):Out PV:=(f ρ s).bind fun v s1=>match v with
 |.exc c=>if c∈cl then .ok (.bl (tb c)) s1 else .bad
 |.non=>.ok (.bl false) s1
 |_=>.bad
def tm{cl:List ac}{tb:ac->Bool}{cv:V}{tC':TE}(hcv:(∃a,cv=.ref a)\/∃n,cv=.ty n)(hk:∀c∈cl,Exc X.K c/\bu X.K (.ref c) (Fe cv)=some (tb c))(hn:bu X.K (.type "NoneType") (Fe cv)=some false){σ:St}{H:Hp}{Q:VK}(q:TDE X.K CB E (rW cl tb f) σ H Q):TDE X.K CB E f σ H fun u H1=>rIsi X.K [u,cv] H1 Q:=by
 obtain⟨ρ,s,m,er,S,P⟩:=q;refine⟨ρ,s,m,er,S,P.bind fun v s1 u H1 m1 e1 S1 r1 P1=>?_⟩;split at P1
 ·rename_i c;split at P1
  ·rename_i hc;cases r1 with
   |exc h1 h2=>exact⟨_,cv,.ref c,tb c,rfl,hcv,.inr (.inl ⟨_,c,rfl,rfl,h1,(hk c hc).1⟩),(hk c hc).2,P1.here S1 .bl⟩
  ·exact P1.elim
 ·cases r1;exact⟨_,cv,.type "NoneType",false,rfl,hcv,.inl .non,hn,P1.here S1 .bl⟩
 ·exact P1.elim
def Em{cl:List ac}{tb:ac->Bool}{C:ac}{px:Pos}(JP:Gl X "isinstance")(JK:X.mg "isinstance"=none)(ha:DE X CB E a f)(hg:Gl X x)(hm:X.mg x=some (.ref C))(hk:∀c∈cl,Exc X.K c/\bu X.K (.ref c) (.ref C)=some (tb c))(hn:bu X.K (.type "NoneType") (.ref C)=some false)(hd:NDb x)(hs:ar [a,.Name x px] X.env=(false,eval a X.env)::ar [.Name x px] X.env:=by rfl)(Hn:(bV pos (ar [.Name x px] X.env)).any (·.1)=false:=by rfl):DE X CB E (.Call (.Name "isinstance" p) [a,.Name x px] [] pos) (rW cl tb f) :=
 ⟨(li ua JP JK lU (jZ ha.pe (jZ (mi (v:=.ref C) hg hm rfl hd) pa_nil) hs) (by decide) (by decide) hs Hn).mono fun σ H Q q=>tm (cv:=.ref C) (tC':=fun _ _ _=>True) (.inl ⟨_,rfl⟩) hk hn q⟩
def Eo{cl:List ac}{tb:ac->Bool}{px:Pos}(JP:Gl X "isinstance")(JK:X.mg "isinstance"=none)(ha:DE X CB E a f)(hg:Gl X "ValueError")(hm:X.mg "ValueError"=none)(hv:bj "ValueError"=some (.type "ValueError"))(hk:∀c∈cl,Exc X.K c/\bu X.K (.ref c) (.type "ValueError")=some (tb c))(hn:bu X.K (.type "NoneType") (.type "ValueError")=some false)(hs:ar [a,.Name "ValueError" px] X.env=(false,eval a X.env)::ar [.Name "ValueError" px] X.env:=by rfl)(Hn:(bV pos (ar [.Name "ValueError" px] X.env)).any (·.1)=false:=by rfl):DE X CB E (.Call (.Name "isinstance" p) [a,.Name "ValueError" px] [] pos) (rW cl tb f) :=
 ⟨(li ua JP JK lU (jZ ha.pe (jZ (zl (v:=.ty "ValueError") hg hm hv rfl) pa_nil) hs) (by decide) (by decide) hs Hn).mono fun σ H Q q=>tm (cv:=.ty "ValueError") (tC':=fun _ _ _=>True) (.inr ⟨_,rfl⟩) hk hn q⟩
end
open PySem.Builtin.Str
section
variable{X:Cx}{CB:ac}{E:XK}{a b c e:aN}{es:List aN}{f g h:XE}{fa:XA}{t:XT}{p pos Hg G0 GY np hp:Pos}{x y:Str}{st Kb:bM}{bs Ip:List bM}{u v:XS}{n k:Nat}{D:XF}{ps:List Str}
end
def wb{x y:Str}(h:x.cps.toList=y.cps.toList):x=y:=by obtain⟨⟨l⟩⟩:=x;obtain⟨⟨k⟩⟩:=y;cases h;rfl
open PySem.NumText PySem.W in
section
variable{X:Cx}
variable{CB:ac}{E:XK}{a b c e:aN}{f g h:XE}{p pos:Pos}
end
section
variable{X:Cx}{CB:ac}{E:XK}{x:Str}{k n:Nat}{ps:List Str}{D:XF}{p pos:Pos}
end
def sem:=ag @fnD.eq_1 <|ag @xSeq.eq_1 <|ag @xSet.eq_1 <|ag @xRet.eq_1 <|ag @xRetN.eq_1 <|ag @xDo.eq_1 <|ag @xIf.eq_1 <|ag @xEnd.eq_1 <|ag @xPut.eq_1 <|ag @xPar.eq_1 <|ag @xAsg.eq_1 <|ag @x1.eq_1 <|ag @x2.eq_1 <|ag @xVar.eq_1 <|ag @xC.eq_1 <|ag @xB.eq_1 <|ag @xCall.eq_1 <|ag @xBM.eq_1 <|ag @xCons.eq_1 <|ag @xNil.eq_1 <|ag @xTup.eq_1 <|ag @xLst.eq_1 <|ag @xLstC.eq_1 <|ag @xTr.eq_1 <|ag @xNot.eq_1 <|ag @xAnd.eq_1 <|ag @xOr.eq_1 <|ag @xAndV.eq_1 <|ag @xOrV.eq_1 <|ag @xNotV.eq_1 <|ag @xSl.eq_1 <|ag @xNoP.eq_1 <|ag @xPart.eq_1 <|ag @xIter.eq_1 <|ag @xRng1.eq_1 <|ag @xIterS.eq_1 <|ag @xIterD.eq_1 <|ag @xFor.eq_1 <|ag @xFrz.eq_1 <|ag @frz1.eq_1 <|ag @frz1.eq_2 <|ag @xAppend.eq_1 <|ag @xGet.eq_1 <|ag @xJoin.eq_1 <|ag @xNewD.eq_1 <|ag @xDisp.eq_1 <|ag @xIsiT.eq_1 <|ag @xIfe.eq_1 <|ag @xChain.eq_1 <|ag @xBook.eq_1 <|ag @Out.bind.eq_1 <|ag @Out.bind.eq_2 <|ag @Out.bind.eq_3 <|ag @Out.so.eq_1 <|ag @Out.so.eq_2 <|ag @Out.so.eq_3 <|ag @SO.noex.eq_1 <|ag @SO.noex.eq_2 <|ag @fAdd.eq_1 <|ag @fAdd.eq_2 <|ag @fAdd.eq_3 <|ag @fSub.eq_1 <|ag @fSub.eq_2 <|ag @fMul.eq_1 <|ag @fMul.eq_2 <|ag @fMul.eq_3 <|ag @fDiv.eq_1 <|ag @fDiv.eq_2 <|ag @fMod.eq_1 <|ag @fMod.eq_2 <|ag @fPow.eq_1 <|ag @fPow.eq_2 <|ag @fCmp.eq_1 <|ag @fCmp.eq_2 <|ag @fEqN.eq_1 <|ag @fIs.eq_1 <|ag @fIs.eq_2 <|ag @fIsnt.eq_1 <|ag @fIsnt.eq_2 <|ag @fIx.eq_1 <|ag @fIx.eq_2 <|ag @fIx.eq_3 <|ag @fIx.eq_4 <|ag @fIx.eq_5 <|ag @fNeg.eq_1 <|ag @fNeg.eq_2 <|ag @fSl.eq_1 <|ag @fSl.eq_2 <|ag @fLen.eq_1 <|ag @fLen.eq_2 <|ag @fLen.eq_3 <|ag @fLen.eq_4 <|ag @fAbs.eq_1 <|ag @fAbs.eq_2 <|ag @fInt.eq_1 <|ag @fInt.eq_2 <|ag @fInt.eq_3 <|ag @fTuple.eq_1 <|ag @fTuple.eq_2 <|ag @fList.eq_1 <|ag @fList.eq_2 <|ag @fList.eq_3 <|ag @fAll.eq_1 <|ag @fAll.eq_2 <|ag @lsOf.eq_1 <|ag @lsOf.eq_2 <|ag @lsOf.eq_3 <|ag @lsOf.eq_4 <|ag @dcOf.eq_1 <|ag @dcOf.eq_2 <|ag @dcOf.eq_3 <|ag @kyOf.eq_1 <|ag @kyOf.eq_2 <|ag @kyOf.eq_3 <|ag @toV.eq_1 <|ag @toV.eq_2 <|ag @toV.eq_3 <|ag @toV.eq_4 <|ag @toV.eq_5 <|ag @toVs.eq_1 <|ag @toVs.eq_2 <|ag @yName.eq_1 <|ag @yNil.eq_1 <|ag @yNil.eq_2 <|ag @yCons.eq_1 <|ag @yCons.eq_2 <|ag @yTup.eq_1 <|ag @yTup.eq_2 <|@xOnly.eq_1
section
variable{P:az}{w:aU}{K:aa}{mg:Str->Option ae}{base h:ba}{x q:Str}{st:bM}{f C:ac}{fd:bJ}{ps:List Str}{sp:Sp}{k:Nat}{oc kV dc pm cd ct:ae}{od an:Option ac}{sl:Array (Option ae)}
def Bd(x q:Str)(st:bM)(ps:List Str):Prop:=∀(kV dc pm:ae)(an:Option ac)(cd ct:ae)(us:List ae),us.length=ps.length->eU (bO x q (lb st) (kO st) (jS st) .none kV dc pm an cd ct) ⟨us,[]⟩=pure (ps.zip us)
def pf{n:Nat}:∀{us:List ae},us.length=n+1->∃v r,us=v::r/\r.length=n
 |v::r,h=>⟨v,r,rfl,iw h⟩
def bd0(e:ps.length=0:=by rfl)(h:∀kV dc pm an cd ct,eU (bO x q (lb st) (kO st) (jS st) .none kV dc pm an cd ct) ⟨[],[]⟩=pure (ps.zip []):=by intros;rfl):Bd x q st ps:=fun _ _ _ _ _ _ us hl=>by have l0:=hl.trans e;cases bK l0;exact h _ _ _ _ _ _
def bd1(e:ps.length=1:=by rfl)(h:∀kV dc pm an cd ct (v0:ae),eU (bO x q (lb st) (kO st) (jS st) .none kV dc pm an cd ct) ⟨[v0],[]⟩=pure (ps.zip [v0]):=by intros;rfl):Bd x q st ps:=fun _ _ _ _ _ _ us hl=>by have l0:=hl.trans e;obtain⟨_,us,rfl,l1⟩:=pf l0;cases bK l1;exact h _ _ _ _ _ _ _
def bd2(e:ps.length=2:=by rfl)(h:∀kV dc pm an cd ct (v0 v1:ae),eU (bO x q (lb st) (kO st) (jS st) .none kV dc pm an cd ct) ⟨[v0,v1],[]⟩=pure (ps.zip [v0,v1]):=by intros;rfl):Bd x q st ps:=fun _ _ _ _ _ _ us hl=>by have l0:=hl.trans e;obtain⟨_,us,rfl,l1⟩:=pf l0;obtain⟨_,us,rfl,l2⟩:=pf l1;cases bK l2;exact h _ _ _ _ _ _ _ _
def bd3(e:ps.length=3:=by rfl)(h:∀kV dc pm an cd ct (v0 v1 v2:ae),eU (bO x q (lb st) (kO st) (jS st) .none kV dc pm an cd ct) ⟨[v0,v1,v2],[]⟩=pure (ps.zip [v0,v1,v2]):=by intros;rfl):Bd x q st ps:=fun _ _ _ _ _ _ us hl=>by have l0:=hl.trans e;obtain⟨_,us,rfl,l1⟩:=pf l0;obtain⟨_,us,rfl,l2⟩:=pf l1;obtain⟨_,us,rfl,l3⟩:=pf l2;cases bK l3;exact h _ _ _ _ _ _ _ _ _
def bd4(e:ps.length=4:=by rfl)(h:∀kV dc pm an cd ct (v0 v1 v2 v3:ae),eU (bO x q (lb st) (kO st) (jS st) .none kV dc pm an cd ct) ⟨[v0,v1,v2,v3],[]⟩=pure (ps.zip [v0,v1,v2,v3]):=by intros;rfl):Bd x q st ps:=fun _ _ _ _ _ _ us hl=>by have l0:=hl.trans e;obtain⟨_,us,rfl,l1⟩:=pf l0;obtain⟨_,us,rfl,l2⟩:=pf l1;obtain⟨_,us,rfl,l3⟩:=pf l2;obtain⟨_,us,rfl,l4⟩:=pf l3;cases bK l4;exact h _ _ _ _ _ _ _ _ _ _
def bd5(e:ps.length=5:=by rfl)(h:∀kV dc pm an cd ct (v0 v1 v2 v3 v4:ae),eU (bO x q (lb st) (kO st) (jS st) .none kV dc pm an cd ct) ⟨[v0,v1,v2,v3,v4],[]⟩=pure (ps.zip [v0,v1,v2,v3,v4]):=by intros;rfl):Bd x q st ps:=fun _ _ _ _ _ _ us hl=>by have l0:=hl.trans e;obtain⟨_,us,rfl,l1⟩:=pf l0;obtain⟨_,us,rfl,l2⟩:=pf l1;obtain⟨_,us,rfl,l3⟩:=pf l2;obtain⟨_,us,rfl,l4⟩:=pf l3;obtain⟨_,us,rfl,l5⟩:=pf l4;cases bK l5;exact h _ _ _ _ _ _ _ _ _ _ _
def bd6(e:ps.length=6:=by rfl)(h:∀kV dc pm an cd ct (v0 v1 v2 v3 v4 v5:ae),eU (bO x q (lb st) (kO st) (jS st) .none kV dc pm an cd ct) ⟨[v0,v1,v2,v3,v4,v5],[]⟩=pure (ps.zip [v0,v1,v2,v3,v4,v5]):=by intros;rfl):Bd x q st ps:=fun _ _ _ _ _ _ us hl=>by have l0:=hl.trans e;obtain⟨_,us,rfl,l1⟩:=pf l0;obtain⟨_,us,rfl,l2⟩:=pf l1;obtain⟨_,us,rfl,l3⟩:=pf l2;obtain⟨_,us,rfl,l4⟩:=pf l3;obtain⟨_,us,rfl,l5⟩:=pf l4;obtain⟨_,us,rfl,l6⟩:=pf l5;cases bK l6;exact h _ _ _ _ _ _ _ _ _ _ _ _
structure Gx(K:aa)(x:Str):Prop where
 ex:∃X,bv K aS x=some (some (.ref X))/\Exc K X
def gx{X:ac}(n:bv K aS x=some (some (.ref X)))(a:gg K X bmV "ValueError.__new__"=true)(b:aM K (.ref X) "__getattribute__"=some (some (.builtin "BaseException.__getattribute__")))(c:aM K (.ref X) "__getattr__"=some none)(d:aM K (.ref X) "__class__"=some (some (.builtin "object.__class__")))(e:dE K (.builtin "object.__class__") "__get__"=some (some (.builtin "getset_descriptor.__get__")))(f:fD K (.builtin "object.__class__")=some true)(g:bU K X (.type "object")=some true)(h:bU K X (.type "BaseException")=some true):Gx K x:=⟨X,n,a,b,c,d,e,f,g,h⟩
structure Gb(K:aa)(C:ac):Prop where
 n:bv K aS "Book"=some (some (.ref C))
 p:dS K C cq=true
 h:eV K C=true
 o:gy K C=true
 s:aM K (.ref C) "__setattr__"=some (some (.builtin "object.__setattr__"))
 m:gX K C=true
 k:b5 K (.ref C)=true
 a:aM K (.ref C) "people"=some none
 b:aM K (.ref C) "things_of"=some none
 c:aM K (.ref C) "mark_of"=some none
 d:aM K (.ref C) "loss_of"=some none
 e:aM K (.ref C) "held_of"=some none
structure Gt(K:aa)(x:Str)(u v:Int):Prop where
 ex:∃(f:ac)(od:Option ac)(a b:Tok)(n:Nat)(sl:Array (Option ae)),bv K aS x=some (some (.ref f))/\K.lookup f=some ⟨.type "tuple",od,.seq #[.int u a,.int v b] n,sl⟩
def gt{u v:Int}{a b:Tok}{n:Nat}(h:bv K aS x=some (some (.ref f)))(l:K.lookup f=some ⟨.type "tuple",od,.seq #[.int u a,.int v b] n,sl⟩):Gt K x u v:=⟨f,od,a,b,n,sl,h,l⟩
structure Gi(K:aa)(x:Str)(u:Int):Prop where
 ex:∃t,bv K aS x=some (some (.int u t))
def gi{u:Int}{t:Tok}(h:bv K aS x=some (some (.int u t))):Gi K x u:=⟨t,h⟩
structure Gz(K:aa)(x:Str):Prop where
 z:bv K aS x=some none
def Gz.at_(c:Gz K x)(X:K.In h)(G:h.Ns aS mg):mg x=none:=PySem.W.mg_none_of X G c.z
structure Gf(K:aa)(x:Str)(st:bM):Prop where
 ex:∃f fd,bv K aS x=some (some (.ref f))/\Fun K x x st f fd
structure Gm(K:aa)(C:ac)(x q:Str)(st:bM):Prop where
 ex:∃f fd,aM K (.ref C) x=some (some (.ref f))/\fA K (.ref f)=true/\Fun K x q st f fd
def gf(h:bv K aS x=some (some (.ref f)))(l:K.lookup f=some ⟨oc,od,.func (bO x x (lb st) (kO st) (jS st) .none kV dc pm an cd ct),sl⟩)(c:eL K cd x=true)(k:b5 K (.ref f)=true):Gf K x st:=⟨f,_,h,Cw l c k⟩
def gm(h:aM K (.ref C) x=some (some (.ref f)))(i:fA K (.ref f)=true)(l:K.lookup f=some ⟨oc,od,.func (bO x q (lb st) (kO st) (jS st) .none kV dc pm an cd ct),sl⟩)(c:eL K cd q=true)(k:b5 K (.ref f)=true):Gm K C x q st:=⟨f,_,h,i,Cw l c k⟩
def Gf.fn(X:K.In h)(G:h.Ns aS mg)(c:Gf K x st)(o:∀{f:ac}{fd:bJ},Fun K x x st f fd->FnOk P w K mg base (CXo P w) k f fd ps sp)(b:Bd x x st ps:=by first|exact bd1|exact bd2|exact bd3|exact bd4|exact bd5|exact bd6|exact bd0):Fn P w K mg base x k ps sp :=
 let⟨f,fd,n,U⟩:=c.ex;⟨f,fd,o U,ij X G n,U.kp,U.binds b⟩
def Gm.mt(cl:Cls K C)(c:Gm K C x q st)(o:∀{f:ac}{fd:bJ},Fun K x q st f fd->FnOk P w K mg base (CXo P w) k f fd ps sp)(b:Bd x q st ps:=by first|exact bd1|exact bd2|exact bd3|exact bd4|exact bd5|exact bd6|exact bd0):Mt P w K mg base C x k ps sp :=
 let⟨f,fd,n,i,U⟩:=c.ex;⟨f,fd,o U,⟨n,i,U.kp⟩,cl,U.binds b⟩
def Gm.bk(c:Gm K C "__init__" q st)(X:K.In h)(G:h.Ns aS mg)(g:Gb K C)(o:∀{f:ac}{fd:bJ},Fun K "__init__" q st f fd->FnOk P w K mg base (CXo P w) k f fd ["self"] sp)(b:Bd "__init__" q st ["self"]:=by exact bd1):MkB P w K mg base "Book" C k ["self"] sp :=
 let⟨f,fd,n,i,U⟩:=c.ex;⟨f,fd,o U,ij X G g.n,⟨g.m,n,i,g.k⟩,U.binds b⟩
end
section
variable{X:Cx}{CB:ac}{E:XK}{a b:aN}{f g:XE}{pos G0 GY:Pos}
def Dq:OpR X (cH .Mult) (rI gK fun i j=>.int (i*j)):=opI fun _ _ _ _ _ _ _ hc q=>mul_int q hc
open Classical in
def yI(v w:PV)(s:Sto):Out PV:=match v,w with
 |.int i,.int j=>if gK i j then .ok (.int (i*j)) s else .bad
 |_,_=>.bad
def FZ:Op2 X.K CB E (rI gK fun i j=>V.int (i*j)) yI:=by
 intro H m s v w x y Q S rx ry P;unfold yI at P;split at P
 ·cases rx;cases ry;split at P
  ·rename_i h;exact⟨_,_,rfl,rfl,h,P.here S .int⟩
  ·exact P.elim
 ·exact P.elim
def Ej(ha:DE X CB E a f)(hb:DE X CB E b g):DE X CB E (.BinOp a .Mult b pos) (x2 f g yI):=tJ Dq FZ ha hb
def tG(v w:PV)(s:Sto):Out PV:=match v,w with
 |.str x,.int n=>if n=0 then .ok (.str cq) s else if n=1 then .ok (.str x) s else .bad
 |_,_=>.bad
def Dp:OpR X (cH .Mult) (fun x y H Q=>∃z n,x=.str z/\y=.int n/\((n=0/\Q (.str cq) H)\/(n=1/\Q (.str z) H))):=by
 intro GX s σ H x y v u Q I rx ry h;obtain⟨z,n,rfl,rfl,h⟩:=h;obtain⟨t,rfl⟩:=rx;obtain⟨t',rfl⟩:=ry;rcases h with⟨rfl,q⟩|⟨rfl,q⟩
 ·exact PySem.P.mul_str_none (by decide) (by decide) ⟨.str cq,H,I.tok _,⟨_,rfl⟩,q⟩
 ·refine PySem.P.mul_str (by decide) (fun _ z=>absurd z (by simp)) (fun _ z=>absurd z (by simp)) ?_;rw[if_neg (by decide),if_pos (by simp)];exact⟨.str z,H,I,⟨_,rfl⟩,q⟩
def FY:Op2 X.K CB E (fun x y H Q=>∃z n,x=.str z/\y=.int n/\((n=0/\Q (.str cq) H)\/(n=1/\Q (.str z) H))) tG:=by
 intro H m s v w x y Q S rx ry P;unfold tG at P;split at P
 ·cases rx;cases ry;split at P
  ·rename_i h;exact⟨_,_,rfl,rfl,.inl ⟨h,P.here S .str⟩⟩
  ·split at P
   ·rename_i h;exact⟨_,_,rfl,rfl,.inr ⟨h,P.here S .str⟩⟩
   ·exact P.elim
 ·exact P.elim
def Ei(ha:DE X CB E a f)(hb:DE X CB E b g):DE X CB E (.BinOp a .Mult b pos) (x2 f g tG):=tJ Dp FY ha hb
def qO(vs:List PV)(s:Sto):Out PV:=match vs with
 |[v]=>match dcOf s v with
  |some l=>match keysOf l with
   |some ss=>if ss.length<64 then .ok (.ref s.nx) (s.add (.lst ((srt ss).map PV.str))) else .bad
   |none=>.bad
  |none=>.bad
 |_=>.bad
def Ar(hc:X.calm=true):BltR X CB E (.builtin "sorted") qO:=⟨_,nT hc,by
 intro H m s v x Q S rx P;unfold qO at P;split at P
 ·cases rx with
  |cons r n =>
   cases n;split at P
   ·rename_i l hl;split at P
    ·rename_i ss hs;split at P
     ·rename_i IU;obtain⟨a,vs,rfl,q,r⟩:=r.dc S hl;refine⟨a,vs,ss,rfl,q,r.keys.trans (rF hs),IU,fun p hp=>?_⟩;obtain⟨S2,e2⟩:=S.newL hp (.ofStrs (srt ss));exact P _ _ _ e2 S2 .new
     ·exact P.elim
    ·exact P.elim
   ·exact P.elim
 ·exact P.elim⟩
def As(f:XE)(ρ:En)(s:Sto):Out PV:=(f ρ s).bind fun v s1=>match v with
 |.ref n=>match s1.get n with
  |some (.lst l)=>match l[l.length-1]? with
   |some w=>.ok w (s1.set n (.lst l.dropLast))
   |none=>.bad
  |_=>.bad
 |_=>.bad
theorem Reps.dropLast{K:aa}{H:Hp}{m:Mp}{s:Sto}{vs:List V}{l:List PV}(r:Reps K H m s vs l):Reps K H m s vs.dropLast l.dropLast:=by
 induction r using Reps.rec (motive_1:=fun _ _ _=>True) (motive_3:=fun _ _ _=>True)<;>try trivial
 ·exact .nil
 ·rename_i r rs _ ih;cases rs with
  |nil=>exact .nil
  |cons r' rs'=>exact .cons r ih
def Ek(ho:DE X CB E a f)(Hj:cy a "pop" X.env (eval a X.env)=eval a X.env:=by rfl)(Hi:(G0.endLine==GY.line)=true:=by rfl):DE X CB E (.Call (.Attribute a "pop" G0) [] [] GY) (As f) :=
 ⟨(Ch fj jF PySem.F.type_list_pop F5 ho.pe Hj Hi).mono fun σ H Q ⟨ρ,s,m,er,S,P⟩=>⟨ρ,s,m,er,S,P.bind fun v s1 u H1 m1 e1 S1 r1 P1=>by
  split at P1
  ·split at P1
   ·rename_i n _ l hg;split at P1
    ·rename_i w hw;obtain⟨_,ID,h0,r0⟩:=S1.get hg;cases r1 with
     |ref hn =>
     obtain⟨u,hu,ru⟩:=r0.get hw;obtain⟨S3,e3⟩:=S1.putL hg r0.dropLast;exact⟨.inl ⟨rfl,ID,SqL.of h0⟩,_,ID,u,rfl,rfl,h0,by rw[r0.length];exact hu,P1 _ _ _ e3 S3 (ru.ext e3)⟩
    ·exact P1.elim
   ·exact P1.elim
  ·exact P1.elim⟩⟩
def wC(l:List (Key×PV))(k:Key):List (Key×PV):=l.filter fun kv=>decide (kv.1≠k)
theorem RepKs.drop{K:aa}{H:Hp}{m:Mp}{s:Sto}{k:Key}:∀{vs:List (Key×V)}{l:List (Key×PV)},RepKs K H m s vs l->RepKs K H m s (sg vs k) (wC l k)
 |_,_,.nil=>.nil
 |_,_,.cons (k:=k') r rs=>by
  unfold sg wC;rw[fK,fK];by_cases h:k'=k
  ·rw[if_neg (by simp[h]),if_neg (by simp[h])];exact rs.drop
  ·rw[if_pos (by simp[h]),if_pos (by simp[h])];exact .cons r rs.drop
def xU(f g:XE)(ρ:En)(s:Sto):Out PV:=(f ρ s).bind fun v s1=>match v with
 |.ref n=>match s1.get n with
  |some (.dct _)=>(g ρ s1).bind fun w s2=>match s2.get n with
   |some (.dct l)=>match kyOf w with
    |some k=>match lO l k with
     |some p=>.ok p (s2.set n (.dct (wC l k)))
     |none=>.bad
    |none=>.bad
   |_=>.bad
  |_=>.bad
 |_=>.bad
def Es(ho:DE X CB E a f)(he:DE X CB E b g)(mm:M1 X a "pop" G0 b GY:=by exact⟨rfl,rfl,rfl,rfl⟩):DE X CB E (.Call (.Attribute a "pop" G0) [b] [] GY) (xU f g) :=
 ⟨(xu ho.pe he.pe mm).mono fun σ H Q ⟨ρ,s,m,er,S,P⟩=>⟨ρ,s,m,er,S,P.bind fun v s1 u H1 m1 e1 S1 r1 P1=>by
  split at P1
  ·split at P1
   ·rename_i n _ l0 hg;obtain⟨_,ID,h0,r0⟩:=S1.get hg;cases r1 with
    |ref hn =>
    refine⟨_,rfl,.inl ⟨ID,.inl h0⟩,ρ,s1,m1,er.ext e1,S1,P1.bind fun w s2 u2 H2 m2 e2 S2 r2 P2=>?_⟩;split at P2
    ·rename_i l Jl;split at P2
     ·rename_i k hk;split at P2
      ·rename_i p hv;obtain⟨_,vs,h1,r⟩:=S2.get Jl;obtain⟨u,eu,ru⟩:=(r.val k).1 p hv;obtain⟨S3,e3⟩:=S2.putD Jl (r.drop (k:=k));rw[<-e2.ad _ hn];exact⟨vs,k,u,h1,nI r2 hk,eu,P2 _ _ _ e3 S3 (ru.ext e3)⟩
      ·exact P2.elim
     ·exact P2.elim
    ·exact P2.elim
   ·exact P1.elim
  ·exact P1.elim⟩⟩
def Ite(K:aa)(a:ac):It :=
 ⟨fun i H=>∃xs x,SqL K H a xs/\xs[i]?=some x,fun i H x H'=>∃p,H p=none/\x=.ref p/\∀xs,SqL K H a xs->∃y,xs[i]?=some y/\H'=upd H p (.tup [.int i,y]),fun i H=>∃xs,SqL K H a xs/\xs.length<=i⟩
def Inv.turned2{GX:List (ac×Obj)}{σ:St}{H:Hp}{s:ah}{h':ba}{t':Nat}{e it n:ac}{xs:List V}(I:Inv X GX σ H s)(k:∀b o,b≠e->b≠it->s.heap.get? b=some o->h'.get? b=some o)(fe:vI X GX H e)(fi:vI X GX H it)(hn:s.heap.objs.size<=n)(new:ObjOk X.prog X.w (upd H n (.tup xs)) h' n (.tup xs)):Inv X GX σ (upd H n (.tup xs)) { s with heap:=h',toks:=t' }:=by
 have nH:H n=none:=I.hok.fresh hn;have nn:∀b u,H b=some u->b≠n:=fun b u q z=>by rw[z,nH] at q;cases q
 have Kl:∀b u,H b=some u->b≠e/\b≠it:=fun b u q=>⟨fun z=>(by rw[z,fe.1] at q;cases q),fun z=>(by rw[z,fi.1] at q;cases q)⟩;have k':∀b o,b∉[e,it]->s.heap.get? b=some o->h'.get? b=some o:=fun b o hc q=>k b o (fun z=>hc (by simp[z])) (fun z=>hc (by simp[z])) q;refine I.step (g':=s.gens) (d':=s.drawn) (ch:=[e,it]) (fun b hb=>?_) (fun b o _ _ hc e _=>k' b o hc e) (fun b o _ _ hc e _=>⟨o.slots,k' b o hc e⟩) (fun b o _ q z=>?_)
  (fun b o hc e=>⟨o,k' b o hc e⟩) (fun b _ q=>?_) (fun b _ _ q=>?_) (fun b ps q=>⟨#[],?_⟩) (fun m hm=>?_) (fun b u q=>?_) I.bare
 ·rcases aj.mp hb with z|z
  ·subst z;exact⟨fe.2.2.2.1,fe.2.1,fe.2.2.2.2.1,fe.2.2.2.2.2⟩
  ·have z:=al.mp z;subst z;exact⟨fi.2.2.2.1,fi.2.1,fi.2.2.2.2.1,fi.2.2.2.2.2⟩
 ·rw[jN (aT (au (aE q) hn))];exact z
 ·rw[jN (nn b _ q)];exact q
 ·rw[jN (nn b _ q)];exact q
 ·rw[jN (nn b _ q),q];simp
 ·obtain⟨o,es,ep,ho,r⟩:=hm;exact⟨o,es,ep,k _ o (cj fe.2.1) (cj fi.2.1) ho,r⟩
 ·by_cases hb:b=n
  ·subst hb;rw[jR] at q;cases q;exact new
  ·rw[jN hb] at q;refine(I.hok b u q).stay (fun c v hc w=>?_) (fun c w=>by rw[jN (nn c _ w)];exact w) fun c xs w=>by rw[jN (nn c _ w)];exact w
   have:c≠e/\c≠it:=by
    rcases hc with z|z
    ·rw[z];exact Kl b u q
    ·exact Kl c _ z
   exact k c v this.1 this.2 w
def zN{P:az}{w:aU}{K:aa}{es:List aN}{x1:_}{px:Pos}(a e it:ac)(Hr:e≠it):Turn P w K (.Tuple es x1 px) (Ite K a) [e,it] e (fun i h=>(∃old,IsEnum h e it i old)/\h.IsListIter it a i) where
 mem:=by simp
 obj:=fun i h st b hb=>by
  obtain⟨⟨old,he⟩,o,e1,c,d⟩:=st;rcases aj.mp hb with z|z
  ·subst z;exact⟨_,he,fun v z=>by cases z⟩
  ·have z:=al.mp z;subst z;exact⟨o,e1,fun v z=>by rw[d] at z;cases z⟩
 keep:=fun i h h' st k=>⟨let⟨old,he⟩:=st.1;⟨old,k e (by simp) _ he⟩,st.2.at fun o e=>k it (by simp) o e⟩
 item:=by
  intro X hP hw hK hc i GX s σ H E I hf st hg;subst hP hw hK;obtain⟨xs,x,hq,hx⟩:=hg;obtain⟨its,rv,p,hz⟩:=I.list hq;obtain⟨u,hu,ru⟩:=rv.get hx;obtain⟨⟨old,he⟩,st⟩:=st;refine wpAny_pyNext_enum_item he st p.isList (x:=u) (by simpa using hu) Hr fun h' eo Ij ht hs kp=>⟨_,rfl,?_⟩;refine wpAny_letOwnedTupleGo_enum eo fun h2 e2 sb=>?_;have hel:e<s.heap.objs.size:=aE he;have Mc:h2.get? s.heap.objs.size=some { cls:=.type "tuple",data:=.seq #[.int i s.toks,u] }:=(sb.2 _ (jd hel)).trans ht;have kp2:∀b o,b≠e->b≠it->s.heap.get? b=some o->h2.get? b=some o:=fun b o b1 b2 q=>(sb.2 b b1).trans (kp b o b1 b2 q);have I1:Inv X GX σ (upd H s.heap.objs.size (.tup [.int i,x])) { s with heap:=h2,toks:=s.toks+1 } :=
   I.turned2 kp2 (hf e (by simp)) (hf it (by simp)) (aq _) ⟨(show 2<=aB by decide),[.int i s.toks,u],.cons ⟨_,rfl⟩ (.cons ru .nil),_,Mc,rfl,0,rfl⟩
  refine⟨.ref s.heap.objs.size,_,I1,rfl,⟨_,I.fresh,rfl,fun ys hy=>⟨x,by rw[I.list_inj hy hq];exact hx,rfl⟩⟩,⟨⟨u,by simpa using e2⟩,Ij.at fun o q=>(sb.2 it (cj Hr)).trans q⟩,fun b hb=>?_⟩;have Hs:b≠s.heap.objs.size:=by
   rcases aj.mp hb with z|z
   ·rw[z];exact aT hel
   ·rw[al.mp z];obtain⟨o,q,_⟩:=st;exact aT (aE q)
  rw[jN Hs];exact(hf b hb).1
 done:=by intro X hP hw hK hc i GX s σ H E I hf st hg;subst hP hw hK;obtain⟨xs,hq,hx⟩:=hg;obtain⟨its,rv,p,hz⟩:=I.list hq;obtain⟨f0,f1,f2,f3,f4,f5⟩:=hf it (by simp);obtain⟨⟨old,he⟩,st⟩:=st;have hl:=rv.length;exact wpAny_pyNext_enum_end (I.ok.hd hc) he st p.isList (by simp;omega) fun h' eb=>⟨rfl,I.turned (t':=s.toks) (fun b o hb e=>eb b o hb e) f0 f1 f3 f4 f5⟩
 self:=fun _ _ _ _ _ st h=>let⟨_,he⟩:=st.1;wpAny_pyIter_enum he h
def uS(k:Nat):List PV->List PV
 |[]=>[]
 |p::r=>.tup [.int k,p]::uS (k+1) r
theorem vv:∀(l:List PV)(k i:Nat),(uS k l)[i]?=(l[i]?).map fun p=>PV.tup [.int (k+i:Nat),p]
 |[],_,_=>rfl
 |p::r,k,0=>rfl
 |p::r,k,i+1=>by have:=vv r (k+1) i;rw[show k+1+i=k+(i+1) by omega] at this;exact this
theorem rJ:∀(l:List PV)(k:Nat),(uS k l).length=l.length
 |[],_=>rfl
 |p::r,k=>congrArg (·+1) (rJ r (k+1))
def Au(fa:XA)(ρ:En)(s:Sto):Out (List PV):=(fa ρ s).bind fun vs s1=>match vs with
 |[.lst l]=>.ok (uS 0 l) s1
 |_=>.bad
def vZ:bj "enumerate"=some (.type "enumerate"):=by decide +kernel
def iEnum(K:aa)(ta:TA):TI:=fun σ H R=>ta σ H fun xs H1=>∃a ys,xs=[.ref a]/\SqL K H1 a ys/\R (Ite K a) H1
def Di{es:List aN}{x1:_}{px p:Pos}{ta:TA}(hg:Gl X "enumerate")(hm:X.mg "enumerate"=none)(ha:PA X [a] ta)(hs:ar [a] X.env=[(false,eval a X.env)]:=by rfl):PI X (.Tuple es x1 px) (.Call (.Name "enumerate" p) [a] [] pos) (iEnum X.K ta):=by
 intro GX s σ H R I h;refine Call_ (uF I hg hm vZ (dZ (thn (ha pos GX s σ H _ I h) fun us s1 ⟨vs,H1,I1,r1,q1⟩=>?_) hs rfl));obtain⟨b,ys,e,hq,q⟩:=q1;subst e;cases r1 with
 |cons r rr =>
  cases rr;cases r;obtain⟨its,rv,pl,hz⟩:=I1.list hq;refine call_enumerate_list pl.isList fun h' he hi hsz kp=>?_;refine wpAny_pyIter_enum he ⟨s1.heap.objs.size+1,[s1.heap.objs.size+1,s1.heap.objs.size],_,_,H1,rfl,I1.kept (t':=s1.toks) kp,zN b (s1.heap.objs.size+1) s1.heap.objs.size (Nat.succ_ne_self _),⟨⟨_,he⟩,hi⟩,fun c hc=>?_,q⟩;have KP:s1.heap.objs.size<=c:=by
   rcases aj.mp hc with z|z
   ·rw[z];omega
   ·rw[al.mp z];exact aq _
  exact I1.fpOk KP (I1.hok.fresh KP)
def iterE{K:aa}{H0:Hp}{m0:Mp}{s0:Sto}{b:ac}{l:List PV}(r:Rep K H0 m0 s0 (.ref b) (.lst l)):mQ K CB (Ite K b) (uS 0 l) H0 m0 s0:=by
 intro i H m s ex S;obtain⟨b',vs,e,hq,rs⟩:=(r.ext0 ex.toExtR).ls S (show lsOf s (.lst l)=some l from rfl);cases e;refine⟨fun q' Ia=>?_,fun hi=>⟨vs,hq,by rw[rs.length,<-rJ l 0];exact hi⟩⟩;rw[vv] at Ia;cases cl:l[i]? with
 |none=>rw[cl] at Ia;cases Ia
 |some q0 =>
  rw[cl] at Ia;cases Ia;obtain⟨u,hu,ru⟩:=rs.get cl;refine⟨⟨vs,u,hq,hu⟩,fun x H' ⟨p,hp,e1,e2⟩=>?_⟩;obtain⟨y,hy,e3⟩:=e2 vs hq;subst e1 e3;rw[hu] at hy;cases hy;have k:=My.nE (o:=.tup [.int (i:Int),u]) hp;have S':=S.same k;exact⟨.same k,S',.tup (.inl ⟨.inl jR,S'.pure_tup jR⟩) (by rw[Nat.zero_add];exact .cons .int (.cons (ru.ext (.same k)) .nil))⟩
def Ec{es:List aN}{x1:_}{px p:Pos}{fa:XA}(ha:DA X CB E [a] fa)(hg:Gl X "enumerate":=by rfl)(hm:X.mg "enumerate"=none:=by assumption)(hs:ar [a] X.env=[(false,eval a X.env)]:=by rfl):DI X CB E (.Tuple es x1 px) (.Call (.Name "enumerate" p) [a] [] pos) (Au fa) :=
 ⟨(Di hg hm ha.pa hs).mono fun σ H R q=>TDI.bindA q fun v s1 u H1 m1 S1 r1 P=>by
  split at P
  ·rename_i l s' hF;split at hF
   ·cases hF;cases r1 with
    |cons r n =>
     cases n;cases r with
     |lst h1 h2 h3=>exact⟨_,_,rfl,SqL.of h1,P _ _ _ .refl S1 (iterE (.lst h1 h2 h3))⟩
   ·cases hF
  ·rename_i hF;split at hF<;>cases hF
  ·exact P.elim⟩
def rIsiT(K:aa):List V->Hp->VK->Prop:=fun xs H Q=>∃(x:V)(p:ac)(Cs:List ac)(t:ae)(b:Bool),xs=[x,.ref p]/\H p=some (.tup (Cs.map V.ref))/\((x=.non/\t=.type "NoneType")\/∃a C,x=.ref a/\t=.ref C/\H a=some (yJ C a)/\Exc K C)/\cR K t (Cs.map aV)=some b/\Q (.bl b) H
theorem uY:∀{Cs:List ac}{us:List ae},Vals (Cs.map V.ref) us->us=Cs.map aV
 |[],_,h=>by cases h;rfl
 |C::r,_,h=>by
  cases h with
  |cons a b =>
   cases a;rw[uY b];rfl
def Ao:CallR X (.builtin "isinstance") (rIsiT X.K):=by
 intro GX s σ H xs us Q I r h;obtain⟨x,p,Cs,t,b,rfl,hp,ty,e,q⟩:=h;obtain⟨u,v,rfl,ru,rv⟩:=EI r;cases rv;have Hd:∀tk,EP X GX σ Q (.bool b) { s with toks:=tk }:=fun tk=>⟨.bl b,H,I.tok tk,rfl,q⟩;obtain⟨its,r',⟨⟨oc,od,dt,sl⟩,ho,hc,n,hd⟩,_⟩:=I.tuple (.inl (.inl hp));have hc:oc=.type "tuple":=hc;have hd:dt=.seq its.toArray n:=hd;subst hc hd;have e2:=uY r';subst e2;rcases ty with⟨rfl,rfl⟩|⟨a,C,rfl,rfl,ha,Z⟩
 ·cases(show u=gC from ru);exact jE jk I.kIn bZ ho e (fun z=>nomatch z) Hd
 ·cases(show u=aV a from ru);obtain⟨p,_⟩:=I.hok a _ ha;exact jE (xy Z) I.kIn p ho e (fun z=>nomatch z) Hd
def Av(Cs:List ac):TA:=fun _ H Q=>Q (Cs.map V.ref) H
def wO:PA X [] (Av []):=pa_nil
def nr{x:Str}{p:Pos}{es:List aN}{C:ac}{Cs:List ac}(hm:X.mg x=some (.ref C))(h:PA X es (Av Cs))(hg:Gl X x:=by rfl)(hd:NDb x:=by decide)(hs:ar (.Name x p::es) X.env=(false,eval (.Name x p) X.env)::ar es X.env:=by rfl):PA X (.Name x p::es) (Av (C::Cs)) :=
 jZ (mi (v:=.ref C) hg hm rfl hd) h hs
def BC{cl Cs:List ac}{tb:ac->Bool}{es:List aN}{x1:_}{px p:Pos}(ha:DE X CB E a f)(hes:PA X es (Av Cs))(hk:∀c∈cl,Exc X.K c/\cR X.K (.ref c) (Cs.map aV)=some (tb c))(hn:cR X.K (.type "NoneType") (Cs.map aV)=some false)(hl:Cs.length<=100:=by simp)(JP:Gl X "isinstance":=by rfl)(JK:X.mg "isinstance"=none:=by exact T.b_isinstance)(hs:ar [a,.Tuple es x1 px] X.env=(false,eval a X.env)::ar [.Tuple es x1 px] X.env:=by rfl)(Lk:ar [.Tuple es x1 px] X.env=(false,eval (.Tuple es x1 px) X.env)::ar [] X.env:=by rfl)(Hn:(bV pos (ar [.Tuple es x1 px] X.env)).any (·.1)=false:=by rfl):DE X CB E (.Call (.Name "isinstance" p) [a,.Tuple es x1 px] [] pos) (rW cl tb f) :=
 ⟨(li Ao JP JK lU (jZ ha.pe (jZ (uw hes) pa_nil Lk) hs) (by decide) (by decide) hs Hn).mono fun σ H Q ⟨ρ,s,m,er,S,P⟩=>⟨ρ,s,m,er,S,P.bind fun v s1 u H1 m1 e1 S1 r1 P1=>by
  have hz:(Cs.map V.ref).length<=aB:=by rw[af];exact aC hl (by decide)
  refine⟨hz,fun q hq=>?_⟩;have k:=My.nE (o:=.tup (Cs.map V.ref)) hq;split at P1
  ·rename_i c;split at P1
   ·rename_i hc;cases r1 with
    |exc h1 h2=>exact⟨_,q,Cs,.ref c,tb c,rfl,jR,.inr ⟨_,c,rfl,rfl,k _ _ h1,(hk c hc).1⟩,(hk c hc).2,P1 _ _ _ (.same k) (S1.same k) .bl⟩
   ·exact P1.elim
  ·cases r1;exact⟨_,q,Cs,.type "NoneType",false,rfl,jR,.inl ⟨rfl,rfl⟩,hn,P1 _ _ _ (.same k) (S1.same k) .bl⟩
  ·exact P1.elim⟩⟩
def GT(v:PV)(s:Sto):Out PV:=match v with
 |.lst l=>.ok (.lst l) s
 |v=>frz1 v s
def xT(f:XE)(ρ:En)(s:Sto):Out PV:=(f ρ s).bind GT
def Er(h:DE X CB E a f):DE X CB E a (xT f):=⟨h.pe.mono fun σ H Q ⟨ρ,s,m,er,S,P⟩=>⟨ρ,s,m,er,S,P.bind fun v s1 u H1 m1 e1 S1 r1 P1=>by
 unfold GT at P1;split at P1
 ·exact P1.here S1 r1
 ·cases c:frz1 v s1 with
  |ok w s2 =>
   rw[c] at P1;obtain⟨S2,e2,r2⟩:=S1.frz r1 c;exact P1 u H1 m1 e2 S2 r2
  |ex c' s' =>
   unfold frz1 at c
   repeat' split at c
   all_goals cases c
  |bad=>rw[c] at P1;exact P1.elim⟩⟩
end
end L2
namespace Att
open PySem PySem.W PySem.Calls PyProof.Rows
def WtOk(ns:List Int):Prop:=∀n∈ns,bL n<=1048576
theorem BQ:∀{ns:List Int},fM (ns.map fB)<=2^20->WtOk ns
 |[],_,_,h=>nomatch h
 |m::r,h,n,hn=>by
  have e:fM ((m::r).map fB)=bL m+1+fM (r.map fB):=rfl;rw[e] at h;rcases aj.mp hn with z|z
  ·rw[z];omega
  ·exact BQ (show fM (r.map fB)<=2^20 by omega) n z
def attach_callW{l:fw}{n:Nat}{q:az}{HQ:List Str}{XP:(Str->Option ae)->ba->Prop}{YP:aU->ba->Prop}{d:DefRec}(hn:l.most=some n)(KM:d.params.defaults=[])(call:∀(w:aU)(sa0 G6:ah)(mg mb:Str->Option ae)(fa:ac)(o:Obj)(pm cd HX:ae)(a:ac)(vs:List ae)(ns:List Int),
   Ground q HQ [] XP w sa0 mg mb G6.heap->YP w G6.heap ->
   G6.heap.get? fa=some o->o.data=.func (docDef d.name d.params d.body d.scope pm cd HX)->G6.heap.CodeRec cd d.name->mg d.name=some (.ref fa) ->
   G6.heap.get? a=some { cls:=.type "list",data:=.seq vs.toArray }->IntsAre vs ns->ns.length<=n->WtOk ns->G6.gens=#[] ->
   eR (model l.prog w) ii (.call (.ref fa) ⟨[.ref a],[]⟩) (fun r s'=>r=.ok (.ret (.bool true))/\OldK G6.heap s'.heap/\s'.os=G6.os/\fO s'.gens) G6) :
  jv q HQ XP YP l.row.toRowW d [] (fun f vs=>js f vs):=by
 intro w sa0 G6 mg mb G Y fa o pm cd HX dV kV ho hd Ie hD Ky hg args JA as Jd Mn hrd L9 hlo;obtain rfl:dV=.none:=Dflts.none hD KM;obtain rfl:kV=.none:=Dflts.noKw hD;obtain⟨a,vs,ns,rfl,rfl,JJ,IM,G1⟩:=zR hn Jd L9;have hw:WtOk ns:=by have h1:(WData.list (ns.map fB)).layable=true:=(cJ.mp Mn) _ ap;simp only[WData.layable,bT,decide_eq_true_eq] at h1;exact BQ h1.2
 refine enter_call (gn (call w sa0 G6 mg mb fa o pm cd HX a vs ns G Y ho (fd_plain hd) Ie Ky JJ IM G1 hw hg) fun r s' hq=>?_);obtain⟨rfl,h2,h3,h4⟩:=hq;exact⟨.inl ⟨.bool true,.bool true,[],rfl,fun _=>rfl,.bool true,zS l _,fun _=>⟨List.Pairwise.nil,fun _ hm=>(nomatch hm)⟩⟩,h2,h3,h4⟩
end Att
namespace L2
open PySem PySem.Spec PyProof.Rows
def walk_ofW{l:fw}{n k:Nat}{q:az}{HQ:List Str}{XP:(Str->Option ae)->ba->Prop}{YP:aU->ba->Prop}{d:DefRec}{K:Params->aa}{CX:aU->CXT}{sp:aU->Sp}{x:Str}(hn:l.most=some n)(Lm:n<=aB)(KM:d.params.defaults=[])(hr:Room k ii)(hY:∀(w:aU)(h:ba),YP w h->(K w.params).In h)(F:∀(w:aU)(mg:Str->Option ae)(fa:ac)(h:ba),(K w.params).In h->h.Ns aS mg->mg d.name=some (.ref fa) ->
   ∃fd:bJ,(∀(s:ah)(u:ae),io s fd ⟨[u],[]⟩ [(x,u)]) /\
    ∀base:ba,(K w.params).In base->base.Ns aS mg->FnOk l.prog w (K w.params) mg base (CX w) k fa fd [x] (sp w))(IS:∀(w:aU)(H:Hp)(a:ac)(ns:List Int),ns.length<=n->Att.WtOk ns->EH H->SqL (K w.params) H a (ns.map V.int)->sp w [.ref a] H (fun v _=>v=.bl true) fun _ _ _=>False)(MM:∀(w:aU)(H:Hp)(s:ah)(e:ae)(s':ah),CX w [] H s (fun _ _ _=>False) e s'->False) :
  jv q HQ XP YP l.row.toRowW d [] (fun f vs=>js f vs):=by
 refine Att.attach_callW hn KM fun w sa0 G6 mg mb fa o pm cd HX a vs ns G Y ho hd Ie Ky JJ IM G1 hw hg=>?_;have KX:=hY w _ Y;obtain⟨fd,hb,hF⟩:=F w mg fa _ KX G.T.g Ky;exact Bq KX G.T.g G.T.b G.T.builtins G.T.nolimit hg JJ IM (aC G1 Lm) hr hF hb (fun H hO hS=>IS w H a ns G1 hw hO hS) fun H e s'=>MM w H G6 e s'
def F4{i j:Int}(hi:bL i<=33554432)(hj:bL j<=33554432):gK i j:=by unfold gK;intro h;simp only[bT,decide_eq_true_eq,Builtin.Int.intTooBig] at h;have:((bL i:Int)+(bL j:Int))>(bitsLine:Nat):=h.2;unfold bitsLine at this;omega
end L2
namespace My
open PySem L2 Fra
def Adr.cl(a:Adr):List ac:=[a.NoHouse]
def Adr.others(a:Adr):List ac:=[a.NoHolder,a.NoLoss,a.NoName,a.NoShare,a.NoText,a.TooMany,a.Twice,a.Whole]
structure T2y(K:aa)(a:Adr):Prop where
 tr:∀c∈a.cl,Exc K c/\bU K c (.ref a.OwnError)=some true
 ka:∀c∈a.cl,Exc K c/\cR K (.ref c) (a.others.map aV)=some false
 na:cR K (.type "NoneType") (a.others.map aV)=some false
 kv:∀c∈a.cl,Exc K c/\bu K (.ref c) (.type "ValueError")=some true
 nv:bu K (.type "NoneType") (.type "ValueError")=some false
 k_NoHouse:∀c∈a.cl,Exc K c/\bu K (.ref c) (.ref a.NoHouse)=some (decide (c=a.NoHouse))
 n_NoHouse:bu K (.type "NoneType") (.ref a.NoHouse)=some false
section
variable{P:az}{w:aU}{K:aa}{mg:Str->Option ae}{base:ba}{a:Adr}{f:ac}{fd:bJ}
structure Yz(K:aa)(mg:Str->Option ae)(a:Adr):Prop where
 T:Txt K mg a
 h:∃h:ba,K.In h/\h.Ns aS mg
def gof{x:Str}{st:bM}{k:Nat}{ps:List Str}{sp:Sp}(c:Gf K x st)(Y:Yz K mg a)(o:∀{f:ac}{fd:bJ},Txt K mg a->Fun K x x st f fd->FnOk P w K mg base (CXo P w) k f fd ps sp)(b:Bd x x st ps:=by first|exact bd1|exact bd2|exact bd3|exact bd4|exact bd5|exact bd6|exact bd0):Fn P w K mg base x k ps sp :=
 let⟨_,X,G⟩:=Y.h;c.fn X G (o Y.T) b
variable (P w K mg base a) in abbrev uP:=Mt P w K mg base a.Book "person" 4 ["self","name"] (spD K a.Book 2 (pA a))
variable (P w K mg base a) in abbrev wa:=Mt P w K mg base a.Book "house" 4 ["self","name","owner","things","mark","loss"] (spD K a.Book 6 (rh a))
variable (P w K mg base a) in abbrev wY:=Mt P w K mg base a.Book "sale" 4 ["self","house","one","other","share"] (spD K a.Book 5 (qG a))
variable (P w K mg base a) in abbrev uO:=Mt P w K mg base a.Book "shares" 3 ["self","house"] (spD K a.Book 2 (pz a))
variable (P w K mg base a) in abbrev si:=Mt P w K mg base a.Book "is_house" 1 ["self","name"] (spD K a.Book 2 (mX a))
variable (P w K mg base a) in abbrev qm:=Mt P w K mg base a.Book "need_house" 2 ["self","name"] (spD K a.Book 2 (kS a))
variable (P w K mg base a) in abbrev wZ:=MkB P w K mg base "Book" a.Book 1 ["self"] (B8 K a.Book)
abbrev nN:bM:=top 29
def uk:FnScope ["_law_cell","_law_k","_law_number_here"] ["_law_cell","_law_k"] (jS nN):=fsc
def qw(a:Adr):XS:=(xSeq (xSet 2 (x2 (x2 (x2 (x2 (x2 (x2 (xVar 0) (xVar 0) yI) (x2 (xC (.int 3)) (xVar 0) fMul) fAdd) (x2 (xC (.int 7919)) (xVar 1) fMul) fAdd) (xC (.int 1)) fAdd) (xC (.int 48271)) fMul) (xC (.int 2147483629)) fMod)) (xRet (x2 (x2 (x2 (xVar 2) (xVar 2) fMul) (xC (.int 7)) fAdd) (xC (.int 2147483587)) fMod)))
def mD(a:Adr):XF:=(fnD 3 (qw a))
variable (P w K mg base a) in abbrev nW:=Fn P w K mg base "_law_mixed" 1 ["_law_cell","_law_k"] (spD K a.Book 2 (mD a))
def uB(Y:Yz K mg a)(c:Gf K "_law_mixed" nN):nW P w K mg base a :=
 gof c Y fun T F=>oi F uk rfl fun _ _ _ _ _ _ hr S=>(jQ (kj 2 (qE (lg (kP (kP (kP (Ej (jM 0) (jM 0)) (lg jT (jM 0))) (lg jT (jM 1))) jT) jT) jT)) (ke (k7 (qE (kP (lg (jM 2) (jM 2)) jT) jT))))
abbrev nL:bM:=top 30
def uh:FnScope ["_law_script","_law_cells","_law_number_here","_law_k"] ["_law_script"] (jS nL):=fsc
def mI(a:Adr) :XS:=(xSet 2 (x2 (x2 (xVar 2) (xC (.int 2147483587)) fMul) (xCall 2 (mD a) (xCons (x2 (xVar 1) (x2 (xVar 3) (xB (xCons (xVar 1) xNil) fLen) fMod) fIx) (xCons (xVar 3) xNil))) fAdd))
def nR(a:Adr):XS:=(xSeq (xSet 1 (x2 (xSl (xVar 0) xNoP (xPart (xC (.int 63)))) (xLst (xCons (xC (.int 0)) xNil)) fAdd)) (xSeq (xSet 2 (xC (.int 1))) (xSeq (xFor (xRng1 (xCons (xC (.int 64)) xNil)) (yName 3) (mI a)) (xSeq (xIf (xTr (x2 (xB (xCons (x2 (xVar 1) (xC (.int 0)) fIx) xNil) fAbs) (x2 (xC (.int 10)) (xC (.int 18)) fPow) fGe)) (xRet (xLstC (xCons (xB (xCons (x2 (xVar 1) (xC (.int 0)) fIx) xNil) fAbs) (xCons (xVar 2) xNil)))) xEnd) (xRet (xLstC (xCons (xVar 2) (xCons (xVar 2) xNil))))))))
def lH(a:Adr):XF:=(fnD 4 (nR a))
variable (P w K mg base a) in abbrev nU:=Fn P w K mg base "_law_purse" 2 ["_law_script"] (spD K a.Book 1 (lH a))
def uz(Y:Yz K mg a)(c:Gf K "_law_purse" nL)(A0:nW P w K mg base a):nU P w K mg base a :=
 gof c Y fun T F=>oi F uh rfl fun _ _ _ _ _ _ hr S=>(jQ (kj 1 (kP (CQ (jM 0) wo (wn jT)) (sC (jU jT)))) (jQ (kj 2 jT) (jQ (qD (mO (jU jT)) (kJ 3) (ke (kj 2 (kP (lg (jM 2) jT) (kN A0 (jV (ky (jM 1) (qE (jM 3) (kC b_len (jU (jM 1))))) (jU (jM 3)))))))) (jQ (nC (mU c_ge (kC b_abs (jU (ky (jM 1) jT))) (uK jT jT)) (ke (k7 (tK (jV (kC b_abs (jU (ky (jM 1) jT))) (jU (jM 2)))))) kW) (ke (k7 (tK (jV (jM 2) (jU (jM 2))))))))))
abbrev oS:bM:=top 31
def vP:FnScope ["_law_purse_here","_law_out_of","_law_drawn"] ["_law_purse_here","_law_out_of"] (jS oS):=fsc
def o4(a:Adr):XS:=(xSeq (xIf (xTr (x2 (x2 (xVar 0) (xC (.int 0)) fIx) (xC (.int 0)) fEq)) (xPut (xVar 0) (xC (.int 0)) (x2 (xVar 0) (xC (.int 1)) fIx)) xEnd) (xSeq (xSet 2 (x2 (x2 (xVar 0) (xC (.int 0)) fIx) (xVar 1) fMod)) (xSeq (xPut (xVar 0) (xC (.int 0)) (x2 (x2 (xVar 0) (xC (.int 0)) fIx) (xVar 1) fDiv)) (xRet (xVar 2)))))
def jX(a:Adr):XF:=(fnD 3 (o4 a))
variable (P w K mg base a) in abbrev la:=Fn P w K mg base "_law_draw" 1 ["_law_purse_here","_law_out_of"] (spD K a.Book 2 (jX a))
def vX(Y:Yz K mg a)(c:Gf K "_law_draw" oS):la P w K mg base a :=
 gof c Y fun T F=>oi F vP rfl fun _ _ _ _ _ _ hr S=>(jQ (nC (mU Ff (ky (jM 0) jT) jT) (ke (sA (jM 0) jT (ky (jM 0) jT))) kW) (jQ (kj 2 (qE (ky (jM 0) jT) (jM 1))) (jQ (sA (jM 0) jT (wD (ky (jM 0) jT) (jM 1))) (ke (k7 (jM 2))))))
abbrev mH:bM:=top 32
def rY:FnScope ["_law_one","_law_other"] ["_law_one","_law_other"] (jS mH):=fsc
def lc(a:Adr) :XS:=(xPar 0 1 (xCons (xVar 1) (xCons (x2 (xVar 0) (xVar 1) fMod) xNil)))
def oJ(a:Adr):XS:=(xSeq (xSet 0 (xB (xCons (xVar 0) xNil) fAbs)) (xSeq (xSet 1 (xB (xCons (xVar 1) xNil) fAbs)) (xSeq (pJ (xTr (x2 (xVar 1) (xC (.int 0)) fGt)) (lc a)) (xRet (xVar 0)))))
def lG(a:Adr):XF:=(fnD 2 (oJ a))
variable (P w K mg base a) in abbrev mL:=Fn P w K mg base "_law_divisor" 1 ["_law_one","_law_other"] (spD K a.Book 2 (lG a))
def sd(Y:Yz K mg a)(c:Gf K "_law_divisor" mH):mL P w K mg base a :=
 gof c Y fun T F=>oi F rY rfl fun _ _ _ _ _ _ hr S=>(jQ (kj 0 (kC b_abs (jU (jM 0)))) (jQ (kj 1 (kC b_abs (jU (jM 1)))) (jQ (t7 (mU GV (jM 1) jT) (ke (Gw (i:=0) (j:=1) rfl S.nd rfl rfl (by decide) rfl rfl (jV (jM 1) (jU (qE (jM 0) (jM 1)))) rfl))) (ke (k7 (jM 0))))))
abbrev oR:bM:=top 33
def vO:FnScope ["_law_top","_law_bottom","_law_by"] ["_law_top","_law_bottom"] (jS oR):=fsc
def rQ(a:Adr):XS:=(xSeq (xSet 2 (xCall 2 (lG a) (xCons (xVar 0) (xCons (xVar 1) xNil)))) (xSeq (xIf (xTr (x2 (xVar 1) (xC (.int 0)) fLt)) (xSet 2 (x2 (xC (.int 0)) (xVar 2) fSub)) xEnd) (xRet (xTup (xCons (x2 (xVar 0) (xVar 2) fDiv) (xCons (x2 (xVar 1) (xVar 2) fDiv) xNil))))))
def kH(a:Adr):XF:=(fnD 3 (rQ a))
variable (P w K mg base a) in abbrev m7:=Fn P w K mg base "_law_made" 2 ["_law_top","_law_bottom"] (spD K a.Book 2 (kH a))
def vW(Y:Yz K mg a)(c:Gf K "_law_made" oR)(A0:mL P w K mg base a):m7 P w K mg base a :=
 gof c Y fun T F=>oi F vO rfl fun _ _ _ _ _ _ hr S=>(jQ (kj 2 (kN A0 (jV (jM 0) (jU (jM 1))))) (jQ (nC (mU c_lt (jM 1) jT) (ke (kj 2 (uJ jT (jM 2)))) kW) (ke (k7 (uI (jV (wD (jM 0) (jM 2)) (jU (wD (jM 1) (jM 2)))))))))
abbrev nM:bM:=top 34
def uj:FnScope ["_law_purse_here","_law_many","_law_letters","_law_long","_law_stem","_law_at","_law_found","_law_k","_law_spots"] ["_law_purse_here","_law_many"] (jS nM):=fsc
def k8(a:Adr) :XS:=(xSeq (xSet 8 (n9 (xRng1 (xCons (xVar 3) xNil)) [4,7,5] pY (x2 (x2 (xVar 1) (xVar 0) fIx) (x2 (x2 (xC (.int 5)) (xVar 2) fMul) (xB (xCons (x2 (xVar 0) (xVar 3) fEq) xNil) fInt) fMul) fAdd))) (xDo (xAppend (xVar 6) (xCons (xJoin (xC (.str "")) (xCons (n9 (xIter (xVar 8)) [2] pY (x2 (xVar 1) (x2 (xVar 0) (xC (.int 26)) fMod) fIx)) xNil)) xNil))))
def nS(a:Adr):XS:=(xSeq (xSet 2 (xC (.str "abcdefghijklmnopqrstuvwxyz"))) (xSeq (xSet 3 (x2 (xC (.int 1)) (xCall 2 (jX a) (xCons (xVar 0) (xCons (xC (.int 7)) xNil))) fAdd)) (xSeq (xSet 4 (n9 (xRng1 (xCons (xVar 3) xNil)) [0] pY (xCall 2 (jX a) (xCons (xVar 1) (xCons (xC (.int 26)) xNil))))) (xSeq (xSet 5 (xCall 2 (jX a) (xCons (xVar 0) (xCons (xVar 3) xNil)))) (xSeq (xSet 6 (xLstC xNil)) (xSeq (xFor (xRng1 (xCons (xVar 1) xNil)) (yName 7) (k8 a)) (xSeq (xIf (xTr (x2 (xCall 2 (jX a) (xCons (xVar 0) (xCons (xC (.int 4)) xNil))) (xC (.int 0)) fEq)) (xSet 6 (sj (Au (xCons (xFrz (xVar 6)) xNil)) [] pY (x2 (xVar 1) (x2 (xC (.str "x")) (x2 (xVar 0) (xC (.int 2)) fMod) tG) fAdd))) xEnd) (xRet (xT (xVar 6))))))))))
def nZ(a:Adr):XF:=(fnD 9 (nS a))
variable (P w K mg base a) in abbrev nV:=Fn P w K mg base "_law_names" 2 ["_law_purse_here","_law_many"] (spD K a.Book 2 (nZ a))
def uA(Y:Yz K mg a)(c:Gf K "_law_names" nM)(EN:mg "enumerate"=none)(A0:la P w K mg base a):nV P w K mg base a :=
 gof c Y fun T F=>oi F uj rfl fun _ _ _ _ _ _ hr S=>(jQ (kj 2 sB) (jQ (kj 3 (kP jT (kN A0 (jV (jM 0) (jU jT))))) (jQ (kj 4 (wq (fr:=["_law_purse_here"]) (mO (jU (jM 3))) (fun _ _ _ _ _=>(kN A0 (jV (jM 1) (jU jT)))))) (jQ (kj 5 (kN A0 (jV (jM 0) (jU (jM 3))))) (jQ (kj 6 (tK zb)) (jQ (qD (mO (jU (jM 1))) (kJ 7) (jQ (yL (fr:=["_law_stem","_law_k","_law_at"]) (mO (jU (jM 3))) (fun _ _ _ _ _=>(kP (ky (jM 1) (jM 0)) (lg (lg jT (jM 2)) (Ak b_int (jU (de_cp Ff (jM 0) (jM 3)))))))) (ke (tH (vw (jM 6) (jU (El sB (jU (wq (fr:=["_law_letters"]) (yO (jM 8)) (fun _ _ _ _ _=>(ky (jM 1) (qE (jM 0) jT)))))))))))) (jQ (nC (mU Ff (kN A0 (jV (jM 0) (jU jT))) jT) (ke (wW (fr:=[]) (Ec (jU (GE (jM 6))) rfl EN) (fun _ _ _ _ _=>(kP (jM 1) (Ei sB (qE (jM 0) jT)))))) kW) (ke (k7 (Er (jM 6)))))))))))
abbrev nc:bM:=top 35
def sF:FnScope ["_law_purse_here","_law_most"] ["_law_purse_here"] (jS nc):=fsc
def pW(a:Adr):XS:=(xSeq (xSet 1 (x2 (xLst (xCons (xC (.int 10)) (xCons (xC (.int 10)) (xCons (xC (.int 100)) (xCons (xC (.int 3)) (xCons (x2 (xC (.int 10)) (xC (.int 6)) fPow) (xCons (x2 (xC (.int 10)) (xC (.int 20)) fPow) xNil))))))) (xCall 2 (jX a) (xCons (xVar 0) (xCons (xC (.int 6)) xNil))) fIx)) (xRet (x2 (xCall 2 (jX a) (xCons (xVar 0) (xCons (x2 (xC (.int 2)) (xVar 1) fMul) xNil))) (x2 (xVar 1) (xC (.int 3)) fDiv) fSub)))
def kM(a:Adr):XF:=(fnD 2 (pW a))
variable (P w K mg base a) in abbrev nl:=Fn P w K mg base "_law_number" 2 ["_law_purse_here"] (spD K a.Book 1 (kM a))
def sI(Y:Yz K mg a)(c:Gf K "_law_number" nc)(A0:la P w K mg base a):nl P w K mg base a :=
 gof c Y fun T F=>oi F sF rfl fun _ _ _ _ _ _ hr S=>(jQ (kj 1 (ky (sC (jV jT (jV jT (jV jT (jV jT (jV (uK jT jT) (jU (uK jT jT)))))))) (kN A0 (jV (jM 0) (jU jT))))) (ke (k7 (uJ (kN A0 (jV (jM 0) (jU (lg jT (jM 1))))) (wD (jM 1) jT)))))
abbrev oQ:bM:=top 36
def vN:FnScope ["_law_purse_here","_law_share","_law_kind","_law_low"] ["_law_purse_here","_law_share"] (jS oQ):=fsc
def oZ(a:Adr):XS:=(xSeq (xSet 2 (xCall 2 (jX a) (xCons (xVar 0) (xCons (xC (.int 5)) xNil)))) (xSeq (xIf (xTr (x2 (xVar 2) (xC (.int 0)) fEq)) (xRet (xVar 1)) xEnd) (xSeq (xSet 3 (x2 (xLst (xCons (xC (.int 2)) (xCons (xC (.int 3)) (xCons (xC (.int 7)) (xCons (x2 (xC (.int 10)) (xC (.int 6)) fPow) xNil))))) (x2 (xVar 2) (xC (.int 1)) fSub) fIx)) (xRet (xCall 2 (kH a) (xCons (x2 (x2 (xVar 1) (xC (.int 0)) fIx) (x2 (xC (.int 1)) (xCall 2 (jX a) (xCons (xVar 0) (xCons (x2 (xVar 3) (xC (.int 1)) fSub) xNil))) fAdd) fMul) (xCons (x2 (x2 (xVar 1) (xC (.int 1)) fIx) (xVar 3) fMul) xNil)))))))
def l7(a:Adr):XF:=(fnD 4 (oZ a))
variable (P w K mg base a) in abbrev o6:=Fn P w K mg base "_law_part" 3 ["_law_purse_here","_law_share"] (spD K a.Book 2 (l7 a))
def vV(Y:Yz K mg a)(c:Gf K "_law_part" oQ)(A0:la P w K mg base a)(A1:m7 P w K mg base a):o6 P w K mg base a :=
 gof c Y fun T F=>oi F vN rfl fun _ _ _ _ _ _ hr S=>(jQ (kj 2 (kN A0 (jV (jM 0) (jU jT)))) (jQ (nC (mU Ff (jM 2) jT) (ke (k7 (jM 1))) kW) (jQ (kj 3 (ky (sC (jV jT (jV jT (jV jT (jU (uK jT jT)))))) (uJ (jM 2) jT))) (ke (k7 (kN A1 (jV (lg (ky (jM 1) jT) (kP jT (kN A0 (jV (jM 0) (jU (uJ (jM 3) jT)))))) (jU (lg (ky (jM 1) jT) (jM 3))))))))))
abbrev oP:bM:=top 37
def vM:FnScope ["_law_purse_here","_law_model","_law_holders","_law_book","_law_houses","_law_house","_law_shares","_law_owners","_law_one","_law_other","_law_part_here","_law_top","_law_low","_law_rest"] ["_law_purse_here","_law_model","_law_holders","_law_book"] (jS oP):=fsc
def oY(a:Adr):XS:=(xSeq (xSet 4 (xB (xCons (xVar 1) xNil) ki)) (xSeq (xSet 5 (x2 (xVar 4) (xCall 2 (jX a) (xCons (xVar 0) (xCons (xB (xCons (xVar 4) xNil) fLen) xNil))) fIx)) (xSeq (xSet 6 (x2 (x2 (xVar 1) (xVar 5) fIx) (xC (.int 0)) fIx)) (xSeq (xSet 7 (xB (xCons (xVar 6) xNil) ki)) (xSeq (xSet 8 (x2 (xVar 7) (xCall 2 (jX a) (xCons (xVar 0) (xCons (xB (xCons (xVar 7) xNil) fLen) xNil))) fIx)) (xSeq (xSet 9 (x2 (xVar 2) (xCall 2 (jX a) (xCons (xVar 0) (xCons (xB (xCons (xVar 2) xNil) fLen) xNil))) fIx)) (xSeq (xSet 10 (xCall 2 (l7 a) (xCons (xVar 0) (xCons (x2 (xVar 6) (xVar 8) fIx) xNil)))) (xSeq (xIf (xTr (x2 (x2 (xVar 10) (xC (.int 1)) fIx) (x2 (xC (.int 10)) (xC (.int 29)) fPow) fGe)) xRetN xEnd) (xSeq (xDo (xBM 5 (qG a) (xVar 3) (xCons (xVar 5) (xCons (xVar 8) (xCons (xVar 9) (xCons (xVar 10) xNil)))))) (xSeq (xAsg (xU (xVar 6) (xVar 8)) (yTup 2 (yCons (yName 11) (yCons (yName 12) yNil)))) (xSeq (xSet 13 (xCall 2 (kH a) (xCons (x2 (x2 (xVar 11) (x2 (xVar 10) (xC (.int 1)) fIx) fMul) (x2 (x2 (xVar 10) (xC (.int 0)) fIx) (xVar 12) fMul) fSub) (xCons (x2 (xVar 12) (x2 (xVar 10) (xC (.int 1)) fIx) fMul) xNil)))) (xSeq (xIf (xTr (x2 (x2 (xVar 13) (xC (.int 0)) fIx) (xC (.int 0)) fGt)) (xPut (xVar 6) (xVar 8) (xVar 13)) xEnd) (xSeq (xAsg (xGet (xVar 6) (xVar 9) (xTup (xCons (xC (.int 0)) (xCons (xC (.int 1)) xNil)))) (yTup 2 (yCons (yName 11) (yCons (yName 12) yNil)))) (xPut (xVar 6) (xVar 9) (xCall 2 (kH a) (xCons (x2 (x2 (xVar 11) (x2 (xVar 10) (xC (.int 1)) fIx) fMul) (x2 (x2 (xVar 10) (xC (.int 0)) fIx) (xVar 12) fMul) fAdd) (xCons (x2 (xVar 12) (x2 (xVar 10) (xC (.int 1)) fIx) fMul) xNil)))))))))))))))))
def m8(a:Adr):XF:=(fnD 14 (oY a))
variable (P w K mg base a) in abbrev o5:=Fn P w K mg base "_law_sold" 5 ["_law_purse_here","_law_model","_law_holders","_law_book"] (spD K a.Book 4 (m8 a))
def vU(Y:Yz K mg a)(c:Gf K "_law_sold" oP)(A0:o6 P w K mg base a)(A1:wY P w K mg base a)(A2:m7 P w K mg base a)(A3:la P w K mg base a):o5 P w K mg base a :=
 gof c Y fun T F=>oi F vM rfl fun _ _ _ _ _ _ hr S=>(jQ (kj 4 (kC (b_sorted rfl) (jU (jM 1)))) (jQ (kj 5 (ky (jM 4) (kN A3 (jV (jM 0) (jU (kC b_len (jU (jM 4)))))))) (jQ (kj 6 (ky (ky (jM 1) (jM 5)) jT)) (jQ (kj 7 (kC (b_sorted rfl) (jU (jM 6)))) (jQ (kj 8 (ky (jM 7) (kN A3 (jV (jM 0) (jU (kC b_len (jU (jM 7)))))))) (jQ (kj 9 (ky (jM 2) (kN A3 (jV (jM 0) (jU (kC b_len (jU (jM 2)))))))) (jQ (kj 10 (kN A0 (jV (jM 0) (jU (ky (jM 6) (jM 8)))))) (jQ (nC (mU c_ge (ky (jM 10) jT) (uK jT jT)) (ke D9) kW) (jQ (tH (wE (jM 3) A1 (jV (jM 5) (jV (jM 8) (jV (jM 9) (jU (jM 10))))))) (jQ (y9 (Es (jM 6) (jM 8)) (uH (lf (kJ 11) (lf (kJ 12) rc)))) (jQ (kj 13 (kN A2 (jV (uJ (lg (jM 11) (ky (jM 10) jT)) (lg (ky (jM 10) jT) (jM 12))) (jU (lg (jM 12) (ky (jM 10) jT)))))) (jQ (nC (mU GV (ky (jM 13) jT) jT) (ke (sA (jM 6) (jM 8) (jM 13))) kW) (jQ (y9 (GD (jM 6) (jM 9) (uI (jV jT (jU jT)))) (uH (lf (kJ 11) (lf (kJ 12) rc)))) (ke (sA (jM 6) (jM 9) (kN A2 (jV (kP (lg (jM 11) (ky (jM 10) jT)) (lg (ky (jM 10) jT) (jM 12))) (jU (lg (jM 12) (ky (jM 10) jT))))))))))))))))))))
abbrev nO:bM:=top 38
def ul:FnScope ["_law_purse_here","_law_most","_law_many","_law_count","_law_names_here","_law_book","_law_model","_law_name","_law_k","_law_owner","_law_three"] ["_law_purse_here","_law_most"] (jS nO):=fsc
def mJ(a:Adr) :XS:=(xDo (xBM 2 (pA a) (xVar 5) (xCons (xVar 7) xNil)))
def lF(a:Adr) :XS:=(xSeq (xSet 9 (x2 (xVar 4) (xCall 2 (jX a) (xCons (xVar 0) (xCons (x2 (xVar 2) (xVar 8) fAdd) xNil))) fIx)) (xSeq (xSet 10 (xTup (xCons (xCall 1 (kM a) (xCons (xVar 0) xNil)) (xCons (xCall 1 (kM a) (xCons (xVar 0) xNil)) (xCons (xB (xCons (xCall 1 (kM a) (xCons (xVar 0) xNil)) xNil) fAbs) xNil))))) (xSeq (xDo (xBM 6 (rh a) (xVar 5) (xCons (x2 (xVar 4) (x2 (xVar 2) (xVar 8) fAdd) fIx) (xCons (xVar 9) (xCons (x2 (xVar 10) (xC (.int 0)) fIx) (xCons (x2 (xVar 10) (xC (.int 1)) fIx) (xCons (x2 (xVar 10) (xC (.int 2)) fIx) xNil))))))) (xPut (xVar 6) (x2 (xVar 4) (x2 (xVar 2) (xVar 8) fAdd) fIx) (xLst (xCons (xDisp (xVar 9) (xTup (xCons (xC (.int 1)) (xCons (xC (.int 1)) xNil)))) (xCons (xVar 10) xNil)))))))
def lC(a:Adr) :XS:=(xDo (xCall 4 (m8 a) (xCons (xVar 0) (xCons (xVar 6) (xCons (xVar 4) (xCons (xVar 5) xNil))))))
def qx(a:Adr):XS:=(xSeq (xSet 2 (x2 (xC (.int 1)) (xCall 2 (jX a) (xCons (xVar 0) (xCons (xC (.int 3)) xNil))) fAdd)) (xSeq (xSet 3 (xCall 2 (jX a) (xCons (xVar 0) (xCons (x2 (xVar 1) (xC (.int 1)) fAdd) xNil)))) (xSeq (xSet 4 (xCall 2 (nZ a) (xCons (xVar 0) (xCons (x2 (xVar 2) (xVar 3) fAdd) xNil)))) (xSeq (xSet 5 xBook) (xSeq (xSet 6 xNewD) (xSeq (xFor (xIter (xSl (xVar 4) xNoP (xPart (xVar 2)))) (yName 7) (mJ a)) (xSeq (xFor (xRng1 (xCons (xVar 3) xNil)) (yName 8) (lF a)) (xSeq (xIf (xTr (x2 (xVar 3) (xC (.int 0)) fGt)) (xFor (xRng1 (xCons (xCall 2 (jX a) (xCons (xVar 0) (xCons (x2 (x2 (xC (.int 4)) (xVar 3) fMul) (xC (.int 1)) fAdd) xNil))) xNil)) (yName 8) (lC a)) xEnd) (xRet (xTup (xCons (xVar 5) (xCons (xB (xCons (xSl (xVar 4) xNoP (xPart (xVar 2))) xNil) ki) (xCons (xVar 6) xNil)))))))))))))
def n8(a:Adr):XF:=(fnD 11 (qx a))
variable (P w K mg base a) in abbrev nY:=Fn P w K mg base "_law_built" 6 ["_law_purse_here","_law_most"] (spD K a.Book 2 (n8 a))
def uC(Y:Yz K mg a)(c:Gf K "_law_built" nO)(A0:la P w K mg base a)(A1:nV P w K mg base a)(A2:wZ P w K mg base a)(A3:uP P w K mg base a)(A4:wa P w K mg base a)(A5:nl P w K mg base a)(A6:o5 P w K mg base a):nY P w K mg base a :=
 gof c Y fun T F=>oi F ul rfl fun _ _ _ _ _ _ hr S=>(jQ (kj 2 (kP jT (kN A0 (jV (jM 0) (jU jT))))) (jQ (kj 3 (kN A0 (jV (jM 0) (jU (kP (jM 1) jT))))) (jQ (kj 4 (kN A1 (jV (jM 0) (jU (kP (jM 2) (jM 3)))))) (jQ (kj 5 (Eu A2)) (jQ (kj 6 zA) (jQ (qD (yO (CQ (jM 4) wo (wn (jM 2)))) (kJ 7) (ke (tH (wE (jM 5) A3 (jU (jM 7)))))) (jQ (qD (mO (jU (jM 3))) (kJ 8) (jQ (kj 9 (ky (jM 4) (kN A0 (jV (jM 0) (jU (kP (jM 2) (jM 8))))))) (jQ (kj 10 (uI (jV (kN A5 (jU (jM 0))) (jV (kN A5 (jU (jM 0))) (jU (kC b_abs (jU (kN A5 (jU (jM 0)))))))))) (jQ (tH (wE (jM 5) A4 (jV (ky (jM 4) (kP (jM 2) (jM 8))) (jV (jM 9) (jV (ky (jM 10) jT) (jV (ky (jM 10) jT) (jU (ky (jM 10) jT)))))))) (ke (sA (jM 6) (ky (jM 4) (kP (jM 2) (jM 8))) (sC (jV (Et (jM 9) (uI (jV jT (jU jT)))) (jU (jM 10)))))))))) (jQ (nC (mU GV (jM 3) jT) (ke (qD (mO (jU (kN A0 (jV (jM 0) (jU (kP (lg jT (jM 3)) jT)))))) (kJ 8) (ke (tH (kN A6 (jV (jM 0) (jV (jM 6) (jV (jM 4) (jU (jM 5)))))))))) kW) (ke (k7 (uI (jV (jM 5) (jV (kC (b_sorted rfl) (jU (CQ (jM 4) wo (wn (jM 2))))) (jU (jM 6)))))))))))))))
abbrev rq:bM:=top 2
def x8:FnScope ["book","house","found","waiting","at","holder","share"] ["book","house"] (jS rq):=fsc
def lr(a:Adr) :XS:=(xIf (xTr (x2 (xVar 5) (xVar 2) oF)) (xSeq (xPut (xVar 2) (xVar 5) (xC (.bl true))) (xIf (xTr (xBM 2 (mX a) (xVar 0) (xCons (xVar 5) xNil))) (xDo (xAppend (xVar 3) (xCons (xVar 5) xNil))) xEnd)) xEnd)
def k9(a:Adr) :XS:=(xSeq (xSet 4 (As (xVar 3))) (xFor (xIter (xBM 2 (pz a) (xVar 0) (xCons (xVar 4) xNil))) (yTup 2 (yCons (yName 5) (yCons (yName 6) yNil))) (lr a)))
def rH(a:Adr):XS:=(xSeq (xDo (xBM 2 (kS a) (xVar 0) (xCons (xVar 1) xNil))) (xSeq (xSet 2 xNewD) (xSeq (xSet 3 (xLstC (xCons (xVar 1) xNil))) (xSeq (pJ (xTr (x2 (xVar 3) (xLst xNil) fNe)) (k9 a)) (xRet (xB (xCons (xVar 2) xNil) qO))))))
def mR(a:Adr):XF:=(fnD 7 (rH a))
variable (P w K mg base a) in abbrev pI:=Fn P w K mg base "reached" 4 ["book","house"] (spD K a.Book 2 (mR a))
def yn(Y:Yz K mg a)(c:Gf K "reached" rq)(A0:qm P w K mg base a)(A1:uO P w K mg base a)(A2:si P w K mg base a):pI P w K mg base a :=
 gof c Y fun T F=>oi F x8 rfl fun _ _ _ _ _ _ hr S=>(jQ (tH (wE (jM 0) A0 (jU (jM 1)))) (jQ (kj 2 zA) (jQ (kj 3 (tK (jU (jM 1)))) (jQ (t7 (mU GU (jM 3) (sC zb)) (jQ (kj 4 (Ek (jM 3))) (ke (qD (yO (wE (jM 0) A1 (jU (jM 4)))) (uH (lf (kJ 5) (lf (kJ 6) rc))) (ke (nC (mU wu (jM 5) (jM 2)) (jQ (sA (jM 2) (jM 5) wF) (ke (nC (wB (wE (jM 0) A2 (jU (jM 5)))) (ke (tH (vw (jM 3) (jU (jM 5))))) kW))) kW)))))) (ke (k7 (kC (Ar rfl) (jU (jM 2)))))))))
abbrev qe:bM:=top 39
def wK:FnScope ["_law_model","_law_house","_law_found","_law_at"] ["_law_model","_law_house"] (jS qe):=fsc
def kR(a:Adr) :XS:=(xSeq (xIf (xTr (x2 (x2 (xVar 2) (xVar 3) fIx) (xVar 0) fIn)) (xSet 2 (x2 (xVar 2) (n9 (xIter (xB (xCons (x2 (x2 (xVar 0) (x2 (xVar 2) (xVar 3) fIx) fIx) (xC (.int 0)) fIx) xNil) ki)) [2] (xTr (x2 (xVar 0) (xVar 1) oF)) (xVar 0)) fAdd)) xEnd) (xSet 3 (x2 (xVar 3) (xC (.int 1)) fAdd)))
def tD(a:Adr):XS:=(xSeq (xSet 2 (xB (xCons (x2 (x2 (xVar 0) (xVar 1) fIx) (xC (.int 0)) fIx) xNil) ki)) (xSeq (xSet 3 (xC (.int 0))) (xSeq (pJ (xTr (x2 (xVar 3) (xB (xCons (xVar 2) xNil) fLen) fLt)) (kR a)) (xRet (xB (xCons (xVar 2) xNil) ki)))))
def qk(a:Adr):XF:=(fnD 4 (tD a))
variable (P w K mg base a) in abbrev qj:=Fn P w K mg base "_law_due" 1 ["_law_model","_law_house"] (spD K a.Book 2 (qk a))
def wR(Y:Yz K mg a)(c:Gf K "_law_due" qe):qj P w K mg base a :=
 gof c Y fun T F=>oi F wK rfl fun _ _ _ _ _ _ hr S=>(jQ (kj 2 (kC (b_sorted rfl) (jU (ky (ky (jM 0) (jM 1)) jT)))) (jQ (kj 3 jT) (jQ (t7 (mU c_lt (jM 3) (kC b_len (jU (jM 2)))) (jQ (nC (mU c_in (ky (jM 2) (jM 3)) (jM 0)) (ke (kj 2 (kP (jM 2) (wq (fr:=["_law_found"]) (yO (kC (b_sorted rfl) (jU (ky (ky (jM 0) (ky (jM 2) (jM 3))) jT)))) (fun _ _ _ _ _=>(jM 0)) (fun _ _ _ _ _=>(BB (mU wu (jM 0) (jM 1)))))))) kW) (ke (kj 3 (kP (jM 3) jT))))) (ke (k7 (kC (b_sorted rfl) (jU (jM 2))))))))
abbrev mG:bM:=top 40
def rX:FnScope ["_law_book","_law_name","_law_caught","e"] ["_law_book","_law_name"] (jS mG):=fsc
def oI(a:Adr):XS:=(xSeq (xSet 2 (xC .non)) (xSeq (CS 3 a.cl (xDo (ud 2 (mR a) (xCons (xVar 0) (xCons (xVar 1) xNil)))) (xSet 2 (xVar 3))) (xSeq (xIf (xTr (rW a.cl (fun _=>false) (xVar 2))) (xRet (xC (.bl false))) xEnd) (xRet (xAndV (rW a.cl (fun c=>decide (c=a.NoHouse)) (xVar 2)) (rW a.cl (fun _=>true) (xVar 2)))))))
def mM(a:Adr):XF:=(fnD 4 (oI a))
variable (P w K mg base a) in abbrev mK:=Fn P w K mg base "_law_refused" 5 ["_law_book","_law_name"] (spD K a.Book 2 (mM a))
def rZ(Y:Yz K mg a)(c:Gf K "_law_refused" mG)(T2:T2y K a)(A0:pI P w K mg base a):mK P w K mg base a :=
 gof c Y fun T F=>oi F rX rfl fun _ _ _ _ _ _ hr S=>(jQ (kj 2 GC) (jQ (Gv rfl rfl rfl rfl (Gu (Gy A0 (jV (jM 0) (jU (jM 1))))) rfl T.c_OwnError T.x_OwnError T2.tr S.nd rfl rfl (fun _=>(ke (kj 2 (jM 3))))) (jQ (nC (wB (BC (jM 2) (nr T.c_NoHolder (nr T.c_NoLoss (nr T.c_NoName (nr T.c_NoShare (nr T.c_NoText (nr T.c_TooMany (nr T.c_Twice (nr T.c_Whole wO)))))))) T2.ka T2.na)) (ke (k7 wF)) kW) (ke (k7 (GF (Em rfl T.b_isinstance (jM 2) rfl T.c_NoHouse T2.k_NoHouse T2.n_NoHouse (by decide)) (GB (Eo rfl T.b_isinstance (jM 2) rfl T.b_ValueError uN T2.kv T2.nv))))))))
abbrev CJ:bM:=top 41
def Fx:FnScope ["_law_script","_law_purse_here","_law_book","_law_persons","_law_model","_law_name","_law_house","_law_due_here","_law_found"] ["_law_script"] (jS CJ):=fsc
def rf(a:Adr) :XS:=(xIf (xAnd (xTr (x2 (xVar 5) (xVar 4) oF)) (xNot (xTr (xCall 2 (mM a) (xCons (xVar 2) (xCons (xVar 5) xNil)))))) (xRet (xC (.bl false))) xEnd)
def oA(a:Adr) :XS:=(xSeq (xSet 7 (xCall 2 (qk a) (xCons (xVar 4) (xCons (xVar 6) xNil)))) (xSeq (xSet 8 (xCall 2 (mR a) (xCons (xVar 2) (xCons (xVar 6) xNil)))) (xSeq (xIf (xOr (xNot (xTr (xIsiT .list (xVar 8)))) (xTr (x2 (xVar 8) (xVar 7) fNe))) (xRet (xC (.bl false))) xEnd) (xSeq (xDo (yS (xVar 8))) (xIf (xTr (x2 (xCall 2 (mR a) (xCons (xVar 2) (xCons (xVar 6) xNil))) (xVar 7) fNe)) (xRet (xC (.bl false))) xEnd)))))
def E8(a:Adr):XS:=(xSeq (xSet 1 (xCall 1 (lH a) (xCons (xVar 0) xNil))) (xSeq (xAsg (xCall 2 (n8 a) (xCons (xVar 1) (xCons (xC (.int 7)) xNil))) (yTup 3 (yCons (yName 2) (yCons (yName 3) (yCons (yName 4) yNil))))) (xSeq (xFor (xIter (x2 (xVar 3) (xLst (xCons (xC (.str "nobody")) (xCons (xC (.str "")) (xCons (xC (.str "Z")) xNil)))) fAdd)) (yName 5) (rf a)) (xSeq (At 4 (yName 6) (oA a)) (xRet (xC (.bl true)))))))
def wH(a:Adr):XF:=(fnD 9 (E8 a))
def FW(T:Txt K mg a)(F:Fun K "law" "law" CJ f fd)(A0:nU P w K mg base a)(A1:nY P w K mg base a)(A2:qj P w K mg base a)(A3:pI P w K mg base a)(A4:mK P w K mg base a):FnOk P w K mg base (CXo P w) 7 f fd ["_law_script"] (spD K a.Book 1 (wH a)) :=
 oi F Fx rfl fun _ _ _ _ _ _ hr S=>(jQ (kj 1 (kN A0 (jU (jM 0)))) (jQ (y9 (kN A1 (jV (jM 1) (jU jT))) (uH (lf (kJ 2) (lf (kJ 3) (lf (kJ 4) rc))))) (jQ (qD (yO (kP (jM 3) (sC (jV sB (jV sB (jU sB)))))) (kJ 5) (ke (nC (DW.dt (Gs (mU wu (jM 5) (jM 4)) (D8 (CC (wB (kN A4 (jV (jM 2) (jU (jM 5))))))))) (ke (k7 wF)) kW))) (jQ (Ea 4 (kJ 6) (jQ (kj 7 (kN A2 (jV (jM 4) (jU (jM 6))))) (jQ (kj 8 (kN A3 (jV (jM 2) (jU (jM 6))))) (jQ (nC (DW.dt (dw_or (CC (wB (Ep _ (jM 8)))) (Gr (mU GU (jM 8) (jM 7))))) (ke (k7 wF)) kW) (jQ (tH (BD (jM 8))) (ke (nC (mU GU (kN A3 (jV (jM 2) (jU (jM 6)))) (jM 7)) (ke (k7 wF)) kW))))))) (ke (k7 wF))))))
end
def Sm(x:Str):Prop:=x.length<=9/\∀c∈x.cps.toList,c<128
def Sm.nm{x:Str}(h:Sm x):Nm x:=⟨aC h.1 (by decide),fun c hc=>fV (h.2 c hc) (by decide)⟩
def Bo(x:Str):x.length=x.cps.toList.length:=by show x.cps.size=_;simp
def uc(x y:Str):(x++y).cps.toList=x.cps.toList++y.cps.toList:=PyProof.Rows.cps_toList_append x y
def DJ:∀j,j<26->(aF "abcdefghijklmnopqrstuvwxyz").cps.toList[j]?=some (97+j):=by decide +kernel
def F7{i:Int}(h0:0<=i)(h1:i<26):atI (aF "abcdefghijklmnopqrstuvwxyz").cps.toList i=some (97+i.toNat):=by
 have e:i=(i.toNat:Int):=by omega
 have:=kD (DJ i.toNat (by omega));rw[<-e] at this;exact this
def AE{ys:List Str}(h:∀y∈ys,y.length<=1):(ys.map (·.length)).sum<=ys.length:=by
 induction ys with
 |nil=>exact aq _
 |cons y r ih =>
  have:=ih fun z hz=>h z (ak _ hz);have:=h y ap;simp only[aG,List.sum_cons,bR];omega
structure FrB(k:Nat)(v:Int)(q:Int×Int):Prop where
 low:Low q
 nn:0<=q.1
 le:q.1<=v*q.2
 bb:Bt k q.2
def Da{q:Int×Int}(h:0<q.2):(red q).2∣q.2:=by obtain⟨v,hv⟩:(ay q.1 q.2:Int)∣q.2:=ci ..;have hg:0<ay q.1 q.2:=bN _ (by omega);refine⟨(ay q.1 q.2:Int),?_⟩;unfold red;simp only;rw[Int.ediv_mul_cancel (ci ..)]
def qQ{p q:Int×Int}(hp:0<p.2)(hq:0<q.2):(kT p q).1*(p.2*q.2)=(p.1*q.2+q.1*p.2)*(kT p q).2:=(pO (q:=(p.1*q.2+q.1*p.2,p.2*q.2)) (br hp hq)).2
def zJ{k l:Nat}{p q:Int×Int}(hp:0<p.2)(hq:0<q.2)(bp:Bt k p.2)(bq:Bt l q.2):Bt (k+l) (kT p q).2 :=
 (bp.mul bq).dvd (Int.ne_of_gt (br hp hq)) (Da (q:=(p.1*q.2+q.1*p.2,p.2*q.2)) (br hp hq))
def pF{a b d:Int}(hd:0<d)(h:a*d<=b*d):a<=b:=iI h hd
def sK{k:Nat}{v:Int}{g q:Int×Int}(hg:FrB k v g)(hq:Low q)(q0:0<q.1)(h:q.1*g.2<=g.1*q.2)(bq:Bt 97 q.2):FrB (k+97) v (kT g (-q.1,q.2)):=by
 have g0:=hg.low.1;have p0:=hq.1;have lq:Low (-q.1,q.2):=⟨hq.1,by have:=hq.2;unfold Cop ay at *;simp only[gs];exact this⟩;have lo:=xQ hg.low lq;have D0:0<g.2*q.2:=br g0 p0;have ev:=qQ (p:=g) (q:=(-q.1,q.2)) g0 p0;simp only at ev;generalize hr:kT g (-q.1,q.2)=r at *;have r0:=lo.1;refine⟨lo,?_,?_,?_⟩
 ·refine pF D0 ?_;rw[ev,jj];refine iH ?_ (bA r0);rw[gr];omega
 ·refine pF D0 ?_;rw[ev];have h1:g.1*q.2+-q.1*g.2<=v*g.2*q.2:=by have a1:g.1*q.2<=v*g.2*q.2:=aQ hg.le (bA p0);have a2:0<=q.1*g.2:=iH (bA q0) (bA g0);rw[gr];omega
  have h2:=aQ h1 (bA r0);have e:v*g.2*q.2*r.2=v*r.2*(g.2*q.2):=by simp only[aX,dW,bz]
  rw[<-e];exact h2
 ·rw[<-hr];exact zJ g0 p0 hg.bb bq
def EF{k:Nat}{v:Int}{g q:Int×Int}(hg:FrB k v g)(hq:Low q)(q0:0<q.1)(h:q.1<=v*q.2)(bq:Bt 97 q.2):FrB (k+97) (2*v) (kT g q)/\0<(kT g q).1:=by
 have g0:=hg.low.1;have p0:=hq.1;have lo:=xQ hg.low hq;have D0:0<g.2*q.2:=br g0 p0;have ev:=qQ (p:=g) (q:=q) g0 p0;have bt:=zJ (p:=g) (q:=q) g0 p0 hg.bb bq;generalize hr:kT g q=r at *;have r0:=lo.1;have pos:0<r.1:=by
  have a1:0<=g.1*q.2:=iH hg.nn (bA p0);have a2:0<q.1*g.2:=br q0 g0;have a3:0<(g.1*q.2+q.1*g.2)*r.2:=br (by omega) r0;rw[<-ev] at a3;by_cases z:0<r.1
  ·exact z
  ·have:=gM (show r.1<=0 by omega) (bA D0);omega
 refine⟨⟨lo,bA pos,?_,bt⟩,pos⟩;refine pF D0 ?_;rw[ev];have h1:g.1*q.2+q.1*g.2<=2*v*g.2*q.2:=by
  have a1:g.1*q.2<=v*g.2*q.2:=aQ hg.le (bA p0);have a2:q.1*g.2<=v*q.2*g.2:=aQ h (bA g0);have e1:v*q.2*g.2=v*g.2*q.2:=dG ..;have e2:2*v*g.2*q.2=2*(v*g.2*q.2):=by rw[aX 2,aX 2]
  rw[e2];omega
 have h2:=aQ h1 (bA r0);have e:2*v*g.2*q.2*r.2=2*v*r.2*(g.2*q.2):=by simp only[aX,dW,bz]
 rw[<-e];exact h2
def zm{k:Nat}{v:Int}{g q:Int×Int}(hg:FrB k v g)(hq:Low q)(h:q.1*g.2<=g.1*q.2):q.1<=v*q.2:=by refine pF hg.low.1 (fY h ?_);have:=aQ hg.le (bA hq.1);rw[dG];exact this
def FrC(c:Nat)(q:Int×Int):Prop:=FrB (194*c+2) (2^c:Nat) q
def FrC.top{c:Nat}{q:Int×Int}(h:FrC c q):Bt (195*c+2) q.1:=by
 have h1:=h.le;have h0:=h.nn;have hb:Bt (c+1) ((2^c:Nat):Int):=by unfold Bt;rw[gL,Nat.pow_succ];have:=dD c;omega
 have h2:q.1.natAbs<=(((2^c:Nat):Int)*q.2).natAbs:=by omega
 unfold Bt;refine aZ h2 ?_;rw[gu,gL];have hb2:q.2.natAbs<2^(194*c+2):=h.bb;have:2^c*q.2.natAbs<2^c*2^(194*c+2):=Nat.mul_lt_mul_of_pos_left hb2 (dD c);rw[<-Nat.pow_add] at this;have e:c+(194*c+2)=195*c+2:=by omega
 rw[e] at this;exact this
def FrC.sz{c:Nat}{q:Int×Int}(h:FrC c q)(hc:c<=45):Sz q:=⟨h.low,h.top.mono (by omega),h.bb.mono (by omega)⟩
theorem FrC.mono{c d:Nat}{q:Int×Int}(h:FrC c q)(hc:c<=d):FrC d q:=by refine⟨h.low,h.nn,fY h.le ?_,h.bb.mono (by omega)⟩;refine aQ ?_ (bA h.low.1);exact fX.mpr (cD (by decide) hc)
def frc0(c:Nat):FrC c (0,1):=⟨⟨by decide,(rfl:ay 0 1=1)⟩,Int.le_refl _,by rw[jA];exact Int.natCast_nonneg _,bt1 (by omega)⟩
def frc1(c:Nat):FrC c (1,1):=⟨⟨by decide,(rfl:ay 1 1=1)⟩,by decide,by rw[jA];exact fX.mpr (dD c),bt1 (by omega)⟩
structure ShOk(q:Int×Int):Prop where
 low:Low q
 bt:Bt 200 q.1
 bb:Bt 97 q.2
def ShOk.sz{q:Int×Int}(h:ShOk q):Sz q:=⟨h.low,h.bt.mono (by decide),h.bb.mono (by decide)⟩
def wm{l:Hl}{n:Str}(h:n∉l.map (·.1)):kg l n=(0,1):=by
 unfold kg kL;have:l.find? (fun q=>decide (q.1=n))=none:=by rw[bS];intro x hx z;exact h (ai.mpr ⟨x,hx,of_decide_eq_true z⟩)
 rw[this];rfl
def rv(q:Int×Int):Rat:=Rat.divInt q.1 q.2
def Ca{p q:Int×Int}(hp:0<p.2)(hq:0<q.2):rv (kT p q)=rv p+rv q:=by have h:=qQ hp hq;have h2:0<(kT p q).2:=(pO (q:=(p.1*q.2+q.1*p.2,p.2*q.2)) (br hp hq)).1.1;unfold rv;rw[Rat.divInt_add_divInt _ _ (by omega) (by omega),Rat.divInt_eq_divInt_iff (by omega) (by have:=br hp hq;omega)];exact h
def Fz(q:Int×Int):rv (-q.1,q.2)=-rv q:=by unfold rv;rw[Rat.neg_divInt]
def qo:List Rat->Rat
 |[]=>0
 |x::l=>x+qo l
theorem xg:∀l m:List Rat,qo (l++m)=qo l+qo m
 |[],m=>by show qo m=0+qo m;rw[Rat.zero_add]
 |x::l,m=>by show x+qo (l++m)=x+qo l+qo m;rw[xg l m,Rat.add_assoc]
theorem xf{f g:Str->Rat}{o:Str}(h:∀n,n≠o->f n=g n):∀ns:List Str,ns.Nodup->qo (ns.map f)=if o∈ns then qo (ns.map g)+(f o-g o) else qo (ns.map g)
 |[],_=>rfl
 |n::ns,nd=>by
  obtain⟨n1,n2⟩:=aD.mp nd;have ih:=xf h ns n2;show f n+qo (ns.map f)=_;by_cases e:n=o
  ·subst e;rw[if_neg n1] at ih;rw[if_pos ap,ih];show f n+qo (ns.map g)=g n+qo (ns.map g)+(f n-g n)
   grind
  ·have m:o∈n::ns↔o∈ns:=⟨fun z=>(aj.mp z).resolve_left fun q=>e q.symm,ak _⟩;by_cases z:o∈ns
   ·rw[if_pos z] at ih;rw[if_pos (m.mpr z),ih,h n e];show g n+(qo (ns.map g)+(f o-g o))=g n+qo (ns.map g)+(f o-g o);rw[Rat.add_assoc]
   ·rw[if_neg z] at ih;rw[if_neg (fun q=>z (m.mp q)),ih,h n e];rfl
def BY(l:Hl):Rat:=qo ((l.map (·.1)).map fun n=>rv (kg l n))
def xh{l:Hl}(nd:(l.map (·.1)).Nodup)(o:Str)(q:Int×Int):BY (kQ l o q)=BY l+(rv q-rv (kg l o)):=by
 have h:∀n,n≠o->rv (kg (kQ l o q) n)=rv (kg l n):=fun n hn=>by rw[kB,if_neg hn]
 have ho:rv (kg (kQ l o q) o)=rv q:=by rw[kB,if_pos rfl]
 have u:=xf h (l.map (·.1)) nd;unfold BY;rw[kK];by_cases z:o∈l.map (·.1)
 ·rw[if_pos z] at u ⊢;rw[u,ho]
 ·rw[if_neg z] at u ⊢;rw[ax,xg,u,wm z];show _+(rv (kg (kQ l o q) o)+0)=_;have:rv (0,1)=0:=Rat.zero_divInt 1;rw[ho,this]
  grind
structure On(D:Int)(q:Int×Int)(u:Int):Prop where
 low:Low q
 ev:q.1*D=u*q.2
def On.add{D:Int}{p q:Int×Int}{u v:Int}(h:On D p u)(g:On D q v):On D (kT p q) (u+v):=by
 have p0:=h.low.1;have q0:=g.low.1;have ev:=qQ p0 q0;have pq:0<p.2*q.2:=br p0 q0;refine⟨(pO (q:=(p.1*q.2+q.1*p.2,p.2*q.2)) pq).1,eY (a:=p.2*q.2) (by omega) ?_⟩;generalize kT p q=r at ev ⊢;have e1:=h.ev;have e2:=g.ev
 calc r.1*D*(p.2*q.2)=(r.1*(p.2*q.2))*D:=by rw[aX,bz D,<-aX]
  _=((p.1*q.2+q.1*p.2)*r.2)*D:=by rw[ev]
  _=((p.1*D)*q.2+(q.1*D)*p.2)*r.2:=by
   rw[aX,bz r.2 D,<-aX,Int.add_mul (p.1*q.2)]
   congr 2
   ·rw[aX,bz q.2,<-aX]
   ·rw[aX,bz p.2,<-aX]
  _=((u*p.2)*q.2+(v*q.2)*p.2)*r.2:=by rw[e1,e2]
  _=(u+v)*r.2*(p.2*q.2):=by
   have a1:u*p.2*q.2=u*(p.2*q.2):=aX ..;have a2:v*q.2*p.2=v*(p.2*q.2):=by rw[aX,bz q.2]
   rw[a1,a2,<-Int.add_mul,aX,bz (p.2*q.2),<-aX]
def On.neg{D:Int}{q:Int×Int}{u:Int}(h:On D q u):On D (-q.1,q.2) (-u) :=
 ⟨⟨h.low.1,by have:=h.low.2;unfold Cop ay at *;simp only[gs];exact this⟩,by show -q.1*D=-u*q.2;rw[gr,gr,h.ev]⟩
def On.scale{D:Int}{q:Int×Int}{u:Int}(h:On D q u)(k:Int):On (D*k) q (u*k) :=
 ⟨h.low,by rw[<-aX,h.ev,aX,bz q.2,<-aX]⟩
def Du(D:Int):On D (0,1) 0:=⟨⟨by decide,rfl⟩,by simp⟩
def FV(D:Int):On D (1,1) D:=⟨⟨by decide,rfl⟩,by show 1*D=D*1;omega⟩
def Dv{q:Int×Int}(h:Low q):On q.2 q q.1:=⟨h,rfl⟩
structure HR(c:Nat)(hl hm:Hl):Prop where
 q:∀n,kg hl n=kg hm n
 nm:∀n,n∈hl.map (·.1)↔0<(kg hl n).1
 n1:(hl.map (·.1)).Nodup
 n2:(hm.map (·.1)).Nodup
 l1:hl.length<=c+1
 l2:hm.length<=c+1
 fr:∀n,FrC c (kg hl n)
 ex:∃n,0<(kg hl n).1
 sm:∀n∈hm.map (·.1),Sm n
 one:BY hm=1
 dv:∃(D:Int)(U:Str->Int),0<D/\Bt (97*c+1) D/\∀n,On D (kg hm n) (U n)
theorem HR.mono{c d:Nat}{hl hm:Hl}(h:HR c hl hm)(hc:c<=d):HR d hl hm:=⟨h.q,h.nm,h.n1,h.n2,aC h.l1 (by omega),aC h.l2 (by omega),fun n=>(h.fr n).mono hc,h.ex,h.sm,h.one,let⟨D,U,d1,d2,d3⟩:=h.dv;⟨D,U,d1,d2.mono (by omega),d3⟩⟩
def Ge(c:Nat){o:Str}(ho:Sm o):HR c [(o,1,1)] [(o,1,1)]:=by
 have g:∀n,kg [(o,1,1)] n=if n=o then(1,1) else(0,1):=fun n=>by
  unfold kg kL;rw[bP];by_cases e:o=n
  ·rw[show decide ((o,((1:Int),(1:Int))).1=n)=true from decide_eq_true e,if_pos e.symm];rfl
  ·rw[show decide ((o,((1:Int),(1:Int))).1=n)=false from decide_eq_false e,if_neg fun z=>e z.symm];rfl
 refine⟨fun _=>rfl,fun n=>?_,by simp,by simp,by simp,by simp,fun n=>?_,⟨o,by rw[g,if_pos rfl];decide⟩,fun n hn=>by rw[al.mp hn];exact ho,by
  show rv (kg [(o,1,1)] o)+0=1;rw[g,if_pos rfl,Rat.add_zero];exact Rat.divInt_self' (by decide),1,fun n=>if n=o then 1 else 0,by decide,bt1 (by omega),fun n=>by
   rw[g];by_cases e:n=o
   ·rw[if_pos e];show On 1 (1,1) (if n=o then 1 else 0);rw[if_pos e];exact FV 1
   ·rw[if_neg e];show On 1 (0,1) (if n=o then 1 else 0);rw[if_neg e];exact Du 1⟩
 ·rw[g];by_cases e:n=o
  ·rw[if_pos e];simp[e]
  ·rw[if_neg e];simp[e]
 ·rw[g];by_cases e:n=o
  ·rw[if_pos e];exact frc1 c
  ·rw[if_neg e];exact frc0 c
def HR.had{c:Nat}{hl hm:Hl}(h:HR c hl hm){n:Str}(h0:0<(kg hm n).1):n∈hm.map (·.1):=by
 by_cases z:n∈hm.map (·.1)
 ·exact z
 ·rw[wm z] at h0;exact absurd h0 (by decide)
def tZ{q:Int×Int}(h:Low q)(h0:q.1=0):q=(0,1):=by
 obtain⟨t,b⟩:=q;obtain⟨h1,h2⟩:=h;simp only at h0 h1 h2;subst h0;have e:b=1:=by have:ay 0 b=1:=h2;rw[Int.gcd_zero_left] at this;omega
 rw[e]
def HR.sale{c:Nat}{hl hm:Hl}(h:HR c hl hm){o1 o2:Str}{q:Int×Int}(hq:ShOk q)(so:Sm o2)(nt:¬lu hl o1 q):HR (c+1) (sold hl o1 o2 q) (Aw hm o1 o2 q):=by
 have q0:0<q.1:=by by_cases z:0<q.1;exact z;exact absurd (.inl z) nt
 have Ik:q.1*(kg hl o1).2<=(kg hl o1).1*q.2:=by
  by_cases z:q.1*(kg hl o1).2>(kg hl o1).1*q.2
  ·exact absurd (.inr z) nt
  ·omega
 have R:=sK (h.fr o1) hq.low q0 Ik hq.bb;have qv:=zm (h.fr o1) hq.low Ik;have IH:o1∈hl.map (·.1):=by
  rw[h.nm];by_cases z:0<(kg hl o1).1
  ·exact z
  ·have a1:(kg hl o1).1*q.2<=0:=gM (by omega) (bA hq.low.1);have a2:0<q.1*(kg hl o1).2:=br q0 (h.fr o1).low.1;omega
 have Ki:o1∈hm.map (·.1):=h.had (by rw[<-h.q];exact(h.nm o1).mp IH);generalize hr:kT (kg hl o1) (-q.1,q.2)=r at *;have key:∃l1 m1:Hl,sold hl o1 o2 q=kQ l1 o2 (kT (kg l1 o2) q)/\Aw hm o1 o2 q=kQ m1 o2 (kT (kg m1 o2) q)/\(∀n,kg l1 n=kg m1 n)/\(∀n,n∈l1.map (·.1)↔0<(kg l1 n).1)/\(l1.map (·.1)).Nodup/\(m1.map (·.1)).Nodup/\l1.length<=c+1/\m1.length<=c+1/\(∀n,FrB (194*c+2+97) (2^c:Nat) (kg l1 n))/\(∀n∈m1.map (·.1),Sm n)/\BY m1+rv q=1/\∃(D:Int)(U:Str->Int),0<D/\Bt (97*(c+1)+1) D/\On D q (U cq)/\∀n,∃u,On D (kg m1 n) u:=by
  have gm:∀n,kg (kQ hm o1 r) n=if n=o1 then r else kg hl n:=fun n=>by rw[kB,h.q]
  have lm:(kQ hm o1 r).length<=c+1:=by have:=congrArg b7 (kK hm o1 r);rw[if_pos Ki,af,af] at this;rw[this];exact h.l2
  have J9:∀n,FrB (194*c+2+97) (2^c:Nat) (if n=o1 then r else kg hl n):=fun n=>by
   by_cases e:n=o1
   ·rw[if_pos e];exact R
   ·rw[if_neg e];exact⟨(h.fr n).low,(h.fr n).nn,(h.fr n).le,(h.fr n).bb.mono (by omega)⟩
  have em:Aw hm o1 o2 q=kQ (kQ hm o1 r) o2 (kT (kg (kQ hm o1 r) o2) q):=by unfold Aw;simp only[<-h.q o1,hr]
  have smm:∀n∈(kQ hm o1 r).map (·.1),Sm n:=fun n hn=>by rw[kK,if_pos Ki] at hn;exact h.sm n hn
  have one1:BY (kQ hm o1 r)+rv q=1:=by
   rw[xh h.n2,h.one,<-hr,Ca (q:=(-q.1,q.2)) (h.fr o1).low.1 hq.low.1,Fz,h.q]
   grind
  have dv1:∃(D:Int)(U:Str->Int),0<D/\Bt (97*(c+1)+1) D/\On D q (U cq)/\∀n,∃u,On D (kg (kQ hm o1 r) n) u:=by
   obtain⟨D,U,d1,d2,d3⟩:=h.dv;have oq:On (D*q.2) q (q.1*D):=by rw[bz D];exact(Dv hq.low).scale D
   refine⟨D*q.2,fun _=>q.1*D,br d1 hq.low.1,(d2.mul hq.bb).mono (by omega),oq,fun n=>?_⟩;rw[kB];by_cases e:n=o1
   ·rw[if_pos e,<-hr,h.q];exact⟨_,((d3 o1).scale q.2).add oq.neg⟩
   ·rw[if_neg e];exact⟨_,(d3 n).scale q.2⟩
  by_cases rz:r=(0,1)
  ·have gl:∀n,kg (kI hl o1) n=if n=o1 then r else kg hl n:=fun n=>by rw[lW,rz]
   refine⟨kI hl o1,kQ hm o1 r,?_,em,fun n=>by rw[gl,gm],fun n=>?_,wf _ h.n1,qB _ _ h.n2,aC (xx _ _) h.l1,lm,fun n=>by rw[gl];exact J9 n,smm,one1,dv1⟩
   ·unfold sold;simp only[hr,rz,if_true]
   ·rw[sW,cN,gl,h.nm,decide_eq_true_iff];by_cases e:n=o1
    ·rw[if_pos e,rz];exact⟨fun z=>absurd e z.2,fun z=>absurd z (by decide)⟩
    ·rw[if_neg e];exact⟨fun z=>z.1,fun z=>⟨z,e⟩⟩
  ·have gl:∀n,kg (kQ hl o1 r) n=if n=o1 then r else kg hl n:=fun n=>kB ..
   have rp:0<r.1:=by
    have:=R.nn;by_cases z:r.1=0
    ·exact absurd (tZ R.low z) rz
    ·omega
   refine⟨kQ hl o1 r,kQ hm o1 r,?_,em,fun n=>by rw[gl,gm],fun n=>?_,qB _ _ h.n1,qB _ _ h.n2,?_,lm,fun n=>by rw[gl];exact J9 n,smm,one1,dv1⟩
   ·unfold sold;simp only[hr,rz,if_false]
   ·rw[kK,if_pos IH,gl,h.nm];by_cases e:n=o1
    ·rw[if_pos e];exact⟨fun _=>rp,fun _=>by rw[e];exact(h.nm o1).mp IH⟩
    ·rw[if_neg e]
   ·have:=congrArg b7 (kK hl o1 r);rw[if_pos IH,af,af] at this;rw[this];exact h.l1
 obtain⟨l1,m1,es,em,gq,nm1,nd1,nd2,len1,len2,J9,sm1,one1,D1,U1,d1,d2,oq,dm⟩:=key;obtain⟨U,up⟩:=EF (J9 o2) hq.low q0 qv hq.bb;have ev:(2*((2^c:Nat):Int))=((2^(c+1):Nat):Int):=by rw[Nat.pow_succ,Int.natCast_mul,bz];rfl
 rw[es,em];refine⟨fun n=>?_,fun n=>?_,qB _ _ nd1,qB _ _ nd2,aC (zp _ _ _) (by omega),aC (zp _ _ _) (by omega),fun n=>?_,⟨o2,by rw[kB,if_pos rfl];exact up⟩,fun n hn=>?_,?_,?_⟩
 ·rw[kB,kB,gq,gq]
 ·rw[kB,kK];by_cases e:n=o2
  ·rw[if_pos e];refine⟨fun _=>up,fun _=>?_⟩;rw[e];by_cases z:o2∈l1.map (·.1)
   ·rw[if_pos z];exact z
   ·rw[if_neg z];exact aw _ (al.mpr rfl)
  ·rw[if_neg e,<-nm1];by_cases z:o2∈l1.map (·.1)
   ·rw[if_pos z]
   ·rw[if_neg z,aA];exact⟨fun y=>y.elim id fun y=>absurd (al.mp y) e,fun y=>.inl y⟩
 ·rw[kB];by_cases e:n=o2
  ·rw[if_pos e];unfold FrC;rw[<-ev];exact⟨U.low,U.nn,U.le,U.bb.mono (by omega)⟩
  ·rw[if_neg e];have:=J9 n;refine⟨this.low,this.nn,fY this.le ?_,this.bb.mono (by omega)⟩;exact aQ (fX.mpr (cD (by decide) (by omega))) (bA this.low.1)
 ·rw[kK] at hn;by_cases z:o2∈m1.map (·.1)
  ·rw[if_pos z] at hn;exact sm1 n hn
  ·rw[if_neg z] at hn;rcases aA.mp hn with y|y
   ·exact sm1 n y
   ·rw[al.mp y];exact so
 ·rw[xh nd2,Ca (by rw[<-gq];exact(J9 o2).low.1) hq.low.1]
  grind
 ·have:∀n,∃u,On D1 (kg (kQ m1 o2 (kT (kg m1 o2) q)) n) u:=fun n=>by
   rw[kB];by_cases e:n=o2
   ·rw[if_pos e];obtain⟨u,hu⟩:=dm o2;exact⟨_,hu.add oq⟩
   ·rw[if_neg e];exact dm n
  exact⟨D1,fun n=>Classical.choose (this n),d1,d2,fun n=>Classical.choose_spec (this n)⟩
def HR.saleOk{c:Nat}{hl hm:Hl}(h:HR c hl hm)(hc:c<=44){o1:Str}{q:Int×Int}(hq:ShOk q):SaleOk hl o1 q:=by
 refine⟨aZ h.l1 (by omega),fun n=>(h.fr n).sz (by omega),fun nt=>?_⟩;have q0:0<q.1:=by by_cases z:0<q.1;exact z;exact absurd (.inl z) nt
 have Ik:q.1*(kg hl o1).2<=(kg hl o1).1*q.2:=by
  by_cases z:q.1*(kg hl o1).2>(kg hl o1).1*q.2
  ·exact absurd (.inr z) nt
  ·omega
 have R:=sK (h.fr o1) hq.low q0 Ik hq.bb;refine FrC.sz (c:=c+1) ⟨R.low,R.nn,fY R.le ?_,R.bb.mono (by omega)⟩ (by omega);exact aQ (fX.mpr (cD (by decide) (by omega))) (bA R.low.1)
def DF{body:PV->XS}(l:List PV)(I:Nat->En->Sto->Prop)(h:∀k q ρ s,l[k]?=some q->I k ρ s->∃ρ' s',body q ρ s=.nx ρ' s'/\I (k+1) ρ' s'){ρ:En}{s:Sto}(h0:I 0 ρ s):∃ρ' s',k6 body l ρ s=.nx ρ' s'/\I l.length ρ' s':=by
 have main:∀(r:List PV)(k:Nat)(ρ:En)(s:Sto),k<=l.length->l.drop k=r->I k ρ s->∃ρ' s',k6 body r ρ s=.nx ρ' s'/\I l.length ρ' s':=by
  intro r;induction r with
  |nil =>
   intro k ρ s hk e hI;have:k=l.length:=ip hk (jq.mp e);subst this;exact⟨ρ,s,rfl,hI⟩
  |cons q r ih =>
   intro k ρ s hk e hI;have hq:l[k]?=some q:=by have:=congrArg List.head? e;rw[List.head?_drop] at this;simpa using this
   obtain⟨ρ',s',h1,h2⟩:=h k q ρ s hq hI;have e2:l.drop (k+1)=r:=by rw[<-List.tail_drop,e];rfl
   obtain⟨ρ2,s2,h3,h4⟩:=ih (k+1) ρ' s' ((bD.mp hq).1) e2 h2;refine⟨ρ2,s2,?_,h4⟩;unfold k6;rw[h1];exact h3
 exact main l 0 ρ s (a6 _) rfl h0
def qJ(n:Nat):(pN 0 n).length=n:=by simp[pN]
def AQ{n k:Nat}{q:PV}(h:(pN 0 n)[k]?=some q):k<n/\q=.int (k:Int):=by
 unfold pN at h;rw[aY] at h;by_cases hk:k<n
 ·rw[eP hk] at h;cases h;exact⟨hk,by simp⟩
 ·rw[jh (by simpa using hk)] at h;cases h
def qM{body:PV->XS}(n:Nat)(I:Nat->En->Sto->Prop)(h:∀(k:Nat) ρ s,k<n->I k ρ s->∃ρ' s',body (.int (k:Int)) ρ s=.nx ρ' s'/\I (k+1) ρ' s'){ρ:En}{s:Sto}(h0:I 0 ρ s):∃ρ' s',k6 body (pN 0 n) ρ s=.nx ρ' s'/\I n ρ' s':=by have:=DF (pN 0 n) I (fun k q ρ s hq hI=>by obtain⟨h1,h2⟩:=AQ hq;rw[h2];exact h k ρ s h1 hI) h0;rw[qJ] at this;exact this
def mw(s:Sto)(i:Int):PV.data s 12 (.int i)=some (.int i):=rfl
def oy(i j:Int):dy (.int i) (.int j)=(i==j):=by unfold dy;rfl
theorem xA:∀(l:List (Nat×Cell))(n:Nat)(c d:Cell),mE l n=some c->mE (ot n d l) n=some d
 |(k,e)::r,n,c,d,h=>by
  unfold mE at h;unfold ot;split at h
  ·rename_i z;rw[if_pos z];unfold mE;rw[if_pos rfl]
  ·rename_i z;rw[if_neg z];unfold mE;rw[if_neg z];exact xA r n c d h
def mT{s:Sto}{n:Nat}{c d:Cell}(h:s.get n=some c):(s.set n d).get n=some d:=xA s.cs n c d h
def wz(s:Sto)(c:Cell):(s.add c).nx=s.nx+1:=rfl
def kA(s:Sto)(c:Cell)(k:Nat):(s.add c).get k=if s.nx=k then some c else s.get k:=by show mE ((s.nx,c)::s.cs) k=_;unfold mE;rfl
def jW(s:Sto){n k:Nat}(c:Cell)(h:k≠n):(s.set n c).get k=s.get k:=m6 h
def sP(s:Sto)(c d:Cell){p:Nat}(h:s.nx≠p):(s.add d).set p c=(s.set p c).add d:=by unfold Sto.set Sto.add;simp[ot,h]
def p8(s:Sto)(c d:Cell):(s.add d).set s.nx c=s.add c:=by unfold Sto.set Sto.add;simp[ot]
def pM(s:Sto)(n:Nat)(c d:Cell):(s.set n c).set n d=s.set n d:=by
 have:∀l,ot n d (ot n c l)=ot n d l:=by
  intro l;induction l with
  |nil=>rfl
  |cons q r ih =>
   obtain⟨k,e⟩:=q;by_cases h:k=n
   ·simp[ot,h]
   ·simp[ot,h,ih]
 unfold Sto.set;simp[this]
def AG(s:Sto)(n:Nat)(c:Cell)(h:s.get n=some c):s.set n c=s:=by
 have:∀l,mE l n=some c->ot n c l=l:=by
  intro l;induction l with
  |nil=>intro h;rfl
  |cons q r ih =>
   intro h;obtain⟨k,e⟩:=q;by_cases hk:k=n
   ·simp[mE,hk] at h;simp[ot,hk,h]
   ·simp[mE,hk] at h;simp[ot,hk,ih h]
 unfold Sto.set;rw[this _ h]
def Sto.bump(s:Sto):Sto:=⟨s.nx+1,s.cs⟩
def Ee(s:Sto)(d:Cell):(s.add d).del s.nx=Sto.bump s:=by unfold Sto.del Sto.add Sto.bump;simp[wp]
def Bw(s:Sto)(k:Nat):(Sto.bump s).get k=s.get k:=rfl
def IsPurse(s:Sto)(p:Nat):Prop:=∃x y,s.get p=some (.lst [.int x,.int y])
def pst(s:Sto)(p:Nat)(x y:Int):Sto:=s.set p (.lst [.int x,.int y])
def FE(s:Sto)(p:Nat)(x y:Int):(pst s p x y).nx=s.nx:=rfl
theorem IsPurse.pst{s:Sto}{p:Nat}(h:IsPurse s p)(x y:Int):IsPurse (pst s p x y) p:=let⟨_,_,h⟩:=h;⟨x,y,zf h⟩
theorem IsPurse.add{s:Sto}{p:Nat}(h:IsPurse s p)(c:Cell)(hp:p<s.nx):IsPurse (s.add c) p:=by obtain⟨x,y,h⟩:=h;exact⟨x,y,by rw[kA,if_neg (by omega)];exact h⟩
def De(s:Sto)(p:Nat)(x y x' y':Int)(d:Cell)(hp:p<s.nx):((pst s p x y).add d).set p (.lst [.int x',.int y'])=(pst s p x' y').add d:=by rw[sP _ _ _ (by rw[FE];omega)];unfold pst;rw[pM]
def Ex{c:XT}{e:XE}{cap:En}(l:List PV)(I:Nat->List PV->Sto->Prop)(h:∀k q vs s,l[k]?=some q->I k vs s->(∃s1,c (some q::cap) s=.ok false s1/\I (k+1) vs s1)\/(∃s1 v s2,c (some q::cap) s=.ok true s1/\e (some q::cap) s1=.ok v s2/\I (k+1) (vs++[v]) s2)){s:Sto}(h0:I 0 [] s) :
  ∃vs s',me c e cap l s=.ok vs s'/\I l.length vs s':=by
 have main:∀(r:List PV)(k:Nat)(vs:List PV)(s:Sto),k<=l.length->l.drop k=r->I k vs s->∃ws s',me c e cap r s=.ok ws s'/\I l.length (vs++ws) s':=by
  intro r;induction r with
  |nil =>
   intro k vs s hk e hI;have:k=l.length:=ip hk (jq.mp e);subst this;exact⟨[],s,rfl,by simpa using hI⟩
  |cons q r ih =>
   intro k vs s hk e' hI;have hq:l[k]?=some q:=by have:=congrArg List.head? e';rw[List.head?_drop] at this;simpa using this
   have e2:l.drop (k+1)=r:=by rw[<-List.tail_drop,e'];rfl
   have Lo:k+1<=l.length:=(bD.mp hq).1;rcases h k q vs s hq hI with⟨s1,h1,h2⟩|⟨s1,v,s2,h1,h2,h3⟩
   ·obtain⟨ws,s',h3,h4⟩:=ih (k+1) vs s1 Lo e2 h2;exact⟨ws,s',by rw[om,h1];exact h3,h4⟩
   ·obtain⟨ws,s',h4,h5⟩:=ih (k+1) (vs++[v]) s2 Lo e2 h3;refine⟨v::ws,s',by rw[om,h1];simp[h2,h4],by simpa using h5⟩
 obtain⟨ws,s',h1,h2⟩:=main l 0 [] s (a6 _) rfl h0;exact⟨ws,s',h1,by simpa using h2⟩
theorem pG{c:XT}{e:XE}{cap:En}{s:Sto}(p:PV->Bool)(f:PV->PV):∀(l:List PV),(∀q∈l,c (some q::cap) s=.ok (p q) s)->(∀q∈l,p q=true->e (some q::cap) s=.ok (f q) s)->me c e cap l s=.ok ((l.filter p).map f) s
 |[],_,_=>rfl
 |q::l,h1,h2=>by
  rw[om,h1 q ap];have ih:=pG p f l (fun x hx=>h1 x (ak _ hx)) (fun x hx=>h2 x (ak _ hx));cases hp:p q with
  |false=>simp[ih,hp]
  |true=>simp[ih,hp,h2 q ap hp]
def lL{n:Int}(h0:0<n)(h1:n<2^64):Bt 9000 n:=by
 have:Bt 64 n:=by unfold Bt;omega
 exact this.mono (by decide)
def wU:(aF "abcdefghijklmnopqrstuvwxyz").length<=100000:=by decide
def oz(a:Adr)(s:Sto)(p:Nat)(n:Int)(h:IsPurse s p)(h0:0<n)(h1:Bt 9000 n):∃r x y,0<=r/\r<n/\jX a [.ref p,.int n] s=.ok (.int r) (s.set p (.lst [.int x,.int y])):=by
 obtain⟨x,y,h⟩:=h;have hd:yN n:=⟨h0,h1⟩;by_cases hx:x=0
 ·refine⟨y%n,y/n,y,cC _ (by omega),b6 _ h0,?_⟩;subst hx;simp[sem,mB,ki,ol,jX,o4,h,atI,ixN,mw,oy,hd,h0,mT h,pM]
 ·refine⟨x%n,x/n,y,cC _ (by omega),b6 _ h0,?_⟩;simp[sem,mB,ki,ol,jX,o4,h,atI,ixN,mw,oy,hd,h0,hx]
def BF(l:List Int)(lo hi:Option Int):∃k:List Int,yP (l.map PV.int) lo hi=k.map PV.int/\k.length<=l.length/\∀x∈k,x∈l:=by
 refine⟨(l.drop (HT.sIx l.length 0 lo)).take (HT.sIx l.length l.length hi-HT.sIx l.length 0 lo),?_,?_,fun x hx=>List.mem_of_mem_drop (jo hx)⟩
 ·unfold yP;simp[List.map_take,List.map_drop]
 ·rw[db,g7];omega
def zH{l:List Int}{i:Int}(h0:0<=i)(h1:i<l.length):∃x∈l,atI (l.map PV.int) i=some (.int x):=by
 obtain⟨j,rfl⟩:∃j:Nat,i=j:=⟨i.toNat,by omega⟩;have hj:j<l.length:=by omega
 exact⟨l[j],de hj,kD (by simp[hj])⟩
def Bk(a:Adr)(s:Sto)(c:Int)(k:Nat)(hc:bL c<=1048576)(hk:k<64):∃v,mD a [.int c,.int k] s=.ok (.int v) s:=by have m1:gK c c:=F4 (by omega) (by omega);have m2:nz 3 c:=.inr (.inl ⟨by decide,by decide⟩);have m3:nz 7919 (k:Int):=.inr (.inl ⟨by decide,by decide⟩);have m4:nz (c*c+3*c+7919*(k:Int)+1) 48271:=.inr (.inr ⟨by decide,by decide⟩);generalize hz:((c*c+3*c+7919*(k:Int)+1)*48271)%2147483629=z;have b0:0<=z:=hz▸cC _ (by decide);have b1:z<2147483629:=hz▸b6 _ (by decide);have m5:nz z z:=.inr (.inl ⟨by omega,by omega⟩);refine⟨(z*z+7)%2147483587,?_⟩;simp[sem,mB,ki,ol,mD,qw,yI,m1,m2,m3,m4,hz,m5]
def AT(a:Adr)(s:Sto)(l:List Int)(hl:l.length<=63)(hw:Att.WtOk l):∃x y,lH a [.seq (l.map .int)] s=.ok (.ref s.nx) (s.add (.lst [.int x,.int y])):=by
 obtain⟨c,hc,G1,JL⟩:=BF l none (some 63);have hsz:c.length<=99999:=by omega
 have JI:(0:Int)<(c.length:Int)+1:=by omega
 have h2:2<=aB:=by decide
 have hw2:∀x∈c++[0],bL x<=1048576:=fun x hx=>by
  rcases aA.mp hx with z|z
  ·exact hw x (JL x z)
  ·rw[al.mp z];decide
 obtain⟨ρ',s',IL,rfl,v,k,rfl⟩:=qM (body:=kE (yName 3) (mI a)) 64
  (fun _ ρ t=>t=s/\∃v k,ρ=[some (.seq (l.map .int)),some (.lst ((c++[0]).map .int)),some (.int v),k])
  (fun k ρ t hk hI=>by obtain⟨rfl,v,k',rfl⟩:=hI;obtain⟨x,hxm,hx⟩:=zH (l:=c++[0]) (i:=(k:Int)%((c.length:Int)+1)) (cC _ (by omega)) (by have:=b6 (k:Int) JI;simpa using this);obtain⟨u,hu⟩:=Bk a t x k (hw2 x hxm) hk;have m3:nz v 2147483587:=.inr (.inr ⟨by decide,by decide⟩);refine⟨_,_,?_,rfl,v*2147483587+u,some (.int k),rfl⟩;simp only[ax,aG,da] at hx;simp[sem,mB,ki,ol,kE,mI,hx,m3,JI,hu]) ⟨rfl,1,none,rfl⟩
 obtain⟨x0,_,Ku⟩:=zH (l:=c++[0]) (i:=0) (by omega) (by simp);simp only[ax,aG,da] at Ku IL;generalize hab:(if x0<0 then -x0 else x0)=x1 at *;by_cases h18:(1000000000000000000:Int)<=x1
 ·refine⟨x1,v,?_⟩;simp[sem,mB,ki,ol,lH,nR,hc,hsz,IL,Ku,hab,h18,h2]
 ·refine⟨v,v,?_⟩;simp[sem,mB,ki,ol,lH,nR,hc,hsz,IL,Ku,hab,h18,h2]
structure Two'(p q:Int×Int):Prop where
 p0:0<p.2
 q0:0<q.2
 b:Bt 4400 p.2/\Bt 4400 q.2
 t:Bt 9000 p.1/\Bt 9000 q.1
def pS{i j:Int}(h:Bt 9000 i)(g:Bt 9000 j):nz i j:=.inl ⟨h.mono (by decide),g.mono (by decide)⟩
def vY(a:Adr)(s:Sto):∀(k:Nat)(t b:Int),0<=t->0<=b->b.toNat<=k->∃n t',kq (xTr (x2 (xVar 1) (xC (.int 0)) fGt)) (lc a) n [some (.int t),some (.int b)] s=.nx [some (.int t'),some (.int 0)] s/\0<=t'/\t'.natAbs=ay t b:=by
 intro k;induction k with
 |zero =>
  intro t b ht h0 hk;have:b=0:=by omega
  subst this;refine⟨1,t,?_,ht,by simp[ay]⟩;unfold kq;simp[sem,mB,ki,ol]
 |succ k ih =>
  intro t b ht h0 hk;by_cases hb:b=0
  ·subst hb;refine⟨1,t,?_,ht,by simp[ay]⟩;unfold kq;simp[sem,mB,ki,ol]
  ·have hp:0<b:=by omega
   have m0:=cC t hb;have m1:=b6 t hp;obtain⟨n,t',h1,h3,h2⟩:=ih b (t%b) h0 m0 (by omega);refine⟨n+1,t',?_,h3,by rw[h2];exact xD t b hp⟩;have hs:lc a [some (.int t),some (.int b)] s=.nx [some (.int b),some (.int (t%b))] s:=by simp[sem,mB,ki,ol,lc,hp]
   unfold kq;simp[sem,mB,ki,ol,hp,hs,h1]
def yM(a:Adr)(s:Sto)(t b:Int):lG a [.int t,.int b] s=.ok (.int (ay t b)) s:=by
 have e1:(if t<0 then -t else t)=(t.natAbs:Int):=by split<;>omega
 have e2:(if b<0 then -b else b)=(b.natAbs:Int):=by split<;>omega
 obtain⟨n,t',h1,h3,h2⟩:=vY a s (b.natAbs:Int).toNat (t.natAbs:Int) (b.natAbs:Int) (by omega) (by omega) (aq _);have hw:=uV h1 (by simp);simp[sem,mB,ki,ol,lG,oJ,e1,e2,hw];have:ay (t.natAbs:Int) (b.natAbs:Int)=ay t b:=by simp[ay]
 rw[<-this,<-h2];omega
def wg(a:Adr)(s:Sto)(t b:Int)(hb:0<b)(hB:Bt 9000 b):kH a [.int t,.int b] s=.ok (frP (red (t,b))) s:=by
 have hg:0<ay t b:=bN _ (by omega);have hd:yN (ay t b:Int):=⟨by omega,hB.dvd (by omega) (ci ..)⟩;have e:=yM a s t b;have hn:¬b<0:=by omega
 simp[sem,mB,ki,ol,kH,rQ,e,hd,hn,frP,red]
def uM{n:Int}{k:Nat}(h:n.natAbs<2^k)(hk:k<=9000):Bt 9000 n:=au h (cD (by decide) hk)
def six{r:Int}(h0:0<=r)(h1:r<6):r=0\/r=1\/r=2\/r=3\/r=4\/r=5:=by omega
def vi{s:Sto}{p:Nat}{x y:Int}(h:IsPurse s p):IsPurse (s.set p (.lst [.int x,.int y])) p:=by obtain⟨u,v,h⟩:=h;exact⟨x,y,mT h⟩
def z6(a:Adr)(s:Sto)(p:Nat)(h:IsPurse s p):∃v x y,kM a [.ref p] s=.ok (.int v) (s.set p (.lst [.int x,.int y])):=by
 obtain⟨r,x,y,r0,r1,e1⟩:=oz a s p 6 h (by decide) (uM (k:=4) (by decide) (by decide));have h2:=vi (x:=x) (y:=y) h;obtain⟨m,hm,hm0,hmB,HV⟩:∃m:Int,atI [PV.int 10,.int 10,.int 100,.int 3,.int (10^6),.int (10^20)] r=some (.int m)/\0<m/\(2*m).natAbs<2^100/\True:=by
  rcases six r0 r1 with z|z|z|z|z|z<;>subst z
  ·exact⟨10,rfl,by decide,by decide,trivial⟩
  ·exact⟨10,rfl,by decide,by decide,trivial⟩
  ·exact⟨100,rfl,by decide,by decide,trivial⟩
  ·exact⟨3,rfl,by decide,by decide,trivial⟩
  ·exact⟨10^6,rfl,by decide,by decide,trivial⟩
  ·exact⟨10^20,rfl,by decide,by decide,trivial⟩
 obtain⟨r',x',y',_,_,e2⟩:=oz a (s.set p (.lst [.int x,.int y])) p (2*m) h2 (by omega) (uM (k:=100) hmB (by decide));have m2:nz 2 m:=.inr (.inl ⟨by decide,by decide⟩);have d3:yN 3:=⟨by decide,uM (k:=4) (by decide) (by decide)⟩;rw[pM] at e2;refine⟨r'-m/3,x',y',?_⟩;have J2:atI [PV.int 10,.int 10,.int 100,.int 3,.int 1000000,.int 100000000000000000000] r=some (.int m):=hm;simp[sem,mB,ki,ol,kM,pW,e1,J2,e2,m2,d3]
def five{r:Int}(h0:0<=r)(h1:r<5):r=0\/r=1\/r=2\/r=3\/r=4:=by omega
structure PartOf(q q':Int×Int):Prop where
 low:Low q'
 pos:0<q'.1
 le:q'.1*q.2<=q.1*q'.2
def A9{q:Int×Int}(h:Low q)(h0:0<q.1){m l:Int}(m0:0<m)(ml:m<=l):PartOf q (red (q.1*m,q.2*l)):=by
 have hl:0<l:=by omega
 have hb:0<q.2*l:=br h.1 hl;obtain⟨lo,ev⟩:=pO (q:=(q.1*m,q.2*l)) hb;have b0:=lo.1;have ev:(red (q.1*m,q.2*l)).1*(q.2*l)=q.1*m*(red (q.1*m,q.2*l)).2:=ev;generalize red (q.1*m,q.2*l)=z at *;have p1:0<q.1*m*z.2:=br (br h0 m0) b0;have p2:0<z.1:=by
  rw[<-ev] at p1;by_cases z0:0<z.1
  ·exact z0
  ·have:=aQ (show z.1<=0 by omega) (bA hb);rw[jj] at this;omega
 refine⟨lo,p2,?_⟩;refine iI (a:=l) ?_ hl;have e1:z.1*q.2*l=z.1*(q.2*l):=by rw[aX]
 have e2:q.1*z.2*l=q.1*l*z.2:=by rw[aX,bz z.2 l,<-aX]
 rw[e1,ev,e2];exact aQ (Int.mul_le_mul_of_nonneg_left ml (bA h0)) (bA b0)
def Do(a:Adr)(s:Sto)(p:Nat)(h:IsPurse s p)(q:Int×Int)(hq:Low q)(h0:0<q.1)(hB:Bt 8900 q.2):∃q' x y,PartOf q q'/\l7 a [.ref p,frP q] s=.ok (frP q') (s.set p (.lst [.int x,.int y])):=by
 obtain⟨r,x,y,r0,r1,e1⟩:=oz a s p 5 h (by decide) (uM (k:=4) (by decide) (by decide));have h2:=vi (x:=x) (y:=y) h;by_cases hz:r=0
 ·subst hz;refine⟨q,x,y,⟨hq,h0,Int.le_refl _⟩,?_⟩;simp[sem,mB,ki,ol,l7,oZ,e1,mw,oy,frP]
 ·obtain⟨l,hl,l1,lB,_⟩:∃l:Int,atI [PV.int 2,.int 3,.int 7,.int (10^6)] (r-1)=some (.int l)/\1<l/\l<=10^6/\True:=by
   rcases five r0 r1 with z|z|z|z|z<;>subst z
   ·exact absurd rfl hz
   ·exact⟨2,rfl,by decide,by decide,trivial⟩
   ·exact⟨3,rfl,by decide,by decide,trivial⟩
   ·exact⟨7,rfl,by decide,by decide,trivial⟩
   ·exact⟨10^6,rfl,by decide,by decide,trivial⟩
  obtain⟨r',x',y',s0,s1,e2⟩:=oz a (s.set p (.lst [.int x,.int y])) p (l-1) h2 (by omega) (uM (k:=20) (by show(l-1).natAbs<1048576;omega) (by decide));rw[pM] at e2;have m1:nz q.1 (1+r'):=.inr (.inr ⟨by omega,by omega⟩);have m2:nz q.2 l:=.inr (.inr ⟨by omega,by omega⟩);have bB:Bt 9000 (q.2*l):=(hB.mul (show Bt 20 l by show l.natAbs<1048576;omega)).mono (by decide);have em:=wg a (s.set p (.lst [.int x',.int y'])) (q.1*(1+r')) (q.2*l) (br hq.1 (by omega)) bB;refine⟨red (q.1*(1+r'),q.2*l),x',y',A9 hq h0 (by omega) (by omega),?_⟩;have J3:atI [PV.int 2,.int 3,.int 7,.int 1000000] (r-1)=some (.int l):=hl;have q1:atI [PV.int q.1,.int q.2] 0=some (.int q.1):=rfl;have q2:atI [PV.int q.1,.int q.2] 1=some (.int q.2):=rfl;simp[sem,mB,ki,ol,l7,oZ,e1,mw,oy,frP,hz,J3,e2,m1,m2,q1,q2,em]
def wb{x y:Str}(h:x.cps.toList=y.cps.toList):x=y:=by obtain⟨a⟩:=x;obtain⟨b⟩:=y;have:a=b:=Array.toList_inj.mp h;rw[this]
def mkW(cs:List Nat):Str:=⟨cs.toArray⟩
def mY(cs:List Nat):(mkW cs).cps.toList=cs:=by simp[mkW]
def zo(cs:List Nat):(mkW cs).length=cs.length:=by rw[Bo,mY]
theorem tj:∀cs:List Nat,Str.join (aF "") (cs.map fun c=>(⟨#[c]⟩:Str))=mkW cs
 |[]=>rfl
 |[c]=>rfl
 |c::d::r=>by have ih:=tj (d::r);have e:Str.join (aF "") ((c::d::r).map fun c=>(⟨#[c]⟩:Str))=(⟨#[c]⟩:Str)++aF ""++Str.join (aF "") ((d::r).map fun c=>(⟨#[c]⟩:Str)):=rfl;rw[e,ih];refine wb ?_;rw[uc,uc,mY,mY];rfl
def yD(cs:List Nat):Txt.join (aF "") (cs.map fun c=>(⟨#[c]⟩:Str))=mkW cs:=(StrLaws.glued_eq_join _ _).trans (tj cs)
def uf(vs:List Int)(j:Nat):Int:=(vs[j]?).getD 0
def lj(vs:List Int)(d k j:Nat):Int:=uf vs j+5*(k:Int)*(if j=d then 1 else 0)
def wcs(vs:List Int)(d k:Nat):List Nat:=(bi vs.length).map fun j=>97+(lj vs d k j%26).toNat
def qR(vs:List Int)(d k:Nat):(wcs vs d k).length=vs.length:=by simp[wcs]
def CU(vs:List Int)(d k:Nat):∀c∈wcs vs d k,97<=c/\c<=122:=fun c hc=>by obtain⟨j,_,rfl⟩:=ai.mp hc;have m0:=cC (lj vs d k j) (show(26:Int)≠0 by decide);have m1:=b6 (lj vs d k j) (show(0:Int)<26 by decide);omega
def BS(vs:List Int){d:Nat}(hd:d<vs.length)(k:Nat):(wcs vs d k)[d]?=some (97+((uf vs d+5*(k:Int))%26).toNat):=by unfold wcs lj;rw[aY,eP hd];simp
def wrd(vs:List Int)(d:Nat)(fl:Bool)(k:Nat):Str:=mkW (wcs vs d k++if fl=true/\k%2=1 then [120] else [])
def CT{vs:List Int}{d:Nat}(hd:d<vs.length){fl:Bool}{i j:Nat}(hi:i<10)(hj:j<10)(h:wrd vs d fl i=wrd vs d fl j):i=j:=by
 have e:wcs vs d i++(if fl=true/\i%2=1 then [120] else [])=wcs vs d j++(if fl=true/\j%2=1 then [120] else []):=by have:=congrArg (fun x:Str=>x.cps.toList) h;simpa[wrd,mY] using this
 have e2:(wcs vs d i++(if fl=true/\i%2=1 then [120] else []))[d]?=(wcs vs d j++(if fl=true/\j%2=1 then [120] else []))[d]?:=congrArg (fun l:List Nat=>l[d]?) e;rw[dk (by rw[qR];exact hd),dk (by rw[qR];exact hd),BS vs hd,BS vs hd] at e2;have e3:=aO e2;generalize uf vs d=z at *;omega
def BR{vs:List Int}(h0:0<vs.length)(h7:vs.length<=7)(d:Nat)(fl:Bool)(k:Nat):Sm (wrd vs d fl k)/\qu (wrd vs d fl k)=true:=by
 have hl:(wrd vs d fl k).length=vs.length+(if fl=true/\k%2=1 then 1 else 0):=by unfold wrd;rw[zo,aI,qR];split<;>rfl
 have hc:∀c∈(wrd vs d fl k).cps.toList,97<=c/\c<=122:=fun c hc=>by
  unfold wrd at hc;rw[mY] at hc;rcases aA.mp hc with z|z
  ·exact CU vs d k c z
  ·split at z
   ·rw[al.mp z];decide
   ·cases z
 have Ln:1<=(wrd vs d fl k).length/\(wrd vs d fl k).length<=8:=by rw[hl];split<;>omega
 refine⟨⟨by omega,fun c h=>by have:=hc c h;omega⟩,?_⟩;unfold qu;rw[decide_eq_true Ln.1,decide_eq_true Ln.2];simp only[gF,cJ];intro c h;have:=hc c h;simp[low];omega
theorem tQ{e:XE}{s:Sto}(g:Nat->Str->Str):∀(ws:List Str)(k:Nat),(∀j w,w∈ws->e [some (.int (j:Nat)),some (.str w)] s=.ok (.str (g j w)) s)->ln pY e [] (uS k (ws.map .str)) s=.ok (((bi ws.length).map fun i=>g (k+i) ((ws[i]?).getD cq)).map .str) s
 |[],k,_=>rfl
 |w::r,k,h=>by have ih:=tQ g r (k+1) fun j w hw=>h j w (ak _ hw);show ln pY e [] (.tup [.int (k:Nat),.str w]::uS (k+1) (r.map .str)) s=_;rw[rV];have h0:=h k w ap;simp only[wy,pY,h0,ih];simp[iY,Function.comp_def,Nat.add_assoc,jf 1]
def B9{f g:XS}{ρ ρ':En}{s s':Sto}(h:f ρ s=.nx ρ' s'):xSeq f g ρ s=g ρ' s':=by unfold xSeq;rw[h]
def BO{α β:Type}(v:α)(s:Sto)(f:α->Sto->Out β):(Out.ok v s).bind f=f v s:=rfl
def p62:(2:Int)^62=4611686018427387904:=by decide
def lo62(n:Nat):-(2^62)<=(n:Int):=by
 rw[p62];have:(-4611686018427387904:Int)<=n:=by omega
 exact this
def hi62{n:Nat}(hn:n<1000000):(n:Int)<2^62:=by
 rw[p62];have:(n:Int)<4611686018427387904:=by omega
 exact this
def C9{fa:XA}{ρ:En}{s s1:Sto}{j:Int}(h:fa ρ s=.ok [.int j] s1):xRng1 fa ρ s=if -(2^62)<=j/\j<2^62 then Out.ok (pN 0 j.toNat) s1 else Out.bad:=by unfold xRng1;rw[h,BO]
def qV{fa:XA}{ρ:En}{s s1:Sto}{n:Nat}(h:fa ρ s=.ok [.int n] s1)(hn:n<1000000):xRng1 fa ρ s=.ok (pN 0 n) s1:=by rw[C9 h,if_pos ⟨lo62 n,hi62 hn⟩,Int.toNat_natCast]
def sx{fi:XA}{y:XG}{body:XS}{ρ ρ':En}{s s1 s':Sto}{l:List PV}(h1:fi ρ s=.ok l s1)(h2:k6 (kE y body) l ρ s1=.nx ρ' s'):xFor fi y body ρ s=.nx ρ' s':=by unfold xFor;rw[h1];simp only[Out.so];rw[h2];rfl
def tO{fi:XA}{ix:List Nat}{c:XT}{e:XE}{ρ:En}{s s1 s2:Sto}{l vs:List PV}(h1:fi ρ s=.ok l s1)(hl:l.length<=100000)(h2:me c e (lA ix ρ) l s1=.ok vs s2):n9 fi ix c e ρ s=.ok (.lst vs) s2:=by unfold n9;rw[h1];simp only[Out.bind,hl,if_true];rw[h2]
def Fv{f g:XS}{ρ:En}{s s':Sto}{v:PV}(h:f ρ s=.rt v s'):xSeq f g ρ s=.rt v s':=by unfold xSeq;rw[h]
def ko{f:XE}{i:Nat}{ρ:En}{s s':Sto}{v:PV}(h:f ρ s=.ok v s'):xSet i f ρ s=.nx (ρ.set i (some v)) s':=by unfold xSet;rw[h];rfl
def kF{f g:XE}{F:PV->PV->Sto->Out PV}{ρ:En}{s s1 s2:Sto}{v w:PV}(h1:f ρ s=.ok v s1)(h2:g ρ s1=.ok w s2):x2 f g F ρ s=F v w s2:=by unfold x2;rw[h1];simp only[Out.bind];rw[h2]
def jP{f:XE}{fa:XA}{ρ:En}{s s1 s2:Sto}{v:PV}{vs:List PV}(h1:f ρ s=.ok v s1)(h2:fa ρ s1=.ok vs s2):xCons f fa ρ s=.ok (v::vs) s2:=by unfold xCons;rw[h1];simp only[Out.bind];rw[h2]
def yT{fa:XA}{ρ:En}{s s1:Sto}{vs:List PV}(h1:fa ρ s=.ok vs s1)(hl:vs.length<=100000:=by exact jn rfl):xTup fa ρ s=.ok (.tup vs) s1:=by unfold xTup;rw[h1];exact if_pos hl
def qi{c:XT}{A B:XS}{ρ:En}{s s1:Sto}(h:c ρ s=.ok false s1):xIf c A B ρ s=B ρ s1:=by unfold xIf;rw[h];rfl
def uU{f:XE}{fa:XA}{ρ:En}{s s1 s2:Sto}{k m:Nat}{D:XF}{pp:List Str}{L:List Ent}{vs:List PV}(h1:f ρ s=.ok (.ref k) s1)(h2:s1.get k=some (.book pp L))(h3:fa ρ s1=.ok vs s2)(h4:vs.length+1=m):xBM m D f fa ρ s=D (.ref k::vs) s2:=by unfold xBM;rw[h1];simp only[Out.bind,h2];rw[h3];simp only[h4,if_true]
def Cq{fa:XA}{ρ:En}{s s1:Sto}{vs:List PV}(h1:fa ρ s=.ok vs s1)(hl:vs.length<=100000:=by exact jn rfl):xLst fa ρ s=.ok (.lst vs) s1:=by unfold xLst;rw[h1];exact if_pos hl
def kr{D:XF}{fa:XA}{ρ:En}{s s1:Sto}{vs:List PV}{n:Nat}{o:Out PV}(h1:fa ρ s=.ok vs s1)(hn:vs.length=n)(h2:D vs s1=o):xCall n D fa ρ s=o:=by unfold xCall;rw[h1];simp only[Out.bind];rw[if_pos hn];exact h2
def mP{i:Nat}{u:XS}{q:PV}{ρ:En}{s:Sto}:kE (yName i) u q ρ s=u (ρ.set i (some q)) s:=rfl
def uR{c:XT}{A B:XS}{ρ:En}{s s1:Sto}(h:c ρ s=.ok true s1):xIf c A B ρ s=A ρ s1:=by unfold xIf;rw[h];rfl
def tI{f:XE}{ρ:En}{s s':Sto}{v:PV}(h:f ρ s=.ok v s'):xDo f ρ s=.nx ρ s':=by unfold xDo;rw[h];rfl
def qy{f:XE}{ρ:En}{s s':Sto}{v:PV}(h:f ρ s=.ok v s'):xRet f ρ s=.rt v s':=by unfold xRet;rw[h];rfl
def xP{fa:XA}{F:List PV->Sto->Out PV}{ρ:En}{s s1:Sto}{vs:List PV}(h1:fa ρ s=.ok vs s1):xB fa F ρ s=F vs s1:=by unfold xB;rw[h1];rfl
def abc:Str:="abcdefghijklmnopqrstuvwxyz"
def xq(n:Nat):pN 0 n=(bi n).map fun k=>PV.int (k:Nat):=by unfold pN;refine bC fun k _=>?_;rw[Int.zero_add]
def z7(a:Adr)(T:Sto)(p m:Nat)(vs:List Int)(h0:0<vs.length)(h7:vs.length<=7)(d:Nat)(hd:d<vs.length)(ws:List Str)(hw:ws.length<100)(k:Nat)(hk:k<100)(u v:Option PV) :
  kE (yName 7) (k8 a) (.int (k:Nat)) [some (.ref p),some (.int (m:Nat)),some (.str abc),some (.int (vs.length:Nat)),some (.lst (vs.map .int)),some (.int (d:Nat)),some (.ref T.nx),u,v] (T.add (.lst (ws.map .str))) =
   .nx [some (.ref p),some (.int (m:Nat)),some (.str abc),some (.int (vs.length:Nat)),some (.lst (vs.map .int)),some (.int (d:Nat)),some (.ref T.nx),some (.int (k:Nat)),some (.lst (((bi vs.length).map (lj vs d k)).map .int))] (T.add (.lst ((ws++[mkW (wcs vs d k)]).map .str))):=by
 have Kx:(-4611686018427387904:Int)<=(vs.length:Int):=by omega
 have hr2:(vs.length:Int)<(4611686018427387904:Int):=by omega
 have G1:(pN 0 vs.length).length<=100000:=by rw[qJ];omega
 have m1:nz 5 (k:Int):=.inr (.inl ⟨by decide,by decide⟩);have m2:∀z:Int,nz z 0:=fun z=>.inr (.inr ⟨by decide,by decide⟩);have m3:∀z:Int,nz z 1:=fun z=>.inr (.inr ⟨by decide,by decide⟩);have c1:me pY (x2 (x2 (xVar 1) (xVar 0) fIx) (x2 (x2 (xC (.int 5)) (xVar 2) fMul) (xB (xCons (x2 (xVar 0) (xVar 3) fEq) xNil) fInt) fMul) fAdd) [some (.lst (vs.map .int)),some (.int (k:Nat)),some (.int (d:Nat))] (pN 0 vs.length) (T.add (.lst (ws.map .str)))=.ok (((bi vs.length).map (lj vs d k)).map .int) (T.add (.lst (ws.map .str))):=by
  have:=pG (c:=pY) (e:=x2 (x2 (xVar 1) (xVar 0) fIx) (x2 (x2 (xC (.int 5)) (xVar 2) fMul) (xB (xCons (x2 (xVar 0) (xVar 3) fEq) xNil) fInt) fMul) fAdd) (cap:=[some (.lst (vs.map .int)),some (.int (k:Nat)),some (.int (d:Nat))]) (s:=T.add (.lst (ws.map .str))) (fun _=>true) (fun q=>match q with|.int j=>.int (lj vs d k j.toNat)|_=>.non) (pN 0 vs.length) (fun _ _=>rfl) fun q hq _=>by
   rw[xq] at hq;obtain⟨j,hj,rfl⟩:=ai.mp hq;have hj:j<vs.length:=cX.mp hj;have e1:atI (vs.map PV.int) (j:Nat)=some (.int (uf vs j)):=kD (by unfold uf;rw[aY,bc hj];rfl);by_cases hz:j=d
   ·subst hz;simp[sem,mB,ki,ol,e1,m1,m3,mw,oy,lj]
   ·have hz':((j:Int)==(d:Int))=false:=by simp;omega
    simp[sem,mB,ki,ol,e1,m1,m2,mw,oy,lj,hz,hz']
  rw[this]
  congr 1
  rw[jz.mpr (fun _ _=>rfl),xq,aL,aL];rfl
 have c2:me pY (x2 (xVar 1) (x2 (xVar 0) (xC (.int 26)) fMod) fIx) [some (.str abc)] (((bi vs.length).map (lj vs d k)).map .int) (T.add (.lst (ws.map .str)))=.ok (((wcs vs d k).map fun c=>(⟨#[c]⟩:Str)).map .str) (T.add (.lst (ws.map .str))):=by
  have:=pG (c:=pY) (e:=x2 (xVar 1) (x2 (xVar 0) (xC (.int 26)) fMod) fIx) (cap:=[some (.str abc)]) (s:=T.add (.lst (ws.map .str))) (fun _=>true) (fun q=>match q with|.int j=>.str ⟨#[97+(j%26).toNat]⟩|_=>.non) (((bi vs.length).map (lj vs d k)).map .int) (fun _ _=>rfl) fun q hq _=>by obtain⟨z,_,rfl⟩:=ai.mp hq;have e1:=F7 (cC z (show(26:Int)≠0 by decide)) (b6 z (show(0:Int)<26 by decide));simp[sem,mB,ki,ol,abc,e1,wU]
  rw[this]
  congr 1
  rw[jz.mpr (fun _ _=>rfl),aL,aL,aL];unfold wcs;rw[aL];rfl
 have hj:((((wcs vs d k).map fun c=>(⟨#[c]⟩:Str)).map (·.length)).sum+((wcs vs d k).map fun c=>(⟨#[c]⟩:Str)).length*(aF "").length)<=16777216:=by
  have e:(aF "").length=0:=rfl;have:=AE (ys:=(wcs vs d k).map fun c=>(⟨#[c]⟩:Str)) fun z hz=>by obtain⟨c,_,rfl⟩:=ai.mp hz;exact aq _
  rw[af,qR] at this;rw[e];omega
 have KA:(((bi vs.length).map (lj vs d k)).map PV.int).length<=100000:=by simp;omega
 have hg:(T.add (.lst (ws.map .str))).get T.nx=some (.lst (ws.map .str)):=by rw[kA,if_pos rfl]
 have Me:∀c,(T.add (.lst (ws.map .str))).set T.nx c=T.add c:=fun c=>p8 T _ _;have s1:n9 (xRng1 (xCons (xVar 3) xNil)) [4,7,5] pY (x2 (x2 (xVar 1) (xVar 0) fIx) (x2 (x2 (xC (.int 5)) (xVar 2) fMul) (xB (xCons (x2 (xVar 0) (xVar 3) fEq) xNil) fInt) fMul) fAdd) [some (.ref p),some (.int (m:Nat)),some (.str abc),some (.int (vs.length:Nat)),some (.lst (vs.map .int)),some (.int (d:Nat)),some (.ref T.nx),some (.int (k:Nat)),v] (T.add (.lst (ws.map .str)))=.ok (.lst (((bi vs.length).map (lj vs d k)).map .int)) (T.add (.lst (ws.map .str))):=by
  have er:xRng1 (xCons (xVar 3) xNil) [some (.ref p),some (.int (m:Nat)),some (.str abc),some (.int (vs.length:Nat)),some (.lst (vs.map .int)),some (.int (d:Nat)),some (.ref T.nx),some (.int (k:Nat)),v] (T.add (.lst (ws.map .str)))=.ok (pN 0 vs.length) (T.add (.lst (ws.map .str))):=by exact qV rfl (by omega)
  exact tO er G1 c1
 refine(mP (i:=7)).trans ?_;unfold k8;refine(B9 (ko s1)).trans ?_;have e2:n9 (xIter (xVar 8)) [2] pY (x2 (xVar 1) (x2 (xVar 0) (xC (.int 26)) fMod) fIx) [some (.ref p),some (.int (m:Nat)),some (.str abc),some (.int (vs.length:Nat)),some (.lst (vs.map .int)),some (.int (d:Nat)),some (.ref T.nx),some (.int (k:Nat)),some (.lst (((bi vs.length).map (lj vs d k)).map .int))] (T.add (.lst (ws.map .str)))=.ok (.lst (((wcs vs d k).map fun c=>(⟨#[c]⟩:Str)).map .str)) (T.add (.lst (ws.map .str))):=tO rfl KA c2;show xDo (xAppend (xVar 6) (xCons (xJoin (xC (.str "")) (xCons (n9 (xIter (xVar 8)) [2] pY (x2 (xVar 1) (x2 (xVar 0) (xC (.int 26)) fMod) fIx)) xNil)) xNil)) [some (.ref p),some (.int (m:Nat)),some (.str abc),some (.int (vs.length:Nat)),some (.lst (vs.map .int)),some (.int (d:Nat)),some (.ref T.nx),some (.int (k:Nat)),some (.lst (((bi vs.length).map (lj vs d k)).map .int))] (T.add (.lst (ws.map .str)))=_;have e3:xJoin (xC (.str "")) (xCons (n9 (xIter (xVar 8)) [2] pY (x2 (xVar 1) (x2 (xVar 0) (xC (.int 26)) fMod) fIx)) xNil) [some (.ref p),some (.int (m:Nat)),some (.str abc),some (.int (vs.length:Nat)),some (.lst (vs.map .int)),some (.int (d:Nat)),some (.ref T.nx),some (.int (k:Nat)),some (.lst (((bi vs.length).map (lj vs d k)).map .int))] (T.add (.lst (ws.map .str)))=.ok (.str (mkW (wcs vs d k))) (T.add (.lst (ws.map .str))):=by unfold xJoin;have e4:=jP (fa:=xNil) e2 rfl;simp only[xC,Out.bind,e4,lsOf,pZ];rw[if_pos hj,yD]
 refine tI (v:=.non) ?_;have e4:=jP (fa:=xNil) e3 rfl;unfold xAppend;simp only[xVar,Out.bind,iR,fJ,hg,e4,Me,af];rw[if_pos (show ws.length<100000 by omega)];simp
def jO{i:Nat}{ρ:En}{s:Sto}{v:PV}(h:ρ[i]?=some (some v)):xVar i ρ s=.ok v s:=by unfold xVar;rw[h]
def qW(s:Sto)(p:Nat)(x y x' y':Int):(pst s p x y).set p (.lst [.int x',.int y'])=pst s p x' y':=pM _ _ _ _
def pj(a:Adr){s:Sto}{p:Nat}(hP:IsPurse s p)(x y:Int){n:Int}(h0:0<n)(h1:Bt 9000 n):∃r x' y',0<=r/\r<n/\jX a [.ref p,.int n] (pst s p x y)=.ok (.int r) (pst s p x' y'):=by obtain⟨r,x',y',r0,r1,e⟩:=oz a (pst s p x y) p n (hP.pst x y) h0 h1;rw[qW] at e;exact⟨r,x',y',r0,r1,e⟩
def pc{s:Sto}{p:Nat}(hP:IsPurse s p):∃x y,s=pst s p x y:=by obtain⟨x,y,h⟩:=hP;exact⟨x,y,(AG s p _ h).symm⟩
def kc{f g:XS}{ρ ρ':En}{s s':Sto}{o:SO}(h:f ρ s=.nx ρ' s')(k:g ρ' s'=o):xSeq f g ρ s=o:=(B9 h).trans k
def mv{N:Nat}{g:XS}{vs:List PV}{s s':Sto}{v:PV}(h:g (vs.map some++aK (N-vs.length) none) s=.rt v s'):fnD N g vs s=.ok v s':=by unfold fnD;rw[h]
def By{N:Nat}{g:XS}{vs:List PV}{s s':Sto}{ρ:En}(h:g (vs.map some++aK (N-vs.length) none) s=.nx ρ s'):fnD N g vs s=.ok .non s':=by unfold fnD;rw[h]
def m9(vs:List Int)(d k:Nat):List Str:=(bi k).map fun i=>mkW (wcs vs d i)
def Bi(a:Adr)(s:Sto)(p:Nat)(hp:p<s.nx)(hP:IsPurse s p)(m:Nat)(hm:m<=10):∃x y vs d fl,0<vs.length/\vs.length<=7/\d<vs.length/\nZ a [.ref p,.int (m:Nat)] s=.ok (.lst (((bi m).map (wrd vs d fl)).map .str)) (Sto.bump (pst s p x y)):=by
 obtain⟨xa,y0,es⟩:=pc hP;obtain⟨r,xb,y1,r0,r1,e1⟩:=pj a hP xa y0 (n:=7) (by decide) (lL (by decide) (by decide));rw[<-es] at e1;obtain⟨n,hn,rfl⟩:∃n:Nat,1<=n/\r=(n:Int)-1:=⟨r.toNat+1,by omega,by omega⟩;have Ll:n<=7:=by omega
 obtain⟨pv,t2,hc,vs,xc,y2,rfl,rfl,hvl⟩:=Ex (c:=pY) (e:=xCall 2 (jX a) (xCons (xVar 1) (xCons (xC (.int 26)) xNil))) (cap:=[some (.ref p)]) (pN 0 n)
  (fun i pv t=>∃(vs:List Int)(x y:Int),pv=vs.map PV.int/\t=pst s p x y/\vs.length=i)
  (fun i q pv t hq hI=>by obtain⟨vs,x,y,rfl,rfl,hl⟩:=hI;obtain⟨b,x',y',_,_,e⟩:=pj a hP x y (n:=26) (by decide) (lL (by decide) (by decide));exact .inr ⟨_,.int b,_,rfl,kr (jP (jO rfl) (jP rfl rfl)) rfl e,vs++[b],x',y',by simp,rfl,by simp[hl]⟩)
  (s:=pst s p xb y1) ⟨[],xb,y1,rfl,rfl,rfl⟩
 rw[qJ] at hvl;subst hvl;obtain⟨d',xd,y3,d0,d1,e3⟩:=pj a hP xc y2 (n:=(vs.length:Int)) (by omega) (lL (by omega) (by omega));obtain⟨d,rfl⟩:∃d:Nat,d'=d:=⟨d'.toNat,by omega⟩;have hd:d<vs.length:=by omega
 have lp:∃u v,k6 (kE (yName 7) (k8 a)) (pN 0 m) [some (.ref p),some (.int (m:Nat)),some (.str abc),some (.int (vs.length:Nat)),some (.lst (vs.map .int)),some (.int (d:Nat)),some (.ref s.nx),none,none] ((pst s p xd y3).add (.lst []))=.nx [some (.ref p),some (.int (m:Nat)),some (.str abc),some (.int (vs.length:Nat)),some (.lst (vs.map .int)),some (.int (d:Nat)),some (.ref s.nx),u,v] ((pst s p xd y3).add (.lst ((m9 vs d m).map .str))):=by
  obtain⟨ρ',s',hl,u,v,rfl,rfl⟩:=qM (body:=kE (yName 7) (k8 a)) m
   (fun k ρ t=>∃u v,ρ=[some (.ref p),some (.int (m:Nat)),some (.str abc),some (.int (vs.length:Nat)),some (.lst (vs.map .int)),some (.int (d:Nat)),some (.ref s.nx),u,v]/\t=(pst s p xd y3).add (.lst ((m9 vs d k).map .str)))
   (fun k ρ t hk hI=>by
    obtain⟨u,v,rfl,rfl⟩:=hI;have:=z7 a (pst s p xd y3) p m vs (by omega) Ll d hd (m9 vs d k) (by simp[m9];omega) k (by omega) u v;refine⟨_,_,this,_,_,rfl,?_⟩;have:m9 vs d (k+1)=m9 vs d k++[mkW (wcs vs d k)]:=by unfold m9;rw[List.range_succ,ax];rfl
    rw[this]) (ρ:=[some (.ref p),some (.int (m:Nat)),some (.str abc),some (.int (vs.length:Nat)),some (.lst (vs.map .int)),some (.int (d:Nat)),some (.ref s.nx),none,none]) (s:=(pst s p xd y3).add (.lst [])) ⟨none,none,rfl,rfl⟩
  exact⟨u,v,hl⟩
 obtain⟨u,v,lp⟩:=lp;have hq:IsPurse ((pst s p xd y3).add (.lst ((m9 vs d m).map .str))) p:=(hP.pst xd y3).add _ hp;obtain⟨f,xe,y4,_,_,e4⟩:=oz a _ p 4 hq (by decide) (lL (by decide) (by decide));rw[De _ _ _ _ _ _ _ hp] at e4;have hg:((pst s p xe y4).add (.lst ((m9 vs d m).map .str))).get s.nx=some (.lst ((m9 vs d m).map .str)):=by have:(pst s p xe y4).nx=s.nx:=rfl;rw[kA,if_pos this]
 have J6:((pst s p xe y4).add (.lst ((m9 vs d m).map .str))).del s.nx=Sto.bump (pst s p xe y4):=Ee (pst s p xe y4) _;have head:∀(o:SO),xSeq (xIf (xTr (x2 (xCall 2 (jX a) (xCons (xVar 0) (xCons (xC (.int 4)) xNil))) (xC (.int 0)) fEq)) (xSet 6 (sj (Au (xCons (xFrz (xVar 6)) xNil)) [] pY (x2 (xVar 1) (x2 (xC (.str "x")) (x2 (xVar 0) (xC (.int 2)) fMod) tG) fAdd))) xEnd) (xRet (xT (xVar 6))) [some (.ref p),some (.int (m:Nat)),some (.str abc),some (.int (vs.length:Nat)),some (.lst (vs.map .int)),some (.int (d:Nat)),some (.ref s.nx),u,v] ((pst s p xd y3).add (.lst ((m9 vs d m).map .str)))=o->nS a [some (.ref p),some (.int (m:Nat)),none,none,none,none,none,none,none] s=o:=fun o ho=>by
  unfold nS;refine kc (ko rfl) ?_;refine kc (ko (v:=.int (vs.length:Nat)) (s':=pst s p xb y1) ((kF rfl (kr (jP (jO rfl) (jP rfl rfl)) rfl e1)).trans ?_)) ?_
  ·show Out.ok (PV.int (1+((vs.length:Int)-1))) _=_;rw[show(1:Int)+((vs.length:Int)-1)=(vs.length:Nat) by omega]
  refine kc (ko (tO (qV (n:=vs.length) rfl (by omega)) (by rw[qJ];omega) hc)) ?_;refine kc (ko (kr (jP (jO rfl) (jP (jO rfl) rfl)) rfl e3)) ?_;refine kc (ko (v:=.ref s.nx) (s':=(pst s p xd y3).add (.lst [])) rfl) ?_;refine kc (sx (qV (n:=m) rfl (by omega)) lp) ?_;exact ho
 have c1:x2 (xCall 2 (jX a) (xCons (xVar 0) (xCons (xC (.int 4)) xNil))) (xC (.int 0)) fEq [some (.ref p),some (.int (m:Nat)),some (.str abc),some (.int (vs.length:Nat)),some (.lst (vs.map .int)),some (.int (d:Nat)),some (.ref s.nx),u,v] ((pst s p xd y3).add (.lst ((m9 vs d m).map .str)))=.ok (.bl (f==0)) ((pst s p xe y4).add (.lst ((m9 vs d m).map .str))):=by refine(kF (kr (jP (jO rfl) (jP rfl rfl)) rfl e4) rfl).trans ?_;show fEqN false _ _ _=_;unfold fEqN;rw[mw,mw];simp[oy,xS]
 by_cases hf:f=0
 ·refine⟨xe,y4,vs,d,true,by omega,Ll,hd,mv (head _ ?_)⟩;refine kc ((uR (s1:=(pst s p xe y4).add (.lst ((m9 vs d m).map .str))) (by unfold xTr;rw[c1,hf];rfl)).trans (ko (v:=.lst (((bi m).map (wrd vs d true)).map .str)) (s':=Sto.bump (pst s p xe y4)) ?_)) ?_
  ·unfold sj Au;have ef:xCons (xFrz (xVar 6)) xNil [some (.ref p),some (.int (m:Nat)),some (.str abc),some (.int (vs.length:Nat)),some (.lst (vs.map .int)),some (.int (d:Nat)),some (.ref s.nx),u,v] ((pst s p xe y4).add (.lst ((m9 vs d m).map .str)))=.ok [.lst ((m9 vs d m).map .str)] (Sto.bump (pst s p xe y4)):=by refine jP ?_ rfl;unfold xFrz;rw[jO (v:=.ref s.nx) rfl];simp only[Out.bind,frz1,hg,J6]
   rw[ef];simp only[Out.bind];rw[if_pos (by rw[rJ,af];simp[m9];omega)];have cp:=tQ (e:=x2 (xVar 1) (x2 (xC (.str "x")) (x2 (xVar 0) (xC (.int 2)) fMod) tG) fAdd) (s:=Sto.bump (pst s p xe y4)) (fun j w=>w++if j%2=1 then aF "x" else cq) (m9 vs d m) 0 fun j w hw=>by
    obtain⟨k,_,rfl⟩:=ai.mp hw;have hl:(mkW (wcs vs d k)).length<=7:=by rw[zo,qR];exact Ll
    have Ln:(mkW (wcs vs d k)).length+1<=100000:=by omega
    have JM:(mkW (wcs vs d k)).length<=100000:=by omega
    have lx:(aF "x").length=1:=rfl;have l0:cq.length=0:=rfl;rcases Nat.mod_two_eq_zero_or_one j with z|z
    ·have z':(j:Int)%2=0:=by omega
     simp[sem,mB,ki,ol,tG,z,z',l0,JM]
    ·have z':(j:Int)%2=1:=by omega
     simp[sem,mB,ki,ol,tG,z,z',lx,Ln]
   have el:((bi (m9 vs d m).length).map fun i=>(((m9 vs d m)[i]?).getD cq)++if(0+i)%2=1 then aF "x" else cq)=(bi m).map (wrd vs d true):=by
    have:(m9 vs d m).length=m:=by simp[m9]
    rw[this];refine bC fun k hk=>?_;have hk:=cX.mp hk;have:(m9 vs d m)[k]?=some (mkW (wcs vs d k)):=by unfold m9;rw[aY,eP hk];rfl
    rw[this,Nat.zero_add];refine wb ?_;unfold wrd;rw[uc,mY];simp only[Option.getD_some,mY];by_cases hk2:k%2=1
    ·rw[if_pos hk2,if_pos ⟨trivial,hk2⟩];rfl
    ·rw[if_neg hk2,if_neg (fun z=>hk2 z.2)];rfl
   rw[el] at cp;show((ln pY _ [] _ _).bind _)=_;rw[cp];rfl
  ·refine qy ?_;unfold xT;rw[jO (v:=.lst (((bi m).map (wrd vs d true)).map .str)) rfl];rfl
 ·refine⟨xe,y4,vs,d,false,by omega,Ll,hd,mv (head _ ?_)⟩;refine kc ((qi (s1:=(pst s p xe y4).add (.lst ((m9 vs d m).map .str))) (by unfold xTr;rw[c1,beq_eq_false_iff_ne.mpr hf];rfl)).trans rfl) ?_;refine qy ?_;unfold xT;rw[jO (v:=.ref s.nx) rfl];simp only[Out.bind,GT,frz1,hg,J6];have:(bi m).map (wrd vs d false)=m9 vs d m:=bC fun k _=>by unfold wrd;simp
  rw[this]
def se(l:Hl)(o1 o2:Str)(q:Int×Int):Hl :=
 let r:=kT (kg l o1) (-q.1,q.2);let l1:=if 0<r.1 then kQ (kI l o1) o1 r else kI l o1
 kQ l1 o2 (kT (kg l1 o2) q)
structure HM(c:Nat)(hl hm:Hl):Prop where
 r:∃hz,HR c hl hz
 nd:(hm.map (·.1)).Nodup
 q:∀n,kg hm n=kg hl n
 mem:∀n,n∈hm.map (·.1)↔n∈hl.map (·.1)
theorem HM.mono{c d:Nat}{hl hm:Hl}(h:HM c hl hm)(hc:c<=d):HM d hl hm:=⟨let⟨z,r⟩:=h.r;⟨z,r.mono hc⟩,h.nd,h.q,h.mem⟩
def Gg(c:Nat){o:Str}(ho:Sm o):HM c [(o,1,1)] [(o,1,1)]:=⟨⟨_,Ge c ho⟩,by simp,fun _=>rfl,fun _=>Iff.rfl⟩
def pT{l:Hl}{o:Str}{q:Int×Int}{n:Str}:n∈(kQ l o q).map (·.1)↔n=o\/n∈l.map (·.1):=by
 rw[kK];split
 ·rename_i h;exact⟨.inr,fun z=>z.elim (fun e=>e▸h) id⟩
 ·rw[aA,al];exact⟨fun z=>z.elim .inr .inl,fun z=>z.elim .inr .inl⟩
def mem_drop{l:Hl}{o n:Str}:n∈(kI l o).map (·.1)↔n≠o/\n∈l.map (·.1):=by
 unfold kI;simp only[ai,cN,decide_eq_true_eq];constructor
 ·rintro⟨x,⟨h1,h2⟩,rfl⟩;exact⟨h2,x,h1,rfl⟩
 ·rintro⟨h2,x,h1,rfl⟩;exact⟨x,⟨h1,h2⟩,rfl⟩
theorem HM.sale{c:Nat}{hl hm:Hl}(h:HM c hl hm){o1 o2:Str}{q:Int×Int}(hq:ShOk q)(so:Sm o2)(nt:¬lu hl o1 q):HM (c+1) (sold hl o1 o2 q) (se hm o1 o2 q):=by
 obtain⟨hz,R⟩:=h.r;have q0:0<q.1:=by by_cases z:0<q.1;exact z;exact absurd (.inl z) nt
 have Ik:q.1*(kg hl o1).2<=(kg hl o1).1*q.2:=by
  by_cases z:q.1*(kg hl o1).2>(kg hl o1).1*q.2
  ·exact absurd (.inr z) nt
  ·omega
 have B:=sK (R.fr o1) hq.low q0 Ik hq.bb;have MU:=h.q o1;generalize hr:kT (kg hl o1) (-q.1,q.2)=r at B;have e1:∀n,kg (if 0<r.1 then kQ (kI hm o1) o1 r else kI hm o1) n=kg (if r=(0,1) then kI hl o1 else kQ hl o1 r) n:=fun n=>by
  by_cases z:0<r.1
  ·have z':r≠(0,1):=fun e=>by rw[e] at z;exact absurd z (by decide)
   rw[if_pos z,if_neg z',kB,kB,lW];by_cases e:n=o1
   ·rw[if_pos e,if_pos e]
   ·rw[if_neg e,if_neg e,if_neg e,h.q]
  ·have z':r=(0,1):=tZ B.low (by have:=B.nn;omega);rw[if_neg z,if_pos z',lW,lW];by_cases e:n=o1
   ·rw[if_pos e,if_pos e]
   ·rw[if_neg e,if_neg e,h.q]
 have IH:o1∈hl.map (·.1):=by
  refine(R.nm o1).mpr ?_;by_cases z:0<(kg hl o1).1
  ·exact z
  ·exfalso;have b0:=(R.fr o1).low.1;have b1:=hq.low.1;have n0:=(R.fr o1).nn;have:(kg hl o1).1=0:=by omega
   rw[this,jj] at Ik;have:=br q0 b0;omega
 have m1:∀n,n∈(if 0<r.1 then kQ (kI hm o1) o1 r else kI hm o1).map (·.1)↔n∈(if r=(0,1) then kI hl o1 else kQ hl o1 r).map (·.1):=fun n=>by
  by_cases z:0<r.1
  ·have z':r≠(0,1):=fun e=>by rw[e] at z;exact absurd z (by decide)
   rw[if_pos z,if_neg z',pT,pT,mem_drop,h.mem];exact⟨fun k=>k.imp id (·.2),fun k=>k.elim .inl fun k=>if e:n=o1 then .inl e else .inr ⟨e,k⟩⟩
  ·have z':r=(0,1):=tZ B.low (by have:=B.nn;omega);rw[if_neg z,if_pos z',mem_drop,mem_drop,h.mem]
 have em:se hm o1 o2 q=kQ (if 0<r.1 then kQ (kI hm o1) o1 r else kI hm o1) o2 (kT (kg (if 0<r.1 then kQ (kI hm o1) o1 r else kI hm o1) o2) q):=by unfold se;simp only[MU,hr]
 have es:sold hl o1 o2 q=kQ (if r=(0,1) then kI hl o1 else kQ hl o1 r) o2 (kT (kg (if r=(0,1) then kI hl o1 else kQ hl o1 r) o2) q):=by unfold sold;simp only[hr]
 refine⟨⟨_,R.sale hq so nt⟩,?_,fun n=>?_,fun n=>?_⟩
 ·rw[em];refine qB _ _ ?_;split
  ·exact qB _ _ (wf _ h.nd)
  ·exact wf _ h.nd
 ·rw[em,es,kB,kB,e1 o2,e1 n]
 ·rw[em,es,pT,pT,m1]
theorem HM.srt{c:Nat}{hl hm:Hl}(h:HM c hl hm):srt (hm.map (·.1))=srt (hl.map (·.1)):=by obtain⟨hz,R⟩:=h.r;refine lR ?_ (lP _) (lP _);refine(iy ((kl _).nodup_iff.mpr h.nd) ((kl _).nodup_iff.mpr R.n1)).mpr fun n=>?_;rw[(kl _).mem_iff,(kl _).mem_iff,h.mem]
def HM.len{c:Nat}{hl hm:Hl}(h:HM c hl hm):hm.length=hl.length:=by have:=congrArg b7 h.srt;rw[(kl _).length_eq,(kl _).length_eq,af,af] at this;exact this
def zM{l:List (Key×PV)}{k:Key}(h:k∉l.map (·.1)):lO l k=none:=by unfold lO;rw[fF,bS];intro q hq z;exact h (ai.mpr ⟨q,hq,of_decide_eq_true z⟩)
def hP(l:Hl):List (Key×PV):=l.map fun q=>(am q.1,frP q.2)
def y8(l:Hl)(n:Str)(h:n∈l.map (·.1)):lO (hP l) (am n)=some (frP (kg l n)):=by
 unfold lO hP kg kL;rw[eX,Option.map_map];have e:((fun kv:Key×PV=>decide (kv.1=am n))∘fun q:Str×Int×Int=>((am q.1:Key),frP q.2))=fun q=>decide (q.1=n):=by
  funext q
  show decide ((am q.1:Key)=am n)=_;rw[uG]
 rw[e];cases hf:l.find? (fun q=>decide (q.1=n)) with
 |none =>
  exfalso;rw[bS] at hf;obtain⟨q,hq,e⟩:=ai.mp h;exact hf q hq (decide_eq_true e)
 |some q=>rfl
def wl(l:Hl):(hP l).map (·.1)=l.map fun q=>am q.1:=by unfold hP;rw[aL];rfl
def Gj(l:Hl)(n:Str):(lO (hP l) (am n)).getD (.tup [.int 0,.int 1])=frP (kg l n):=by
 by_cases h:n∈l.map (·.1)
 ·rw[y8 l n h];rfl
 ·rw[zM,wm h]
  ·rfl
  ·rw[wl];intro z;obtain⟨q,hq,e⟩:=ai.mp z;cases e;exact h (ai.mpr ⟨q,hq,rfl⟩)
def Cv(l:Hl)(n:Str)(q:Int×Int):vh (hP l) (am n) (frP q)=hP (kQ l n q):=by
 unfold vh kQ hP;rw[fQ];have e:((fun kv:Key×PV=>decide (kv.1=am n))∘fun q:Str×Int×Int=>((am q.1:Key),frP q.2))=fun q=>decide (q.1=n):=by
  funext q
  show decide ((am q.1:Key)=am n)=_;rw[uG]
 rw[e];split
 ·rw[aL,aL];refine bC fun z _=>?_;show(if(am z.1:Key)=am n then((am z.1:Key),frP q) else(am z.1,frP z.2))=_;by_cases hz:z.1=n
  ·simp[hz]
  ·simp[hz]
 ·simp
def t4(pp:List Str)(w:Str):lv pp w=true↔w∈pp:=by
 unfold lv;rw[fu];constructor
 ·rintro⟨x,hx,e⟩
  have:=of_decide_eq_true e;subst this;exact hx
 ·intro h;exact⟨w,h,decide_eq_true rfl⟩
def kX(L:List Ent)(w:Str):kn L w=true↔w∈L.map (·.nm):=by
 unfold kn lz;rw[fu];constructor
 ·rintro⟨x,hx,e⟩
  exact ai.mpr ⟨x,hx,of_decide_eq_true e⟩
 ·intro h;obtain⟨x,hx,e⟩:=ai.mp h;exact⟨x,hx,decide_eq_true e⟩
def vm(a:Adr){pp:List Str}{L:List Ent}{w:Str}(h1:qu w=true)(h2:w∉pp)(h3:w∉L.map (·.nm)):nu a pp L w=none:=by
 unfold nu;have e1:lv pp w=false:=by rw[cg];exact fun z=>h2 ((t4 _ _).mp z)
 have e2:kn L w=false:=by rw[cg];exact fun z=>h3 ((kX _ _).mp z)
 rw[if_neg (by rw[h1];decide),e1,e2];rfl
def BP{ws:List Str}{r:Int}(h0:0<=r)(h1:r<ws.length):∃w∈ws,atI (ws.map PV.str) r=some (.str w):=by
 obtain⟨j,rfl⟩:∃j:Nat,r=j:=⟨r.toNat,by omega⟩;have hj:j<ws.length:=by omega
 exact⟨ws[j],de hj,kD (by simp[hj])⟩
def t5{A B:List Ent}{e:Ent}(hn:e.nm∉A.map (·.nm)):lz (A++e::B) e.nm=some e:=by
 unfold lz;rw[gS,bS.mpr]
 ·simp
 ·intro x hx z;exact hn (ai.mpr ⟨x,hx,of_decide_eq_true z⟩)
def zQ{A B:List Ent}{e:Ent}(g:Ent->Ent)(h1:e.nm∉A.map (·.nm))(h2:e.nm∉B.map (·.nm)):x6 (A++e::B) e.nm g=A++g e::B:=by
 have no:∀{l:List Ent},e.nm∉l.map (·.nm)->l.map (fun x=>if x.nm=e.nm then g x else x)=l:=fun{l} h=>by
  conv=>rhs;rw[<-jp l]
  refine bC fun x hx=>?_;rw[if_neg fun z=>h (ai.mpr ⟨x,hx,z⟩)];rfl
 unfold x6;rw[ax,aG,if_pos rfl,no h1,no h2]
def D2(l:Hl)(n:Str):wC (hP l) (am n)=hP (kI l n):=by
 unfold wC hP kI;rw[eJ]
 congr 1
 refine List.filter_congr fun x _=>?_;simp[Function.comp]
def Gh(l:Hl):(hP l).length=l.length:=by unfold hP;rw[af]
theorem ra:∀(l:List (Key×PV))(ss:List Str),l.map (·.1)=ss.map am->keysOf l=some ss
 |[],[],_=>rfl
 |(k,v)::r,s::ss,h=>by have h1:k=am s:=(jL h).1;have h2:=ra r ss (jL h).2;subst h1;simp[keysOf,h2]
def DU(l:Hl):keysOf (hP l)=some (l.map (·.1)):=ra _ _ (by rw[wl,aL];rfl)
structure Md where
 nm:Str
 cell:Nat
 hl:Hl
 th:Int
 mr:Int
 ls:Int
def mdP(e:Md):Key×PV:=(am e.nm,.lst [.ref e.cell,.tup [.int e.th,.int e.mr,.int e.ls]])
def DR(M:List Md):keysOf (M.map mdP)=some (M.map (·.nm)):=ra _ _ (by rw[aL,aL];rfl)
structure MRel(N:List Str)(c:Nat)(e:Ent)(m:Md):Prop where
 nm:e.nm=m.nm
 th:e.th=m.th
 mr:e.mr=m.mr
 ls:e.ls=m.ls
 hm:HM c e.held m.hl
 ow:∀n∈m.hl.map (·.1),n∈N
theorem MRel.mono{N:List Str}{c d:Nat}{e:Ent}{m:Md}(h:MRel N c e m)(hc:c<=d):MRel N d e m:=⟨h.nm,h.th,h.mr,h.ls,h.hm.mono hc,h.ow⟩
inductive Prs (N:List Str) (c:Nat):List Ent->List Md->Prop
 |nil:Prs N c [] []
 |cons {e:Ent}{m:Md}{L:List Ent}{M:List Md}:MRel N c e m->Prs N c L M->Prs N c (e::L) (m::M)
theorem Prs.mono{N:List Str}{c d:Nat}(hc:c<=d):∀{L:List Ent}{M:List Md},Prs N c L M->Prs N d L M
 |_,_,.nil=>.nil
 |_,_,.cons h r=>.cons (h.mono hc) (r.mono hc)
theorem Prs.names{N:List Str}{c:Nat}:∀{L:List Ent}{M:List Md},Prs N c L M->L.map (·.nm)=M.map (·.nm)
 |_,_,.nil=>rfl
 |_,_,.cons h r=>by rw[aG,aG,h.nm,r.names]
theorem Prs.app{N:List Str}{c:Nat}:∀{L L':List Ent}{M M':List Md},Prs N c L M->Prs N c L' M'->Prs N c (L++L') (M++M')
 |_,_,_,_,.nil,k=>k
 |_,_,_,_,.cons h r,k=>.cons h (r.app k)
theorem Prs.cut{N:List Str}{c:Nat}:∀{L:List Ent}{M:List Md},Prs N c L M->∀{h:Str},h∈M.map (·.nm)->∃A e B A' m B',L=A++e::B/\M=A'++m::B'/\m.nm=h/\h∉A'.map (·.nm)/\Prs N c A A'/\MRel N c e m/\Prs N c B B'
 |_,_,.nil,_,hh=>nomatch hh
 |e::L,m::M,.cons k r,h,hh=>by
  by_cases z:m.nm=h
  ·exact⟨[],e,L,[],m,M,rfl,rfl,z,by simp,.nil,k,r⟩
  ·have hh':h∈M.map (·.nm):=(aj.mp hh).elim (fun q=>absurd q.symm z) id;obtain⟨A,e',B,A',m',B',e1,e2,e3,e4,e5,e6,e7⟩:=r.cut hh';refine⟨e::A,e',B,m::A',m',B',by rw[e1];rfl,by rw[e2];rfl,e3,fun q=>?_,.cons k e5,e6,e7⟩;rcases aj.mp q with q|q
   ·exact z q.symm
   ·exact e4 q
structure Wst(t:Sto)(p nb nd:Nat)(N:List Str)(c:Nat)(pp:List Str)(L:List Ent)(M:List Md):Prop where
 pu:IsPurse t p
 bk:t.get nb=some (.book pp L)
 md:t.get nd=some (.dct (M.map mdP))
 sh:∀m∈M,t.get m.cell=some (.dct (hP m.hl))
 i1:p≠nb
 i2:p≠nd
 i3:nb≠nd
 i4:∀m∈M,m.cell≠p/\m.cell≠nb/\m.cell≠nd
 i5:(M.map (·.cell)).Nodup
 lt:p<t.nx/\nb<t.nx/\nd<t.nx/\∀m∈M,m.cell<t.nx
 pr:Prs N c L M
theorem Wst.pst{t:Sto}{p nb nd:Nat}{N:List Str}{c:Nat}{pp:List Str}{L:List Ent}{M:List Md}(W:Wst t p nb nd N c pp L M)(x y:Int):Wst (pst t p x y) p nb nd N c pp L M :=
 ⟨W.pu.pst x y,by rw[<-W.bk];exact jW _ _ (cj W.i1),by rw[<-W.md];exact jW _ _ (cj W.i2),fun m hm=>by rw[<-W.sh m hm];exact jW _ _ (W.i4 m hm).1,W.i1,W.i2,W.i3,W.i4,W.i5,W.lt,W.pr⟩
theorem Wst.mono{t:Sto}{p nb nd:Nat}{N:List Str}{c d:Nat}{pp:List Str}{L:List Ent}{M:List Md}(W:Wst t p nb nd N c pp L M)(hc:c<=d):Wst t p nb nd N d pp L M :=
 ⟨W.pu,W.bk,W.md,W.sh,W.i1,W.i2,W.i3,W.i4,W.i5,W.lt,W.pr.mono hc⟩
def Wst.sale{t:Sto}{p nb nd:Nat}{N:List Str}{c:Nat}{pp:List Str}{A B:List Ent}{e:Ent}{A' B':List Md}{m:Md}(W:Wst t p nb nd N c pp (A++e::B) (A'++m::B'))(c1:Prs N c A A')(c2:MRel N c e m)(c3:Prs N c B B'){J3 J2:Hl}(h:HM (c+1) J3 J2)(ow:∀n∈J2.map (·.1),n∈N):Wst ((t.set nb (.book pp (A++{ e with held:=J3 }::B))).set m.cell (.dct (hP J2))) p nb nd N (c+1) pp (A++{ e with held:=J3 }::B) (A'++{ m with hl:=J2 }::B'):=by
 have hm:=W.i4 m (aw _ ap);have LU:=W.i5;rw[ax,aG] at LU;obtain⟨nA,nB,nX⟩:=bH.mp LU;obtain⟨nm,nB⟩:=aD.mp nB;have IG:∀m'∈A'++B',m'.cell≠m.cell/\m'∈A'++m::B':=fun m' h'=>by
  rcases aA.mp h' with z|z
  ·exact⟨fun q=>nX _ (ai.mpr ⟨m',z,rfl⟩) _ ap q,aW _ z⟩
  ·exact⟨fun q=>nm (q▸ai.mpr ⟨m',z,rfl⟩),aw _ (ak _ z)⟩
 have g1:(t.set nb (.book pp (A++{ e with held:=J3 }::B))).get m.cell=some (.dct (hP m.hl)):=by rw[jW _ _ hm.2.1];exact W.sh m (aw _ ap)
 refine⟨?_,?_,?_,fun m' h'=>?_,W.i1,W.i2,W.i3,fun m' h'=>?_,?_,⟨W.lt.1,W.lt.2.1,W.lt.2.2.1,fun m' h'=>?_⟩,(c1.mono (eG _)).app (.cons ⟨c2.nm,c2.th,c2.mr,c2.ls,h,ow⟩ (c3.mono (eG _)))⟩
 ·obtain⟨x,y,e⟩:=W.pu;exact⟨x,y,by rw[jW _ _ (cj hm.1),jW _ _ W.i1];exact e⟩
 ·rw[jW _ _ (cj hm.2.1)];exact mT W.bk
 ·rw[jW _ _ (cj hm.2.2),jW _ _ (cj W.i3),W.md];simp[mdP]
 ·rcases aA.mp h' with z|z
  ·obtain⟨q1,q2⟩:=IG m' (aW _ z);rw[jW _ _ q1,jW _ _ (W.i4 m' q2).2.1];exact W.sh m' q2
  ·rcases aj.mp z with z|z
   ·subst z;exact mT g1
   ·obtain⟨q1,q2⟩:=IG m' (aw _ z);rw[jW _ _ q1,jW _ _ (W.i4 m' q2).2.1];exact W.sh m' q2
 ·rcases aA.mp h' with z|z
  ·exact W.i4 m' (aW _ z)
  ·rcases aj.mp z with z|z
   ·subst z;exact hm
   ·exact W.i4 m' (aw _ (ak _ z))
 ·rw[ax,aG];exact LU
 ·rcases aA.mp h' with z|z
  ·exact W.lt.2.2.2 m' (aW _ z)
  ·rcases aj.mp z with z|z
   ·subst z;exact W.lt.2.2.2 m (aw _ ap)
   ·exact W.lt.2.2.2 m' (aw _ (ak _ z))
def C7(a:Adr){t:Sto}{nb:Nat}{pp:List Str}{A B:List Ent}{e:Ent}{o1 o2:Str}{q:Int×Int}(hb:t.get nb=some (.book pp (A++e::B)))(nd:((A++e::B).map (·.nm)).Nodup)(hn:Nm e.nm/\Nm o1/\Nm o2)(hz:Sz q)(ok:SaleOk e.held o1 q)(h1:(lv pp o1||kn (A++e::B) o1)=true)(h2:(lv pp o2||kn (A++e::B) o2)=true)(nt:¬lu e.held o1 q) :
  qG a [.ref nb,.str e.nm,.str o1,.str o2,frP q] t=.ok .non (t.set nb (.book pp (A++{ e with held:=sold e.held o1 o2 q }::B))):=by
 rw[ax,aG] at nd;have n1:e.nm∉A.map (·.nm):=fun z=>(bH.mp nd).2.2 _ z _ ap rfl;have n2:e.nm∉B.map (·.nm):=(aD.mp (bH.mp nd).2.1).1;have hS:SaleE (A++e::B) e.nm o1 o2 q:=⟨by rw[ax,aG];exact nd,hn,hz,fun e' he=>by rw[t5 n1] at he;cases he;exact ok⟩;obtain⟨x,y⟩:=q;simp[qG,lI,hb,hS,t5 n1,nt,frP,zQ _ n1 n2];rw[fZ] at h1 h2;rw[if_neg (by intro z;rcases h1 with h|h<;>simp_all),if_neg (by intro z;rcases h2 with h|h<;>simp_all)]
def p7{t:Sto}{n:Nat}{l:List (Key×PV)}{ss:List Str}(h:t.get n=some (.dct l))(hk:keysOf l=some ss)(hl:ss.length<64):ki [.ref n] t=.ok (.lst ((srt ss).map .str)) t:=by simp[ki,lsOf,dcOf,h,hk,hl]
def sw{t:Sto}{ws:List Str}{r:Int}{w:Str}(h:atI (ws.map PV.str) r=some (.str w)):fIx (.lst (ws.map .str)) (.int r) t=.ok (.str w) t:=by simp[fIx,lsOf,h]
def wj{t:Sto}{l:List PV}:fLen [.lst l] t=.ok (.int (l.length:Nat)) t:=by simp[fLen,lsOf]
def Cr{t:Sto}{n:Nat}{l:List (Key×PV)}{w:Str}{v:PV}(h:t.get n=some (.dct l))(hv:lO l (am w)=some v):fIx (.ref n) (.str w) t=.ok v t:=by simp[fIx,lsOf,dcOf,h,kyOf,hv]
def Cp{A' B':List Md}{m:Md}(h:m.nm∉A'.map (·.nm)):lO ((A'++m::B').map mdP) (am m.nm)=some (.lst [.ref m.cell,.tup [.int m.th,.int m.mr,.int m.ls]]):=by
 unfold lO;rw[ax,gS];have:(A'.map mdP).find? (fun kv=>decide (kv.1=am m.nm))=none:=by rw[bS];intro x hx;obtain⟨m',h',rfl⟩:=ai.mp hx;intro z;have z:(am m'.nm:Key)=am m.nm:=of_decide_eq_true z;exact h (dw z▸ai.mpr ⟨m',h',rfl⟩)
 rw[this];simp[mdP]
theorem HM.fr{c:Nat}{hl hm:Hl}(h:HM c hl hm)(n:Str):FrC c (kg hm n):=by obtain⟨z,R⟩:=h.r;rw[h.q];exact R.fr n
def HM.pos{c:Nat}{hl hm:Hl}(h:HM c hl hm){n:Str}(hn:n∈hm.map (·.1)):0<(kg hm n).1:=by obtain⟨z,R⟩:=h.r;rw[h.q];exact(R.nm n).mp ((h.mem n).mp hn)
def Dm{c:Nat}(hc:c<=40){g q:Int×Int}(hg:FrC c g)(h:PartOf g q)(hb:q.2<10^29):ShOk q:=by
 have b0:=h.low.1;have hq:=zm hg h.low h.le;have b97:Bt 97 q.2:=by
  show q.2.natAbs<2^97;have:(2:Nat)^97=158456325028528675187087900672:=by decide
  rw[this];omega
 refine⟨h.low,?_,b97⟩;have h2:Bt 200 (((2^c:Nat):Int)*q.2):=((show Bt (c+1) ((2^c:Nat):Int) from by show((2^c:Nat):Int).natAbs<2^(c+1);rw[gL];exact Nat.pow_lt_pow_right (by decide) (by omega)).mul b97).mono (by omega)
 show q.1.natAbs<2^200;have h3:(((2^c:Nat):Int)*q.2).natAbs<2^200:=h2;have:=h.pos;generalize (2:Nat)^200=Z at *;generalize ((2^c:Nat):Int)*q.2=Y at *;omega
def Wst.draw'{t:Sto}{p nb nd:Nat}{N:List Str}{c:Nat}{pp:List Str}{L:List Ent}{M:List Md}(W:Wst t p nb nd N c pp L M)(a:Adr)(x y:Int){n:Int}(h0:0<n)(h1:Bt 9000 n):∃r x' y',0<=r/\r<n/\jX a [.ref p,.int n] (My.pst t p x y)=.ok (.int r) (My.pst t p x' y'):=by obtain⟨r,x',y',r0,r1,e⟩:=oz a (My.pst t p x y) p n (W.pst x y).pu h0 h1;rw[qW] at e;exact⟨r,x',y',r0,r1,e⟩
def asg2{f:XE}{i j:Nat}{ρ:En}{s s':Sto}{v w:PV}(h:f ρ s=.ok (.tup [v,w]) s'):xAsg f (yTup 2 (yCons (yName i) (yCons (yName j) yNil))) ρ s=.nx ((ρ.set i (some v)).set j (some w)) s':=by unfold xAsg;rw[h];rfl
def sR{fo fi fv:XE}{ρ:En}{s s1:Sto}{n:Nat}{w:Str}{v:PV}{l:List (Key×PV)}(h1:fv ρ s=.ok v s1)(h2:fo ρ s1=.ok (.ref n) s1)(h3:fi ρ s1=.ok (.str w) s1)(hg:s1.get n=some (.dct l))(hl:l.length<100000):xPut fo fi fv ρ s=.nx ρ (s1.set n (.dct (vh l (am w) v))):=by unfold xPut;rw[h1];simp only[Out.so];rw[h2];simp only;rw[h3];simp[ol,hg,kyOf,hl]
def Bm(a:Adr)(s:Sto){g q:Int×Int}(hg:Low g)(hq:Low q)(bg:Bt 8800 g.2)(bq:Bt 100 q.2):kH a [.int (g.1*q.2-q.1*g.2),.int (g.2*q.2)] s=.ok (frP (kT g (-q.1,q.2))) s:=by have e:=wg a s (g.1*q.2-q.1*g.2) (g.2*q.2) (br hg.1 hq.1) ((bg.mul bq).mono (by decide));rw[e];unfold kT;rw[show g.1*(-q.1,q.2).2+(-q.1,q.2).1*g.2=g.1*q.2-q.1*g.2 by show g.1*q.2+-q.1*g.2=_;rw[gr];rfl]
def Bn(a:Adr)(s:Sto){g q:Int×Int}(hg:Low g)(hq:Low q)(bg:Bt 8800 g.2)(bq:Bt 100 q.2):kH a [.int (g.1*q.2+q.1*g.2),.int (g.2*q.2)] s=.ok (frP (kT g q)) s :=
 wg a s (g.1*q.2+q.1*g.2) (g.2*q.2) (br hg.1 hq.1) ((bg.mul bq).mono (by decide))
def ix0{t:Sto}{q:Int×Int}:fIx (frP q) (.int 0) t=.ok (.int q.1) t:=by simp[fIx,frP,atI,ixN]
def ix1{t:Sto}{q:Int×Int}:fIx (frP q) (.int 1) t=.ok (.int q.2) t:=by simp[fIx,frP,atI,ixN]
def qC{f g:XE}{ρ:En}{s s1 s2:Sto}{i j:Int}(h1:f ρ s=.ok (.int i) s1)(h2:g ρ s1=.ok (.int j) s2)(hm:nz i j):x2 f g fMul ρ s=.ok (.int (i*j)) s2:=by rw[kF h1 h2];simp[fMul,hm]
def Ft{f g:XE}{ρ:En}{s s1 s2:Sto}{i j:Int}(h1:f ρ s=.ok (.int i) s1)(h2:g ρ s1=.ok (.int j) s2):x2 f g fSub ρ s=.ok (.int (i-j)) s2:=by rw[kF h1 h2];rfl
def qF{f g:XE}{ρ:En}{s s1 s2:Sto}{i j:Int}(h1:f ρ s=.ok (.int i) s1)(h2:g ρ s1=.ok (.int j) s2):x2 f g fAdd ρ s=.ok (.int (i+j)) s2:=by rw[kF h1 h2];rfl
def Gn{f g h:XE}{ρ:En}{s:Sto}{n:Nat}{l:List (Key×PV)}{w:Str}{z:PV}(h1:f ρ s=.ok (.ref n) s)(hg:s.get n=some (.dct l))(h2:g ρ s=.ok (.str w) s)(h3:h ρ s=.ok z s):xGet f g h ρ s=.ok ((lO l (am w)).getD z) s:=by unfold xGet;rw[h1];simp[Out.bind,dcOf,hg,h2,h3,kyOf]
def Eb{f g:XE}{ρ:En}{s:Sto}{n:Nat}{l:List (Key×PV)}{w:Str}{v:PV}(h1:f ρ s=.ok (.ref n) s)(hg:s.get n=some (.dct l))(h2:g ρ s=.ok (.str w) s)(hv:lO l (am w)=some v):xU f g ρ s=.ok v (s.set n (.dct (wC l (am w)))):=by unfold xU;rw[h1];simp[Out.bind,hg,h2,kyOf,hv]
def z8{l:Hl}{o1 o2:Str}{q:Int×Int}(h1:o1∈l.map (·.1)){n:Str}(h:n∈(se l o1 o2 q).map (·.1)):n∈l.map (·.1)\/n=o2:=by
 unfold se at h;simp only at h;rw[pT] at h;rcases h with h|h
 ·exact .inr h
 ·refine .inl ?_;split at h
  ·rw[pT] at h;rcases h with h|h
   ·rw[h];exact h1
   ·exact(mem_drop.mp h).2
  ·exact(mem_drop.mp h).2
def BZ{l:List Str}(h:l≠[]):0<(srt l).length:=by rw[(kl l).length_eq];exact gw.mpr h
def GR(a:Adr){t:Sto}{p nb nd:Nat}{N:List Str}{c:Nat}{pp:List Str}{L:List Ent}{M:List Md}(W:Wst t p nb nd N c pp L M)(x y:Int){ws:List Str}(h0:0<ws.length)(hl:ws.length<1000){i:Nat}{ρ:En}(hp:ρ[0]?=some (some (.ref p)))(hi:ρ[i]?=some (some (.lst (ws.map .str)))) :
  ∃w x' y',w∈ws/\x2 (xVar i) (xCall 2 (jX a) (xCons (xVar 0) (xCons (xB (xCons (xVar i) xNil) fLen) xNil))) fIx ρ (pst t p x y)=.ok (.str w) (pst t p x' y'):=by
 obtain⟨r,x',y',r0,r1,e⟩:=W.draw' a x y (n:=(ws.length:Nat)) (by omega) (lL (by omega) (by omega));obtain⟨w,hw,HV⟩:=BP r0 r1;refine⟨w,x',y',hw,?_⟩;have e2:xB (xCons (xVar i) xNil) fLen ρ (pst t p x y)=.ok (.int (ws.length:Nat)) (pst t p x y):=by rw[xP (jP (jO hi) rfl),wj,af]
 exact(kF (jO hi) (kr (jP (jO hp) (jP e2 rfl)) rfl e)).trans (sw HV)
def C1(a:Adr){t:Sto}{p nb nd:Nat}{N:List Str}{c:Nat}{pp:List Str}{L:List Ent}{M:List Md}(W:Wst t p nb nd N c pp L M)(hc:c<=40)(hM:M≠[])(hnd:(L.map (·.nm)).Nodup)(Ls:∀n∈N,Sm n)(hLN:∀n∈L.map (·.nm),n∈N)(hN1:∀n∈N,(lv pp n||kn L n)=true)(hN0:N≠[])(hNl:N.length<64)(hL8:L.length<=8) :
  ∃t' L' M',m8 a [.ref p,.ref nd,.lst (N.map .str),.ref nb] t=.ok .non t'/\Wst t' p nb nd N (c+1) pp L' M'/\L'.map (·.nm)=L.map (·.nm)/\M'.map (·.cell)=M.map (·.cell)/\t'.nx=t.nx/\∀k,k≠p->k≠nb->k∉M.map (·.cell)->t'.get k=t.get k:=by
 have hml:M.length=L.length:=by have:=congrArg b7 W.pr.names;simpa using this.symm
 obtain⟨x0,y0,et⟩:=pc W.pu;have s1:ki [.ref nd] t=.ok (.lst ((srt (M.map (·.nm))).map .str)) t:=p7 W.md (DR M) (by rw[af];omega);obtain⟨h,xa,ya,hh,eh⟩:=GR a W x0 y0 (ws:=srt (M.map (·.nm))) (BZ (by simpa using hM)) (by rw[(kl _).length_eq,af];omega) (i:=4) (ρ:=[some (.ref p),some (.ref nd),some (.lst (N.map .str)),some (.ref nb),some (.lst ((srt (M.map (·.nm))).map .str)),none,none,none,none,none,none,none,none,none]) rfl rfl;rw[<-et] at eh;have hh:=(kl _).mem_iff.mp hh;obtain⟨A,e,B,A',m,B',rfl,rfl,rfl,hA,c1,c2,c3⟩:=W.pr.cut hh;have Mj:m∈A'++m::B':=aw _ ap;obtain⟨i4a,i4b,i4c⟩:=W.i4 m Mj;have g0:∀x y,(pst t p x y).get m.cell=some (.dct (hP m.hl)):=fun x y=>(W.pst x y).sh m Mj;have gd:∀x y,(pst t p x y).get nd=some (.dct ((A'++m::B').map mdP)):=fun x y=>(W.pst x y).md;have gb:∀x y,(pst t p x y).get nb=some (.book pp (A++e::B)):=fun x y=>(W.pst x y).bk;obtain⟨hz,R⟩:=c2.hm.r;have G1:m.hl.length<=45:=by rw[c2.hm.len];exact aC R.l1 (by omega)
 have Hr:m.hl.map (·.1)≠[]:=by obtain⟨n,hn⟩:=R.ex;exact List.ne_nil_of_mem ((c2.hm.mem n).mpr ((R.nm n).mpr hn))
 have s2:∀x y,ki [.ref m.cell] (pst t p x y)=.ok (.lst ((srt (m.hl.map (·.1))).map .str)) (pst t p x y):=fun x y=>p7 (g0 x y) (DU m.hl) (by rw[af];omega);obtain⟨o1,xb,yb,ho,eo⟩:=GR a W xa ya (ws:=srt (m.hl.map (·.1))) (BZ Hr) (by rw[(kl _).length_eq,af];omega) (i:=7) (ρ:=[some (.ref p),some (.ref nd),some (.lst (N.map .str)),some (.ref nb),some (.lst ((srt ((A'++m::B').map (·.nm))).map .str)),some (.str m.nm),some (.ref m.cell),some (.lst ((srt (m.hl.map (·.1))).map .str)),none,none,none,none,none,none]) rfl rfl;have ho:=(kl _).mem_iff.mp ho;obtain⟨o2,xc,yc,Jf,eo2⟩:=GR a W xb yb (ws:=N) (gw.mpr hN0) (by omega) (i:=2) (ρ:=[some (.ref p),some (.ref nd),some (.lst (N.map .str)),some (.ref nb),some (.lst ((srt ((A'++m::B').map (·.nm))).map .str)),some (.str m.nm),some (.ref m.cell),some (.lst ((srt (m.hl.map (·.1))).map .str)),some (.str o1),none,none,none,none,none]) rfl rfl;have F1:=c2.hm.fr o1;have p0:=c2.hm.pos ho;obtain⟨q,xd,yd,hq,ep⟩:=Do a (pst t p xc yc) p (W.pst xc yc).pu (kg m.hl o1) F1.low p0 (F1.bb.mono (by omega));rw[qW] at ep;have v1:∀x y,fIx (.ref m.cell) (.str o1) (pst t p x y)=.ok (frP (kg m.hl o1)) (pst t p x y):=fun x y=>Cr (g0 x y) (y8 m.hl o1 ho);have v0:∀x y,fIx (.ref nd) (.str m.nm) (pst t p x y)=.ok (.lst [.ref m.cell,.tup [.int m.th,.int m.mr,.int m.ls]]) (pst t p x y):=fun x y=>Cr (gd x y) (Cp hA);have head:∀(o:SO),xSeq (xIf (xTr (x2 (x2 (xVar 10) (xC (.int 1)) fIx) (x2 (xC (.int 10)) (xC (.int 29)) fPow) fGe)) xRetN xEnd) (xSeq (xDo (xBM 5 (qG a) (xVar 3) (xCons (xVar 5) (xCons (xVar 8) (xCons (xVar 9) (xCons (xVar 10) xNil)))))) (xSeq (xAsg (xU (xVar 6) (xVar 8)) (yTup 2 (yCons (yName 11) (yCons (yName 12) yNil)))) (xSeq (xSet 13 (xCall 2 (kH a) (xCons (x2 (x2 (xVar 11) (x2 (xVar 10) (xC (.int 1)) fIx) fMul) (x2 (x2 (xVar 10) (xC (.int 0)) fIx) (xVar 12) fMul) fSub) (xCons (x2 (xVar 12) (x2 (xVar 10) (xC (.int 1)) fIx) fMul) xNil)))) (xSeq (xIf (xTr (x2 (x2 (xVar 13) (xC (.int 0)) fIx) (xC (.int 0)) fGt)) (xPut (xVar 6) (xVar 8) (xVar 13)) xEnd) (xSeq (xAsg (xGet (xVar 6) (xVar 9) (xTup (xCons (xC (.int 0)) (xCons (xC (.int 1)) xNil)))) (yTup 2 (yCons (yName 11) (yCons (yName 12) yNil)))) (xPut (xVar 6) (xVar 9) (xCall 2 (kH a) (xCons (x2 (x2 (xVar 11) (x2 (xVar 10) (xC (.int 1)) fIx) fMul) (x2 (x2 (xVar 10) (xC (.int 0)) fIx) (xVar 12) fMul) fAdd) (xCons (x2 (xVar 12) (x2 (xVar 10) (xC (.int 1)) fIx) fMul) xNil)))))))))
   [some (.ref p),some (.ref nd),some (.lst (N.map .str)),some (.ref nb),some (.lst ((srt ((A'++m::B').map (·.nm))).map .str)),some (.str m.nm),some (.ref m.cell),some (.lst ((srt (m.hl.map (·.1))).map .str)),some (.str o1),some (.str o2),some (frP q),none,none,none] (pst t p xd yd)=o ->
   oY a [some (.ref p),some (.ref nd),some (.lst (N.map .str)),some (.ref nb),none,none,none,none,none,none,none,none,none,none] t=o:=fun o ho=>by
  unfold oY;refine kc (ko ((xP (jP (jO rfl) rfl)).trans s1)) ?_;refine kc (ko eh) ?_;refine kc (ko (v:=.ref m.cell) (s':=pst t p xa ya) ((kF ((kF (jO rfl) (jO rfl)).trans (v0 xa ya)) rfl).trans rfl)) ?_;refine kc (ko ((xP (jP (jO rfl) rfl)).trans (s2 xa ya))) ?_;refine kc (ko eo) ?_;refine kc (ko eo2) ?_;refine kc (ko (kr (jP (jO rfl) (jP ((kF (jO rfl) (jO rfl)).trans (v1 xc yc)) rfl)) rfl ep)) ?_;exact ho
 have pw:∀(ρ:En)(s:Sto),x2 (xC (.int 10)) (xC (.int 29)) fPow ρ s=.ok (.int (10^29)) s:=fun ρ s=>by simp[x2,xC,fPow,Out.bind]
 generalize hρ:[some (PV.ref p),some (.ref nd),some (.lst (N.map .str)),some (.ref nb),some (.lst ((srt ((A'++m::B').map (·.nm))).map .str)),some (.str m.nm),some (.ref m.cell),some (.lst ((srt (m.hl.map (·.1))).map .str)),some (.str o1),some (.str o2),some (frP q)]=ρ1 at *;have Ju:∀u v w,[some (PV.ref p),some (.ref nd),some (.lst (N.map .str)),some (.ref nb),some (.lst ((srt ((A'++m::B').map (·.nm))).map .str)),some (.str m.nm),some (.ref m.cell),some (.lst ((srt (m.hl.map (·.1))).map .str)),some (.str o1),some (.str o2),some (frP q),u,v,w]=ρ1++[u,v,w]:=fun u v w=>by rw[<-hρ];rfl
 rw[Ju] at head;have r3:∀u v w,(ρ1++[u,v,w])[3]?=some (some (.ref nb)):=fun u v w=>by rw[<-hρ];rfl
 have r5:∀u v w,(ρ1++[u,v,w])[5]?=some (some (.str m.nm)):=fun u v w=>by rw[<-hρ];rfl
 have r6:∀u v w,(ρ1++[u,v,w])[6]?=some (some (.ref m.cell)):=fun u v w=>by rw[<-hρ];rfl
 have r8:∀u v w,(ρ1++[u,v,w])[8]?=some (some (.str o1)):=fun u v w=>by rw[<-hρ];rfl
 have r9:∀u v w,(ρ1++[u,v,w])[9]?=some (some (.str o2)):=fun u v w=>by rw[<-hρ];rfl
 have JB:∀u v w,(ρ1++[u,v,w])[10]?=some (some (frP q)):=fun u v w=>by rw[<-hρ];rfl
 have Kh:∀u v w,(ρ1++[u,v,w])[11]?=some u:=fun u v w=>by rw[<-hρ];rfl
 have JZ:∀u v w,(ρ1++[u,v,w])[12]?=some v:=fun u v w=>by rw[<-hρ];rfl
 have K8:∀u v w,(ρ1++[u,v,w])[13]?=some w:=fun u v w=>by rw[<-hρ];rfl
 have st:∀u v w u' v',((ρ1++[u,v,w]).set 11 u').set 12 v'=ρ1++[u',v',w]:=fun u v w u' v'=>by rw[<-hρ];rfl
 have LK:∀u v w w',(ρ1++[u,v,w]).set 13 w'=ρ1++[u,v,w']:=fun u v w w'=>by rw[<-hρ];rfl
 clear Ju;have cond:∀s,x2 (x2 (xVar 10) (xC (.int 1)) fIx) (x2 (xC (.int 10)) (xC (.int 29)) fPow) fGe (ρ1++[none,none,none]) s=.ok (.bl (decide ((10:Int)^29<=q.2))) s:=fun s=>(kF ((kF (jO (JB _ _ _)) rfl).trans ix1) (pw _ _)).trans rfl;by_cases hb:(10:Int)^29<=q.2
 ·refine⟨pst t p xd yd,_,_,mv (head _ (Fv ((uR (s1:=pst t p xd yd) (by unfold xTr;rw[cond,decide_eq_true hb];rfl)).trans rfl))),(W.pst xd yd).mono (eG _),rfl,rfl,rfl,fun k k1 _ _=>jW _ _ k1⟩
 have IT:ShOk q:=Dm hc F1 hq (by omega);have nt:¬lu e.held o1 q:=fun z=>by
  unfold lu at z;rw[<-c2.hm.q] at z;rcases z with z|z
  ·exact z hq.pos
  ·have:=hq.le;omega
 have oN1:=c2.ow o1 ho;have hnm:m.nm∈N:=hLN _ (by rw[<-c2.nm];exact ai.mpr ⟨e,aw _ ap,rfl⟩);have sl:=C7 a (gb xd yd) hnd ⟨by rw[c2.nm];exact(Ls _ hnm).nm,(Ls _ oN1).nm,(Ls _ Jf).nm⟩ IT.sz (R.saleOk (by omega) IT) (hN1 _ oN1) (hN1 _ Jf) nt;have sl:qG a [.ref nb,.str m.nm,.str o1,.str o2,frP q] (pst t p xd yd)=.ok .non ((pst t p xd yd).set nb (.book pp (A++{ e with held:=sold e.held o1 o2 q }::B))):=by have h:=sl;rw[show PV.str m.nm=PV.str e.nm by rw[c2.nm]];exact h
 have B1:=sK (R.fr o1) IT.low hq.pos (by rw[<-c2.hm.q];exact hq.le) IT.bb;rw[<-c2.hm.q] at B1;generalize hr:kT (kg m.hl o1) (-q.1,q.2)=r at B1;have Fr:FrC (c+1) r:=⟨B1.low,B1.nn,fY B1.le (aQ (fX.mpr (cD (by decide) (by omega))) (bA B1.low.1)),B1.bb.mono (by omega)⟩;have T:∀{d:Nat}{g:Int×Int},d<=41->FrC d g->Bt 9000 g.1/\Bt 8800 g.2/\Low g:=fun hd h=>⟨h.top.mono (by omega),h.bb.mono (by omega),h.low⟩;obtain⟨g1,g2,g3⟩:=T (by omega) F1;have qa:Bt 9000 q.1:=IT.bt.mono (by decide);have qb:Bt 9000 q.2:=IT.bb.mono (by decide);have qc:Bt 100 q.2:=IT.bb.mono (by decide);have b9:∀{x:Int},Bt 8800 x->Bt 9000 x:=fun h=>h.mono (by decide);generalize hT:(pst t p xd yd).set nb (.book pp (A++{ e with held:=sold e.held o1 o2 q }::B))=T6 at sl;have g6:T6.get m.cell=some (.dct (hP m.hl)):=by rw[<-hT,jW _ _ i4b];exact g0 xd yd
 have c6:∀l l',(T6.set m.cell (.dct (hP l))).set m.cell (.dct (hP l'))=T6.set m.cell (.dct (hP l')):=fun l l'=>pM _ _ _ _;have gl:∀l,(T6.set m.cell (.dct (hP l))).get m.cell=some (.dct (hP l)):=fun l=>mT g6;have Jt:∀l:Hl,l.length<=46->(hP l).length<100000:=fun l h=>by rw[Gh];omega
 have MW:(kI m.hl o1).length<=45:=aC (d6 _ _) G1;have LP:∀(l:Hl) o q,l.length<=45->(kQ l o q).length<=46:=fun l o q h=>by
  have:=congrArg b7 (kK l o q);rw[af] at this;rw[this];split
  ·rw[af];omega
  ·rw[aI,af];simp;omega
 generalize hl1:(if 0<r.1 then kQ (kI m.hl o1) o1 r else kI m.hl o1)=l1;have em:se m.hl o1 o2 q=kQ l1 o2 (kT (kg l1 o2) q):=by unfold se;simp only[hr,hl1]
 have F2:FrC (c+1) (kg l1 o2):=by
  rw[<-hl1];split
  ·rw[kB,lW];split
   ·exact Fr
   ·exact(c2.hm.fr o2).mono (by omega)
  ·rw[lW];split
   ·exact frc0 _
   ·exact(c2.hm.fr o2).mono (by omega)
 obtain⟨k1,k2,k3⟩:=T (by omega) F2;have l1l:l1.length<=46:=by
  rw[<-hl1];split
  ·exact LP _ _ _ MW
  ·omega
 refine⟨T6.set m.cell (.dct (hP (se m.hl o1 o2 q))),A++{ e with held:=sold e.held o1 o2 q }::B,A'++{ m with hl:=se m.hl o1 o2 q }::B',By (ρ:=ρ1++[some (.int (kg l1 o2).1),some (.int (kg l1 o2).2),some (frP r)]) (head _ ?_),?_,?_,?_,?_,fun k h1 h2 h3=>?_⟩
 ·refine kc ((qi (s1:=pst t p xd yd) (by unfold xTr;rw[cond,decide_eq_false hb];rfl)).trans rfl) ?_;refine kc (tI ((uU (jO (r3 _ _ _)) (gb xd yd) (jP (jO (r5 _ _ _)) (jP (jO (r8 _ _ _)) (jP (jO (r9 _ _ _)) (jP (jO (JB _ _ _)) rfl)))) rfl).trans sl)) ?_;refine kc (asg2 (v:=.int (kg m.hl o1).1) (w:=.int (kg m.hl o1).2) (s':=T6.set m.cell (.dct (hP (kI m.hl o1)))) ((Eb (jO (r6 _ _ _)) g6 (jO (r8 _ _ _)) (y8 m.hl o1 ho)).trans (by rw[D2];exact rfl))) ?_;rw[st];have Ii:∀u v w s,x2 (xVar 10) (xC (.int 1)) fIx (ρ1++[u,v,w]) s=.ok (.int q.2) s:=fun u v w s=>(kF (jO (JB _ _ _)) rfl).trans ix1;have x0':∀u v w s,x2 (xVar 10) (xC (.int 0)) fIx (ρ1++[u,v,w]) s=.ok (.int q.1) s:=fun u v w s=>(kF (jO (JB _ _ _)) rfl).trans ix0;refine kc (ko (kr (jP (Ft (qC (jO (Kh _ _ _)) (Ii _ _ _ _) (pS g1 qb)) (qC (x0' _ _ _ _) (jO (JZ _ _ _)) (pS qa (b9 g2)))) (jP (qC (jO (JZ _ _ _)) (Ii _ _ _ _) (pS (b9 g2) qb)) rfl)) rfl (Bm a _ g3 IT.low g2 qc))) ?_;rw[LK,hr];have cr:∀u v s,x2 (x2 (xVar 13) (xC (.int 0)) fIx) (xC (.int 0)) fGt (ρ1++[u,v,some (frP r)]) s=.ok (.bl (decide (0<r.1))) s:=fun u v s=>(kF ((kF (jO (K8 _ _ _)) rfl).trans ix0) rfl).trans rfl;refine kc (ρ':=ρ1++[some (.int (kg m.hl o1).1),some (.int (kg m.hl o1).2),some (frP r)]) (s':=T6.set m.cell (.dct (hP l1))) ?_ ?_
  ·rw[<-hl1];by_cases z:0<r.1
   ·rw[if_pos z];refine(uR (s1:=T6.set m.cell (.dct (hP (kI m.hl o1)))) (by unfold xTr;rw[cr,decide_eq_true z];rfl)).trans ?_;refine(sR (jO (K8 _ _ _)) (jO (r6 _ _ _)) (jO (r8 _ _ _)) (gl _) (Jt _ (by omega))).trans ?_;rw[Cv,c6]
   ·rw[if_neg z];exact(qi (s1:=T6.set m.cell (.dct (hP (kI m.hl o1)))) (by unfold xTr;rw[cr,decide_eq_false z];rfl)).trans rfl
  refine kc (asg2 (v:=.int (kg l1 o2).1) (w:=.int (kg l1 o2).2) (s':=T6.set m.cell (.dct (hP l1))) ((Gn (jO (r6 _ _ _)) (gl l1) (jO (r9 _ _ _)) (yT (jP rfl (jP rfl rfl)))).trans (by rw[Gj];rfl))) ?_;rw[st];refine(sR (kr (jP (qF (qC (jO (Kh _ _ _)) (Ii _ _ _ _) (pS k1 qb)) (qC (x0' _ _ _ _) (jO (JZ _ _ _)) (pS qa (b9 k2)))) (jP (qC (jO (JZ _ _ _)) (Ii _ _ _ _) (pS (b9 k2) qb)) rfl)) rfl (Bn a _ k3 IT.low k2 qc)) (jO (r6 _ _ _)) (jO (r9 _ _ _)) (gl l1) (Jt _ l1l)).trans ?_;rw[Cv,c6,em]
 ·rw[<-hT];exact(W.pst xd yd).sale c1 c2 c3 (c2.hm.sale IT (Ls _ Jf) nt) fun n hn=>(z8 ho hn).elim (c2.ow n) fun z=>z▸Jf
 ·rw[ax,ax];rfl
 ·rw[ax,ax];rfl
 ·rw[<-hT];rfl
 ·have hk:k≠m.cell:=fun z=>h3 (z▸ai.mpr ⟨m,Mj,rfl⟩);rw[jW _ _ hk,<-hT,jW _ _ h2];exact jW _ _ h1
def zU(a:Adr){t:Sto}{nb:Nat}{pp:List Str}{L:List Ent}{w:Str}(hb:t.get nb=some (.book pp L))(h1:qu w=true)(hs:Sm w)(h2:w∉pp)(h3:w∉L.map (·.nm))(h6:pp.length<6):pA a [.ref nb,.str w] t=.ok .non (t.set nb (.book (pp++[w]) L)):=by
 have e:qX a pp L w=none:=by unfold qX;rw[vm a h1 h2 h3];exact if_neg (by omega)
 simp[pA,lI,hb,hs.nm,e]
def Bs(a:Adr){t:Sto}{nb:Nat}{pp:List Str}{L:List Ent}{w o:Str}{th mr ls:Int}(hb:t.get nb=some (.book pp L))(h1:qu w=true)(hs:Sm w)(so:Sm o)(h2:w∉pp)(h3:w∉L.map (·.nm))(ho:(lv pp o||kn L o)=true)(hl:0<=ls)(h8:L.length<8):rh a [.ref nb,.str w,.str o,.int th,.int mr,.int ls] t=.ok .non (t.set nb (.book pp (L++[⟨w,th,mr,ls,[(o,1,1)]⟩]))):=by
 have e:rb a pp L w o ls=none:=by unfold rb;rw[vm a h1 h2 h3];show(if(lv pp o||kn L o)=false then _ else _)=_;rw[ho,if_neg (by decide),if_neg (by omega),if_neg (by omega)]
 simp[rh,lI,hb,hs.nm,so.nm,e]
structure Bst(s t:Sto)(p nb nd:Nat)(N:List Str)(c:Nat)(pp:List Str)(L:List Ent)(M:List Md):Prop where
 w:Wst t p nb nd N c pp L M
 nx:s.nx<=t.nx
 fr:∀j,j<s.nx->j≠p->t.get j=s.get j
 lo:s.nx<=nb/\s.nx<=nd/\∀m∈M,s.nx<=m.cell
section
variable{s t:Sto}{p nb nd:Nat}{N:List Str}{c:Nat}{pp:List Str}{L:List Ent}{M:List Md}
theorem Bst.pst(B:Bst s t p nb nd N c pp L M)(x y:Int):Bst s (My.pst t p x y) p nb nd N c pp L M:=⟨B.w.pst x y,B.nx,fun j h1 h2=>(jW _ _ h2).trans (B.fr j h1 h2),B.lo⟩
def Bst.person(B:Bst s t p nb nd N c pp L M)(w:Str):Bst s (t.set nb (.book (pp++[w]) L)) p nb nd N c (pp++[w]) L M:=by have W:=B.w;refine⟨⟨?_,mT W.bk,by rw[jW _ _ (cj W.i3)];exact W.md,fun m hm=>by rw[jW _ _ (W.i4 m hm).2.1];exact W.sh m hm,W.i1,W.i2,W.i3,W.i4,W.i5,W.lt,W.pr⟩,B.nx,fun j h1 h2=>(jW _ _ (by have:=B.lo.1;omega)).trans (B.fr j h1 h2),B.lo⟩;obtain⟨x,y,e⟩:=W.pu;exact⟨x,y,by rw[jW _ _ W.i1];exact e⟩
def F6{x:Str}{v:PV}(h:x∉M.map (·.nm)):vh (M.map mdP) (am x) v=M.map mdP++[(am x,v)]:=by unfold vh;rw[if_neg];intro z;obtain⟨kv,h1,h2⟩:=cI.mp z;obtain⟨m,hm,rfl⟩:=ai.mp h1;have:(am m.nm:Key)=am x:=of_decide_eq_true h2;exact h (dw this▸ai.mpr ⟨m,hm,rfl⟩)
def Bst.house(B:Bst s t p nb nd N c pp L M){w o:Str}{th mr ls:Int}(hw:w∉M.map (·.nm))(so:Sm o)(oN:o∈N) :
  Bst s (((t.set nb (.book pp (L++[⟨w,th,mr,ls,[(o,1,1)]⟩]))).add (.dct [(am o,frP (1,1))])).set nd (.dct (vh (M.map mdP) (am w) (.lst [.ref t.nx,.tup [.int th,.int mr,.int ls]])))) p nb nd N c pp (L++[⟨w,th,mr,ls,[(o,1,1)]⟩]) (M++[⟨w,t.nx,[(o,1,1)],th,mr,ls⟩]):=by
 have W:=B.w;obtain⟨l1,l2,l3,l4⟩:=W.lt;have g:∀k,k≠nd->k≠nb->k≠t.nx->(((t.set nb (.book pp (L++[⟨w,th,mr,ls,[(o,1,1)]⟩]))).add (.dct [(am o,frP (1,1))])).set nd (.dct (vh (M.map mdP) (am w) (.lst [.ref t.nx,.tup [.int th,.int mr,.int ls]])))).get k=t.get k:=fun k h1 h2 h3=>by rw[jW _ _ h1,kA,if_neg (show(t.set nb _).nx≠k from fun z=>h3 z.symm),jW _ _ h2]
 have onl:∀n∈[(o,(1:Int),(1:Int))].map (·.1),n∈N:=fun n hn=>by
  have:n=o:=by simpa using hn
  rw[this];exact oN
 have gnd:((t.set nb (.book pp (L++[⟨w,th,mr,ls,[(o,1,1)]⟩]))).add (.dct [(am o,frP (1,1))])).get nd=some (.dct (M.map mdP)):=by rw[kA,if_neg (show(t.set nb _).nx≠nd from fun z=>by have:t.nx=nd:=z;omega),jW _ _ (cj W.i3)];exact W.md
 refine⟨⟨?_,?_,?_,fun m hm=>?_,W.i1,W.i2,W.i3,fun m hm=>?_,?_,⟨cU l1,cU l2,cU l3,fun m hm=>?_⟩,W.pr.app (.cons ⟨rfl,rfl,rfl,rfl,Gg c so,onl⟩ .nil)⟩,Nat.le_succ_of_le B.nx,fun j h1 h2=>?_,B.lo.1,B.lo.2.1,fun m hm=>?_⟩
 ·obtain⟨x,y,e⟩:=W.pu;exact⟨x,y,by rw[g p W.i2 W.i1 (by omega)];exact e⟩
 ·rw[jW _ _ W.i3,kA,if_neg (show(t.set nb _).nx≠nb from fun z=>by have:t.nx=nb:=z;omega)];exact mT W.bk
 ·rw[mT gnd,F6 hw,ax];rfl
 ·rcases aA.mp hm with z|z
  ·obtain⟨a1,a2,a3⟩:=W.i4 m z;rw[g _ a3 a2 (by have:=l4 m z;omega)];exact W.sh m z
  ·rw[al.mp z];show((_:Sto).set nd _).get t.nx=_;rw[jW _ _ (by omega),kA,if_pos (show(t.set nb _).nx=t.nx from rfl)];rfl
 ·rcases aA.mp hm with z|z
  ·exact W.i4 m z
  ·rw[al.mp z];exact⟨by show t.nx≠p;omega,by show t.nx≠nb;omega,by show t.nx≠nd;omega⟩
 ·rw[ax,bH];refine⟨W.i5,by simp,fun x hx y hy z=>?_⟩;obtain⟨m,hm,rfl⟩:=ai.mp hx;have:y=t.nx:=by simpa using hy
  have:=l4 m hm;omega
 ·rcases aA.mp hm with z|z
  ·exact cU (l4 m z)
  ·rw[al.mp z];exact di _
 ·have:=B.lo;rw[g j (by omega) (by omega) (by have:=B.nx;omega)];exact B.fr j h1 h2
 ·rcases aA.mp hm with z|z
  ·exact B.lo.2.2 m z
  ·rw[al.mp z];exact B.nx
end
structure Wds(N:List Str):Prop where
 nd:N.Nodup
 sm:∀n∈N,Sm n
 nm:∀n∈N,qu n=true
def AB{vs:List Int}{d:Nat}{fl:Bool}{m:Nat}(h0:0<vs.length)(h7:vs.length<=7)(hd:d<vs.length)(hm:m<=10):Wds ((bi m).map (wrd vs d fl)):=by
 refine⟨?_,fun n hn=>?_,fun n hn=>?_⟩
 ·show List.Pairwise _ _;rw[List.pairwise_map];exact List.Pairwise.imp_of_mem (fun{i j} hi hj KH e=>KH (CT hd (by have:=cX.mp hi;omega) (by have:=cX.mp hj;omega) e)) List.nodup_range
 ·obtain⟨k,_,rfl⟩:=ai.mp hn;exact(BR h0 h7 d fl k).1
 ·obtain⟨k,_,rfl⟩:=ai.mp hn;exact(BR h0 h7 d fl k).2
def z9{body:PV->XS}{q:PV}{l:List PV}{ρ ρ':En}{s s':Sto}(h:body q ρ s=.nx ρ' s'):k6 body (q::l) ρ s=k6 body l ρ' s':=by
 conv=>lhs;unfold k6
 rw[h]
def bE(p nb nd:Nat)(mo my cn:PV)(N:List Str)(u7 u8 u9 HB:Option PV):En:=[some (.ref p),some mo,some my,some cn,some (.lst (N.map .str)),some (.ref nb),some (.ref nd),u7,u8,u9,HB]
theorem qr(a:Adr){s:Sto}{p nb nd:Nat}{N:List Str}(WN:Wds N)(mo my cn:PV)(u8 u9 HB:Option PV):∀(r done:List Str)(u:Option PV)(t:Sto),Bst s t p nb nd N 0 done [] []->(∀n∈done++r,n∈N)->(done++r).Nodup->(done++r).length<=6->∃u' t',k6 (kE (yName 7) (mJ a)) (r.map .str) (bE p nb nd mo my cn N u u8 u9 HB) t=.nx (bE p nb nd mo my cn N u' u8 u9 HB) t'/\Bst s t' p nb nd N 0 (done++r) [] []
 |[],done,u,t,B,_,_,_=>⟨u,t,rfl,by rw[cB];exact B⟩
 |w::r,done,u,t,B,hN,nd',hl=>by
  have hw:=hN w (aw _ ap);have n1:w∉done:=fun z=>(bH.mp nd').2.2 _ z _ ap rfl;have e1:=zU a B.w.bk (WN.nm w hw) (WN.sm w hw) n1 (by simp) (by rw[aI,bR] at hl;omega);have e2:done++w::r=done++[w]++r:=by simp
  obtain⟨u',t',h1,h2⟩:=qr a WN mo my cn u8 u9 HB r (done++[w]) (some (.str w)) _ (B.person w) (by rw[<-e2];exact hN) (by rw[<-e2];exact nd') (by rw[<-e2];exact hl);refine⟨u',t',?_,by rw[e2];exact h2⟩;rw[<-h1];refine z9 ((mP (i:=7)).trans ?_);unfold mJ;exact tI ((uU (jO rfl) B.w.bk (jP (jO rfl) rfl) rfl).trans e1)
def AD{N:List Str}{k:Nat}{r:Int}(h0:0<=r)(h1:r<(k:Nat))(hk:k<=N.length):∃w∈N.take k,atI (N.map PV.str) r=some (.str w):=by
 obtain⟨j,rfl⟩:∃j:Nat,r=j:=⟨r.toNat,by omega⟩;have hj:j<N.length:=by omega
 refine⟨N[j],?_,kD (by simp[hj])⟩;rw[jg];exact⟨j,by rw[List.getElem?_take,if_pos (by omega),bc hj]⟩
def qf(a:Adr){t:Sto}{p:Nat}(hP:IsPurse t p)(x y:Int):∃v x' y',kM a [.ref p] (pst t p x y)=.ok (.int v) (pst t p x' y'):=by obtain⟨v,x',y',e⟩:=z6 a (pst t p x y) p (hP.pst x y);rw[qW] at e;exact⟨v,x',y',e⟩
def yz(a:Adr){s t:Sto}{p nb nd:Nat}{pp hs:List Str}(WN:Wds (pp++hs))(hp6:pp.length<=6)(IE:1<=pp.length)(hh:hs.length<=8){L:List Ent}{M:List Md}(mo cn:PV)(u7 u8 u9 HB:Option PV)(k:Nat)(hk:k<hs.length)(B:Bst s t p nb nd (pp++hs) 0 pp L M)(hL:L.map (·.nm)=hs.take k) :
  ∃JX u9' LF t' L' M',kE (yName 8) (lF a) (.int (k:Nat)) (bE p nb nd mo (.int (pp.length:Nat)) cn (pp++hs) u7 u8 u9 HB) t=.nx (bE p nb nd mo (.int (pp.length:Nat)) cn (pp++hs) u7 JX u9' LF) t'/\Bst s t' p nb nd (pp++hs) 0 pp L' M'/\L'.map (·.nm)=hs.take (k+1):=by
 obtain⟨x0,y0,et⟩:=pc B.w.pu;have ek:((pp.length:Int)+(k:Int))=((pp.length+k:Nat):Int):=by omega
 obtain⟨r,xa,ya,r0,r1,e1⟩:=B.w.draw' a x0 y0 (n:=((pp.length+k:Nat):Int)) (by omega) (lL (by omega) (by omega));rw[<-et] at e1;obtain⟨o,ho,HV⟩:=AD (N:=pp++hs) r0 r1 (by rw[aI];omega);obtain⟨v1,xb,yb,f1⟩:=qf a B.w.pu xa ya;obtain⟨v2,xc,yc,f2⟩:=qf a B.w.pu xb yb;obtain⟨v3,xd,yd,f3⟩:=qf a B.w.pu xc yc;have oN:o∈pp++hs:=jo ho;have Jf:(lv pp o||kn L o)=true:=by rw[fZ,t4,kX,hL];rw[List.take_length_add_append] at ho;exact aA.mp ho
 obtain⟨w,hw⟩:∃w,hs[k]?=some w:=⟨hs[k],bc hk⟩;have wh:w∈hs:=eB hw;have wN:w∈pp++hs:=aw _ wh;have wpp:w∉pp:=fun z=>(bH.mp WN.nd).2.2 _ z _ wh rfl;have tk:hs.take (k+1)=hs.take k++[w]:=by rw[ft,hw];rfl
 have wL:w∉L.map (·.nm):=fun z=>by rw[hL] at z;have:=(bH.mp WN.nd).2.1;have h2:(hs.take (k+1)).Nodup:=this.sublist (List.take_sublist _ _);rw[tk] at h2;exact(bH.mp h2).2.2 _ z _ (by simp) rfl
 have wat:atI ((pp++hs).map PV.str) ((pp.length+k:Nat):Int)=some (.str w):=kD (by rw[aY,cx (by omega),Nat.add_sub_cancel_left,hw];rfl);have L8:L.length<8:=by have:=congrArg b7 hL;rw[af,db] at this;omega
 have nn:(0:Int)<=if v3<0 then -v3 else v3:=by split<;>omega
 generalize hz:(if v3<0 then -v3 else v3)=z at nn;have B4:=B.pst xd yd;have eh:=Bs a (th:=v1) (mr:=v2) (ls:=z) B4.w.bk (WN.nm w wN) (WN.sm w wN) (WN.sm o oN) wpp wL Jf nn L8;have B5:=B4.house (w:=w) (o:=o) (th:=v1) (mr:=v2) (ls:=z) (by rw[<-B.w.pr.names];exact wL) (WN.sm o oN) oN;refine⟨some (.int (k:Nat)),some (.str o),some (.tup [.int v1,.int v2,.int z]),_,_,_,?_,B5,by rw[ax,hL,tk];rfl⟩;refine(mP (i:=8)).trans ?_;unfold lF;have ad:∀u9 HB s,x2 (xVar 2) (xVar 8) fAdd (bE p nb nd mo (.int (pp.length:Nat)) cn (pp++hs) u7 (some (.int (k:Nat))) u9 HB) s=.ok (.int ((pp.length+k:Nat):Int)) s:=fun u9 HB s=>(qF (i:=(pp.length:Nat)) (j:=(k:Nat)) (jO rfl) (jO rfl)).trans (by rw[ek]);have nw:∀u9 HB s,x2 (xVar 4) (x2 (xVar 2) (xVar 8) fAdd) fIx (bE p nb nd mo (.int (pp.length:Nat)) cn (pp++hs) u7 (some (.int (k:Nat))) u9 HB) s=.ok (.str w) s:=fun u9 HB s=>(kF (jO rfl) (ad _ _ _)).trans (sw wat);refine kc (ko (v:=.str o) (s':=pst t p xa ya) ((kF (jO rfl) (kr (jP (jO rfl) (jP (ad _ _ _) rfl)) rfl e1)).trans (sw HV))) ?_;refine kc (ko (v:=.tup [.int v1,.int v2,.int z]) (s':=pst t p xd yd) (yT (jP (kr (jP (jO rfl) rfl) rfl f1) (jP (kr (jP (jO rfl) rfl) rfl f2) (jP ((xP (jP (kr (jP (jO rfl) rfl) rfl f3) rfl)).trans (show fAbs [.int v3] (pst t p xd yd)=.ok (.int z) (pst t p xd yd) by rw[<-hz];rfl)) rfl))))) ?_;refine kc (tI ((uU (jO rfl) B4.w.bk (jP (nw _ _ _) (jP (jO rfl) (jP ((kF (jO rfl) rfl).trans rfl) (jP ((kF (jO rfl) rfl).trans rfl) (jP ((kF (jO rfl) rfl).trans rfl) rfl))))) rfl).trans eh)) ?_;have l4:=B4.w.lt.2.2.1;refine(sR (Cq (jP (v:=.ref t.nx) (s1:=((pst t p xd yd).set nb (.book pp (L++[⟨w,v1,v2,z,[(o,1,1)]⟩]))).add (.dct [(am o,frP (1,1))])) ?_ (jP (jO rfl) rfl))) (jO rfl) (nw _ _ _) (l:=M.map mdP) ?_ ?_).trans rfl
 ·rfl
 ·rw[kA,if_neg (show((pst t p xd yd).set nb _).nx≠nd from fun q=>by have:t.nx=nd:=q;have:nd<t.nx:=l4;omega),jW _ _ (cj B4.w.i3)];exact B4.w.md
 ·rw[af];have:=congrArg b7 B.w.pr.names;rw[af,af] at this;omega
def BE(ws:List PV)(k:Nat)(hk:k<=ws.length):yP ws none (some (k:Int))=ws.take k:=by
 unfold yP;have e1:HT.sIx ws.length 0 none=0:=rfl;have e2:HT.sIx ws.length ws.length (some (k:Int))=k:=by
  simp[HT.sIx];split
  ·omega
  ·exact Nat.min_eq_left hk
 rw[e1,e2];simp
def qN{f:XE}{ρ:En}{s s1:Sto}{l:List PV}(h:f ρ s=.ok (.lst l) s1):xIter f ρ s=.ok l s1:=by unfold xIter;rw[h];rfl
def Bst.start{s:Sto}{p:Nat}(hp:p<s.nx)(hP:IsPurse s p)(x y:Int)(N:List Str):Bst s (((Sto.bump (My.pst s p x y)).add (.book [] [])).add (.dct [])) p (s.nx+1) (s.nx+2) N 0 [] [] []:=by
 have n1:(Sto.bump (My.pst s p x y)).nx=s.nx+1:=rfl;have n2:((Sto.bump (My.pst s p x y)).add (.book [] [])).nx=s.nx+2:=rfl;have g:∀k,k<s.nx+1->(((Sto.bump (My.pst s p x y)).add (.book [] [])).add (.dct [])).get k=(My.pst s p x y).get k:=fun k hk=>by rw[kA,if_neg (by omega),kA,if_neg (by omega),Bw]
 refine⟨⟨?_,?_,?_,(fun m hm=>nomatch hm),by omega,by omega,by omega,(fun m hm=>nomatch hm),by simp,⟨?_,?_,?_,(fun m hm=>nomatch hm)⟩,.nil⟩,?_,fun j h1 h2=>?_,by omega,by omega,(fun m hm=>nomatch hm)⟩
 ·obtain⟨u,v,e⟩:=hP.pst x y;exact⟨u,v,by rw[g p (by omega)];exact e⟩
 ·rw[kA,if_neg (by omega),kA,if_pos n1]
 ·rw[kA,if_pos n2];rfl
 ·show p<s.nx+3;omega
 ·show s.nx+1<s.nx+3;omega
 ·show s.nx+2<s.nx+3;omega
 ·show s.nx<=s.nx+3;omega
 ·rw[g j (by omega)];exact jW _ _ h2
def Bst.sold{s t:Sto}{p nb nd:Nat}{pp hs:List Str}{c:Nat}{L:List Ent}{M:List Md}(B:Bst s t p nb nd (pp++hs) c pp L M)(a:Adr)(WN:Wds (pp++hs))(hL:L.map (·.nm)=hs)(hh:hs≠[])(h8:hs.length<=8)(hp6:pp.length<=6)(hc:c<=40) :
  ∃t' L' M',m8 a [.ref p,.ref nd,.lst ((pp++hs).map .str),.ref nb] t=.ok .non t'/\Bst s t' p nb nd (pp++hs) (c+1) pp L' M'/\L'.map (·.nm)=hs:=by
 have l8:L.length<=8:=by have:=congrArg b7 hL;rw[af] at this;omega
 have hM:M≠[]:=fun z=>by have:=B.w.pr.names;rw[z,hL] at this;exact hh this
 obtain⟨t',L',M',e,W,n1,n2,nx,fr⟩:=C1 a B.w hc hM (by rw[hL];exact(bH.mp WN.nd).2.1) WN.sm (fun n hn=>aw _ (hL▸hn)) (fun n hn=>by rw[fZ,t4,kX,hL];exact aA.mp hn) (fun z=>hh (List.append_eq_nil_iff.mp z).2) (by rw[aI];omega) l8
 refine⟨t',L',M',e,⟨W,by rw[nx];exact B.nx,fun j h1 h2=>?_,B.lo.1,B.lo.2.1,fun m hm=>?_⟩,n1.trans hL⟩
 ·rw[fr j h2 (by have:=B.lo.1;omega) fun z=>?_]
  ·exact B.fr j h1 h2
  ·obtain⟨m,hm,z⟩:=ai.mp z;have:=B.lo.2.2 m hm;omega
 ·have:m.cell∈M.map (·.cell):=n2▸ai.mpr ⟨m,hm,rfl⟩;obtain⟨m',h',z⟩:=ai.mp this;rw[<-z];exact B.lo.2.2 m' h'
def BN(a:Adr)(s:Sto)(p:Nat)(hp:p<s.nx)(hP:IsPurse s p)(mx:Nat)(hm:mx<=7):∃t nb nd pp hs c L M,n8 a [.ref p,.int (mx:Nat)] s=.ok (.tup [.ref nb,.lst ((srt pp).map .str),.ref nd]) t/\Bst s t p nb nd (pp++hs) c pp L M/\L.map (·.nm)=hs/\Wds (pp++hs)/\1<=pp.length/\pp.length<=3/\hs.length<=mx/\c<=40:=by
 obtain⟨x0,y0,et⟩:=pc hP;obtain⟨r,xa,ya,r0,r1,e1⟩:=pj a hP x0 y0 (n:=3) (by decide) (lL (by decide) (by decide));rw[<-et] at e1;obtain⟨my,hmy,rfl⟩:∃my:Nat,1<=my/\r=(my:Int)-1:=⟨r.toNat+1,by omega,by omega⟩;obtain⟨cn',xb,yb,c0,cn1,e2⟩:=pj a hP xa ya (n:=((mx+1:Nat):Int)) (by omega) (lL (by omega) (by omega));obtain⟨cn,rfl⟩:∃cn:Nat,cn'=cn:=⟨cn'.toNat,by omega⟩;obtain⟨xc,yc,vs,d,fl,v0,v7,hd,e3⟩:=Bi a (pst s p xb yb) p hp (hP.pst xb yb) (my+cn) (by omega);have WN:=AB (fl:=fl) (m:=my+cn) v0 v7 hd (by omega);have pq:pst (pst s p xb yb) p xc yc=pst s p xc yc:=qW _ _ _ _ _ _;rw[pq] at e3;generalize hN:(bi (my+cn)).map (wrd vs d fl)=N at *;have hNl:N.length=my+cn:=by rw[<-hN];simp
 obtain⟨pp,hs,rfl,GZ⟩:∃pp hs:List Str,N=pp++hs/\pp.length=my:=⟨N.take my,N.drop my,(List.take_append_drop my N).symm,by rw[db];omega⟩;have hsl:hs.length=cn:=by rw[aI] at hNl;omega
 subst GZ;subst hsl;have B0:=Bst.start hp hP xc yc (pp++hs);obtain⟨u7,t1,LX,B1⟩:=qr a WN (.int (mx:Nat)) (.int (pp.length:Nat)) (.int (hs.length:Nat)) none none none pp [] none _ B0 (fun n hn=>aW _ hn) ((bH.mp WN.nd).1) (by rw[hZ];omega);rw[hZ] at B1;obtain⟨ρ2,t2,LW,u8,u9,HB,L2,M2,rfl,B2,MJ⟩:=qM (body:=kE (yName 8) (lF a)) hs.length
  (fun k ρ t=>∃u8 u9 HB L M,ρ=bE p (s.nx+1) (s.nx+2) (.int (mx:Nat)) (.int (pp.length:Nat)) (.int (hs.length:Nat)) (pp++hs) u7 u8 u9 HB/\Bst s t p (s.nx+1) (s.nx+2) (pp++hs) 0 pp L M/\L.map (·.nm)=hs.take k)
  (fun k ρ t hk hI=>by obtain⟨u8,u9,HB,L,M,rfl,B,hL⟩:=hI;obtain⟨a8,a9,a10,t',L',M',q1,q2,q3⟩:=yz a WN (by omega) hmy (by omega) (.int (mx:Nat)) (.int (hs.length:Nat)) u7 u8 u9 HB k hk B hL;exact⟨_,_,q1,_,_,_,_,_,rfl,q2,q3⟩) (ρ:=bE p (s.nx+1) (s.nx+2) (.int (mx:Nat)) (.int (pp.length:Nat)) (.int (hs.length:Nat)) (pp++hs) u7 none none none) (s:=t1) ⟨none,none,none,[],[],rfl,B1,by simp⟩
 rw[fG] at MJ;have sl:∃JX t3 c L3 M3,xIf (xTr (x2 (xVar 3) (xC (.int 0)) fGt)) (xFor (xRng1 (xCons (xCall 2 (jX a) (xCons (xVar 0) (xCons (x2 (x2 (xC (.int 4)) (xVar 3) fMul) (xC (.int 1)) fAdd) xNil))) xNil)) (yName 8) (lC a)) xEnd (bE p (s.nx+1) (s.nx+2) (.int (mx:Nat)) (.int (pp.length:Nat)) (.int (hs.length:Nat)) (pp++hs) u7 u8 u9 HB) t2=.nx (bE p (s.nx+1) (s.nx+2) (.int (mx:Nat)) (.int (pp.length:Nat)) (.int (hs.length:Nat)) (pp++hs) u7 JX u9 HB) t3/\Bst s t3 p (s.nx+1) (s.nx+2) (pp++hs) c pp L3 M3/\L3.map (·.nm)=hs/\c<=40:=by
  by_cases hc0:hs=[]
  ·refine⟨u8,t2,0,L2,M2,(qi (s1:=t2) ?_).trans rfl,B2,MJ,by omega⟩;unfold xTr;rw[kF (jO rfl) rfl,hc0];rfl
  ·have JI:0<hs.length:=gw.mpr hc0;obtain⟨IA,y2',et2⟩:=pc B2.w.pu;obtain⟨n',xe,ye,n0,n1,e5⟩:=B2.w.draw' a IA y2' (n:=((4*hs.length+1:Nat):Int)) (by omega) (lL (by omega) (by omega));rw[<-et2] at e5;obtain⟨n,rfl⟩:∃n:Nat,n'=n:=⟨n'.toNat,by omega⟩;obtain⟨ρ3,t3,lp3,JX,L3,M3,rfl,B3,MI⟩:=qM (body:=kE (yName 8) (lC a)) n
    (fun k ρ t=>∃u8 L M,ρ=bE p (s.nx+1) (s.nx+2) (.int (mx:Nat)) (.int (pp.length:Nat)) (.int (hs.length:Nat)) (pp++hs) u7 u8 u9 HB/\Bst s t p (s.nx+1) (s.nx+2) (pp++hs) k pp L M/\L.map (·.nm)=hs)
    (fun k ρ t hk hI=>by obtain⟨u8,L,M,rfl,B,hL⟩:=hI;obtain⟨t',L',M',q1,q2,q3⟩:=B.sold a WN hL hc0 (by omega) (by omega) (by omega);refine⟨_,t',(mP (i:=8)).trans ?_,some (.int (k:Nat)),L',M',rfl,q2,q3⟩;unfold lC;exact tI (kr (jP (jO rfl) (jP (jO rfl) (jP (jO rfl) (jP (jO rfl) rfl)))) rfl q1)) (ρ:=bE p (s.nx+1) (s.nx+2) (.int (mx:Nat)) (.int (pp.length:Nat)) (.int (hs.length:Nat)) (pp++hs) u7 u8 u9 HB) (s:=pst t2 p xe ye) ⟨u8,L2,M2,rfl,B2.pst xe ye,MJ⟩
   refine⟨JX,t3,n,L3,M3,(uR (s1:=t2) ?_).trans (sx (qV (n:=n) (jP (kr (jP (jO rfl) (jP ((qF (qC (i:=4) (j:=(hs.length:Nat)) rfl (jO rfl) (.inr (.inl ⟨by decide,by decide⟩))) rfl).trans ?_) rfl)) rfl e5) rfl) (by omega)) lp3),B3,MI,by omega⟩
   ·unfold xTr;rw[kF (jO rfl) rfl];show Out.bind (Out.ok (PV.bl (decide ((0:Int)<(hs.length:Nat)))) _) _=_;rw[decide_eq_true (by omega)];rfl
   ·rw[show(4:Int)*(hs.length:Nat)+1=((4*hs.length+1:Nat):Int) by omega]
 obtain⟨JX,t3,c,L3,M3,e6,B3,MI,hc⟩:=sl;refine⟨t3,s.nx+1,s.nx+2,pp,hs,c,L3,M3,mv ?_,B3,MI,WN,hmy,by omega,by omega,hc⟩;have K2:∀u7 u8 u9 HB nb nd s',xSl (xVar 4) xNoP (xPart (xVar 2)) (bE p nb nd (.int (mx:Nat)) (.int (pp.length:Nat)) (.int (hs.length:Nat)) (pp++hs) u7 u8 u9 HB) s'=.ok (.lst (pp.map .str)) s':=fun u7 u8 u9 HB nb nd s'=>by
  have:yP ((pp++hs).map PV.str) none (some ((pp.length:Nat):Int))=pp.map PV.str:=by rw[BE _ _ (by simp),<-List.map_take,List.take_left'];rfl
  simp only[xSl,xVar,bE,iR,fJ,Out.bind,xNoP,xPart,fSl,lsOf,this]
 unfold qx;refine kc (ko (v:=.int (pp.length:Nat)) (s':=pst s p xa ya) ((qF (i:=1) rfl (kr (jP (jO rfl) (jP rfl rfl)) rfl e1)).trans (by rw[show(1:Int)+((pp.length:Int)-1)=(pp.length:Nat) by omega]))) ?_;refine kc (ko (kr (jP (jO rfl) (jP ((qF (i:=(mx:Nat)) (j:=1) (jO rfl) rfl).trans (by rw[show((mx:Nat):Int)+1=((mx+1:Nat):Int) by omega])) rfl)) rfl e2)) ?_;refine kc (ko (kr (jP (jO rfl) (jP ((qF (i:=(pp.length:Nat)) (j:=(hs.length:Nat)) (jO rfl) (jO rfl)).trans (by rw[show((pp.length:Nat):Int)+(hs.length:Nat)=((pp.length+hs.length:Nat):Int) by omega])) rfl)) rfl e3)) ?_;refine kc (ko (v:=.ref (s.nx+1)) (s':=(Sto.bump (pst s p xc yc)).add (.book [] [])) rfl) ?_;refine kc (ko (v:=.ref (s.nx+2)) (s':=((Sto.bump (pst s p xc yc)).add (.book [] [])).add (.dct [])) rfl) ?_;refine kc (sx (l:=pp.map .str) (s1:=((Sto.bump (pst s p xc yc)).add (.book [] [])).add (.dct [])) ?_ LX) ?_
 ·exact qN (K2 none none none none (s.nx+1) (s.nx+2) _)
 refine kc (sx (qV (n:=hs.length) (jP (jO rfl) rfl) (by omega)) LW) ?_;refine kc e6 ?_;refine qy (yT (jP (jO rfl) (jP ((xP (jP (K2 _ _ _ _ _ _ _) rfl)).trans ?_) (jP (jO rfl) rfl))));simp[ki,lsOf,pZ,show pp.length<64 by omega]
def own(L:List Ent)(n:Str):List Str:=match lz L n with
 |some e=>srt (e.held.map (·.1))
 |none=>[]
def Cl(L:List Ent)(h:Str)(S:Str->Prop):Prop:=(∀x∈own L h,S x)/\∀y,S y->∀x∈own L y,S x
structure Rch(L:List Ent)(h:Str)(F:List Str):Prop where
 nd:F.Nodup
 cl:Cl L h (·∈F)
 mn:∀S,Cl L h S->∀x∈F,S x
def Rch.same{L:List Ent}{h:Str}{F G:List Str}(f:Rch L h F)(g:Rch L h G):srt F=srt G:=by refine lR ?_ (lP _) (lP _);refine(iy ((kl _).nodup_iff.mpr f.nd) ((kl _).nodup_iff.mpr g.nd)).mpr fun n=>?_;rw[(kl _).mem_iff,(kl _).mem_iff];exact⟨fun z=>f.mn _ g.cl n z,fun z=>g.mn _ f.cl n z⟩
def one1(L:List Ent)(q:List Str×List Str)(n:Str):List Str×List Str:=if n∈q.1 then q else(q.1++[n],if kn L n=true then q.2++[n] else q.2)
def mC(L:List Ent)(F W ns:List Str):List Str×List Str:=ns.foldl (one1 L) (F,W)
def sX(L:List Ent)(F W:List Str)(n:Str)(ns:List Str):mC L F W (n::ns)=mC L (one1 L (F,W) n).1 (one1 L (F,W) n).2 ns:=rfl
structure Inv1(L:List Ent)(N:List Str)(h:Str)(F W:List Str):Prop where
 nd:F.Nodup
 sub:∀x∈F,x∈N
 wt:∀x∈W,kn L x=true
 mn:∀S,Cl L h S->∀x∈F,S x
 wr:∀x∈W,x=h\/x∈F
def Done1(L:List Ent)(h:Str)(F W:List Str):Prop:=∀y,(y=h\/y∈F)->y∈W\/∀x∈own L y,x∈F
def yZ{L:List Ent}{n:Str}(h:kn L n=false):own L n=[]:=by
 unfold kn at h;unfold own;cases c:lz L n with
 |none=>rfl
 |some e=>rw[c] at h;cases h
def Ba(L:List Ent)(q:List Str×List Str)(n:Str):(∀x∈q.1,x∈(one1 L q n).1)/\(∀x∈q.2,x∈(one1 L q n).2)/\n∈(one1 L q n).1:=by
 unfold one1;split
 ·rename_i h;exact⟨fun _ z=>z,fun _ z=>z,h⟩
 ·refine⟨fun _ z=>aW _ z,fun _ z=>?_,by simp⟩;show _∈(if kn L n=true then q.2++[n] else q.2);split
  ·exact aW _ z
  ·exact z
theorem rB(L:List Ent):∀(ns F W:List Str),(∀x∈F,x∈(mC L F W ns).1)/\(∀x∈W,x∈(mC L F W ns).2)/\∀x∈ns,x∈(mC L F W ns).1
 |[],F,W=>⟨fun _ z=>z,fun _ z=>z,fun _ z=>nomatch z⟩
 |n::ns,F,W=>by
  rw[sX];obtain⟨a1,a2,a3⟩:=Ba L (F,W) n;obtain⟨b1,b2,b3⟩:=rB L ns (one1 L (F,W) n).1 (one1 L (F,W) n).2;refine⟨fun x z=>b1 x (a1 x z),fun x z=>b2 x (a2 x z),fun x z=>?_⟩;rcases aj.mp z with z|z
  ·rw[z];exact b1 n a3
  ·exact b3 x z
theorem qg:∀{F N:List Str},F.Nodup->(∀x∈F,x∈N)->F.length<=N.length
 |[],_,_,_=>a6 _
 |x::F,N,h,k=>by have hx:=k x ap;have h:=aD.mp h;have:=qg (N:=N.erase x) h.2 fun y z=>(List.mem_erase_of_ne (fun e:y=x=>h.1 (e▸z))).mpr (k y (ak _ z));rw[List.length_erase_of_mem hx] at this;have:=List.length_pos_of_mem hx;show F.length+1<=_;omega
theorem pE{L:List Ent}{N:List Str}{h y:Str}(hy:∀S,Cl L h S->∀x∈own L y,S x)(ho:∀x∈own L y,x∈N):∀(ns F W:List Str),(∀x∈ns,x∈own L y)->Inv1 L N h F W->Inv1 L N h (mC L F W ns).1 (mC L F W ns).2/\(∀z,z∈(mC L F W ns).1->z∈F\/z∈(mC L F W ns).2\/kn L z=false)/\2*(N.length-(mC L F W ns).1.length)+(mC L F W ns).2.length<=2*(N.length-F.length)+W.length
 |[],F,W,_,I=>⟨I,fun z hz=>.inl hz,aq _⟩
 |n::ns,F,W,Is,I=>by
  rw[sX];have hn:=Is n ap;by_cases c:n∈F
  ·have e:one1 L (F,W) n=(F,W):=if_pos c;rw[e];exact pE hy ho ns F W (fun x z=>Is x (ak _ z)) I
  ·have e:one1 L (F,W) n=(F++[n],if kn L n=true then W++[n] else W):=if_neg c;rw[e];have I2:Inv1 L N h (F++[n]) (if kn L n=true then W++[n] else W):=by
    refine⟨?_,fun x z=>?_,fun x z=>?_,fun S hS x z=>?_,fun x z=>?_⟩
    ·rw[bH];exact⟨I.nd,by simp,fun a ha b hb e=>c (by rw[<-al.mp hb,<-e];exact ha)⟩
    ·rcases aA.mp z with z|z
     ·exact I.sub x z
     ·rw[al.mp z];exact ho n hn
    ·split at z
     ·rename_i q;rcases aA.mp z with z|z
      ·exact I.wt x z
      ·rw[al.mp z];exact q
     ·exact I.wt x z
    ·rcases aA.mp z with z|z
     ·exact I.mn S hS x z
     ·rw[al.mp z];exact hy S hS n hn
    ·split at z
     ·rcases aA.mp z with z|z
      ·exact(I.wr x z).imp id (aW _)
      ·exact .inr (aw _ z)
     ·exact(I.wr x z).imp id (aW _)
   obtain⟨J,k1,k2⟩:=pE hy ho ns _ _ (fun x z=>Is x (ak _ z)) I2;refine⟨J,fun z hz=>?_,aC k2 ?_⟩
   ·rcases k1 z hz with q|q|q
    ·rcases aA.mp q with q|q
     ·exact .inl q
     ·have q:=al.mp q;subst q;by_cases hh:kn L z=true
      ·refine .inr (.inl ((rB L ns _ _).2.1 z ?_));show z∈(if kn L z=true then W++[z] else W);rw[if_pos hh];simp
      ·exact .inr (.inr (by simpa using hh))
    ·exact .inr (.inl q)
    ·exact .inr (.inr q)
   ·have hl:(F++[n]).length<=N.length:=by exact qg I2.nd I2.sub
    rw[aI] at hl ⊢;simp only[cP] at hl ⊢;split
    ·rw[aI];simp only[cP];omega
    ·omega
abbrev LS(U:List Str):PV:=.lst (U.map .str)
def w4{c:XT}{b:XS}{n:Nat}{ρ ρ':En}{s s':Sto}(h:kq c b n ρ s=.nx ρ' s'):pJ c b ρ s=.nx ρ' s':=(uV h (by intro z;cases z)).trans rfl
theorem rA(s:Sto)(k:Nat):∀(U:List Str),(∀x∈U,cK x=true)->sD (PV.data s (k+1)) (U.map PV.str)=some (U.map dY)
 |[],_=>rfl
 |x::r,h=>by
  rw[aG];unfold sD;rw[rA s k r fun y hy=>h y (ak _ hy)];have e:PV.data s (k+1) (.str x)=some (.str x):=by unfold PV.data;rw[if_pos (h x ap)]
  rw[e];rfl
def Ev(s:Sto)(k:Nat){U:List Str}(h:∀x∈U,cK x=true):PV.data s (k+2) (LS U)=some (.list (U.map dY)):=by unfold PV.data;rw[rA s k U h];rfl
def xI{s:Sto}{n:Nat}(k:Nat){U:List Str}(h:∀x∈U,cK x=true)(hg:s.get n=some (.lst (U.map .str))):PV.data s (k+2) (.ref n)=some (.list (U.map dY)):=by unfold PV.data;rw[hg];show(sD (PV.data s (k+1)) (U.map PV.str)).map _=_;rw[rA s k U h];rfl
theorem rR:∀U:List Str,eZ (U.map dY) (U.map dY)=true
 |[]=>by simp[eZ]
 |x::r=>by rw[aG];unfold eZ dy;rw[rR r,beq_self_eq_true];rfl
def zn{s:Sto}{n:Nat}{U:List Str}(h:∀x∈U,cK x=true)(hg:s.get n=some (.lst (U.map .str))):fNe (.ref n) (LS U) s=.ok (.bl false) s:=by have e1:PV.data s 12 (.ref n)=some (.list (U.map dY)):=xI 10 h hg;have e2:PV.data s 12 (LS U)=some (.list (U.map dY)):=Ev s 10 h;unfold fNe fEqN;rw[e1,e2];simp only[if_true];unfold dy;rw[rR];rfl
def Co{s:Sto}{n:Nat}{U:List Str}(h:∀x∈U,cK x=true)(hg:s.get n=some (.lst (U.map .str))):fNe (.ref n) (.lst []) s=.ok (.bl (decide (U≠[]))) s:=by
 have e2:PV.data s 12 (.ref n)=some (.list (U.map dY)):=xI 10 h hg;have e3:PV.data s 12 (.lst [])=some (.list []):=rfl;unfold fNe fEqN;rw[e2,e3];simp only[if_true];unfold dy;cases U with
 |nil=>simp[eZ]
 |cons x r=>simp[eZ]
def EQ{x:Str}(h:Sm x):cK x=true:=by unfold cK;rw[<-Array.all_toList,cJ];intro c hc;exact decide_eq_true (fV (h.2 c hc) (by decide))
def mS{f:XE}{ρ:En}{s s1:Sto}{b:Bool}(h:f ρ s=.ok (.bl b) s1):xTr f ρ s=.ok b s1:=by unfold xTr;rw[h];rfl
def Fw{f g:XS}{ρ:En}{s s':Sto}{c:ac}(h:f ρ s=.ex c s'):xSeq f g ρ s=.ex c s':=by unfold xSeq;rw[h]
def Fb{f:XE}{ρ:En}{s s':Sto}{c:ac}(h:f ρ s=.ex c s'):xDo f ρ s=.ex c s':=by unfold xDo;rw[h];rfl
def Go{N:Nat}{g:XS}{vs:List PV}{s s':Sto}{c:ac}(h:g (vs.map some++aK (N-vs.length) none) s=.ex c s'):fnD N g vs s=.ex c s':=by unfold fnD;rw[h]
def fdP(F:List Str):List (Key×PV):=F.map fun x=>(am x,PV.bl true)
def rst(T:Sto)(F W:List Str):Sto:=(T.add (.dct (fdP F))).add (.lst (W.map .str))
def rE(nb:Nat)(h:Str)(T:Sto)(u4 u5 u6:Option PV):En:=[some (.ref nb),some (.str h),some (.ref T.nx),some (.ref (T.nx+1)),u4,u5,u6]
def CK(T:Sto)(F W:List Str):(rst T F W).get T.nx=some (.dct (fdP F)):=by unfold rst;rw[kA,if_neg (by rw[wz];omega),kA,if_pos rfl]
def yf(T:Sto)(F W:List Str):(rst T F W).get (T.nx+1)=some (.lst (W.map .str)):=by unfold rst;rw[kA,if_pos (wz _ _)]
def ww(T:Sto)(F W:List Str){k:Nat}(hk:k<T.nx):(rst T F W).get k=T.get k:=by unfold rst;rw[kA,if_neg (by rw[wz];omega),kA,if_neg (by omega)]
def AO(T:Sto)(F G W:List Str):(rst T F W).set T.nx (.dct (fdP G))=rst T G W:=by unfold rst;rw[sP _ _ _ (by rw[wz];omega),p8]
def xp(T:Sto)(F W V:List Str):(rst T F W).set (T.nx+1) (.lst (V.map .str))=rst T F V:=p8 _ _ _
def D4(F:List Str)(n:Str):(lO (fdP F) (am n)).isSome=decide (n∈F):=by
 unfold lO;rw[bX,bQ,fu,decide_eq_true_iff];constructor
 ·intro⟨kv,h1,h2⟩;obtain⟨m,hm,rfl⟩:=ai.mp h1;have:(am m:Key)=am n:=of_decide_eq_true h2;exact dw this▸hm
 ·exact fun z=>⟨_,ai.mpr ⟨n,z,rfl⟩,decide_eq_true rfl⟩
def Gq{F:List Str}{n:Str}(h:n∉F):vh (fdP F) (am n) (.bl true)=fdP (F++[n]):=by
 unfold vh fdP;rw[if_neg,ax]
 ·rfl
 intro z;obtain⟨kv,h1,h2⟩:=cI.mp z;obtain⟨m,hm,rfl⟩:=ai.mp h1;have:(am m:Key)=am n:=of_decide_eq_true h2;exact h (dw this▸hm)
def D5(F:List Str):keysOf (fdP F)=some F:=(ra _ _ (by unfold fdP;rw[aL];rfl))
def yB(l:Hl)(n:Str):(kL l n).1=n:=by
 unfold kL;cases e:l.find? fun q=>decide (q.1=n) with
 |none=>rfl
 |some q=>have:=fW e;exact of_decide_eq_true this
structure Ho(L:List Ent)(N:List Str):Prop where
 ow:∀n e,lz L n=some e->e.held.length<64/\∀x∈e.held.map (·.1),x∈N
 sm:∀n∈N,Sm n
 le:N.length<64
 hn:∀n,kn L n=true->n∈N
def Ho.sub{L:List Ent}{N:List Str}(H:Ho L N)(y:Str):∀x∈own L y,x∈N:=by
 unfold own;cases e:lz L y with
 |none=>exact fun _ z=>nomatch z
 |some e'=>exact fun x z=>(H.ow y e' e).2 x ((kl _).mem_iff.mp z)
section
variable{T:Sto}{nb:Nat}{pp N:List Str}{L:List Ent}{h:Str}
def DX(a:Adr)(hb:T.get nb=some (.book pp L))(Ji:nb<T.nx)(u4 u5 u6:Option PV)(F W:List Str)(q:Str×Int×Int)(hF:F.length<100000)(hW:W.length<100000) :
  kE (yTup 2 (yCons (yName 5) (yCons (yName 6) yNil))) (lr a) (wx q) (rE nb h T u4 u5 u6) (rst T F W)=.nx (rE nb h T u4 (some (.str q.1)) (some (frP q.2))) (rst T (one1 L (F,W) q.1).1 (one1 L (F,W) q.1).2):=by
 have e0:kE (yTup 2 (yCons (yName 5) (yCons (yName 6) yNil))) (lr a) (wx q) (rE nb h T u4 u5 u6) (rst T F W)=lr a (rE nb h T u4 (some (.str q.1)) (some (frP q.2))) (rst T F W):=rfl;rw[e0];generalize q.1=n;generalize frP q.2=fr;have en:x2 (xVar 5) (xVar 2) oF (rE nb h T u4 (some (.str n)) (some fr)) (rst T F W)=.ok (.bl !decide (n∈F)) (rst T F W):=by
  rw[kF (jO rfl) (jO rfl)];show mB true _ _ _=_;unfold mB;have:dcOf (rst T F W) (.ref T.nx)=some (fdP F):=by simp only[dcOf,CK]
  rw[this];show Out.ok (PV.bl (xS true (lO (fdP F) (am n)).isSome)) _=_;rw[D4];rfl
 unfold lr one1;by_cases c:n∈F
 ·rw[qi (mS (en.trans (by rw[decide_eq_true c];rfl))),if_pos c];rfl
 ·rw[uR (mS (en.trans (by rw[decide_eq_false c];rfl))),if_neg c];have p1:=sR (fo:=xVar 2) (fi:=xVar 5) (fv:=xC (.bl true)) (ρ:=rE nb h T u4 (some (.str n)) (some fr)) (s:=rst T F W) rfl (jO rfl) (jO rfl) (CK T F W) (by unfold fdP;rw[af];exact hF);rw[Gq c,AO] at p1;refine kc p1 ?_;have bk:(rst T (F++[n]) W).get nb=some (.book pp L):=by rw[ww _ _ _ Ji];exact hb
  have ih:xBM 2 (mX a) (xVar 0) (xCons (xVar 5) xNil) (rE nb h T u4 (some (.str n)) (some fr)) (rst T (F++[n]) W)=.ok (.bl (kn L n)) (rst T (F++[n]) W):=by refine Eq.trans (uU (jO rfl) bk (jP (jO rfl) rfl) rfl) ?_;unfold mX lI;simp only[bk]
  cases hc:kn L n with
  |false =>
   rw[hc] at ih;rw[qi (mS ih)];rfl
  |true =>
   rw[hc] at ih;rw[uR (mS ih)];refine(tI (v:=.non) (s':=rst T (F++[n]) (W++[n])) ?_).trans rfl;unfold xAppend;rw[jO (i:=3) (v:=.ref (T.nx+1)) rfl];simp only[Out.bind,yf];rw[jP (jO (i:=5) (v:=.str n) rfl) (vs:=[]) rfl];simp only[yf];rw[if_pos (by rw[af];exact hW)];rw[<-xp T (F++[n]) W (W++[n]),ax];rfl
theorem zv(a:Adr)(H:Ho L N)(hb:T.get nb=some (.book pp L))(Ji:nb<T.nx){y:Str}(hy:∀S,Cl L h S->∀x∈own L y,S x)(l:Hl)(u4:Option PV):∀(ns F W:List Str)(u5 u6:Option PV),(∀x∈ns,x∈own L y)->Inv1 L N h F W->2*(N.length-F.length)+W.length<=1000 ->
  ∃v5 v6,k6 (kE (yTup 2 (yCons (yName 5) (yCons (yName 6) yNil))) (lr a)) (ns.map fun n=>wx (kL l n)) (rE nb h T u4 u5 u6) (rst T F W)=.nx (rE nb h T u4 v5 v6) (rst T (mC L F W ns).1 (mC L F W ns).2)
 |[],F,W,u5,u6,_,_,_=>⟨u5,u6,rfl⟩
 |n::ns,F,W,u5,u6,Is,I,hm=>by have le:=H.le;have fl:=qg I.nd I.sub;have s1:=DX (h:=h) a hb Ji u4 u5 u6 F W (kL l n) (by omega) (by omega);rw[yB] at s1;obtain⟨J,_,m1⟩:=pE hy (H.sub y) [n] F W (fun x z=>Is x (by rw[al.mp z];exact ap)) I;have e1:mC L F W [n]=one1 L (F,W) n:=rfl;rw[e1] at J m1;obtain⟨v5,v6,k⟩:=zv a H hb Ji hy l u4 ns _ _ (some (.str n)) (some (frP (kL l n).2)) (fun x z=>Is x (ak _ z)) J (by omega);refine⟨v5,v6,?_⟩;rw[aG];unfold k6;rw[s1];exact k
def rwalk(a:Adr)(H:Ho L N)(hb:T.get nb=some (.book pp L))(Ji:nb<T.nx):∀(k:Nat)(F W:List Str)(u4 u5 u6:Option PV),Inv1 L N h F W->Done1 L h F W->2*(N.length-F.length)+W.length<=k->k<=1000 ->
  ∃n F' v4 v5 v6,kq (xTr (x2 (xVar 3) (xLst xNil) fNe)) (k9 a) n (rE nb h T u4 u5 u6) (rst T F W)=.nx (rE nb h T v4 v5 v6) (rst T F' [])/\Rch L h F'/\∀x∈F',x∈N:=by
 intro k;induction k with
 |zero =>
  intro F W u4 u5 u6 I Dn hk _;have:W=[]:=List.length_eq_zero_iff.mp (by omega);subst this;refine⟨1,F,u4,u5,u6,?_,⟨I.nd,⟨fun x z=>?_,fun y hy x z=>?_⟩,I.mn⟩,I.sub⟩
  ·unfold kq;rw[mS (b:=false) (s1:=rst T F []) ((kF (jO rfl) rfl).trans (Co (U:=[]) (fun _ z=>nomatch z) (yf T F [])))];rfl
  ·exact(Dn h (.inl rfl)).elim (fun z=>nomatch z) fun q=>q x z
  ·exact(Dn y (.inr hy)).elim (fun z=>nomatch z) fun q=>q x z
 |succ k ih =>
  intro F W u4 u5 u6 I Dn hk k1;have hc:xTr (x2 (xVar 3) (xLst xNil) fNe) (rE nb h T u4 u5 u6) (rst T F W)=.ok (decide (W≠[])) (rst T F W) :=
   mS ((kF (jO rfl) rfl).trans (Co (fun x z=>EQ (H.sm x (H.hn x (I.wt x z)))) (yf T F W)))
  rcases List.eq_nil_or_concat W with rfl|⟨W0,y,rfl⟩
  ·refine⟨1,F,u4,u5,u6,?_,⟨I.nd,⟨fun x z=>?_,fun y hy x z=>?_⟩,I.mn⟩,I.sub⟩
   ·unfold kq;rw[hc];rfl
   ·exact(Dn h (.inl rfl)).elim (fun z=>nomatch z) fun q=>q x z
   ·exact(Dn y (.inr hy)).elim (fun z=>nomatch z) fun q=>q x z
  ·rw[List.concat_eq_append] at *;have yW:y∈W0++[y]:=by simp
   have JE:=I.wr y yW;have hy:∀S,Cl L h S->∀x∈own L y,S x:=fun S hS x z=>by
    rcases JE with e|e
    ·rw[e] at z;exact hS.1 x z
    ·exact hS.2 y (I.mn S hS y e) x z
   have sb:∀x∈W0,x∈W0++[y]:=fun x z=>aW _ z;have I0:Inv1 L N h F W0:=⟨I.nd,I.sub,fun x z=>I.wt x (sb x z),I.mn,fun x z=>I.wr x (sb x z)⟩;rw[aI,cP] at hk;obtain⟨J,j1,j2⟩:=pE hy (H.sub y) (own L y) F W0 (fun _ z=>z) I0;obtain⟨t1,t2,t3⟩:=rB L (own L y) F W0;obtain⟨e,fe,oe⟩:∃e,lz L y=some e/\own L y=srt (e.held.map (·.1)):=by have:=I.wt y yW;unfold kn at this;obtain⟨e,he⟩:=e9.mp this;exact⟨e,he,by unfold own;rw[he]⟩
   obtain⟨v5,v6,lp⟩:=zv a H hb Ji hy e.held (some (.str y)) (own L y) F W0 u5 u6 (fun _ z=>z) I0 (by omega);obtain⟨n,F',v4',v5',v6',q1,q2⟩:=ih _ _ (some (.str y)) v5 v6 J (fun z hz=>by
    have old:(z=h\/z∈F)->z∈(mC L F W0 (own L y)).2\/∀x∈own L z,x∈(mC L F W0 (own L y)).1:=fun hz=>by
     rcases Dn z hz with d|d
     ·rcases aA.mp d with d|d
      ·exact .inl (t2 z d)
      ·rw[al.mp d];exact .inr t3
     ·exact .inr fun x hx=>t1 x (d x hx)
    rcases hz with hz|hz
    ·exact old (.inl hz)
    ·rcases j1 z hz with d|d|d
     ·exact old (.inr d)
     ·exact .inl d
     ·exact .inr (by rw[yZ d];exact fun _ z=>nomatch z)) (by omega) (by omega)
   have bd:k9 a (rE nb h T u4 u5 u6) (rst T F (W0++[y]))=.nx (rE nb h T (some (.str y)) v5 v6) (rst T (mC L F W0 (own L y)).1 (mC L F W0 (own L y)).2):=by
    unfold k9;have pop:As (xVar 3) (rE nb h T u4 u5 u6) (rst T F (W0++[y]))=.ok (.str y) (rst T F W0):=by unfold As;rw[jO (i:=3) (v:=.ref (T.nx+1)) rfl];simp only[Out.bind,yf];rw[ax,aG,da,aI,cP,Nat.add_sub_cancel,cx (aq _),Nat.sub_self];simp only[fJ,List.dropLast_concat];rw[xp]
    refine kc (ko pop) ?_;have bk:(rst T F W0).get nb=some (.book pp L):=by rw[ww _ _ _ Ji];exact hb
    have sh:pz a [.ref nb,.str y] (rst T F W0)=.ok (ze e.held) (rst T F W0):=by simp only[pz,lI,bk];rw[if_pos (H.sm y (H.hn y (I.wt y yW))).nm,fe];exact if_pos (H.ow y e fe).1
    refine sx (qN (l:=(srt (e.held.map (·.1))).map fun n=>wx (kL e.held n)) ((uU (jO rfl) bk (jP (jO rfl) rfl) rfl).trans sh)) ?_;rw[<-oe];exact lp
   refine⟨n+1,F',v4',v5',v6',?_,q2⟩;unfold kq;rw[hc,decide_eq_true (by simp)];show(match k9 a (rE nb h T u4 u5 u6) (rst T F (W0++[y])) with
    |.nx ρ' s'=>kq (xTr (x2 (xVar 3) (xLst xNil) fNe)) (k9 a) n ρ' s'
    |.ct ρ' s'=>kq (xTr (x2 (xVar 3) (xLst xNil) fNe)) (k9 a) n ρ' s'
    |.bk ρ' s'=>.nx ρ' s'
    |o=>o)=_
   rw[bd];exact q1
def Bh(a:Adr)(hb:T.get nb=some (.book pp L))(hh:kn L h=true)(hs:Nm h):kS a [.ref nb,.str h] T=.ok .non T:=by simp only[kS,lI,hb];rw[if_pos hs,if_pos hh]
def sQ(a:Adr)(H:Ho L N)(hb:T.get nb=some (.book pp L))(Ji:nb<T.nx)(hh:kn L h=true):∃F,mR a [.ref nb,.str h] T=.ok (.ref (T.nx+2)) ((rst T F []).add (.lst ((srt F).map .str)))/\Rch L h F/\∀x∈F,x∈N:=by
 have sh:=H.sm h (H.hn h hh);obtain⟨n,F,v4,v5,v6,e,R,fN⟩:=rwalk (h:=h) a H hb Ji (2*N.length+1) [] [h] none none none ⟨.nil,(fun _ z=>nomatch z),(fun x z=>by rw[al.mp z];exact hh),(fun _ _ _ z=>nomatch z),fun x z=>.inl (al.mp z)⟩ (fun y hy=>.inl (by rcases hy with e|e;exact al.mpr e;cases e)) (by simp) (by have:=H.le;omega);refine⟨F,mv ?_,R,fN⟩;unfold rH;refine kc (tI ((uU (jO rfl) hb (jP (jO rfl) rfl) rfl).trans (Bh a hb hh sh.nm))) ?_;refine kc (ko (v:=.ref T.nx) (s':=T.add (.dct [])) rfl) ?_;refine kc (ko (v:=.ref (T.nx+1)) (s':=rst T [] [h]) rfl) ?_;refine kc (w4 e) ?_;refine qy ((xP (jP (jO rfl) rfl)).trans ?_);unfold qO;have:dcOf (rst T F []) (.ref T.nx)=some (fdP F):=by simp only[dcOf,CK]
 simp only[this,D5];rw[if_pos (aZ (qg R.nd fN) H.le)];rfl
def yh(a:Adr)(hb:T.get nb=some (.book pp L))(hh:kn L h=false)(hs:Nm h):mR a [.ref nb,.str h] T=.ex a.NoHouse T:=by
 have e:kS a [.ref nb,.str h] T=.ex a.NoHouse T:=by simp only[kS,lI,hb];rw[if_pos hs,if_neg (by rw[hh];decide)]
 refine Go ?_;unfold rH;exact Fw (Fb ((uU (jO rfl) hb (jP (jO rfl) rfl) rfl).trans e))
end
theorem vc:∀U:List Str,toVs (U.map PV.str)=some (U.map V.str)
 |[]=>rfl
 |x::r=>by rw[aG];unfold toVs;rw[vc r];rfl
def Br(n:Str)(U:List Str):inV (.str n) (U.map V.str)=decide (n∈U):=by
 unfold inV;rw[fQ,bQ,cI,decide_eq_true_iff];constructor
 ·rintro⟨x,hx,e⟩
  have e:(x==n)=true:=e;rw[<-eq_of_beq e];exact hx
 ·intro h;exact⟨n,h,beq_self_eq_true n⟩
def yp(n:Str)(V:List Str)(s:Sto):oF (.str n) (.lst (V.map .str)) s=.ok (.bl (!decide (n∈V))) s:=by simp[oF,mB,dcOf,toV,lsOf,vc,xS,Br]
def zI{s:Sto}{l k:List PV}(h:l.length+k.length<=100000):fAdd (.lst l) (.lst k) s=.ok (.lst (l++k)) s:=by simp[fAdd,lsOf,h]
def x4{s:Sto}{U:List Str}(h:U.length<64):ki [LS U] s=.ok (LS (srt U)) s:=by simp[ki,lsOf,pZ,h]
structure Mo(s:Sto)(nd:Nat)(M:List Md)(L:List Ent):Prop where
 d:dcOf s (.ref nd)=some (M.map mdP)
 l:lsOf s (.ref nd)=none
 v:∀n,kn L n=true->∃k l x,lO (M.map mdP) (am n)=some (.lst [.ref k,x])/\s.get k=some (.dct (hP l))/\srt (l.map (·.1))=own L n/\l.length<64
 i:∀n,(lO (M.map mdP) (am n)).isSome=kn L n
 nd:∀n,(own L n).Nodup
section
variable{s:Sto}{nd:Nat}{M:List Md}{L:List Ent}{N:List Str}{h:Str}
def Mo.owners(O:Mo s nd M L){fm fh:XE}{ρ:En}{n:Str}(h1:fm ρ s=.ok (.ref nd) s)(h2:fh ρ s=.ok (.str n) s)(hn:kn L n=true):xB (xCons (x2 (x2 fm fh fIx) (xC (.int 0)) fIx) xNil) ki ρ s=.ok (LS (own L n)) s:=by
 obtain⟨k,l,x,e1,e2,e3,e4⟩:=O.v n hn;have i1:fIx (.ref nd) (.str n) s=.ok (.lst [.ref k,x]) s:=by simp[fIx,O.d,O.l,kyOf,e1]
 have i2:fIx (.lst [.ref k,x]) (.int 0) s=.ok (.ref k) s:=by simp[fIx,lsOf,atI,ixN]
 rw[xP (jP ((kF ((kF h1 h2).trans i1) rfl).trans i2) rfl),p7 e2 (ra _ _ (by rw[wl,aL];rfl)) (by rw[af];exact e4),e3]
structure Inv2(L:List Ent)(N:List Str)(h:Str)(F:List Str)(i:Nat):Prop where
 nd:F.Nodup
 sub:∀x∈F,x∈N
 mn:∀S,Cl L h S->∀x∈F,S x
 fst:∀x∈own L h,x∈F
 dn:∀y∈F.take i,∀x∈own L y,x∈F
 le:i<=F.length
def more(L:List Ent)(F:List Str)(y:Str):List Str:=(own L y).filter fun n=>!decide (n∈F)
def DC{F:List Str}{y:Str}(hy:kn L y=false):F++more L F y=F:=by unfold more;rw[yZ hy];exact cB _
def Inv2.step(nd:∀n,(own L n).Nodup)(H:Ho L N){F:List Str}{i:Nat}(I:Inv2 L N h F i){y:Str}(hy:F[i]?=some y):Inv2 L N h (F++more L F y) (i+1):=by
 obtain⟨hi,ey⟩:=bD.mp hy;have yF:y∈F:=jg.mpr ⟨i,hy⟩;have hm:∀x∈more L F y,x∈own L y/\x∉F:=fun x z=>by have z:=cN.mp z;exact⟨z.1,by simpa using z.2⟩
 have all:∀x∈own L y,x∈F++more L F y:=fun x z=>by
  by_cases c:x∈F
  ·exact aW _ c
  ·exact aw _ (cN.mpr ⟨z,by simpa using c⟩)
 refine⟨?_,fun x z=>?_,fun S hS x z=>?_,fun x z=>aW _ (I.fst x z),fun u hu x z=>?_,?_⟩
 ·rw[bH];exact⟨I.nd,(nd y).filter _,fun a ha b hb e=>(hm b hb).2 (e▸ha)⟩
 ·rcases aA.mp z with z|z
  ·exact I.sub x z
  ·exact H.sub y x (hm x z).1
 ·rcases aA.mp z with z|z
  ·exact I.mn S hS x z
  ·exact hS.2 y (I.mn S hS y yF) x (hm x z).1
 ·rw[List.take_append_of_le_length (by omega),ft,hy] at hu;rcases aA.mp hu with hu|hu
  ·exact aW _ (I.dn u hu x z)
  ·rw[al.mp hu] at z;exact all x z
 ·rw[aI];omega
def Mo.step(O:Mo s nd M L)(a:Adr)(H:Ho L N){F:List Str}{i:Nat}(I:Inv2 L N h F i){y:Str}(hy:F[i]?=some y):kR a [some (.ref nd),some (.str h),some (LS F),some (.int (i:Nat))] s=.nx [some (.ref nd),some (.str h),some (LS (F++more L F y)),some (.int ((i+1:Nat):Int))] s:=by
 have hl:=qg I.nd I.sub;have hN:=H.le;have at_:x2 (xVar 2) (xVar 3) fIx [some (.ref nd),some (.str h),some (LS F),some (.int (i:Nat))] s=.ok (.str y) s :=
  (kF (jO rfl) (jO rfl)).trans (sw (kD (by rw[aY,hy];rfl)))
 have Hc:x2 (x2 (xVar 2) (xVar 3) fIx) (xVar 0) fIn [some (.ref nd),some (.str h),some (LS F),some (.int (i:Nat))] s=.ok (.bl (kn L y)) s:=by rw[kF at_ (jO rfl)];show mB false _ _ _=_;unfold mB;rw[O.d];show Out.ok (PV.bl (xS false (lO (M.map mdP) (am y)).isSome)) _=_;rw[O.i];rfl
 unfold kR;have Hd:xSet 3 (x2 (xVar 3) (xC (.int 1)) fAdd) [some (.ref nd),some (.str h),some (LS (F++more L F y)),some (.int (i:Nat))] s=.nx [some (.ref nd),some (.str h),some (LS (F++more L F y)),some (.int ((i+1:Nat):Int))] s :=
  ko (v:=.int ((i+1:Nat):Int)) (Eq.trans (qF (i:=(i:Nat)) (j:=1) (jO rfl) rfl) rfl)
 refine kc ?_ Hd;cases hc:kn L y with
 |false =>
  rw[hc] at Hc;rw[qi (mS Hc),DC hc];rfl
 |true =>
  rw[hc] at Hc;rw[uR (mS Hc)];have ow:=O.owners (fm:=xVar 0) (fh:=x2 (xVar 2) (xVar 3) fIx) (ρ:=[some (.ref nd),some (.str h),some (LS F),some (.int (i:Nat))]) (jO rfl) at_ hc;have hol:(own L y).length<=N.length:=qg (O.nd y) (H.sub y);have cp:=pG (s:=s) (cap:=[some (LS F)]) (c:=xTr (x2 (xVar 0) (xVar 1) oF)) (e:=xVar 0) (fun q=>match q with|.str n=>!decide (n∈F)|_=>false) id ((own L y).map .str) (fun q hq=>by obtain⟨n,hn,rfl⟩:=ai.mp hq;exact mS ((kF (jO rfl) (jO rfl)).trans (yp n F s))) (fun q hq _=>rfl)
  have e1:((((own L y).map PV.str).filter fun q=>match q with|.str n=>!decide (n∈F)|_=>false).map id)=(more L F y).map .str:=by rw[jp,eJ];rfl
  rw[e1] at cp;have ml:(more L F y).length<=(own L y).length:=d6 _ _;exact(ko ((kF (jO rfl) (tO (l:=(own L y).map .str) (s1:=s) (qN ow) (by rw[af];omega) cp)).trans (zI (by rw[af,af];omega)))).trans (by rw[<-ax];rfl)
def Mo.walk(O:Mo s nd M L)(a:Adr)(H:Ho L N):∀(k:Nat)(F:List Str)(i:Nat),Inv2 L N h F i->N.length-i<=k->∃n F' j,kq (xTr (x2 (xVar 3) (xB (xCons (xVar 2) xNil) fLen) fLt)) (kR a) n [some (.ref nd),some (.str h),some (LS F),some (.int (i:Nat))] s=.nx [some (.ref nd),some (.str h),some (LS F'),some (.int (j:Int))] s/\Rch L h F'/\∀x∈F',x∈N:=by
 intro k;induction k with
 |zero =>
  intro F i I hk;have fl:=qg I.nd I.sub;have il:=I.le;have e:i=F.length:=by omega
  refine⟨1,F,i,?_,⟨I.nd,⟨I.fst,fun y hy=>I.dn y (by rw[e,fG];exact hy)⟩,I.mn⟩,I.sub⟩;unfold kq;rw[mS (b:=decide ((i:Int)<((F.map PV.str).length:Nat))) (s1:=s) ((kF (jO rfl) ((xP (jP (jO rfl) rfl)).trans wj)).trans rfl),decide_eq_false (by rw[af];omega)];rfl
 |succ k ih =>
  intro F i I hk;have fl:=qg I.nd I.sub;have il:=I.le;have hc:xTr (x2 (xVar 3) (xB (xCons (xVar 2) xNil) fLen) fLt) [some (.ref nd),some (.str h),some (LS F),some (.int (i:Nat))] s=.ok (decide ((i:Int)<((F.map PV.str).length:Nat))) s :=
   mS ((kF (jO rfl) ((xP (jP (jO rfl) rfl)).trans wj)).trans rfl)
  by_cases c:i<F.length
  ·have hy:F[i]?=some F[i]:=bc c;have st:=O.step a H I hy;obtain⟨n,F',j,q1,q2⟩:=ih _ _ (I.step O.nd H hy) (by omega);rw[decide_eq_true (by rw[af];omega)] at hc;refine⟨n+1,F',j,?_,q2⟩;unfold kq;rw[hc];show(match kR a [some (.ref nd),some (.str h),some (LS F),some (.int (i:Nat))] s with
    |.nx ρ' s'=>kq (xTr (x2 (xVar 3) (xB (xCons (xVar 2) xNil) fLen) fLt)) (kR a) n ρ' s'
    |.ct ρ' s'=>kq (xTr (x2 (xVar 3) (xB (xCons (xVar 2) xNil) fLen) fLt)) (kR a) n ρ' s'
    |.bk ρ' s'=>.nx ρ' s'
    |o=>o)=_
   rw[st];exact q1
  ·have e:i=F.length:=by omega
   refine⟨1,F,i,?_,⟨I.nd,⟨I.fst,fun y hy=>I.dn y (by rw[e,fG];exact hy)⟩,I.mn⟩,I.sub⟩;unfold kq;rw[hc,decide_eq_false (by rw[af];omega)];rfl
def Mo.due(O:Mo s nd M L)(a:Adr)(H:Ho L N)(hh:kn L h=true):∃F,qk a [.ref nd,.str h] s=.ok (LS (srt F)) s/\Rch L h F/\∀x∈F,x∈N:=by obtain⟨n,F,j,e,R,fN⟩:=O.walk (h:=h) a H N.length (own L h) 0 ⟨O.nd h,H.sub h,fun S hS=>hS.1,fun _ z=>z,fun y z=>(by simp at z),a6 _⟩ (by omega);refine⟨F,mv ?_,R,fN⟩;unfold tD;refine kc (ko (O.owners (jO rfl) (jO rfl) hh)) ?_;refine kc (ko (v:=.int 0) (s':=s) rfl) ?_;refine kc (w4 e) ?_;exact qy ((xP (jP (jO rfl) rfl)).trans (x4 (aZ (qg R.nd fN) H.le)))
end
def or_no{f g:XT}{ρ:En}{s s1 s2:Sto}{b:Bool}(h1:f ρ s=.ok false s1)(h2:g ρ s1=.ok b s2):xOr f g ρ s=.ok b s2:=by unfold xOr;rw[h1];exact h2
def EC{f g:XT}{ρ:En}{s s1 s2:Sto}{b:Bool}(h1:f ρ s=.ok true s1)(h2:g ρ s1=.ok b s2):xAnd f g ρ s=.ok b s2:=by unfold xAnd;rw[h1];exact h2
def GI{f g:XT}{ρ:En}{s s1:Sto}(h1:f ρ s=.ok false s1):xAnd f g ρ s=.ok false s1:=by unfold xAnd;rw[h1];rfl
def Cm{f:XT}{ρ:En}{s s1:Sto}{b:Bool}(h:f ρ s=.ok b s1):xNot f ρ s=.ok (!b) s1:=by unfold xNot;rw[h];rfl
def ED{f g:XE}{ρ:En}{s s1:Sto}{o:Out PV}(h1:f ρ s=.ok (.bl true) s1)(h2:g ρ s1=o):xAndV f g ρ s=o:=by unfold xAndV;rw[h1];exact h2
def BM{D:XF}{fa:XA}{ρ:En}{s s1:Sto}{vs:List PV}{n:Nat}{o:Out PV}(h1:fa ρ s=.ok vs s1)(hn:vs.length=n)(h2:D vs s1=o):ud n D fa ρ s=o:=by unfold ud;rw[h1];show(if vs.length=n then D vs s1 else Out.bad)=o;rw[if_pos hn];exact h2
def Fl{i:Nat}{cl:List ac}{u h:XS}{ρ ρ':En}{s s1 s':Sto}{c:ac}(h1:u ρ s=.ex c s1)(hc:c∈cl)(h2:h (ρ.set i (some (.exc c))) s1=.nx ρ' s'):CS i cl u h ρ s=.nx (ρ'.set i none) s':=by unfold CS;rw[h1];show(if c∈cl then _ else _)=_;rw[if_pos hc,h2]
def wk{cl:List ac}{tb:ac->Bool}{f:XE}{ρ:En}{s s1:Sto}{c:ac}(h:f ρ s=.ok (.exc c) s1)(hc:c∈cl):rW cl tb f ρ s=.ok (.bl (tb c)) s1:=by unfold rW;rw[h];show(if c∈cl then _ else _)=_;rw[if_pos hc]
section
variable{T:Sto}{nb:Nat}{pp N:List Str}{L:List Ent}{h:Str}
def yg(a:Adr)(hb:T.get nb=some (.book pp L))(hh:kn L h=false)(hs:Nm h):mM a [.ref nb,.str h] T=.ok (.bl true) T:=by have hc:a.NoHouse∈a.cl:=al.mpr rfl;refine mv ?_;unfold oI;refine kc (ko (v:=.non) (s':=T) rfl) ?_;refine kc (Fl (c:=a.NoHouse) (s1:=T) (Fb (BM (jP (jO rfl) (jP (jO rfl) rfl)) rfl (yh a hb hh hs))) hc (ko (jO rfl))) ?_;refine kc ((qi (mS (wk (c:=a.NoHouse) (s1:=T) (jO rfl) hc))).trans rfl) ?_;refine qy (ED ((wk (c:=a.NoHouse) (s1:=T) (jO rfl) hc).trans (by rw[decide_eq_true rfl])) (wk (c:=a.NoHouse) (jO rfl) hc))
end
section
variable{s t:Sto}{p nb nd:Nat}{N:List Str}{c:Nat}{pp:List Str}{L:List Ent}{M:List Md}
def Prs.at_(P:Prs N c L M){n:Str}(h:n∈L.map (·.nm)):∃e m,lz L n=some e/\m∈M/\lO (M.map mdP) (am n)=some (.lst [.ref m.cell,.tup [.int m.th,.int m.mr,.int m.ls]])/\MRel N c e m:=by obtain⟨A,e,B,A',m,B',e1,e2,e3,e4,e5,e6,e7⟩:=P.cut (P.names▸h);subst e3;refine⟨e,m,?_,by rw[e2];simp,by rw[e2];exact Cp e4,e6⟩;rw[e1,<-e6.nm];exact t5 (by rw[e5.names,e6.nm];exact e4)
def Bst.ho(B:Bst s t p nb nd N c pp L M)(WN:Wds N)(hn:∀n∈L.map (·.nm),n∈N)(hl:N.length<64):Ho L N:=by refine⟨fun n e fe=>?_,WN.sm,hl,fun n h=>hn n ((kX _ _).mp h)⟩;have hn:n∈L.map (·.nm):=(kX _ _).mp (by unfold kn;rw[fe];rfl);obtain⟨e',m,f,hm,_,R⟩:=B.w.pr.at_ hn;rw[fe] at f;cases f;have:e.held.length=m.hl.length:=R.hm.len.symm;have l2:=qg R.hm.nd R.ow;rw[af] at l2;exact⟨by omega,fun x hx=>R.ow x ((R.hm.mem x).mpr hx)⟩
def Bst.own_eq(B:Bst s t p nb nd N c pp L M){n:Str}{e:Ent}{m:Md}(f:lz L n=some e)(R:MRel N c e m):srt (m.hl.map (·.1))=own L n:=by unfold own;rw[f];exact R.hm.srt
structure Frz(t:Sto)(nd:Nat)(M:List Md)(S:Sto):Prop where
 nx:t.nx<=S.nx
 fr:∀k,k<t.nx->k≠nd->S.get k=t.get k
 dz:S.get nd=some (.dfz (M.map mdP))
def Bst.mo(B:Bst s t p nb nd N c pp L M){S:Sto}(Z:Frz t nd M S)(hl:N.length<64):Mo S nd M L:=by
 refine⟨by simp only[dcOf,Z.dz],by simp only[lsOf,Z.dz],fun n h=>?_,fun n=>?_,fun n=>?_⟩
 ·obtain⟨e,m,f,hm,v,R⟩:=B.w.pr.at_ ((kX _ _).mp h);have l2:=qg R.hm.nd R.ow;rw[af] at l2;exact⟨m.cell,m.hl,_,v,(Z.fr _ (B.w.lt.2.2.2 m hm) (B.w.i4 m hm).2.2).trans (B.w.sh m hm),B.own_eq f R,by omega⟩
 ·by_cases h:n∈L.map (·.nm)
  ·obtain⟨e,m,f,hm,v,R⟩:=B.w.pr.at_ h;rw[v,(kX _ _).mpr h];rfl
  ·rw[cg.mpr fun z=>h ((kX _ _).mp z),cg];intro z;unfold lO at z;rw[bX,fu] at z;obtain⟨kv,h1,h2⟩:=z;obtain⟨m,hm,rfl⟩:=ai.mp h1;have:(am m.nm:Key)=am n:=of_decide_eq_true h2;exact h (B.w.pr.names▸dw this▸ai.mpr ⟨m,hm,rfl⟩)
 ·by_cases h:n∈L.map (·.nm)
  ·obtain⟨e,m,f,hm,v,R⟩:=B.w.pr.at_ h;rw[<-B.own_eq f R];exact(kl _).nodup_iff.mpr R.hm.nd
  ·rw[yZ (cg.mpr fun z=>h ((kX _ _).mp z))];exact .nil
def lE(u0:PV)(p nb nd:Nat)(pp:List Str)(u5 u6 u7 u8:Option PV):En:=[some u0,some (.ref p),some (.ref nb),some (LS pp),some (.ref nd),u5,u6,u7,u8]
def DP(a:Adr)(hb:t.get nb=some (.book pp L))(hd:dcOf t (.ref nd)=some (M.map mdP))(hi:∀n,(lO (M.map mdP) (am n)).isSome=kn L n)(u0:PV)(qq:List Str)(u5 u6 u7 u8:Option PV){x:Str}(hx:Nm x):kE (yName 5) (rf a) (.str x) (lE u0 p nb nd qq u5 u6 u7 u8) t=.nx (lE u0 p nb nd qq (some (.str x)) u6 u7 u8) t:=by
 refine(mP (i:=5)).trans ?_;show rf a (lE u0 p nb nd qq (some (.str x)) u6 u7 u8) t=_;unfold rf;have Hc:xTr (x2 (xVar 5) (xVar 4) oF) (lE u0 p nb nd qq (some (.str x)) u6 u7 u8) t=.ok (!kn L x) t:=by refine mS ?_;rw[kF (jO rfl) (jO rfl)];show mB true _ _ _=_;unfold mB;rw[hd];show Out.ok (PV.bl (xS true (lO (M.map mdP) (am x)).isSome)) _=_;rw[hi];rfl
 refine(qi (s1:=t) ?_).trans rfl;cases hc:kn L x with
 |true=>rw[hc] at Hc;exact GI Hc
 |false =>
  rw[hc] at Hc;exact EC Hc (Cm (mS (kr (jP (jO rfl) (jP (jO rfl) rfl)) rfl (yg a hb hc hx))))
theorem zt(a:Adr)(hb:t.get nb=some (.book pp L))(hd:dcOf t (.ref nd)=some (M.map mdP))(hi:∀n,(lO (M.map mdP) (am n)).isSome=kn L n)(u0:PV)(qq:List Str)(u6 u7 u8:Option PV):∀(ns:List Str)(u5:Option PV),(∀x∈ns,Nm x)->∃v5,k6 (kE (yName 5) (rf a)) (ns.map .str) (lE u0 p nb nd qq u5 u6 u7 u8) t=.nx (lE u0 p nb nd qq v5 u6 u7 u8) t
 |[],u5,_=>⟨u5,rfl⟩
 |x::ns,u5,h=>by obtain⟨v5,k⟩:=zt a hb hd hi u0 qq u6 u7 u8 ns (some (.str x)) fun y hy=>h y (ak _ hy);refine⟨v5,?_⟩;rw[aG];unfold k6;rw[DP a hb hd hi u0 qq u5 u6 u7 u8 (h x ap)];exact k
def zg(Z:Frz t nd M s)(hn:nd<t.nx)(F:List Str)(cl:Cell):Frz t nd M ((rst s F []).add cl)/\((rst s F []).add cl).nx=s.nx+3/\((rst s F []).add cl).get (s.nx+2)=some cl:=by
 have n2:(rst s F []).nx=s.nx+2:=rfl;have hx:=Z.nx;refine⟨⟨?_,fun k h1 h2=>?_,?_⟩,rfl,?_⟩
 ·show t.nx<=s.nx+3;omega
 ·rw[kA,if_neg (by omega),ww _ _ _ (by omega)];exact Z.fr k h1 h2
 ·rw[kA,if_neg (by omega),ww _ _ _ (by omega)];exact Z.dz
 ·rw[kA,if_pos n2]
theorem Frz.set{S:Sto}(Z:Frz t nd M S)(hn:nd<t.nx){k:Nat}(hk:t.nx<=k)(cl:Cell):Frz t nd M (S.set k cl) :=
 ⟨Z.nx,fun j h1 h2=>(jW _ _ (by omega)).trans (Z.fr j h1 h2),(jW _ _ (by omega)).trans Z.dz⟩
def DN{t0 S:Sto}(a:Adr)(B:Bst t0 t p nb nd N c pp L M)(H:Ho L N)(Z:Frz t nd M S)(u0:PV)(qq:List Str)(u5 u6 u7 u8:Option PV){h:Str}(hh:kn L h=true):∃v7 v8 S',kE (yName 6) (oA a) (.str h) (lE u0 p nb nd qq u5 u6 u7 u8) S=.nx (lE u0 p nb nd qq u5 (some (.str h)) v7 v8) S'/\Frz t nd M S':=by
 have MF:=B.w.lt.2.1;have MB:=B.w.lt.2.2.1;have bk:∀{S:Sto},Frz t nd M S->S.get nb=some (.book pp L):=fun Z=>(Z.fr nb MF B.w.i3).trans B.w.bk;obtain⟨F1,e1,R1,f1⟩:=(B.mo Z H.le).due a H hh;obtain⟨F2,e2,R2,f2⟩:=sQ a H (bk Z) (au MF Z.nx) hh;obtain⟨Z2,n2,g2⟩:=zg Z MB F2 (.lst ((srt F2).map .str));have zx:=Z.nx;generalize hS2:(rst S F2 []).add (.lst ((srt F2).map .str))=S2 at *;have Z3:=Z2.set MB (k:=S.nx+2) (by omega) (.lst []);obtain⟨F3,e3,R3,f3⟩:=sQ a H (bk Z3) (au MF Z3.nx) hh;obtain⟨Z4,n4,g4⟩:=zg Z3 MB F3 (.lst ((srt F3).map .str));have so:∀F:List Str,(∀x∈F,x∈N)->∀x∈srt F,cK x=true:=fun F hF x hx=>EQ (H.sm x (hF x ((kl _).mem_iff.mp hx)));generalize hS4:(rst (S2.set (S.nx+2) (.lst [])) F3 []).add (.lst ((srt F3).map .str))=S4 at *;refine⟨some (LS (srt F1)),some (.ref (S.nx+2)),S4,?_,Z4⟩;refine(mP (i:=6)).trans ?_;show oA a (lE u0 p nb nd qq u5 (some (.str h)) u7 u8) S=_;unfold oA;refine kc (ko (kr (jP (jO rfl) (jP (jO rfl) rfl)) rfl e1)) ?_;refine kc (ko (kr (jP (jO rfl) (jP (jO rfl) rfl)) rfl e2)) ?_;show xSeq _ _ (lE u0 p nb nd qq u5 (some (.str h)) (some (LS (srt F1))) (some (.ref (S.nx+2)))) S2=.nx (lE u0 p nb nd qq u5 (some (.str h)) (some (LS (srt F1))) (some (.ref (S.nx+2)))) S4;have is1:xIsiT .list (xVar 8) (lE u0 p nb nd qq u5 (some (.str h)) (some (LS (srt F1))) (some (.ref (S.nx+2)))) S2=.ok (.bl true) S2:=by unfold xIsiT;rw[jO (i:=8) (v:=.ref (S.nx+2)) rfl];simp only[Out.bind,tyOf,lsOf,g2];rfl
 have ne1:fNe (.ref (S.nx+2)) (LS (srt F1)) S2=.ok (.bl false) S2:=by rw[R1.same R2];exact zn (so F2 f2) g2
 have ne2:fNe (.ref (S2.nx+2)) (LS (srt F1)) S4=.ok (.bl false) S4:=by rw[R1.same R3];exact zn (so F3 f3) g4
 refine kc ((qi (s1:=S2) (or_no (Cm (mS is1)) (mS ((kF (jO rfl) (jO rfl)).trans ne1)))).trans rfl) ?_;refine kc (tI (v:=.non) (s':=S2.set (S.nx+2) (.lst [])) ?_) ?_
 ·unfold yS;rw[jO (i:=8) (v:=.ref (S.nx+2)) rfl];simp only[Out.bind,g2]
 exact(qi (s1:=S4) (mS ((kF (kr (jP (jO rfl) (jP (jO rfl) rfl)) rfl e3) (jO rfl)).trans ne2))).trans rfl
theorem zq{t0:Sto}(a:Adr)(B:Bst t0 t p nb nd N c pp L M)(H:Ho L N)(u0:PV)(qq:List Str)(u5:Option PV):∀(ns:List Str)(u6 u7 u8:Option PV)(S:Sto),(∀x∈ns,kn L x=true)->Frz t nd M S->∃v6 v7 v8 S',k6 (kE (yName 6) (oA a)) (ns.map .str) (lE u0 p nb nd qq u5 u6 u7 u8) S=.nx (lE u0 p nb nd qq u5 v6 v7 v8) S'/\Frz t nd M S'
 |[],u6,u7,u8,S,_,Z=>⟨u6,u7,u8,S,rfl,Z⟩
 |x::ns,u6,u7,u8,S,h,Z=>by obtain⟨v7,v8,S1,e1,Z1⟩:=DN a B H Z u0 qq u5 u6 u7 u8 (h x ap);obtain⟨w6,w7,w8,S2,e2,Z2⟩:=zq a B H u0 qq u5 ns (some (.str x)) v7 v8 S1 (fun y hy=>h y (ak _ hy)) Z1;refine⟨w6,w7,w8,S2,?_,Z2⟩;rw[aG];unfold k6;rw[e1];exact e2
end
def asg3{f:XE}{i j k:Nat}{ρ:En}{s s':Sto}{u v w:PV}(h:f ρ s=.ok (.tup [u,v,w]) s'):xAsg f (yTup 3 (yCons (yName i) (yCons (yName j) (yCons (yName k) yNil)))) ρ s=.nx (((ρ.set i (some u)).set j (some v)).set k (some w)) s':=by unfold xAsg;rw[h];rfl
def E4:List Str:=[aF "nobody",aF "",aF "Z"]
def DH:∀x∈E4,Nm x:=by
 intro x hx;have:x.length<=100/\∀c∈x.cps.toList,c<16^8:=by simp only[E4,aj,fH,or_false] at hx;rcases hx with rfl|rfl|rfl<;>exact⟨by decide,by decide⟩
 exact this
def F8(a:Adr)(l:List Int)(hl:l.length<=63)(hw:Att.WtOk l):∃s',wH a [.seq (l.map .int)] ⟨0,[]⟩=.ok (.bl true) s':=by
 obtain⟨x0,y0,e0⟩:=AT a ⟨0,[]⟩ l hl hw;have hP:IsPurse ((⟨0,[]⟩:Sto).add (.lst [.int x0,.int y0])) 0:=⟨x0,y0,rfl⟩;have nx1:((⟨0,[]⟩:Sto).add (.lst [.int x0,.int y0])).nx=1:=rfl;generalize (⟨0,[]⟩:Sto).add (.lst [.int x0,.int y0])=s1 at *;obtain⟨t,nb,nd,pp,hs,c,L,M,e1,B,hL,WN,p1,p3,h7,c40⟩:=BN a s1 0 (by omega) hP 7 (by decide);have Nl:(pp++hs).length<64:=by rw[aI];omega
 have H:Ho L (pp++hs):=B.ho WN (fun n hn=>aw _ (hL▸hn)) Nl;have Z0:Frz t nd M (t.set nd (.dfz (M.map mdP))):=⟨aq _,fun k _ h2=>jW _ _ h2,mT B.w.md⟩;have O:=B.mo Z0 Nl;obtain⟨v5,LX⟩:=zt (p:=0) a B.w.bk (show dcOf t (.ref nd)=some (M.map mdP) by simp only[dcOf,B.w.md]) O.i (.seq (l.map .int)) (srt pp) none none none (srt pp++E4) none (fun x hx=>by
  rcases aA.mp hx with hx|hx
  ·exact(WN.sm x (aW _ ((kl _).mem_iff.mp hx))).nm
  ·exact DH x hx)
 obtain⟨v6,v7,v8,S,LW,Z⟩:=zq a B H (.seq (l.map .int)) (srt pp) v5 (M.map (·.nm)) none none none _ (fun x hx=>(kX _ _).mpr (B.w.pr.names▸hx)) Z0;refine⟨S.set nd (.dct (M.map mdP)),mv ?_⟩;unfold E8;refine kc (ko (kr (jP (jO rfl) rfl) rfl e0)) ?_;refine kc (asg3 (kr (jP (jO rfl) (jP rfl rfl)) rfl e1)) ?_;refine kc (sx (l:=(srt pp++E4).map .str) (s1:=t) (qN ((kF (jO rfl) (Cq (jP rfl (jP rfl (jP rfl rfl))))).trans ((zI ?_).trans ?_))) LX) ?_
 ·rw[af,(kl _).length_eq];show pp.length+3<=100000;omega
 ·rw[ax];rfl
 refine kc (ρ':=lE (.seq (l.map .int)) 0 nb nd (srt pp) v5 v6 v7 v8) (s':=S.set nd (.dct (M.map mdP))) ?_ (qy rfl);unfold At;show(match t.get nd with
  |some (.dct l')=>(k6 (kE (yName 6) (oA a)) (l'.map fun kv:Key×PV=>yw kv.1) (lE (.seq (l.map .int)) 0 nb nd (srt pp) v5 none none none) (t.set nd (.dfz l'))).thaw nd
  |_=>.bad)=_
 rw[B.w.md];show(k6 (kE (yName 6) (oA a)) ((M.map mdP).map fun kv:Key×PV=>yw kv.1) (lE (.seq (l.map .int)) 0 nb nd (srt pp) v5 none none none) (t.set nd (.dfz (M.map mdP)))).thaw nd=_;rw[show(M.map mdP).map (fun kv:Key×PV=>yw kv.1)=(M.map (·.nm)).map PV.str by rw[aL,aL];rfl,LW];show(match thw nd S with
  |some s'=>SO.nx _ s'
  |none=>.bad)=_
 unfold thw;rw[Z.dz]
def DM{K:aa}{a:Adr}{H:Hp}{c:ac}{ns:List Int}{Q:VK}{E:XK}(hl:ns.length<=63)(hw:Att.WtOk ns)(ht:bv K aS "rules"=some none)(hO:EH H)(hS:SqL K H c (ns.map V.int))(k:∀v H',v=.bl true->Q v H'):spD K a.Book 1 (wH a) [.ref c] H Q E:=by
 obtain⟨s',e⟩:=F8 a ns hl hw;have S0:SR K a.Book H ⟨fun _=>c,fun _=>[],[]⟩ ⟨0,[]⟩:=by refine⟨iz,(by intro n hn;cases hn),(by intro q hq;cases hq),(by intro n hn;cases hn),(by intro n hn;cases hn),(by intro z hz;cases hz),fun P q t=>?_⟩;obtain⟨x,hx,c',h1,h2⟩:=t;simp only[xR,al] at hx;subst hx;unfold PySem.W.tabIn at h1;rw[ht] at h1;cases h1
 have R0:∀(l:List Int),Reps K H ⟨fun _=>c,fun _=>[],[]⟩ ⟨0,[]⟩ (l.map V.int) (l.map PV.int):=fun l=>by
  induction l with
  |nil=>exact .nil
  |cons x r ih=>exact .cons .int ih
 have pu:Pur (⟨fun _=>c,fun _=>[],[]⟩:Mp) ⟨0,[]⟩ c:=⟨(by intro z;cases z),by intro n hn;cases hn⟩;have hr:Rep K H ⟨fun _=>c,fun _=>[],[]⟩ ⟨0,[]⟩ (.ref c) (.seq (ns.map .int)):=by
  refine .seq ?_ (R0 ns);rcases hS with(h|h)|h
  ·rcases hO c with z|⟨o,xs,z⟩
   ·rw[z] at h;cases h
   ·rw[z] at h;cases h
  ·exact .inl ⟨h,pu⟩
  ·exact .inr h
 refine⟨rfl,[.seq (ns.map .int)],⟨0,[]⟩,_,.cons hr .nil,S0,?_⟩;rw[e];intro u H' m' _ _ r;cases r;exact k _ _ rfl
open PyProof.Rows
structure Gxa(K:aa)(x:Str)(X:ac):Prop where
 n:bv K aS x=some (some (.ref X))
 e:Exc K X
def gxa{K:aa}{x:Str}{X:ac}(n:bv K aS x=some (some (.ref X)))(a:gg K X bmV "ValueError.__new__"=true)(b:aM K (.ref X) "__getattribute__"=some (some (.builtin "BaseException.__getattribute__")))(c:aM K (.ref X) "__getattr__"=some none)(d:aM K (.ref X) "__class__"=some (some (.builtin "object.__class__")))(e:dE K (.builtin "object.__class__") "__get__"=some (some (.builtin "getset_descriptor.__get__")))(f:fD K (.builtin "object.__class__")=some true)(g:bU K X (.type "object")=some true)(h:bU K X (.type "BaseException")=some true):Gxa K x X:=⟨n,a,b,c,d,e,f,g,h⟩
structure Gk(K:aa)(o h c1 c2 c3 c4 c5 c6 c7 c8:ac):Prop where
 tr:bU K h (.ref o)=some true
 ka:cR K (.ref h) [.ref c1,.ref c2,.ref c3,.ref c4,.ref c5,.ref c6,.ref c7,.ref c8]=some false
 na:cR K (.type "NoneType") [.ref c1,.ref c2,.ref c3,.ref c4,.ref c5,.ref c6,.ref c7,.ref c8]=some false
 kv:bu K (.ref h) (.type "ValueError")=some true
 nv:bu K (.type "NoneType") (.type "ValueError")=some false
 kh:bu K (.ref h) (.ref h)=some true
 nh:bu K (.type "NoneType") (.ref h)=some false
def all_mk{l:fw}{w:aU}{K:aa}{h:ba}{mg:Str->Option ae}{fa:ac}(X:K.In h)(G:h.Ns aS mg)(hfa:mg "law"=some (.ref fa)){Ht HK HZ Hy Hu Hq HL Hz HJ HY BK:ac}(x0z:Gxa K "OwnError" Ht)(x1z:Gxa K "NoName" HK)(x2z:Gxa K "Twice" HZ)(x3z:Gxa K "TooMany" Hy)(x4z:Gxa K "NoHolder" Hu)(x5z:Gxa K "NoHouse" Hq)(x6z:Gxa K "NoLoss" HL)(x7z:Gxa K "NoShare" Hz)(II:bv K aS "NoText"=some (some (.ref HJ)))(Ja:bv K aS "Whole"=some (some (.ref HY)))(gk:Gk K Ht Hq Hu HL HK Hz HJ Hy HZ HY)(cb:Gb K BK)(c0z:Gt K "ZERO" 0 1)(c1z:Gt K "ONE" 1 1)(u0z:Gi K "LONGEST_NAME" 8)(u1z:Gi K "MOST_PERSONS" 6)(u2z:Gi K "MOST_HOUSES" 8)(z0z:Gz K "len")(z1z:Gz K "range")(z2z:Gz K "all")(z3z:Gz K "int")(z4z:Gz K "abs")(z5z:Gz K "sorted")(z6z:Gz K "tuple")(z7z:Gz K "list")(z8z:Gz K "str")(z9z:Gz K "bool")(LD:Gz K "isinstance")(LC:Gz K "ValueError")(LA:Gz K "any")(Lz:Gz K "set")(Ly:Gz K "max")(Lx:Gz K "enumerate")(j0:Gf K "is_name" pB)(j1:Gf K "need_loss" oO)(j2:Gf K "common_divisor" lM)(j3:Gf K "plus" yV)(j4:Gf K "minus" wc)(j5:Gf K "is_above" qd)(j6:Gm K BK "__init__" "Book.__init__" oU)(j7:Gm K BK "is_house" "Book.is_house" l9)(j8:Gm K BK "is_holder" "Book.is_holder" lN)(j9:Gm K BK "need_house" "Book.need_house" lw)(j10:Gm K BK "need_holder" "Book.need_holder" lh)(j11:Gm K BK "need_new_name" "Book.need_new_name" kZ)(j12:Gm K BK "person" "Book.person" ng)(j13:Gm K BK "house" "Book.house" nQ)(j14:Gm K BK "sale" "Book.sale" oT)(j15:Gm K BK "shares" "Book.shares" lS)(j16:Gf K "_law_mixed" nN)(j17:Gf K "_law_purse" nL)(j18:Gf K "_law_draw" oS)(j19:Gf K "_law_divisor" mH)(j20:Gf K "_law_made" oR)(j21:Gf K "_law_names" nM)(j22:Gf K "_law_number" nc)(j23:Gf K "_law_part" oQ)(j24:Gf K "_law_sold" oP)(j25:Gf K "_law_built" nO)(j26:Gf K "reached" rq)(j27:Gf K "_law_due" qe)(j28:Gf K "_law_refused" mG)(j29:Gf K "law" CJ)(zr:Gz K "rules")
  :∃(a:Adr)(fd:bJ),bv K aS "rules"=some none/\(∀(s:ah)(v:ae),io s fd ⟨[v],[]⟩ [("_law_script",v)])/\∀base:ba,K.In base->base.Ns aS mg->FnOk l.prog w K mg base (CXo l.prog w) 7 fa fd ["_law_script"] (spD K a.Book 1 (wH a)):=by
 have g:=fun{x v}=>@ij _ _ _ x v X G;obtain⟨n0,e0⟩:=x0z;obtain⟨n1,e1⟩:=x1z;obtain⟨n2,e2⟩:=x2z;obtain⟨n3,e3⟩:=x3z;obtain⟨n4,e4⟩:=x4z;obtain⟨n5,e5⟩:=x5z;obtain⟨n6,e6⟩:=x6z;obtain⟨n7,e7⟩:=x7z;obtain⟨o0,_,_,_,_,_,p0,l0⟩:=c0z;obtain⟨o1,_,_,_,_,_,p1,l1⟩:=c1z;obtain⟨t0,y0⟩:=u0z;obtain⟨t1,y1⟩:=u1z;obtain⟨t2,y2⟩:=u2z;obtain⟨f,fd,n,U⟩:=j29;cases hfa.symm.trans (g n);let a:Adr:=⟨Ht,HK,HZ,Hy,Hu,Hq,HL,Hz,HJ,HY,BK,o0,o1,BK,t0,t1,t2,fun _ _=>false⟩;have T:Txt K mg a:=⟨z0z.at_ X G,z1z.at_ X G,z2z.at_ X G,z3z.at_ X G,z4z.at_ X G,z5z.at_ X G,z6z.at_ X G,z7z.at_ X G,z8z.at_ X G,z9z.at_ X G,LD.at_ X G,LC.at_ X G,LA.at_ X G,Lz.at_ X G,Ly.at_ X G,g n0,g n1,g n2,g n3,g n4,g n5,g n6,g n7,g II,g Ja,e0,e1,e2,e3,e4,e5,e6,e7,g y0,g y1,g y2,g p0,g p1,
  ⟨_,_,_,l0,rfl,rfl,(show 2<=aB by decide),.cons ⟨_,rfl⟩ (.cons ⟨_,rfl⟩ .nil)⟩,⟨_,_,_,l1,rfl,rfl,(show 2<=aB by decide),.cons ⟨_,rfl⟩ (.cons ⟨_,rfl⟩ .nil)⟩,⟨cb.p,cb.h,cb.o,cb.s⟩,cb.a,cb.b,cb.c,cb.d,cb.e⟩
 have one:∀{P:ac->Prop},P Hq->∀c∈a.cl,P c:=fun h c hc=>by have:=al.mp hc;rw[this];exact h
 have T2:T2y K a:=⟨one ⟨e5,gk.tr⟩,one ⟨e5,gk.ka⟩,gk.na,one ⟨e5,gk.kv⟩,gk.nv,one ⟨e5,gk.kh.trans (congrArg some (decide_eq_true rfl).symm)⟩,gk.nh⟩;refine⟨a,fd,zr.z,fun s v=>?_,fun base _ _=>?_⟩
 ·obtain⟨_,_,_,_,_,_,_,_,_,rfl,_,_⟩:=U.ex;exact .of_eq rfl
 have Y:Yz K mg a:=⟨T,_,X,G⟩;have N:=fun{x st k ps sp}=>@Gf.fn l.prog w K mg base _ x st ps sp k X G;have M:=fun{x q st k ps sp}=>@Gm.mt l.prog w K mg base x q st BK ps sp k T.cl;have r0:=N j0 fun U=>yo U T ;have r1:=N j1 fun U=>vS U T ;have r2:=N j2 fun U=>FX U T ;have r3:=N j3 fun U=>Dx U T r2;have r4:=N j4 fun U=>Bb U T r3;have r5:=N j5 fun U=>Be U T ;have k0:=j6.bk (P:=l.prog) (w:=w) (base:=base) X G cb fun U=>Dy U T;have r7:=M j7 fun U=>wQ U T ;have d7:=Mt.imp r7 (vJ (a:=a));have r8:=M j8 fun U=>vT U T r7;have r9:=M j9 fun U=>uy U T r7;have d9:=Mt.imp r9 (sE (a:=a));have JB:=M j10 fun U=>sH U T r8;have Kh:=M j11 fun U=>wP U T r0 r8;have JZ:=M j12 fun U=>zZ U T Kh;have d12:=Mt.imp JZ (xZ (a:=a));have K8:=M j13 fun U=>Bc U T Kh JB r1;have d13:=Mt.imp K8 (zO (a:=a));have r14:=M j14 fun U=>Dw U T r9 JB r5 r4 r3;have d14:=Mt.imp r14 (AF (a:=a));have r15:=M j15 fun U=>zY U T r9;have d15:=Mt.imp r15 (xY (a:=a));have d16:nW l.prog w K mg base a:=uB Y j16 ;have d17:nU l.prog w K mg base a:=uz Y j17 d16;have K1:la l.prog w K mg base a:=vX Y j18 ;have d19:mL l.prog w K mg base a:=sd Y j19 ;have d20:m7 l.prog w K mg base a:=vW Y j20 d19;have d21:nV l.prog w K mg base a:=uA Y j21 (Lx.at_ X G) K1;have d22:nl l.prog w K mg base a:=sI Y j22 K1;have d23:o6 l.prog w K mg base a:=vV Y j23 K1 d20;have d24:o5 l.prog w K mg base a:=vU Y j24 d23 d14 d20 K1;have d25:nY l.prog w K mg base a:=uC Y j25 K1 d21 k0 d12 d13 d22 d24;have d26:pI l.prog w K mg base a:=yn Y j26 d9 d15 d7;have d27:qj l.prog w K mg base a:=wR Y j27 ;have d28:mK l.prog w K mg base a:=rZ Y j28 T2 d26;exact FW T U d17 d25 d27 d26 d28
def B7(K:aa):Sp:=fun vs H Q E=>∃(c:ac)(ns:List Int),vs=[.ref c]/\ns.length<=63/\Att.WtOk ns/\EH H/\SqL K H c (ns.map V.int)/\(∀v H',v=.bl true->Q v H')
def Gp{K:aa}{a:Adr}(ht:bv K aS "rules"=some none)(vs:List V)(H:Hp)(Q:VK)(E:XK)(h:B7 K vs H Q E):spD K a.Book 1 (wH a) vs H Q E:=by obtain⟨c,ns,rfl,hl,hw,hO,hS,k⟩:=h;exact DM hl hw ht hO hS k
def walk{l:fw}{q:az}{HQ:List Str}{XP:(Str->Option ae)->ba->Prop}{YP:aU->ba->Prop}{d:DefRec}{K:Params->aa}(hn:l.most=some 63)(KM:d.params.defaults=[])(hY:∀(w:aU)(h:ba),YP w h->(K w.params).In h)(F:∀(w:aU)(mg:Str->Option ae)(fa:ac)(h:ba),(K w.params).In h->h.Ns aS mg->mg d.name=some (.ref fa) ->
   ∃(a:Adr)(fd:bJ),bv (K w.params) aS "rules"=some none/\(∀(s:ah)(u:ae),io s fd ⟨[u],[]⟩ [("_law_script",u)])/\∀base:ba,(K w.params).In base->base.Ns aS mg->FnOk l.prog w (K w.params) mg base (CXo l.prog w) 7 fa fd ["_law_script"] (spD (K w.params) a.Book 1 (wH a))) :
  jv q HQ XP YP l.row.toRowW d [] (fun f vs=>js f vs) :=
 L2.walk_ofW (n:=63) (k:=7) (x:="_law_script") (CX:=fun w=>CXo l.prog w) (sp:=fun w=>B7 (K w.params)) hn (by decide) KM ⟨rfl,by decide,by decide⟩ hY
  (fun w mg fa h X G hm=>let⟨a,fd,h0,h1,h2⟩:=F w mg fa h X G hm;⟨fd,h1,fun base b1 b2=>(h2 base b1 b2).imp (Gp h0)⟩)
  (fun _ _ c ns hl hw hO hS=>⟨c,ns,rfl,hl,hw,hO,hS,fun _ _ e=>e⟩) fun _ _ _ _ _ z=>by
  obtain⟨_,_,_,_,_,_,_,_,_,_,_,_,_,z⟩:=z;exact z
end My
def PySem.W.Fast.tw5651176197716044726:Unit:=()
def PySem.W.Fast.tw11723621257384175589:Unit:=()
def PySem.W.Fast.tw5483919339645835467:Unit:=()
def PySem.W.Fast.tw14226742468473532872:Unit:=()
def PySem.W.Fast.tw8281397917432084300:Unit:=()
def PySem.W.Fast.tw6668960295942152352:Unit:=()
def PySem.W.Fast.tw1739240314036336379:Unit:=()
def PySem.W.Fast.tw14813720778423604110:Unit:=()
def PySem.W.Fast.tw17804698951207846127:Unit:=()
def PySem.W.Fast.tw17330107187656132980:Unit:=()
def PySem.W.Fast.tw5999020141628405861:Unit:=()
def PySem.W.Fast.tw15461600070643249159:Unit:=()
def PySem.W.Fast.tw3891432645313945785:Unit:=()
def PySem.W.Fast.tw3509604184792049744:Unit:=()
def PySem.W.Fast.tw13892260722408822615:Unit:=()
def PySem.W.Fast.tw5503352704038297624:Unit:=()
def PySem.W.Fast.tw3495938453295839340:Unit:=()
def PySem.W.Fast.tw9304900002211162629:Unit:=()
def PySem.W.Fast.tw2915948756487661215:Unit:=()
def PySem.W.Fast.tw901727336007313595:Unit:=()
def PySem.W.Fast.tw6421954052995368105:Unit:=()
def PySem.W.Fast.tw4459490315447641842:Unit:=()
def PySem.W.Fast.tw11714676784732170840:Unit:=()
def PySem.W.Fast.tw7303182791331546969:Unit:=()
def PySem.W.Fast.tw3863438299859063751:Unit:=()
def PySem.W.Fast.tw3855288112393214203:Unit:=()
def PySem.W.Fast.tw10977813079921747199:Unit:=()
def PySem.W.Fast.tw15881180437243769762:Unit:=()
def PySem.W.Fast.tw2460784542400328484:Unit:=()
def PySem.W.Fast.tw14122346997301818262:Unit:=()
def PySem.W.Fast.tw6841667572109952228:Unit:=()
def PySem.W.Fast.tw11309022288513489320:Unit:=()
def PySem.W.Fast.tw18114545403470170075:Unit:=()
def PySem.W.Fast.tw1988819174026400498:Unit:=()
def PySem.W.Fast.tw8758333896425083438:Unit:=()
def PySem.W.Fast.tw2191570581964134809:Unit:=()
def PySem.W.Fast.tw3714992945486840994:Unit:=()
def PySem.W.Fast.tw416380771425934956:Unit:=()
def PySem.W.Fast.tw9696397533482619464:Unit:=()
def PySem.W.Fast.tw13042914127167270577:Unit:=()
def PySem.W.Fast.tw2973307040997979942:Unit:=()
def PySem.W.Fast.tw16445646481236027328:Unit:=()
def PySem.W.Fast.tw6754552289203867081:Unit:=()
def PySem.W.Fast.tw16811903101089178742:Unit:=()
def PySem.W.Fast.tw17157851969704561572:Unit:=()
def PySem.W.Fast.tw2285883591172863465:Unit:=()
def PySem.W.Fast.tw1884264814224702615:Unit:=()
def PySem.W.Fast.tw6471082922344632638:Unit:=()
def PySem.W.Fast.tw3916955583618091869:Unit:=()
def PySem.W.Fast.tw2604288406353209105:Unit:=()
def PySem.W.Fast.tw6436823012007958079:Unit:=()
def PySem.W.Fast.tw11831494007917118452:Unit:=()
def PySem.W.Fast.tw4682467809148084119:Unit:=()
def PySem.W.Fast.tw764564107870086140:Unit:=()
def PySem.W.Fast.tw1548001083379505199:Unit:=()
def PySem.W.Fast.tw1599822028274382293:Unit:=()
def PySem.W.Fast.tw9725090225033558968:Unit:=()
def PySem.W.Fast.tw9148896064999110791:Unit:=()
def PySem.W.Fast.tw16644704490969403566:Unit:=()
def PySem.W.Fast.tw5437588031852165153:Unit:=()
def PySem.W.Fast.tw14990873356452941706:Unit:=()
def PySem.W.Fast.tw3512077995606401353:Unit:=()
def PySem.W.Fast.tw10249290347108411440:Unit:=()
def PySem.W.Fast.tw5274025058069709870:Unit:=()
def PySem.W.Fast.tw3772524870283922879:Unit:=()
def PySem.W.Fast.tw12847172004907861360:Unit:=()
def PySem.W.Fast.tw17135853299647918265:Unit:=()
def PySem.W.Fast.tw4094717352368251103:Unit:=()
def PySem.W.Fast.tw4016740914416880051:Unit:=()
def PySem.W.Fast.tw5745879873219307230:Unit:=()
def PySem.W.Fast.tw1843725781024274457:Unit:=()
def PySem.W.Fast.tw12846841157188332134:Unit:=()
def PySem.W.Fast.tw6319802455425196251:Unit:=()
def PySem.W.Fast.tw6070750298211650008:Unit:=()
def PySem.W.Fast.tw7157264322970582762:Unit:=()
def PySem.W.Fast.tw9138323247847471762:Unit:=()
def PySem.W.Fast.tw13750372028489714789:Unit:=()
def PySem.W.Fast.tw11507726529562807089:Unit:=()
def PySem.W.Fast.tw11826804142935116695:Unit:=()
def PySem.W.Fast.tw5423766083597492525:Unit:=()
def PySem.W.Fast.tw16902635306111395621:Unit:=()
def PySem.W.Fast.tw12581873587318009449:Unit:=()
def PySem.W.Fast.tw6197137679279203430:Unit:=()
def PySem.W.Fast.tw11273758218894487200:Unit:=()
def PySem.W.Fast.tw6229944217582858680:Unit:=()
def PySem.W.Fast.tw17482368657473898650:Unit:=()
def PySem.W.Fast.tw11727761504972939441:Unit:=()
def PySem.W.Fast.tw5311261218365718736:Unit:=()
def PySem.W.Fast.tw13764861426388927263:Unit:=()
def PySem.W.Fast.tw15979286152136787223:Unit:=()
def PySem.W.Fast.tw5293791224077322211:Unit:=()
def PySem.W.Fast.tw2192898188286969694:Unit:=()
def PySem.W.Fast.tw7666192831190587877:Unit:=()
def PySem.W.Fast.tw12690801811804375653:Unit:=()
def PySem.W.Fast.tw7651768529251691230:Unit:=()
def PySem.W.Fast.tw16977066545232219977:Unit:=()
def PySem.W.Fast.tw3951849337755648028:Unit:=()
def PySem.W.Fast.tw16277062685921060402:Unit:=()
def PySem.W.Fast.tw8349605163486313888:Unit:=()
def PySem.W.Fast.tw4560592431899803054:Unit:=()
def PySem.W.Fast.tw9366781797064203433:Unit:=()
def PySem.W.Fast.tw11999294523187766562:Unit:=()
def PySem.W.Fast.tw8194904636582103763:Unit:=()
def PySem.W.Fast.tw10641101152988363604:Unit:=()
def PySem.W.Fast.tw7943664868635842127:Unit:=()
def PySem.W.Fast.tw14379762780540458853:Unit:=()
def PySem.W.Fast.tw13267056573008780776:Unit:=()
def PySem.W.Fast.tw6901607694282809569:Unit:=()
def PySem.W.Fast.tw3509275650381632135:Unit:=()
def PySem.W.Fast.tw6984399700973661680:Unit:=()
def PySem.W.Fast.tw2914532510803311888:Unit:=()
def PySem.W.Fast.tw13295943966487623954:Unit:=()
def PySem.W.Fast.tw5195293828205141245:Unit:=()
def PySem.W.Fast.tw4910204100343856640:Unit:=()
def PySem.W.Fast.tw13090339240404729624:Unit:=()
def PySem.W.Fast.tw13768629723052554596:Unit:=()
def PySem.W.Fast.tw10067850692752462899:Unit:=()
def PySem.W.Fast.tw6336302815407339059:Unit:=()
def PySem.W.Fast.tw5460479530585456723:Unit:=()
def PySem.W.Fast.tw16272884933339963004:Unit:=()
def PySem.W.Fast.tw2212660748794190158:Unit:=()
def PySem.W.Fast.tw10433540385262375074:Unit:=()
open PySem.W
set_option maxRecDepth 100000 in
set_option maxHeartbeats 0 in
theorem PySem.Challenge.cw_wholeowners_k61_whom_a_house_reaches_holds : PySem.Challenge.rw_wholeowners_k61_whom_a_house_reaches.Holds := by
 w_on;o_law;k_head;(case hw=>w_witness2)
 k_fill
 refine My.walk (l:=PySem.Challenge.rw_wholeowners_k61_whom_a_house_reaches) rfl rfl (fun w h Y=>PySem.W.kIn_of Y) ?F
 case F =>
  intro w mg fa h KX G Ky;apply My.all_mk KX G Ky
  all_goals first
   |(apply L2.gf<;>k_is)
   |(apply L2.gm<;>k_is)
   |(apply My.gxa;(focus k_is);(focus k_exc);all_goals k_is)
   |(apply My.Gk.mk;(focus k_is);all_goals (first|kit_is|kernel_rfl))
   |(apply L2.gx;(focus k_is);(focus k_exc);all_goals k_is)
   |(apply L2.gt<;>k_is)
   |(apply L2.gi;k_is)
   |(apply L2.Gz.mk;k_is)
   |(apply L2.Gb.mk<;>k_is)
   |k_is

