import PyProof.Rows.All
import Wide.All
import OpenK.AllK
import Wide.FinOn
import Lean
import PyProof.EqAt
import PyProof.EqKinds
import PyProof.TupleCall
import KE.KLam
import KE.KNest
import PySem.Challenge.RW_wholeowners_k14_whole_one_thing_more
import KE.KNestM
import KE.KIsAll
import PyProof.EnumFor
import PyProof.EnumStmt
import PyProof.EnumMake
import PyProof.StrOps2
import PyProof.ZipIter
import PyProof.Rows.SumAny
import PyProof.AttrMissHeap
import KE.KDictOf
import PyProof.SumWalk
import PyProof.DictWalks
import KE.KEqDict
theorem Zf{p}[i:Decidable p](h:decide p=true):p:=of_decide_eq_true h
theorem Zg{p}[i:Decidable p](h:p):decide p=true:=decide_eq_true h
theorem Zh{p}[i:Decidable p](h:¬p):decide p=false:=decide_eq_false h
open Option renaming some→Za,none→Zb
theorem Zc{c:Prop}{h:Decidable c}(k:c){α}{t e:α}:ite c t e=t:=if_pos k
theorem Zd{c:Prop}{h:Decidable c}(k:¬c){α}{t e:α}:ite c t e=e:=if_neg k
open PySem.W renaming Frag->aa,findIn->aW,nsIn->bR,fnOf->b6,keepIn->cF,emptyDict->cG,instObj->dq,plainGet->d8,hasDictIn->eS,makesIn->fE,codeIn->fR,specialIn->f8,plainOver->f9,mroIn->gh,OpenLaw->gC,isFn->gF,hideAll->gH,lookIn->g5,plainGet_of->im,callWith_K->iA,methodObj->iK,takesIn->jc,takerIn->jd,mg_of->jC,excIn->jD,cellsFrom_some->jP,methodCall_KW->jY,hideAll_get->kq,callWith_K0->kr,of_hideAll->kN,handedIn->k6,WalkO->k7
open List renaming length_map->ac,mem_cons_of_mem->ae,mem_cons->af,mem_cons_self->ai,mem_map->aj,map_cons->ao,mem_singleton->aq,nodup_cons->ar,getElem?_eq_getElem->aw,map_map->aA,map_append->aB,getElem?_map->aD,mem_append_right->aH,length_append->aM,size_toArray->aN,mem_append->aP,map_congr_left->aQ,replicate->aR,getElem?_eq_some_iff->aS,length_cons->bc,range->bF,find?_cons->bG,lookup_cons->bJ,mem_filter->bK,nodup_append->bN,mem_append_left->bU,eq_nil_of_length_eq_zero->bV,getElem_mem->b5,mem_iff_getElem?->b7,length->cg,find?_eq_none->ci,mem_range->cH,append_nil->cK,getElem?_eq_none->cM,not_mem_nil->cN,map_nil->cP,any_cons->cQ,length_eq_zero_iff->cW,replicate_succ->cZ,lookup->da,any_eq_true->de,all_eq_true->dg,pairwise_cons->di,getElem?_append_right->dk,getElem?_append_left->dw,drop_eq_getElem_cons->dy,take_add_one->dC,mem_of_getElem?->dD,length_take->dJ,length_replicate->dU,flatten_cons->dZ,mem_of_find?_eq_some->eI,filterMap_cons->eJ,find?_some->eQ,find?_map->fc,drop_eq_nil_of_le->fg,length_filter_le->fA,take_length->fB,filter_map->fN,length_pos_iff->fS,getElem?_range->fT,nodup_nil->gc,length_drop->gJ,getElem?_replicate->gK,getElem?_cons_zero->gM,getElem?_cons_succ->gN,filter_cons->gO,take_of_length_le->gW,any_map->gX,nil_append->g8,take_append_drop->ii,mem_of_mem_take->iu,filter_eq_self->iJ,sum_cons->iM,all_cons->iN,mem_filterMap->iQ,findIdx?_eq_some_iff_getElem->iW,pairwise_map->i6,find?_isSome->i7,find?_append->i8,ext_getElem?->i9,append_assoc->ja,map_fst_zip->ji,map_id->jo,of_mem_zip->jv,length_nil->jw,perm_ext_iff_of_nodup->jN,zipWith->kF,range_succ_eq_map->kG,getElem?_set_self->kH,all_map->kI,cons_lt_cons_iff->kS,mem_of_mem_drop->kU,getElem?_set_ne->kW,drop_eq_nil_iff->kX,filter_sublist->lh,ne_nil_of_mem->lF,foldl->lG
open Sum renaming inr->ag,inl->jb
open PySem renaming Value->ah,Addr->ak,wpAny_bind->ap,Shared->ax,starEach->aC,sizeLine->aJ,Program->aK,wpAny_pure->aL,wpAny->aT,World->a6,mainGlobals->ba,Expr->bo,Heap->bx,wpAny_mono->bO,bootBuiltins->bP,Stmt->bQ,backTo->b8,foldedSetIterable->ce,compareOp->cm,FuncData->cz,Around->cE,assignEach->cR,behindInMarks->cT,attributeBase->cU,keywordEach->cY,mem_of_lookup->dG,lookup_relabel_local->dH,binaryOp->dI,Scope->dM,Spec->dO,swapsWith->dQ,sysModules->dW,wpAny_passesOwn->d7,wpAny_holding->ed,wpAny_truthy_bool->ej,wpAny_newObj_type->eA,backToKw->eK,Paired->eT,wpAny_comprehension_free->eZ,wpAny_Call_Name_kw->fm,cLine->fD,Keyword->fG,getMethod->fQ,wpAny_standAt->fV,sliceBounds->fY,bindArgs->fZ,standAt->gv,codeAny->gw,tupleKind_room_in1->gE,wpAny_pyIter_list->gS,swapsWithSole->gY,swappedStores->gZ,reprText->ij,NameKind->ip,getItem->iz,wpAny_execs_nil->iH,letOwnedTupleGo->iI,strIterType->iS,callWith->iT,IntMulOk->iV,valueAt->iY,tupleKind->iZ,call_meets->jj,builtinsNs->jk,wpAny_assign_Name->jy,codeAny_mono->jz,callerA->jA,call_meetsIn->jB,BindsTo->jG,PyData->jQ,IsPart->jR,Arguments->jT,sizeLine_eq->jX,Within->kj,setItem->kn,notedBy->ko,atKey->kM,call->kY,assignInOrder->kZ,bindL->lw,bindC->ly,Builtin->lz
open And renaming intro->al
open Nat renaming le_refl->am,lt_of_lt_of_le->ay,ne_of_lt->aE,le_trans->aI,zero_le->aX,lt_of_le_of_lt->aZ,lt_succ_self->bT,pow_le_pow_right->cj,two_pow_pos->cq,lt_succ_of_lt->cA,lt_irrefl->dS,le_of_ble_eq_true->dY,le_of_not_lt->eC,le_of_lt->eE,zero_add->ft,lcm->fK,le_succ->fL,pow_succ->f6,ne_of_gt->f7,eq_of_mul_eq_mul_left->gz,lt_trans->g7,pow_lt_pow_right->iC,pow_add->ju,le_antisymm->jH,mod_two_eq_zero_or_one->jU,mul_assoc->kl,add_assoc->km,add_sub_cancel_left->kD,mul_comm->kP,le_of_eq->kQ,add_comm->kR,mul_pos->lg,mul_le_mul_left->lC,add_le_add_left->lE
open PySem.Heap renaming get?_push_of_some->au,lt_size->az,get?_push_size->a7,SameBut->i0,size_push->jI,get?_update_other->ky
open Int renaming gcd->aF,mul_assoc->aU,mul_le_mul_of_nonneg_right->aV,mul_comm->br,le_of_lt->bA,gcd_pos_of_ne_zero_right->bH,mul_pos->bI,gcd_dvd_right->cB,mul_ediv_cancel_left->cD,emod_lt_of_pos->cO,emod_nonneg->dE,eq_of_mul_eq_mul_right->ei,toNat_of_nonneg->eL,mul_right_comm->eV,mul_nonpos_of_nonneg_of_nonpos->eX,natCast_dvd_natCast->eY,mul_left_comm->fu,natAbs_dvd_natAbs->fC,gcd_dvd_left->fJ,natAbs_natCast->gn,ofNat_le->g9,le_trans->hJ,neg_mul->iD,natAbs_neg->iE,natAbs_mul->iF,mul_nonneg->iG,mul_nonpos_of_nonpos_of_nonneg->iX,zero_mul->jf,gcd_mul_left->jp,ediv_eq_of_eq_mul_right->jO,le_of_mul_le_mul_right->jW,one_mul->li,mul_one->lr
open PySem.Str renaming ofString->aG,empty->cC
open Option.some renaming inj->aO
open Bool renaming false_ne_true->aY,eq_iff_iff->bZ,and_eq_true->cx,or_eq_true->dA,false_and->fj,eq_false_iff->gA,true_and->iO,false_or->kh
open PySem.PyData renaming strOk->bi,eqv->bu,eqvAll->bY,str->fw,canLay0->ib,depth->iP,canLayAll0->lc
open PySem.Value renaming ref->bj,int->fW,str->iq,none->k8,bool->k9
open Rat renaming mul_nonneg->bL,natCast_le_natCast->cy,le_trans->cI,intCast_natCast->cJ,intCast_mul->cL,divInt->cX,mul_le_mul_of_nonneg_left->dP,intCast_lt_intCast->fk,intCast_add->fP,add_zero->fX,num_divInt_den->gg,divInt_eq_div->gB,intCast_eq_zero_iff->gP,intCast_sub->ia,mul_pos->iw,le_refl->iy,divInt_nonneg_iff_of_pos_right->iR,natCast_mul->jx,divInt_eq_divInt_iff->ki,zero_add->kJ,mul_zero->kK,le_of_lt->kL,divInt_add_divInt->kT
open PySem.NameKind renaming free->bM,cell->io
open False renaming elim->bS
open PySem.Builtin.Int renaming intBits->bW
open Ne renaming symm->bX
open Option renaming isSome_map->cS,isSome_iff_exists->dB,isSome_eq_false_iff->d6,isNone_iff_eq_none->ee,map_eq_none_iff->gI,map->jt,map_eq_some_iff->kg,getD_none->lA
open Sum.inr renaming inj->du
open Classical renaming propDecidable->dF,byContradiction->fU
open PyProof.Rows renaming callWith_type1->dL,slot_tuple_getitem->dN,envOfC->eU,AllBare->gU,subscriptTail->jh,assignInOrder_cons->jn
open PySem.Builtin.Slice renaming slicePlaces->dR,sliceAdjust->fI,sliceApplied->iL
open PySem.Builtin.Tuple renaming tupleExact->dX
open List.cons renaming inj->eg
open ForInStep renaming yield->eB
open Or renaming inl->eO,inr->ig
open PySem.Calls renaming spliced_cons->eP,callWith_builtin->fb,evalArgs_plain->fH,spliced_nil->gu,Name_function_global->jF,Constant_str->lf
open True renaming intro->eR
open PySem.Spec renaming ltCps->fF
open PySem.Builtin.List renaming listTooLong->fM
open Array renaming length_toList->fO,append_assoc->lv
open PySem.F renaming plainAttrs_dict->gy,slot_list_getattribute->gQ,slot_dict_get->gR,excBase_ValueError->jm,slot_dict_getitem->jq,slot_dict_values->jE,slot_list_index->jJ,plainAttrs_list->jK,args_dict_get_3->jL,entry_dict_get->jS,slot_dict_pop->ke,slot_list_append->kO
open PySem.PassesOwn renaming never->gD
open PySem.W.WData renaming int->gG,weightAll->gT
open PySem.Expr renaming Subscript->ir
open PySem.Paired renaming length->iB,snoc->ku
open PySem.Obj renaming mapSeq->iU
open PySem.Builtin.Dict renaming updateFrom->je,pairItems->jg
open Nat.succ renaming inj->jM
open List.Sublist renaming refl->jV
open PySem.SeqAt.EqAt renaming str_int->jZ,int_str->ka
open PySem.Around renaming under->kf,under_plainId->kC
open PySem.Heap.DictOf renaming new->kA
open PySem.Code renaming isFrame->kB
open PySem.SeqAt renaming EqAt->la
set_option compiler.extract_closed false
set_option bootstrap.genMatcherCode false
set_option genSizeOf false
noncomputable section
set_option Elab.async false
set_option linter.all false
set_option autoImplicit true
set_option maxRecDepth 100000
namespace L2
open PySem PySem.Spec PyProof.Rows
abbrev Key:=Sum Int Str
def AH:Key->ah->Bool
 |.inl k,v=>Value.isInt k v
 |.inr x,v=>Value.isStrOf x v
def keyH(w:a6):Key->Int
 |.inl k=>hashInt k
 |.inr x=>hashStr w x
def mR:∀{k:Key}{v:ah},AH k v=true->(∃i t,k=jb i/\v=fW i t)\/(∃x t,k=ag x/\v=iq x t)
 |.inl i,v,h=>by
  obtain⟨t,e⟩:=Value.isInt_shape (k:=i) (v:=v) h;exact .inl ⟨i,t,rfl,e⟩
 |.inr x,v,h=>by obtain⟨t,e⟩:=Value.isStrOf_shape (x:=x) (v:=v) h;exact .inr ⟨x,t,rfl,e⟩
def Hm(i)(t):AH (.inl i) (.int i t)=true:=by simp[AH,Value.isInt]
def Hk(x)(t):AH (.inr x) (.str x t)=true:=by simp[AH,Value.isStrOf]
def Op(a b):decide ((jb a:Key)=jb b)=(a==b):=by
 by_cases e:a=b
 ·subst e;simp
 ·have h:¬(jb a:Key)=jb b:=λq=>e (Sum.inl.inj q);rw[Zh h];exact(beq_eq_false_iff_ne.mpr e).symm
def Ar(a b):decide ((ag a:Key)=ag b)=decide (a=b):=by
 by_cases e:a=b
 ·subst e;simp
 ·have h:¬(ag a:Key)=ag b:=λq=>e (du q);rw[Zh h,Zh e]
def Oo(a)(b):decide ((jb a:Key)=ag b)=false:=Zh (λq=>nomatch q)
def Om(a)(b):decide ((ag a:Key)=jb b)=false:=Zh (λq=>nomatch q)
def mK(prog:aK)(w:a6):PySem.KeyKind prog w Key where
 is:=AH
 hash:=keyH w
 inj:=λv a b ha hb=>by
  rcases mR ha with⟨i,t,rfl,rfl⟩|⟨x,t,rfl,rfl⟩
  ·rcases mR hb with⟨j,u,rfl,e⟩|⟨y,u,rfl,e⟩
   ·injection e with e1 _;rw[e1]
   ·exact nomatch e
  ·rcases mR hb with⟨j,u,rfl,e⟩|⟨y,u,rfl,e⟩
   ·exact nomatch e
   ·injection e with e1 _;rw[e1]
 byValue:=λk v h=>by rcases mR h with⟨i,t,rfl,rfl⟩|⟨x,t,rfl,rfl⟩<;>rfl
 pyHash:=λhv h=>by
  rcases mR hv with⟨i,t,rfl,rfl⟩|⟨x,t,rfl,rfl⟩
  ·exact wpAny_pyHash_int h
  ·exact wpAny_pyHash_str h
 eqBool:=λhu hv h=>by
  rcases mR hu with⟨i,t,rfl,rfl⟩|⟨x,t,rfl,rfl⟩
  ·rcases mR hv with⟨j,u,rfl,rfl⟩|⟨y,u,rfl,rfl⟩
   ·rw[Op] at h;exact wpAny_eqBool_int h
   ·rw[Oo] at h;exact ka i t y u _ _ _ _ h
  ·rcases mR hv with⟨j,u,rfl,rfl⟩|⟨y,u,rfl,rfl⟩
   ·rw[Om] at h;exact jZ x t j u _ _ _ _ h
   ·rw[Ar] at h;exact wpAny_eqBool_str h
 «strs»:=λk x t v h=>by
  rcases mR h with⟨i,u,rfl,e⟩|⟨y,u,rfl,e⟩
  ·exact nomatch e
  ·injection e with e1 _
   subst e1;cases v<;>rfl
def Dh(prog)(w)(i)(t):(mK prog w).is (.inl i) (.int i t)=true:=Hm i t
def Dg(prog)(w)(x)(t):(mK prog w).is (.inr x) (.str x t)=true:=Hk x t
inductive V where
 |non|bl (b:Bool)|int (i:Int)|str (x:Str)|byt (b:Array UInt8)|flt (b:UInt64)|ref (a:ak)|ty (n:String)
 deriving DecidableEq
def RelV:V->ah->Prop
 |.non,u=>u=k8
 |.bl b,u=>u=k9 b
 |.int i,u=>∃t,u=fW i t
 |.str x,u=>∃t,u=iq x t
 |.byt b,u=>∃t,u=Value.bytes b t
 |.flt b,u=>∃t,u=Value.float b t
 |.ref a,u=>u=bj a
 |.ty n,u=>u=Value.type n
abbrev Vals:List V->List ah->Prop:=eT RelV
theorem Vals.length(r:Vals xs us):xs.length=us.length:=iB r
theorem Vals.get:∀{xs:List V}{us:List ah}{i:Nat}{x:V},Vals xs us->xs[i]?=Za x->∃u,us[i]?=Za u/\RelV x u
 |_,_,_,_,.nil,e=>by simp at e
 |_,_,0,_,.cons r _,e=>by simp at e;subst e;exact⟨_,rfl,r⟩
 |_,_,i+1,x,.cons _ t,e=>by obtain⟨u,h1,h2⟩:=Vals.get (i:=i) (x:=x) t (by simpa using e);exact⟨u,by simpa using h1,h2⟩
theorem Vals.set(r:RelV x u):∀{xs:List V}{us:List ah}(i:Nat),Vals xs us->Vals (xs.set i x) (us.set i u)
 |_,_,_,.nil=>.nil
 |_,_,0,.cons _ t=>.cons r t
 |_,_,i+1,.cons q t=>.cons q (Vals.set r i t)
theorem Vals.append:∀{xs ys:List V}{us ws:List ah},Vals xs us->Vals ys ws->Vals (xs++ys) (us++ws)
 |_,_,_,_,.nil,s=>s
 |_,_,_,_,.cons r t,s=>.cons r (Vals.append t s)
theorem Vals.take:∀{xs:List V}{us:List ah}(n:Nat),Vals xs us->Vals (xs.take n) (us.take n)
 |_,_,0,_=>.nil
 |_,_,_+1,.nil=>.nil
 |_,_,n+1,.cons r t=>.cons r (Vals.take n t)
theorem Vals.drop:∀{xs:List V}{us:List ah}(n:Nat),Vals xs us->Vals (xs.drop n) (us.drop n)
 |_,_,0,r=>r
 |_,_,_+1,.nil=>.nil
 |_,_,n+1,.cons _ t=>Vals.drop n t
def RelO:Option V->Option ah->Prop
 |some v,Za u=>RelV v u
 |none,Zb=>True
 |_,_=>False
def KV{κ:Type}:List (κ×V)->List (κ×ah)->Prop:=eT λ(p:κ×V)(q:κ×ah)=>p.1=q.1/\RelV p.2 q.2
def kV:Key->V
 |.inl i=>.int i
 |.inr x=>.str x
inductive HO where
 /-- a list -/
 |lst (xs:List V)
 /-- a tuple (never changes) -/
 |tup (xs:List V)
 /-- a dict whose keys are ints and texts;one whose keys are tuples of ints and texts (the empty one is both) -/
 |dK (kvs:List (Key×V))|dT (kvs:List (List Key×V))
 /-- a set of ints: its members,its size -/
 |set (S:Int->Bool) (n:Nat)
 /-- an instance of the class at C,its dict at dx,its attributes -/
 |ins (C dx:ak) (fs:List (Str×V))
 /-- the dict of the instance at x -/
 |own (x:ak)
 /-- the dict of an exception -/
 |xd (fs:List (Str×V))
 /-- a bound method,f of x -/
 |met (f x:ak)
 /-- a range object lo,lo+1,.. below hi -/
 |rng (lo hi:Int)
 /-- a thing that is known to the object (the script;a dict while a loop walks it): read,never written while it is so -/
 |frz (o:Obj) (u:HO)
 /-- a code object's table -/
 |tbl (ps:Array ah)
 /-- any QP thing,by what is true of its one object (a def of one's own: SetO a S n:=HO.ext λh=>..) -/
 |ext (φ:bx->Prop)
abbrev Hp:=ak->Option HO
def upd(H:Hp)(a:ak)(o:HO):Hp:=λb=>if b=a then Za o else H b
def lN:upd H a o a=Za o:=by unfold upd;rw[Zc rfl]
def lK(h:b≠a):upd H a o b=H b:=by unfold upd;rw[Zd h]
def wI:upd (upd H a o) a u=upd H a u:=by
 funext b;unfold upd;split<;>rfl
def CT{H:Hp}{a b:ak}{o u:HO}(h:H a=Za o)(h':H b=Za u)(d:o≠u):a≠b:=by intro e;subst e;rw[h] at h';exact d (aO h')
def lR{H:Hp}{a b:ak}{o:HO}(h:H a=Za o)(h':H b=Zb):a≠b:=by intro e;subst e;rw[h] at h';cases h'
section
variable(P:aK)(w:a6)
def ObjOk(H:Hp)(h:bx)(a:ak):HO->Prop
 |.lst xs=>xs.length<=aJ/\∃(its:List ah)(n:Nat),Vals xs its/\h.get? a=Za { cls:=.type "list",data:=.seq its.toArray n }
 |.tup xs=>xs.length<=aJ/\∃its:List ah,Vals xs its/\IsTup h a its.toArray
 |.dK kvs=>kvs.length<=aJ/\(a==dW)=false/\∃vs,KV kvs vs/\h.DictOf (mK P w) a vs
 |.dT kvs=>kvs.length<=aJ/\(a==dW)=false/\∃xs:List (List Key×ak×ah),
   eT (λ(p:List Key×V)(q:List Key×ak×ah)=>p.1=q.1/\H q.2.1=Za (.tup (p.1.map kV))/\RelV p.2 q.2.2) kvs xs /\
   ∃o es ep,h.get? a=Za o/\o.ExactDict/\o.data=.dict es ep/\es.toList=xs.map (entryOfKey (iZ (mK P w)))/\(xs.map (·.1)).Nodup
 |.set S n=>h.SetOf (intKind P w) a S n
 |.ins C dx fs=>H dx=Za (.own a)/\fs.length<=1000/\dx≠a/\h.get? a=Za (dq C dx) /\
   ∃mA,h.Ns1 dx mA/\(∀f,RelO (fs.lookup f) (mA f))/\kj mA (fs.map (·.1))
 |.own _=>∃o,h.get? a=Za o
 |.xd fs=>∃mA,h.Ns1 a mA/\∀f,RelO (fs.lookup f) (mA f)
 |.rng lo hi=>∃t u v,h.get? a=Za { cls:=.type "range",data:=.fields #[.int lo t,.int hi u,.int 1 v] }
 |.frz o u=>h.get? a=Za o/\ObjOk H h a u
 |.tbl ps=>h.get? a=Za { cls:=.none,data:=.fields ps }
 |.met f x=>h.get? a=Za (iK (.ref f) (.ref x))
 |.ext φ=>φ h/\(∃o,h.get? a=Za o)/\∀h1 h2:bx,φ h1->(∀o,h1.get? a=Za o->h2.get? a=Za o)->φ h2
def HOk(H:Hp)(h:bx):Prop:=∀a o,H a=Za o->ObjOk P w H h a o
end
section
variable{P:aK}{w:a6}{H H':Hp}{h h':bx}{a:ak}{o:HO}
theorem ObjOk.lt(x:ObjOk P w H h a o):a<h.objs.size:=by
 cases o with
 |lst xs=>obtain⟨_,_,_,_,e⟩:=x;exact az e
 |tup xs=>obtain⟨_,_,_,p⟩:=x;exact p.lt
 |dK kvs=>obtain⟨_,_,_,_,o,_,_,e,_⟩:=x;exact az e
 |dT kvs=>obtain⟨_,_,_,_,o,_,_,e,_⟩:=x;exact az e
 |set S n=>obtain⟨o,_,_,_,e,_⟩:=x;exact az e
 |ins C dx fs=>obtain⟨_,_,_,e,_⟩:=x;exact az e
 |own y=>obtain⟨_,e⟩:=x;exact az e
 |xd fs=>obtain⟨_,⟨_,_,_,e,_⟩,_⟩:=x;exact az e
 |rng lo hi=>obtain⟨_,_,_,e⟩:=x;exact az e
 |frz ob u=>obtain⟨e,_⟩:=x;exact az e
 |tbl ps=>exact az (show h.get? a=Za _ from x)
 |met f y=>exact az (show h.get? a=Za _ from x)
 |ext φ=>obtain⟨_,⟨_,e⟩,_⟩:=x;exact az e
theorem eT.mapP:∀{la1:List α}{la2:List β},eT F la1 la2->(∀a b,F a b->G a b)->eT G la1 la2
 |_,_,.nil,_=>.nil
 |_,_,.cons r t,f=>.cons (f _ _ r) (eT.mapP t f)
def ObjOk.stay(x:ObjOk P w H h a o)(k:∀b u,(b=a\/H b=Za (.own a))->h.get? b=Za u->h'.get? b=Za u)(ho:∀b,H b=Za (.own a)->H' b=Za (.own a))(ht:∀b xs,H b=Za (.tup xs)->H' b=Za (.tup xs)):ObjOk P w H' h' a o:=by
 induction o with
 |lst xs=>obtain⟨z,its,n,r,e⟩:=x;exact⟨z,its,n,r,k _ _ (.inl rfl) e⟩
 |tup xs=>obtain⟨z,its,r,ob,e,c⟩:=x;exact⟨z,its,r,ob,k _ _ (.inl rfl) e,c⟩
 |dK kvs=>obtain⟨z,y,vs,r,ob,es,ep,e,c⟩:=x;exact⟨z,y,vs,r,ob,es,ep,k _ _ (.inl rfl) e,c⟩
 |dT kvs =>
  obtain⟨z,y,xs,r,ob,es,ep,e,c⟩:=x;exact⟨z,y,xs,eT.mapP r λp q z=>⟨z.1,ht _ _ z.2.1,z.2.2⟩,ob,es,ep,k _ _ (.inl rfl) e,c⟩
 |set S n=>obtain⟨ob,es,ep,t,e,c⟩:=x;exact⟨ob,es,ep,t,k _ _ (.inl rfl) e,c⟩
 |ins C dx fs =>
  obtain⟨d,z,ne,e,mA,⟨od,es,ep,e2,c⟩,r⟩:=x;exact⟨ho _ d,z,ne,k _ _ (.inl rfl) e,mA,⟨od,es,ep,k _ _ (.inr d) e2,c⟩,r⟩
 |own y=>obtain⟨ob,e⟩:=x;exact⟨ob,k _ _ (.inl rfl) e⟩
 |xd fs=>obtain⟨mA,⟨od,es,ep,e,c⟩,r⟩:=x;exact⟨mA,⟨od,es,ep,k _ _ (.inl rfl) e,c⟩,r⟩
 |rng lo hi=>obtain⟨t,u,v,e⟩:=x;exact⟨t,u,v,k _ _ (.inl rfl) e⟩
 |frz ob u ih=>obtain⟨e,q⟩:=x;exact⟨k _ _ (.inl rfl) e,ih q⟩
 |tbl ps =>
  have e:h.get? a=Za { cls:=.none,data:=.fields ps }:=x;show h'.get? a=Za { cls:=.none,data:=.fields ps };exact k a _ (.inl rfl) e
 |met f y =>
  have e:h.get? a=Za (iK (.ref f) (.ref y)):=x;show h'.get? a=Za (iK (.ref f) (.ref y));exact k a _ (.inl rfl) e
 |ext φ=>obtain⟨p,⟨o,e⟩,st⟩:=x;exact⟨st _ _ p λo q=>k _ _ (.inl rfl) q,⟨o,k _ _ (.inl rfl) e⟩,st⟩
theorem HOk.lt(x:HOk P w H h)(e:H a=Za o):a<h.objs.size:=(x a o e).lt
def HOk.fresh(x:HOk P w H h)(e:h.objs.size<=a):H a=none:=by
 cases q:H a with
 |none=>rfl
 |some u=>exact absurd (ay (x.lt q) e) (dS _)
def HOk.kept(x:HOk P w H h)(k:∀b u,h.get? b=Za u->h'.get? b=Za u):HOk P w H h':=λa o e =>
 (x a o e).stay (λb u _ q=>k b u q) (λ_ q=>q) λ_ _ q=>q
def HOk.laid(x:HOk P w H h)(k:∀b u,h.get? b=Za u->h'.get? b=Za u)(hp:h.objs.size<=a)(new:ObjOk P w (upd H a o) h' a o):HOk P w (upd H a o) h':=λb u e=>by
 have hn:=x.fresh hp;by_cases hb:b=a
 ·subst hb;rw[lN] at e;cases e;exact new
 ·rw[lK hb] at e;exact(x b u e).stay (λc v _ q=>k c v q) (λc q=>by rw[lK (lR q hn)];exact q) λc xs q=>by rw[lK (lR q hn)];exact q
end
def Rd(H:Hp)(a:ak)(u:HO):Prop:=H a=Za u\/∃o,H a=Za (.frz o u)
def Rd.ok(r:Rd H a u)(x:HOk P w H h):ObjOk P w H h a u:=by
 rcases r with r|⟨o,r⟩
 ·exact x a u r
 ·obtain⟨_,q⟩:=x a _ r;exact q
def Mut:Option HO->Prop
 |some (.lst _)=>True
 |some (.dK _)=>True
 |some (.dT _)=>True
 |some (.set _ _)=>True
 |some (.ins _ _ _)=>True
 |some (.ext _)=>True
 |_=>False
section
variable{P:aK}{w:a6}{H:Hp}{h h':bx}{x e:ak}{o':HO}
def HOk.write(ok:HOk P w H h)(mu:Mut (H x))(he:e=x\/H e=Za (.own x))(k:∀b u,b≠e->h.get? b=Za u->h'.get? b=Za u)(Sx:∃u,h'.get? e=Za u)(new:ObjOk P w (upd H x o') h' x o'):HOk P w (upd H x o') h':=λb u q=>by
 have SZ:∀c y,H c=Za (.own y)->c≠x:=λc y r z=>by subst z;rw[r] at mu;exact mu
 have UV:∀c xs,H c=Za (.tup xs)->c≠x:=λc xs r z=>by subst z;rw[r] at mu;exact mu
 by_cases hb:b=x
 ·subst hb;rw[lN] at q;cases q;exact new
 ·rw[lK hb] at q;by_cases hbe:b=e
  ·have q':H b=Za (.own x):=by
    rcases he with z|z
    ·exact absurd (hbe.trans z) hb
    ·rw[hbe];exact z
   rw[q] at q';cases q';obtain⟨v,hv⟩:=Sx;exact⟨v,by rw[hbe];exact hv⟩
  ·refine(ok b u q).stay (λc v hc r=>k c v ?_ r) (λc r=>by rw[lK (SZ c b r)];exact r) λc xs r=>by rw[lK (UV c xs r)];exact r
   rcases hc with rfl|hc
   ·exact hbe
   ·rintro rfl
    rcases he with z|z
    ·exact SZ c b hc z
    ·rw[hc] at z;cases z;exact hb rfl
end
structure Un(fs ex:List ak)(H H':Hp)(h h':bx):Prop where
 keep:∀b o,h.get? b=Za o->H b=Zb->b∉fs->b∉ex->h'.get? b=Za o
 slot:∀b o,h.get? b=Za o->H b=Zb->b∈fs->b∉ex->∃sl,h'.get? b=Za { o with slots:=sl }
 free:∀b o,h.get? b=Za o->H b=Zb->b∉ex->H' b=Zb
 there:∀b o,h.get? b=Za o->b∉ex->∃o',h'.get? b=Za o'
 tups:∀b xs,H b=Za (.tup xs)->H' b=Za (.tup xs)
 frzs:∀b o u,H b=Za (.frz o u)->H' b=Za (.frz o u)
 tbls:∀b ps,H b=Za (.tbl ps)->∃more,H' b=Za (.tbl (ps++more))
section
variable{fs fs' ex Us:List ak}{H H1 H2:Hp}{h h1 h2 h':bx}{a x e:ak}{o:HO}
def Un.any(u:Un fs ex H H1 h h1)(q:h.get? b=Za ob)(n:H b=Zb)(hx:b∉ex):∃sl,h1.get? b=Za { ob with slots:=sl }:=by
 by_cases hb:b∈fs
 ·exact u.slot b ob q n hb hx
 ·exact⟨ob.slots,u.keep b ob q n hb hx⟩
def Un.kept(k:∀b u,h.get? b=Za u->h'.get? b=Za u):Un fs ex H H h h' :=
 ⟨λb ob q _ _ _=>k b ob q,λb ob q _ _ _=>⟨ob.slots,k b ob q⟩,λ_ _ _ n _=>n,λb ob q _=>⟨ob,k b ob q⟩,λ_ _ q=>q,λ_ _ _ q=>q,λ_ ps q=>⟨#[],by rw[q];simp⟩⟩
def Un.refl:Un fs ex H H h h:=Un.kept λ_ _ q=>q
def Un.laid(k:∀b u,h.get? b=Za u->h'.get? b=Za u)(hp:h.objs.size<=a)(hn:H a=Zb):Un fs ex H (upd H a o) h h' where
 keep:=λb u q _ _ _=>k b u q
 slot:=λb u q _ _ _=>⟨u.slots,k b u q⟩
 free:=λb u q n _=>by rw[lK (aE (ay (az q) hp))];exact n
 there:=λb u q _=>⟨u,k b u q⟩
 tups:=λb xs q=>by rw[lK (lR q hn)];exact q
 frzs:=λb u xs q=>by rw[lK (lR q hn)];exact q
 tbls:=λb ps q=>⟨#[],by rw[lK (lR q hn),q];simp⟩
def Un.write(mu:Mut (H x))(he:e=x\/H e=Za (.own x))(k:∀b u,b≠e->h.get? b=Za u->h'.get? b=Za u)(Sx:∃u,h'.get? e=Za u):Un fs ex H (upd H x o) h h':=by
 have hx:∀b,H b=Zb->b≠x:=λb n z=>by subst z;rw[n] at mu;exact mu
 have hb:∀b,H b=Zb->b≠e:=λb n z=>by
  subst z;rcases he with r|r
  ·exact hx b n r
  ·rw[n] at r;cases r
 have hm:∀b u,H b=Za u->¬Mut (Za u)->b≠x:=λb u q nm z=>by subst z;rw[q] at mu;exact nm mu
 refine⟨λb u q n _ _=>k b u (hb b n) q,λb u q n _ _=>⟨u.slots,k b u (hb b n) q⟩,λb u q n _=>by rw[lK (hx b n)];exact n,λb u q _=>?_,
  λb xs q=>by rw[lK (hm b _ q λz=>z)];exact q,λb u xs q=>by rw[lK (hm b _ q λz=>z)];exact q,λb ps q=>⟨#[],by rw[lK (hm b _ q λz=>z),q];simp⟩⟩
 by_cases hbe:b=e
 ·subst hbe;exact Sx
 ·exact⟨u,k b u hbe q⟩
end
def trk(h:bx)(H:Hp):List ak:=(bF h.objs.size).filter λa=>(H a).isSome
def E1(h:bx)(H:Hp):bx:=gH h (trk h H)
def Hs(h)(H):(E1 h H).objs.size=h.objs.size:=PySem.W.hideAll_size _ _
def Jd(e:h.get? b=Za o)(n:H b=Zb):(E1 h H).get? b=Za o :=
 kq _ e λhm=>by have q:(H b).isSome=true:=(bK.mp hm).2;rw[n] at q;simp at q
def LM(e:(E1 h H).get? b=Za o):h.get? b=Za o/\H b=none:=by
 have e':h.get? b=Za o:=kN (trk h H) e;refine⟨e',?_⟩;cases q:H b with
 |none=>rfl
 |some x =>
  have hm:b∈trk h H:=bK.mpr ⟨cH.mpr (az e'),by simp[q]⟩;have z:(E1 h H).get? b=none:=PySem.W.hideAll_none (trk h H) hm;rw[z] at e;cases e
def MK(g h:bx)(L:ak):List (ak×Obj):=(bF h.objs.size).filterMap λa=>if a=L\/(g.get? a).isSome=true then Zb else(h.get? a).map λo=>(a,o)
def qL(g h:bx)(L d:ak):List (ak×Obj):=(MK g h L).filter λp=>decide (p.1≠d)
structure Mod(K:aa)(mg:Str->Option ah)(base:bx):Prop where
 kin:K.In base
 glob:base.Ns ba mg
 blt:∃mb,base.Ns jk mb/\∀x:Str,x≠"__name__"->mb x=bP x
 nolimit:base.NoLimit
structure Cx where
 prog:aK
 w:a6
 K:aa
 mg:Str->Option ah
 base:bx
 A:cE
 N:List Str
 sa0:ax
 Ha0:Hp
 env:Env
 outer:List Env
 stack:List Env
 ex:List ak
 fn:Str->Bool
 calm:Bool
 pn:List (ak×Obj)
 xe:ah->ax->Prop
def frs(l:List Env):List ak:=l.filterMap (·.frame)
abbrev Cx.fs(X:Cx):List ak:=frs X.outer
def Vis(sc:dM)(x:Str):Prop:=sc.names.lookup x=Za .local\/sc.names.lookup x=Za .cell\/sc.names.lookup x=Za .free
def Loc(sc:dM)(x:Str):Prop:=sc.names.lookup x=Za .local\/sc.names.lookup x=Za .cell
def Look(env:Env)(h:bx)(m:Str->Option ah)(x:Str)(u:ah):Prop :=
 (env.kindOf x=Za .local/\m x=Za u)\/((env.kindOf x=Za .cell\/env.kindOf x=Za .free)/\∃c,env.cells.lookup x=Za c/\h.IsCell c (Za u))
structure Cx.Ok(X:Cx):Prop where
 mod:Mod X.K X.mg X.base
 kind:X.env.scope.kind=.function
 glob:X.env.globals=ba
 blt:X.env.builtins=jk
 above:X.sa0.heap.objs.size<=X.env.locals
 inj:∀x y c,X.env.cells.lookup x=Za c->X.env.cells.lookup y=Za c->x=y
 has:∀x,(X.env.kindOf x=Za .cell\/X.env.kindOf x=Za .free)->∃c,X.env.cells.lookup x=Za c
 cab:∀x c,X.fn x=true->X.env.cells.lookup x=Za c->X.sa0.heap.objs.size<=c
 hd:X.calm=true->X.A.handled=Zb
 frames:X.A.frames=Za X.stack
 stk:X.stack=X.outer\/(X.stack=X.env::X.outer/\X.env.frame=Za X.env.locals)
 exf:∀b∈X.ex,b≠X.env.locals/\∀x c,X.env.cells.lookup x=Za c->c≠b
 bs:∀b o,X.base.get? b=Za o->X.sa0.heap.get? b=Za o/\X.Ha0 b=Zb
 bsz:X.base.objs.size<=X.sa0.heap.objs.size
 noex:∀b o,X.base.get? b=Za o->b∉X.ex
 exfs:∀b∈X.ex,b∉X.fs
 funs:X.sa0.heap.FunFrames X.base X.outer
 frf:∀b∈X.fs,X.Ha0 b=Zb
structure Inv(X:Cx)(O2:List (ak×Obj))(O:List (Option V))(H:Hp)(s:ax):Prop where
 ok:X.Ok
 os:s.os=X.sa0.os
 bare:gU s.gens
 base:Un X.fs X.ex X.Ha0 H X.sa0.heap s.heap
 loc:∃m,s.heap.Ns X.env.locals m/\∀(i:Nat)(x:Str)(v:V),X.N[i]?=Za x->O[i]?=Za (Za v)->Vis X.env.scope x->∃u,RelV v u/\Look X.env s.heap m x u
 cell:∀x c,X.env.cells.lookup x=Za c->∃v,s.heap.IsCell c v
 free:H X.env.locals=Zb
 freeC:∀x c,X.env.cells.lookup x=Za c->H c=Zb
 pin:∀p∈X.pn++O2,s.heap.get? p.1=Za p.2/\H p.1=Zb/\p.1≠X.env.locals/\p.1∉X.fs/\∀v,p.2.data≠.cell v
 hok:HOk X.prog X.w H s.heap
 len:O.length=X.N.length
section
variable{X:Cx}{O2:List (ak×Obj)}{O:List (Option V)}{H H':Hp}{s:ax}{h':bx}
def Cx.Ok.nofr(ok:X.Ok)(e:X.base.get? b=Za o):b∉X.fs:=λhb=>by have:=(ok.funs.mem hb).1;rw[e] at this;cases this
theorem Inv.bs(I:Inv X O2 O H s):∀b o,X.base.get? b=Za o->s.heap.get? b=Za o/\H b=none:=λb o e =>
 ⟨I.base.keep b o (I.ok.bs b o e).1 (I.ok.bs b o e).2 (I.ok.nofr e) (I.ok.noex b o e),I.base.free b o (I.ok.bs b o e).1 (I.ok.bs b o e).2 (I.ok.noex b o e)⟩
def Inv.bk(I:Inv X O2 O H s):∀b o,X.base.get? b=Za o->s.heap.get? b=Za o:=λb o e=>(I.bs b o e).1
theorem Inv.mod(I:Inv X O2 O H s):Mod X.K X.mg X.base:=I.ok.mod
def Inv.kIn(I:Inv X O2 O H s):X.K.In s.heap:=I.ok.mod.kin.keeps I.bk
theorem Inv.lt(I:Inv X O2 O H s):X.env.locals<s.heap.objs.size:=let⟨_,hn,_⟩:=I.loc;hn.lt
def Inv.sz(I:Inv X O2 O H s):X.sa0.heap.objs.size<=s.heap.objs.size:=aI I.ok.above (eE I.lt)
def Inv.nofs(I:Inv X O2 O H s)(h:s.heap.objs.size<=a):a∉X.fs:=λhb=>by obtain⟨_,o,ho,_⟩:=I.ok.funs.mem hb;exact absurd (ay (az ho) (aI I.sz h)) (dS _)
def Inv.cne(I:Inv X O2 O H s):∀x c,X.env.cells.lookup x=Za c->c≠X.env.locals:=λx c e z=>by obtain⟨v,o,ho,hd⟩:=I.cell x c e;obtain⟨m,⟨o',es,ep,Rj,Tz,_⟩,_⟩:=I.loc;rw[z,Rj] at ho;cases ho;rw[Tz] at hd;cases hd
theorem Inv.funs(I:Inv X O2 O H s):s.heap.FunFrames X.base X.outer:=by
 have all:∀(l:List Env),(∀b∈frs l,b∈X.fs)->X.sa0.heap.FunFrames X.base l->s.heap.FunFrames X.base l:=by
  intro l;induction l with
  |nil=>intro _ _;trivial
  |cons env r ih =>
   intro hs hl;obtain⟨hk,⟨L,o,hf,hn,ho,hd⟩,hr⟩:=hl;have hL:L∈X.fs:=hs L (by unfold frs;rw[eJ,hf];exact ai);obtain⟨sl,e⟩:=I.base.slot L o ho (I.ok.frf L hL) hL λz=>I.ok.exfs L z hL;exact⟨hk,⟨L,_,hf,hn,e,hd⟩,ih (λb hb=>hs b (by unfold frs;rw[eJ,hf];exact ae _ hb)) hr⟩
 exact all X.outer (λ_ hb=>hb) I.ok.funs
theorem Inv.stack(I:Inv X O2 O H s):s.heap.FunFrames X.base X.stack:=by
 rcases I.ok.stk with e|⟨e,hf⟩
 ·rw[e];exact I.funs
 ·rw[e];obtain⟨m,hn,_⟩:=I.loc;refine .cons (by rw[I.ok.kind];decide) hf hn ?_ I.funs;exact Heap.get?_none_of_le (aI I.ok.bsz I.ok.above)
def Inv.stkSub(I:Inv X O2 O H s):∀b∈frs X.stack,b∈X.env.locals::X.fs:=λb hb=>by
 rcases I.ok.stk with e|⟨e,hf⟩
 ·rw[e] at hb;exact ae _ hb
 ·rw[e] at hb;unfold frs at hb;rw[eJ,hf] at hb;exact hb
def Inv.stkFree(I:Inv X O2 O H s):∀b∈frs X.stack,H b=none:=λb hb=>by
 rcases af.mp (I.stkSub b hb) with e|hb
 ·rw[e];exact I.free
 ·obtain⟨_,o,ho,_⟩:=I.ok.funs.mem hb;exact I.base.free b o ho (I.ok.frf b hb) λz=>I.ok.exfs b z hb
def Inv.step{g':Array GenState}{t':Nat}{d':Drawn}{ch:List ak}(I:Inv X O2 O H s)(QM:∀b∈ch,(b∈X.ex\/X.sa0.heap.objs.size<=b)/\b≠X.env.locals/\(∀x c,X.env.cells.lookup x=Za c->c≠b)/\∀p∈X.pn++O2,p.1≠b)(keep:∀b o,b≠X.env.locals->b∉X.fs->b∉ch->s.heap.get? b=Za o->H b=Zb->h'.get? b=Za o)(slot:∀b o,b≠X.env.locals->b∈X.fs->b∉ch->s.heap.get? b=Za o->H b=Zb->∃sl,h'.get? b=Za { o with slots:=sl })(free:∀b o,b∉ch->s.heap.get? b=Za o->H b=Zb->H' b=Zb)(there:∀b o,b∉ch->s.heap.get? b=Za o->∃o',h'.get? b=Za o')(tups:∀b xs,H b=Za (.tup xs)->H' b=Za (.tup xs))(frzs:∀b o u,H b=Za (.frz o u)->H' b=Za (.frz o u))(tbls:∀b ps,H b=Za (.tbl ps)->∃more,H' b=Za (.tbl (ps++more)))(ns:∀m,s.heap.Ns X.env.locals m->h'.Ns X.env.locals m)(hok:HOk X.prog X.w H' h')(hg:gU g') :
  Inv X O2 O H' { s with heap:=h',gens:=g',drawn:=d',toks:=t' }:=by
 have neL:∀b o,X.sa0.heap.get? b=Za o->b≠X.env.locals:=λb o e=>aE (ay (az e) I.ok.above);have Uc:∀b o,X.sa0.heap.get? b=Za o->b∉X.ex->b∉ch:=λb o e hx hb=>by
  rcases(QM b hb).1 with z|z
  ·exact hx z
  ·exact absurd (ay (az e) z) (dS _)
 have RG:∀x c,X.env.cells.lookup x=Za c->∀v,s.heap.IsCell c v->h'.IsCell c v:=λx c e v ⟨o,ho,hd⟩=>by
  have S8:c∉ch:=λz=>(QM c z).2.2.1 x c e rfl;by_cases hc:c∈X.fs
  ·obtain⟨sl,q⟩:=slot c o (I.cne x c e) hc S8 ho (I.freeC x c e);exact⟨_,q,hd⟩
  ·exact⟨o,keep c o (I.cne x c e) hc S8 ho (I.freeC x c e),hd⟩
 refine⟨I.ok,I.os,hg,⟨λb o e n hb hx=>?_,λb o e n hb hx=>?_,λb o e n hx=>?_,λb o e hx=>?_,λb xs e=>tups b xs (I.base.tups b xs e),λb o xs e=>frzs b o xs (I.base.frzs b o xs e),λb ps e=>?_⟩,?_,λx c e=>?_,?_,λx c e=>?_,λp hp=>?_,hok,I.len⟩
 ·exact keep b o (neL b o e) hb (Uc b o e hx) (I.base.keep b o e n hb hx) (I.base.free b o e n hx)
 ·obtain⟨sl,e1⟩:=I.base.slot b o e n hb hx;obtain⟨sl',e2⟩:=slot b _ (neL b o e) hb (Uc b o e hx) e1 (I.base.free b o e n hx);exact⟨sl',e2⟩
 ·obtain⟨o',e1⟩:=I.base.there b o e hx;exact free b o' (Uc b o e hx) e1 (I.base.free b o e n hx)
 ·obtain⟨o',e1⟩:=I.base.there b o e hx;exact there b o' (Uc b o e hx) e1
 ·obtain⟨m1,e1⟩:=I.base.tbls b ps e;obtain⟨m2,e2⟩:=tbls b _ e1;exact⟨m1++m2,by rw[e2,lv]⟩
 ·obtain⟨m,hn,hl⟩:=I.loc;refine⟨m,ns m hn,λi x v e1 e2 e3=>?_⟩;obtain⟨u,r,l⟩:=hl i x v e1 e2 e3;refine⟨u,r,?_⟩;rcases l with l|⟨k,c,e,z⟩
  ·exact .inl l
  ·exact .inr ⟨k,c,e,RG x c e _ z⟩
 ·obtain⟨v,z⟩:=I.cell x c e;exact⟨v,RG x c e v z⟩
 ·obtain⟨m,⟨o,_,_,ho,_⟩,_⟩:=I.loc;exact free _ o (λz=>(QM _ z).2.1 rfl) ho I.free
 ·obtain⟨v,o,ho,hd⟩:=I.cell x c e;exact free c o (λz=>(QM c z).2.2.1 x c e rfl) ho (I.freeC x c e)
 ·obtain⟨e,n,ne,nf,d⟩:=I.pin p hp;have S8:p.1∉ch:=λz=>(QM p.1 z).2.2.2 p hp rfl;exact⟨keep p.1 p.2 ne nf S8 e n,free p.1 p.2 S8 e n,ne,nf,d⟩
def Inv.un{t':Nat}(I:Inv X O2 O H s)(u:Un X.fs [] H H' s.heap h')(hok:HOk X.prog X.w H' h'):Inv X O2 O H' { s with heap:=h',toks:=t' }:=by
 obtain⟨m,⟨o,es,ep,ho,r⟩,_⟩:=id I.loc;obtain⟨sl,hL⟩:=u.any ho I.free (by simp);exact I.step (g':=s.gens) (d':=s.drawn) (ch:=[]) (λ_ z=>nomatch z) (λb o _ hb _ e n=>u.keep b o e n hb (by simp)) (λb o _ hb _ e n=>u.slot b o e n hb (by simp)) (λb o _ e n=>u.free b o e n (by simp)) (λb o _ e=>u.there b o e (by simp)) u.tups u.frzs u.tbls (λm' hm=>by obtain⟨o',VS,Ut,Rj,r'⟩:=hm;rw[ho] at Rj;cases Rj;exact⟨_,VS,Ut,hL,r'⟩) hok I.bare
def Inv.call{g':Array GenState}{t':Nat}{d':Drawn}{ch:List ak}(I:Inv X O2 O H s)(u:Un (frs X.stack) ch H H' s.heap h')(hok:HOk X.prog X.w H' h')(hg:gU g')(QM:∀b∈ch,(b∈X.ex\/X.sa0.heap.objs.size<=b)/\b≠X.env.locals/\(∀x c,X.env.cells.lookup x=Za c->c≠b)/\∀p∈X.pn++O2,p.1≠b) :
  Inv X O2 O H' { s with heap:=h',gens:=g',drawn:=d',toks:=t' }:=by
 obtain⟨m,⟨o,es,ep,ho,r⟩,_⟩:=id I.loc;obtain⟨sl,hL⟩:=u.any ho I.free λz=>(QM _ z).2.1 rfl;exact I.step (ch:=ch) QM (λb o hL hb hc e n=>u.keep b o e n (λz=>(af.mp (I.stkSub b z)).elim hL hb) hc) (λb o _ _ hc e n=>u.any e n hc) (λb o hc e n=>u.free b o e n hc) (λb o hc e=>u.there b o e hc) u.tups u.frzs u.tbls (λm' hm=>by obtain⟨o',VS,Ut,Rj,r'⟩:=hm;rw[ho] at Rj;cases Rj;exact⟨_,VS,Ut,hL,r'⟩) hok hg
def Inv.turned{t':Nat}{it:ak}(I:Inv X O2 O H s)(k:∀b o,b≠it->s.heap.get? b=Za o->h'.get? b=Za o)(hn:H it=Zb)(hL:it≠X.env.locals)(h1:it∈X.ex\/X.sa0.heap.objs.size<=it)(h2:∀x c,X.env.cells.lookup x=Za c->c≠it)(h3:∀p∈X.pn++O2,p.1≠it):Inv X O2 O H { s with heap:=h',toks:=t' }:=by
 have QR:∀b u,H b=Za u->b≠it:=λb u e z=>by rw[z,hn] at e;cases e
 refine I.step (g':=s.gens) (d':=s.drawn) (ch:=[it]) (λb hb=>?_) (λb o _ _ hc e _=>k b o (λz=>hc (by simp[z])) e) (λb o _ _ hc e _=>⟨o.slots,k b o (λz=>hc (by simp[z])) e⟩) (λ_ _ _ _ n=>n)
  (λb o hc e=>⟨o,k b o (λz=>hc (by simp[z])) e⟩) (λ_ _ e=>e) (λ_ _ _ e=>e) (λb ps e=>⟨#[],by rw[e];simp⟩) (λm hm=>?_) (λb u e=>?_) I.bare
 ·have e:b=it:=by simpa using hb
  subst e;exact⟨h1,hL,h2,h3⟩
 ·obtain⟨o,es,ep,ho,r⟩:=hm;exact⟨o,es,ep,k _ o (bX hL) ho,r⟩
 ·refine(I.hok b u e).stay (λc v hc q=>k c v ?_ q) (λ_ q=>q) λ_ _ q=>q;rcases hc with z|z
  ·rw[z];exact QR b u e
  ·exact QR c _ z
def Inv.tok(I:Inv X O2 O H s)(t):Inv X O2 O H { s with toks:=t }:=I.un (h':=s.heap) (t':=t) Un.refl I.hok
theorem Inv.kept(I:Inv X O2 O H s)(k:∀b u,s.heap.get? b=Za u->h'.get? b=Za u):Inv X O2 O H { s with heap:=h',toks:=t' }:=I.un (Un.kept k) (I.hok.kept k)
theorem Inv.laid(I:Inv X O2 O H s)(k:∀b u,s.heap.get? b=Za u->h'.get? b=Za u)(hp:s.heap.objs.size<=a)(new:ObjOk X.prog X.w (upd H a o) h' a o) :
  Inv X O2 O (upd H a o) { s with heap:=h',toks:=t' }:=I.un (Un.laid k hp (I.hok.fresh hp)) (I.hok.laid k hp new)
theorem Inv.write(I:Inv X O2 O H s)(mu:Mut (H x))(he:e=x\/H e=Za (.own x))(k:∀b u,b≠e->s.heap.get? b=Za u->h'.get? b=Za u)(Sx:∃u,h'.get? e=Za u)(new:ObjOk X.prog X.w (upd H x o) h' x o):Inv X O2 O (upd H x o) { s with heap:=h',toks:=t' }:=I.un (Un.write mu he k Sx) (I.hok.write mu he k Sx new)
def Inv.pins_of(I:Inv X O2 O H s)(h:∀p∈pins',s.heap.get? p.1=Za p.2/\H p.1=Zb/\p.1≠X.env.locals/\p.1∉X.fs/\∀v,p.2.data≠.cell v):Inv X pins' O H s :=
 ⟨I.ok,I.os,I.bare,I.base,I.loc,I.cell,I.free,I.freeC,λp hp=>(aP.mp hp).elim (λz=>I.pin p (bU _ z)) (h p),I.hok,I.len⟩
def DR{N:List Str}(hN:N.Nodup){i j:Nat}{x:Str}(a:N[i]?=Za x)(b:N[j]?=Za x):i=j:=by obtain⟨h1,e1⟩:=aS.mp a;obtain⟨h2,e2⟩:=aS.mp b;exact(List.getElem_inj hN).mp (e1.trans e2.symm)
def xh{M:Model}{A:cE}{E:ah->ax->Prop}{i:Nat}{x:Str}{v:V}{u:ah}{Q:Unit->ax->Prop}(I:Inv X O2 O H s)(hN:X.N.Nodup)(hi:X.N[i]?=Za x)(hx:Loc X.env.scope x)(r:RelV v u)(h:∀s',Inv X O2 (O.set i (Za v)) H s'->(∃a,i0 a s.heap s'.heap/\(a=X.env.locals\/X.env.cells.lookup x=Za a))->Q () s')(hf:X.fn x=true\/X.env.scope.names.lookup x=Za .local:=by first|exact .inl rfl|exact .inr rfl|assumption):aT M A (storeName X.env x u) Q E s:=by
 obtain⟨m,hn,hl⟩:=id I.loc;have VA:(X.env.scope.kind==.class||(X.env.scope.kind==.module&&X.env.locals != X.env.globals))=false:=by rw[I.ok.kind];rfl
 have hiσ:i<O.length:=by rw[I.len];exact(aS.mp hi).1
 have cne:=I.cne;have Qq:∀{a:ak}{h':bx},(∃o,s.heap.get? a=Za o/\H a=Zb)->i0 a s.heap h'->HOk X.prog X.w H h':=λ{a h'} ha hs b ob e=>by
  obtain⟨_,_,Rz⟩:=ha;refine(I.hok b ob e).stay (λc w' hc q=>(hs.2 c ?_).trans q) (λ_ q=>q) λ_ _ q=>q
  rintro rfl
  rcases hc with rfl|hc
  ·rw[Rz] at e;cases e
  ·rw[Rz] at hc;cases hc
 rcases hx with hk|hk
 ·refine wpAny_storeName_local hk hn (λh' QS hs=>?_) VA;obtain⟨oL,_,_,Tk,_⟩:=id hn;refine h _ ⟨I.ok,I.os,I.bare,⟨λb o e n hb hx=>?_,λb o e n hb hx=>?_,I.base.free,λb o e hx=>?_,I.base.tups,I.base.frzs,I.base.tbls⟩,⟨_,QS,λj y v' e1 e2 e3=>?_⟩,λy c e=>?_,I.free,I.freeC,λp hp=>?_,Qq ⟨oL,Tk,I.free⟩ hs,by simpa using I.len⟩ ⟨_,hs,.inl rfl⟩
  ·exact(hs.2 b (aE (ay (az e) I.ok.above))).trans (I.base.keep b o e n hb hx)
  ·obtain⟨sl,e1⟩:=I.base.slot b o e n hb hx;exact⟨sl,(hs.2 b (aE (ay (az e) I.ok.above))).trans e1⟩
  ·obtain⟨o',e1⟩:=I.base.there b o e hx;exact⟨o',(hs.2 b (aE (ay (az e) I.ok.above))).trans e1⟩
  ·by_cases hj:j=i
   ·subst hj;rw[hi] at e1;cases e1;rw[kH hiσ] at e2;cases e2;exact⟨u,r,.inl ⟨hk,by simp⟩⟩
   ·rw[kW (bX hj)] at e2;obtain⟨u',r',q⟩:=hl j y v' e1 e2 e3;refine⟨u',r',?_⟩;rcases q with⟨k,e⟩|⟨k,c,e,z⟩
    ·refine .inl ⟨k,?_⟩;have:y≠x:=λe=>hj (DR hN e1 (e▸hi));simp[this,e]
    ·exact .inr ⟨k,c,e,z.sameBut hs (cne y c e)⟩
  ·obtain⟨w',z⟩:=I.cell y c e;exact⟨w',z.sameBut hs (cne y c e)⟩
  ·obtain⟨e,n,ne,nf,d⟩:=I.pin p hp;exact⟨(hs.2 p.1 ne).trans e,n,ne,nf,d⟩
 ·have QC:X.fn x=true:=by
   rcases hf with z|z
   ·exact z
   ·rw[z] at hk;cases hk
  obtain⟨c,hc⟩:=I.ok.has x (.inl hk);obtain⟨w',z⟩:=I.cell x c hc;refine wpAny_storeName_cell I.ok.kind hk hc z (λh' hc' hs=>?_);obtain⟨oc,hoc,Vk⟩:=id z;refine h { s with heap:=h' } ⟨I.ok,I.os,I.bare,⟨λb o e n hb hx=>?_,λb o e n hb hx=>?_,I.base.free,λb o e hx=>?_,I.base.tups,I.base.frzs,I.base.tbls⟩,⟨m,hn.sameBut hs (bX (cne x c hc)),λj y v' e1 e2 e3=>?_⟩,λy c' e=>?_,I.free,I.freeC,λp hp=>?_,Qq ⟨oc,hoc,I.freeC x c hc⟩ hs,by simpa using I.len⟩ ⟨c,hs,.inr hc⟩
  ·exact(hs.2 b (aE (ay (az e) (I.ok.cab x c QC hc)))).trans (I.base.keep b o e n hb hx)
  ·obtain⟨sl,e1⟩:=I.base.slot b o e n hb hx;exact⟨sl,(hs.2 b (aE (ay (az e) (I.ok.cab x c QC hc)))).trans e1⟩
  ·obtain⟨o',e1⟩:=I.base.there b o e hx;exact⟨o',(hs.2 b (aE (ay (az e) (I.ok.cab x c QC hc)))).trans e1⟩
  ·by_cases hj:j=i
   ·subst hj;rw[hi] at e1;cases e1;rw[kH hiσ] at e2;cases e2;exact⟨u,r,.inr ⟨.inl hk,c,hc,hc'⟩⟩
   ·rw[kW (bX hj)] at e2;obtain⟨u',r',q⟩:=hl j y v' e1 e2 e3;refine⟨u',r',?_⟩;rcases q with q|⟨k,c',e,z'⟩
    ·exact .inl q
    ·refine .inr ⟨k,c',e,z'.sameBut hs ?_⟩
     rintro rfl
     exact hj (DR hN e1 (I.ok.inj _ _ _ e hc▸hi))
  ·by_cases hcc:c'=c
   ·subst hcc;exact⟨_,hc'⟩
   ·obtain⟨w2,z2⟩:=I.cell y c' e;exact⟨w2,z2.sameBut hs hcc⟩
  ·obtain⟨e,n,ne,nf,d⟩:=I.pin p hp;refine⟨(hs.2 p.1 ?_).trans e,n,ne,nf,d⟩;intro q;rw[q,hoc] at e;have q':oc=p.2:=aO e;exact d w' (by rw[<-q'];exact Vk)
def uy(I:Inv X O2 O H s)(hN:X.N.Nodup)(hi:X.N[i]?=Za x)(hx:Loc X.env.scope x)(r:RelV v u)(h:∀s',Inv X O2 (O.set i (Za v)) H s'->Q () s')(hf:X.fn x=true\/X.env.scope.names.lookup x=Za .local:=by first|exact .inl rfl|exact .inr rfl|assumption):aT M A (storeName X.env x u) Q E s :=
 xh I hN hi hx r (λs' I' _=>h s' I') hf
def Inv.call'(I:Inv X O2 O H s)(ho:s'.os=s.os)(u:Un (frs X.stack) ch H H' s.heap s'.heap)(hok:HOk X.prog X.w H' s'.heap)(hg:gU s'.gens)(QM:∀b∈ch,(b∈X.ex\/X.sa0.heap.objs.size<=b)/\b≠X.env.locals/\(∀x c,X.env.cells.lookup x=Za c->c≠b)/\∀p∈X.pn++O2,p.1≠b):Inv X O2 O H' s':=by
 obtain⟨h',g',d',t',o'⟩:=s';have e:o'=s.os:=ho;subst e;exact I.call (g':=g') (t':=t') (d':=d') u hok hg QM
end
abbrev XK:=ah->Option ak->Hp->Prop
abbrev St:=List (Option V)
abbrev VK:=V->Hp->Prop
abbrev TE:=St->Hp->VK->Prop
abbrev TT:=St->Hp->(Bool->Hp->Prop)->Prop
abbrev TA:=St->Hp->(List V->Hp->Prop)->Prop
structure Ends where
 nx:St->Hp->Prop
 rt:VK
 bk:St->Hp->Prop:=λ_ _=>False
 ct:St->Hp->Prop:=λ_ _=>False
abbrev TS:=Ends->St->Hp->Prop
def EP(X:Cx)(O2:List (ak×Obj))(O:St)(Q:VK)(u:ah)(s':ax):Prop:=∃v H',Inv X O2 O H' s'/\RelV v u/\Q v H'
def TP(X:Cx)(O2:List (ak×Obj))(O:St)(Q:Bool->Hp->Prop)(b:Bool)(s':ax):Prop:=∃H',Inv X O2 O H' s'/\Q b H'
def AP(X:Cx)(O2:List (ak×Obj))(O:St)(Q:List V->Hp->Prop)(us:List ah)(s':ax):Prop:=∃vs H',Inv X O2 O H' s'/\Vals vs us/\Q vs H'
def SP(X:Cx)(O2:List (ak×Obj))(D:Ends)(f:Flow)(s':ax):Prop :=
 match f with
 |.next=>∃σ' H',Inv X O2 σ' H' s'/\D.nx σ' H'
 |.brk=>∃σ' H',Inv X O2 σ' H' s'/\D.bk σ' H'
 |.cont=>∃σ' H',Inv X O2 σ' H' s'/\D.ct σ' H'
 |.ret u=>∃v σ' H',Inv X O2 σ' H' s'/\RelV v u/\D.rt v H'
def PE(X:Cx)(e:bo)(t:TE):Prop :=
 ∀(O2:List (ak×Obj))(s:ax)(O:St)(H:Hp)(Q:VK),Inv X O2 O H s->t O H Q->aT (model X.prog X.w) X.A (eval e X.env) (EP X O2 O Q) X.xe s
def PT(X:Cx)(e:bo)(t:TT):Prop :=
 ∀(O2:List (ak×Obj))(s:ax)(O:St)(H:Hp)(Q:Bool->Hp->Prop),Inv X O2 O H s->t O H Q->aT (model X.prog X.w) X.A (isTrue e X.env (eval e X.env)) (TP X O2 O Q) X.xe s
def PW(X:Cx)(e:bo)(t:TT):Prop :=
 ∀(whole:Sem ah)(O2:List (ak×Obj))(s:ax)(O:St)(H:Hp)(Q:Bool->Hp->Prop),Inv X O2 O H s->t O H Q->aT (model X.prog X.w) X.A (isTrue e X.env whole) (TP X O2 O Q) X.xe s
def PW.pt(h:PW X e t):PT X e t:=h _
def PA(X:Cx)(es:List bo)(t:TA):Prop :=
 ∀(pos:Pos)(O2:List (ak×Obj))(s:ax)(O:St)(H:Hp)(Q:List V->Hp->Prop),Inv X O2 O H s->t O H Q->aT (model X.prog X.w) X.A (spliced (b8 pos (aC es X.env))) (AP X O2 O Q) X.xe s
def PS(X:Cx)(st:bQ)(t:TS):Prop :=
 ∀(O2:List (ak×Obj))(s:ax)(O:St)(H:Hp)(D:Ends),Inv X O2 O H s->t D O H->aT (model X.prog X.w) X.A (exec st X.env) (SP X O2 D) X.xe s
def PSs(X:Cx)(st:List bQ)(t:TS):Prop :=
 ∀(O2:List (ak×Obj))(s:ax)(O:St)(H:Hp)(D:Ends),Inv X O2 O H s->t D O H->aT (model X.prog X.w) X.A (execs st X.env) (SP X O2 D) X.xe s
def e4b{α β:Sort _}{p q:α->β->Prop}{R:Prop}(k:∀x y,p x y->q x y->R)(h:∃x y,p x y/\q x y):R:=h.elim λx h=>h.elim λy h=>k x y h.1 h.2
def e4{α β:Sort _}{p q r:α->β->Prop}{R:Prop}(k:∀x y,p x y->q x y->r x y->R)(h:∃x y,p x y/\q x y/\r x y):R:=h.elim λx h=>h.elim λy h=>k x y h.1 h.2.1 h.2.2
def e3{α:Sort _}{p q:α->Prop}{R:Prop}(k:∀x,p x->q x->R)(h:∃x,p x/\q x):R:=h.elim λx h=>k x h.1 h.2
def thn(h:aT M A t Q E s)(hQ:∀a s,Q a s->Q' a s):aT M A t Q' E s:=bO h hQ λ_ _ x=>x
section
variable{X:Cx}
def HX(i:Nat):TE:=λO H Q=>∃v,O[i]?=Za (Za v)/\Q v H
def tC(v:V):TE:=λ_ H Q=>Q v H
abbrev NDb(x:Str):Prop:=(x==("__debug__":Str))=false
def JV(hN:X.N[i]?=Za x)(hv:Vis X.env.scope x)(hd:NDb x:=by decide)(Ql:(x==("__classdict__":Str))=false:=by decide):PE X (.Name x pos) (HX i):=by
 intro O2 s O H Q I h;obtain⟨v,e,h⟩:=h;obtain⟨m,hn,hl⟩:=I.loc;obtain⟨u,r,l⟩:=hl i x v hN e hv;have Pq:EP X O2 O Q u s:=⟨v,H,I,r,h⟩;rcases l with⟨hk,hm⟩|⟨hk,c,hc,PK⟩
 ·exact wpAny_Name (wpAny_loadName_local I.ok.kind hk hn hm Pq) hd
 ·rcases hk with hk|hk
  ·exact wpAny_Name (wpAny_loadName_cell I.ok.kind hk hc PK Pq) hd
  ·exact wpAny_Name (wpAny_loadName_free I.ok.kind hk hc PK Pq Ql) hd
def pe_int{i j pos}:PE X (.Constant (.int i) j pos) (tC (.int i)):=λ_ _ _ H _ I h=>wpAny_Constant_int ⟨.int i,H,I.tok _,⟨_,rfl⟩,h⟩
def pe_bl{b j pos}:PE X (.Constant (.bool b) j pos) (tC (.bl b)):=λ_ _ _ H _ I h=>Constant_bool ⟨.bl b,H,I,rfl,h⟩
def pe_str{x j pos}:PE X (.Constant (.str x) j pos) (tC (.str x)):=λ_ _ _ H _ I h=>lf ⟨.str x,H,I.tok _,⟨_,rfl⟩,h⟩
def Gl(X:Cx)(x:Str):Prop:=X.env.kindOf x=Za .globalImplicit
def wV(I:Inv X O2 O H s)(hg:Gl X x)(hm:X.mg x=Za u)(h:Q u s)(hd:NDb x:=by decide):aT (model X.prog X.w) X.A (eval (.Name x pos) X.env) Q E s :=
 jF I.ok.kind hg (Calls.loadGlobal_global (by rw[I.ok.glob];exact I.mod.glob.keeps I.bk) hm h) hd
def Aq(I:Inv X O2 O H s)(hg:Gl X x)(hm:X.mg x=Zb)(hv:bP x=Za u)(h:Q u s)(hn:x≠"__name__":=by decide)(hd:NDb x:=by decide):aT (model X.prog X.w) X.A (eval (.Name x pos) X.env) Q E s:=by
 obtain⟨mb,h1,h2⟩:=I.mod.blt;exact jF I.ok.kind hg (Calls.loadGlobal_builtin (by rw[I.ok.glob];exact I.mod.glob.keeps I.bk) hm (by rw[I.ok.blt];exact h1.keeps I.bk) ((h2 x hn).trans hv) h) hd
def rE(hg:Gl X x)(hm:X.mg x=Za u)(r:RelV v u)(hd:NDb x:=by decide):PE X (.Name x pos) (tC v) :=
 λ_ _ _ H _ I h=>wV I hg hm ⟨v,H,I,r,h⟩ hd
variable{a b:bo}{ta tb:TE}{pos:Pos}
def PC(X:Cx)(op:CmpOp)(a b:bo)(t:TE):Prop :=
 ∀(O2:List (ak×Obj))(s:ax)(O:St)(H:Hp)(Q:VK),Inv X O2 O H s->t O H Q ->
  aT (model X.prog X.w) X.A (eval a X.env) (λv Pf=>aT (model X.prog X.w) X.A (eval b X.env) (λu Qi=>aT (model X.prog X.w) X.A (cm op v u) (EP X O2 O Q) X.xe Qi) X.xe Pf) X.xe s
def IP(b)(h:op≠.In)(h2:op≠.NotIn):cT op b=false:=by
 have e1:(op==CmpOp.In)=false:=by cases op<;>first|rfl|exact absurd rfl h
 have e2:(op==CmpOp.NotIn)=false:=by cases op<;>first|rfl|exact absurd rfl h2
 cases b<;>simp[cT,e1,e2]
def tB(t:TE):TT:=λO H Q=>t O H λx H1=>∃c,x=.bl c/\Q c H1
def JZ(h:PC X op a b t)(h1:cT op b=false:=by first|exact IP _ (by decide) (by decide)|rfl):PE X (.Compare a [op] [b] pos) t:=λO2 s O H Q I hw=>wpAny_Compare1 (h O2 s O H Q I hw) h1
def vX(h:PE X e t)(he:∀whole,isTrue e X.env whole=(do let v <-whole;gv e.pos;holding [v] (truthy v)):=by intro _;rfl):PT X e (tB t):=by intro O2 s O H Q I hw;refine isTrue_plain (thn (h O2 s O H _ I hw) λv s1=>e4 λx H1 I1 r1 q1=>?_) (he _);obtain⟨d,rfl,q⟩:=q1;cases r1;exact ej ⟨H1,I1,q⟩
variable{tA tB':TT}{qL:List bo}
def tOr(t u:TT):TT:=λO H Q=>t O H λc H1=>if c=true then Q true H1 else u O H1 Q
def tNot(t:TT):TT:=λO H Q=>t O H λc H1=>Q (!c) H1
def JS(ha:PT X a tA):PW X (.BoolOp .Or [a] pos) tA:=by
 intro wh O2 s O H Q I h;refine isTrue_or (thn (ha O2 s O H Q I h) λc s1 e=>?_);cases c with
 |false=>exact isTrue_or_nil e
 |true=>exact e
def M0(ha:PT X a tA)(hb:PW X (.BoolOp .Or (b::qL) pos) tB'):PW X (.BoolOp .Or (a::b::qL) pos) (tOr tA tB'):=by
 intro wh O2 s O H Q I h;refine isTrue_or (thn (ha O2 s O H _ I h) λc s1=>e3 λH1 I1 q1=>?_);cases c with
 |true=>exact⟨H1,I1,q1⟩
 |false=>exact hb wh O2 s1 O H1 Q I1 q1
def CQ(ha:PT X a tA):PT X (.UnaryOp .Not a pos) (tNot tA):=by intro O2 s O H Q I h;exact isTrue_not (ha O2 s O H (λc H1=>Q (!c) H1) I h)
def tAndV(ta tb:TE):TE:=λO H Q=>ta O H λx H1=>∃c,x=.bl c/\if c=true then tb O H1 Q else Q (.bl false) H1
def tOrV(ta tb:TE):TE:=λO H Q=>ta O H λx H1=>∃c,x=.bl c/\if c=true then Q (.bl true) H1 else tb O H1 Q
def Fp{op}{t}(h:PE X a t):PE X (.BoolOp op [a] pos) t:=λO2 s O H Q I hw=>BoolOp_one (h O2 s O H Q I hw)
def J0(ha:PE X a ta)(hb:PE X (.BoolOp .And (b::qL) pos) tb):PE X (.BoolOp .And (a::b::qL) pos) (tAndV ta tb):=by
 intro O2 s O H Q I h;refine BoolOp_and (thn (ha O2 s O H _ I h) λv s1=>e4 λx H1 I1 r1 q1=>?_);obtain⟨c,rfl,q1⟩:=q1;cases r1;refine ej ?_;cases c with
 |true=>exact hb O2 s1 O H1 Q I1 q1
 |false=>exact⟨.bl false,H1,I1,rfl,q1⟩
def pe_or(ha:PE X a ta)(hb:PE X (.BoolOp .Or (b::qL) pos) tb):PE X (.BoolOp .Or (a::b::qL) pos) (tOrV ta tb):=by
 intro O2 s O H Q I h;refine BoolOp_or (thn (ha O2 s O H _ I h) λv s1=>e4 λx H1 I1 r1 q1=>?_);obtain⟨c,rfl,q1⟩:=q1;cases r1;refine ej ?_;cases c with
 |false=>exact hb O2 s1 O H1 Q I1 q1
 |true=>exact⟨.bl true,H1,I1,rfl,q1⟩
def tIf(t:TT)(ta tb:TE):TE:=λO H Q=>t O H λc H1=>if c=true then ta O H1 Q else tb O H1 Q
def IG(hc:PT X c tA)(ha:PE X a ta)(hb:PE X b tb):PE X (.IfExp c a b pos) (tIf tA ta tb):=by
 intro O2 s O H Q I h;refine wpAny_IfExp (thn (hc O2 s O H _ I h) λd s1=>e3 λH1 I1 q1=>?_);cases d with
 |true=>exact ha O2 s1 O H1 Q I1 q1
 |false=>exact hb O2 s1 O H1 Q I1 q1
end
def SqL(K:aa)(H:Hp)(a:ak)(xs:List V):Prop :=
 Rd H a (.lst xs) \/
  ∃(o:Obj)(its:Array ah)(n:Nat),K.lookup a=Za o/\o.cls=.type "list"/\o.dict=Zb/\o.data=.seq its n/\its.size<=aJ/\Vals xs its.toList
def SqT(K:aa)(H:Hp)(a:ak)(xs:List V):Prop :=
 Rd H a (.tup xs) \/
  ∃(o:Obj)(its:Array ah)(n:Nat),K.lookup a=Za o/\o.cls=.type "tuple"/\o.data=.seq its n/\its.size<=aJ/\Vals xs its.toList
def absV:ah->Option V
 |.none=>Za .non
 |.bool b=>Za (.bl b)
 |.int i _=>Za (.int i)
 |.str x _=>Za (.str x)
 |.bytes b _=>Za (.byt b)
 |.float b _=>Za (.flt b)
 |.ref a=>Za (.ref a)
 |.type n=>Za (.ty n)
 |_=>Zb
def RelV.abs(r:RelV x u):absV u=Za x:=by
 cases x with
 |non=>cases r;rfl
 |bl _=>cases r;rfl
 |int _=>obtain⟨t,rfl⟩:=r;rfl
 |str _=>obtain⟨t,rfl⟩:=r;rfl
 |byt _=>obtain⟨t,rfl⟩:=r;rfl
 |flt _=>obtain⟨t,rfl⟩:=r;rfl
 |ref _=>cases r;rfl
 |ty _=>cases r;rfl
def RelV.inj(r:RelV x u)(q:RelV y u):x=y:=aO (r.abs.symm.trans q.abs)
theorem Vals.inj:∀{xs ys:List V}{us:List ah},Vals xs us->Vals ys us->xs=ys
 |_,_,_,.nil,.nil=>rfl
 |_,_,_,.cons r t,.cons r' t'=>by rw[r.inj r',Vals.inj t t']
section
variable{X:Cx}{O2:List (ak×Obj)}{O:St}{H:Hp}{s:ax}{a:ak}{xs ys:List V}
def SqL.of{K}(h:H a=Za (.lst xs)):SqL K H a xs:=.inl (.inl h)
def SqT.of{K}(h:H a=Za (.tup xs)):SqT K H a xs:=.inl (.inl h)
def Inv.list(I:Inv X O2 O H s)(h:SqL X.K H a xs):∃its:List ah,Vals xs its/\PlainL s.heap a its.toArray/\xs.length<=aJ:=by
 rcases h with h|⟨o,its,n,hk,hc,hd,hs,hz,r⟩
 ·obtain⟨z,its,n,r,e⟩:=h.ok I.hok;exact⟨its,r,⟨_,n,e,rfl,rfl,rfl⟩,z⟩
 ·refine⟨its.toList,r,⟨o,n,I.kIn a o hk,hc,hd,by simpa using hs⟩,?_⟩;have e:=r.length;simp only[fO] at e;lia
def Inv.tuple(I:Inv X O2 O H s)(h:SqT X.K H a xs):∃its:List ah,Vals xs its/\IsTup s.heap a its.toArray/\xs.length<=aJ:=by
 rcases h with h|⟨o,its,n,hk,hc,hs,hz,r⟩
 ·obtain⟨z,its,r,p⟩:=h.ok I.hok;exact⟨its,r,p,z⟩
 ·refine⟨its.toList,r,⟨o,I.kIn a o hk,hc,n,by simpa using hs⟩,?_⟩;have e:=r.length;simp only[fO] at e;lia
def Inv.list_inj(I:Inv X O2 O H s)(h:SqL X.K H a xs)(h':SqL X.K H a ys):xs=ys:=by
 obtain⟨its,r,⟨o,n,e,_,_,d⟩,_⟩:=I.list h;obtain⟨its',r',⟨o',n',e',_,_,d'⟩,_⟩:=I.list h';rw[e] at e';cases e';rw[d] at d';injection d' with d1 _
 have:its=its':=by simpa using congrArg Array.toList d1
 subst this;exact r.inj r'
def Inv.tuple_inj(I:Inv X O2 O H s)(h:SqT X.K H a xs)(h':SqT X.K H a ys):xs=ys:=by
 obtain⟨its,r,⟨o,e,_,n,d⟩,_⟩:=I.tuple h;obtain⟨its',r',⟨o',e',_,n',d'⟩,_⟩:=I.tuple h';rw[e] at e';cases e';rw[d] at d';injection d' with d1 _
 have:its=its':=by simpa using congrArg Array.toList d1
 subst this;exact r.inj r'
end
abbrev Cx.wish(X:Cx)(E:ah->ax->Prop):Cx:={ X with xe:=E }
abbrev Cx.nox(X:Cx):Cx:=X.wish λ_ _=>False
theorem Cx.Ok.wish{X:Cx}(ok:X.Ok)(E:ah->ax->Prop):(X.wish E).Ok :=
 ⟨ok.mod,ok.kind,ok.glob,ok.blt,ok.above,ok.inj,ok.has,ok.cab,ok.hd,ok.frames,ok.stk,ok.exf,ok.bs,ok.bsz,ok.noex,ok.exfs,ok.funs,ok.frf⟩
def Cx.Ok.unwish{X:Cx}{E:ah->ax->Prop}(ok:(X.wish E).Ok):X.Ok :=
 ⟨ok.mod,ok.kind,ok.glob,ok.blt,ok.above,ok.inj,ok.has,ok.cab,ok.hd,ok.frames,ok.stk,ok.exf,ok.bs,ok.bsz,ok.noex,ok.exfs,ok.funs,ok.frf⟩
section
variable{X:Cx}{O2:List (ak×Obj)}{O:St}{H:Hp}{s:ax}{E:ah->ax->Prop}
theorem Inv.wish(I:Inv X O2 O H s)(E:ah->ax->Prop):Inv (X.wish E) O2 O H s:=⟨I.ok.wish E,I.os,I.bare,I.base,I.loc,I.cell,I.free,I.freeC,I.pin,I.hok,I.len⟩
theorem Inv.unwish(I:Inv (X.wish E) O2 O H s):Inv X O2 O H s:=⟨I.ok.unwish,I.os,I.bare,I.base,I.loc,I.cell,I.free,I.freeC,I.pin,I.hok,I.len⟩
theorem SP.unwish(h:SP (X.wish E) O2 D f s'):SP X O2 D f s':=by
 cases f with
 |next=>obtain⟨σ',H',I,q⟩:=h;exact⟨σ',H',I.unwish,q⟩
 |brk=>obtain⟨σ',H',I,q⟩:=h;exact⟨σ',H',I.unwish,q⟩
 |cont=>obtain⟨σ',H',I,q⟩:=h;exact⟨σ',H',I.unwish,q⟩
 |ret u=>obtain⟨v,σ',H',I,r,q⟩:=h;exact⟨v,σ',H',I.unwish,r,q⟩
theorem PSs.nox{st}{t}(h:PSs X.nox st t):PSs X st t:=λO2 s O H D I hw =>
 bO (h O2 s O H D (I.wish _) hw) (λ_ _ q=>q.unwish) λ_ _ z=>bS z
end
section
variable{X:Cx}{st:bQ}{qL:List bQ}{t u:TS}{e:bo}{te:TE}{pos:Pos}
def tNext:TS:=λD O H=>D.nx O H
def tSeq(t u:TS):TS:=λD O H=>t { D with nx:=u D } O H
def pss_nil:PSs X [] tNext:=λ_ _ O H _ I h=>iH ⟨O,H,I,h⟩
def l9(h1:PS X st t)(h2:PSs X qL u):PSs X (st::qL) (tSeq t u):=by
 intro O2 s O H D I h;refine wpAny_execs_cons (thn (h1 O2 s O H { D with nx:=u D } I h) λf s1 q=>?_);cases f with
 |next =>
  obtain⟨σ',H',I',q⟩:=q;exact h2 O2 s1 σ' H' D I' q
 |ret v=>exact q
 |brk=>exact q
 |cont=>exact q
def mj(h1:PS X st t):PSs X [st] t:=by
 intro O2 s O H D I h;refine wpAny_execs_cons (thn (h1 O2 s O H D I h) λf s1 q=>?_);cases f with
 |next=>exact iH q
 |ret v=>exact q
 |brk=>exact q
 |cont=>exact q
def Inv.quiet(I:Inv X O2 O H s):interactive X.env=false:=by simp[interactive,I.ok.kind]
def tDrop(te:TE):TS:=λD O H=>te O H λ_ H1=>D.nx O H1
def oW(he:PE X e te)(hs:dQ e Zb pos.line X.env=pure false:=by rfl):PS X (.Expr e pos) (tDrop te):=by intro O2 s O H D I h;exact wpAny_Expr_any (thn (he O2 s O H _ I h) λv s1=>e4 λx H1 I1 r1 q1=>⟨O,H1,I1,q1⟩) I.quiet hs
def tRet(te:TE):TS:=λD O H=>te O H D.rt
def qm(he:PE X e te):PS X (.Return (Za e) pos) (tRet te):=by intro O2 s O H D I h;exact wpAny_Return_some (thn (he O2 s O H _ I h) λv s1=>e4 λx H1 I1 r1 q1=>⟨x,O,H1,I1,r1,q1⟩)
def tRetN:TS:=λD _ H=>D.rt .non H
def ps_retN:PS X (.Return Zb pos) tRetN:=λ_ _ O H _ I h=>wpAny_Return_none ⟨.non,O,H,I,rfl,h⟩
def tIfS(c:TT)(t u:TS):TS:=λD O H=>c O H λb H1=>if b=true then t D O H1 else u D O H1
def wq{c}{a b}{tc}(hc:PT X c tc)(ha:PSs X a t)(hb:PSs X b u):PS X (.If c a b pos) (tIfS tc t u):=by
 intro O2 s O H D I h;refine wpAny_If (thn (hc O2 s O H _ I h) λd s1=>e3 λH1 I1 q1=>?_);cases d with
 |true=>exact ha O2 s1 O H1 D I1 q1
 |false=>exact hb O2 s1 O H1 D I1 q1
abbrev TG:=V->St->Hp->(St->Hp->Prop)->Prop
abbrev TGs:=List V->St->Hp->(St->Hp->Prop)->Prop
def PG(X:Cx)(PN:bo)(t:TG):Prop :=
 ∀(O2:List (ak×Obj))(s:ax)(O:St)(H:Hp)(v:V)(u:ah)(Q:St->Hp->Prop),Inv X O2 O H s->RelV v u->t v O H Q ->
  aT (model X.prog X.w) X.A (assign PN X.env u) (λ_ s'=>∃σ' H',Inv X O2 σ' H' s'/\Q σ' H') X.xe s
def PGs(X:Cx)(ts:List bo)(t:TGs):Prop :=
 ∀(O2:List (ak×Obj))(s:ax)(O:St)(H:Hp)(vs:List V)(us:List ah)(Q:St->Hp->Prop),Inv X O2 O H s->Vals vs us->t vs O H Q ->
  aT (model X.prog X.w) X.A (kZ ((cR ts X.env).map (·.2)) us) (λ_ s'=>∃σ' H',Inv X O2 σ' H' s'/\Q σ' H') X.xe s
abbrev MN:=V->V->V->Hp->(Hp->Prop)->Prop
def PSet(X:Cx)(t:MN):Prop :=
 ∀(O2:List (ak×Obj))(s:ax)(O:St)(H:Hp)(o i v:V)(ov iv u:ah)(Q:Hp->Prop),Inv X O2 O H s->RelV o ov->RelV i iv->RelV v u->t o i v H Q ->
  aT (model X.prog X.w) X.A (kn ov iv u) (λ_ s'=>∃H',Inv X O2 O H' s'/\Q H') X.xe s
abbrev TIp:=V->V->Hp->VK->Prop
def PIp(X:Cx)(op:Operator)(t:TIp):Prop :=
 ∀(O2:List (ak×Obj))(s:ax)(O:St)(H:Hp)(x y:V)(v u:ah)(Q:VK),Inv X O2 O H s->RelV x v->RelV y u->t x y H Q ->
  aT (model X.prog X.w) X.A (inplaceOp op v u) (EP X O2 O Q) X.xe s
def E7(i:Nat):TG:=λv O H Q=>Q (O.set i (Za v)) H
def Ct(hN:X.N.Nodup)(hi:X.N[i]?=Za x)(hx:Loc X.env.scope x)(hf:X.fn x=true\/X.env.scope.names.lookup x=Za .local:=by first|exact .inl rfl|exact .inr rfl|assumption):PG X (.Name x pos) (E7 i):=by intro O2 s O H v u Q I r h;exact jy (uy I hN hi hx r (λs' I'=>⟨_,H,I',h⟩) hf)
def gNil:TGs:=λvs O H Q=>vs=[]/\Q O H
def gCons(t:TG)(u:TGs):TGs:=λvs O H Q=>∃v r,vs=v::r/\t v O H λσ' H'=>u r σ' H' Q
def pgs_nil:PGs X [] gNil:=by intro O2 s O H vs us Q I r h;obtain⟨e,h⟩:=h;subst e;cases r;exact assignInOrder_nil ⟨O,H,I,h⟩
def IC{e}{t:TG}{u:TGs}(h1:PG X e t)(h2:PGs X es u)(hs:(cR (e::es) X.env).map (·.2)=assign e X.env::(cR es X.env).map (·.2):=by rfl):PGs X (e::es) (gCons t u):=by
 intro O2 s O H vs us Q I r h;obtain⟨v,vr,e1,h⟩:=h;subst e1;cases r with
 |cons r rr =>
  rw[hs];refine jn (thn (h1 O2 s O H _ _ _ I r h) λ_ s1=>e4b λσ1 H1 I1 q1=>?_);exact h2 O2 s1 σ1 H1 _ _ Q I1 rr q1
def gTup(K:aa)(n:Nat)(t:TGs):TG:=λv O H Q=>∃a xs,v=.ref a/\SqT K H a xs/\xs.length=n/\t xs O H Q
def NV{t:TGs}(hc:X.calm=true)(h:PGs X es t)(hn:(cR es X.env).length=n:=by rfl)(Qt:(cR es X.env).findIdx? (·.1)=none:=by rfl):PG X (.Tuple es k pos) (gTup X.K n t):=by
 intro O2 s O H v u Q I r hw;obtain⟨a,xs,e1,hq,hl,hw⟩:=hw;subst e1;cases r;obtain⟨its,rv,ht,hz⟩:=I.tuple hq;refine assign_Tuple_tuple (I.ok.hd hc) ht (by simp[hn,<-hl,rv.length]) Qt λh' hx=>?_;have I1:Inv X O2 O H { s with heap:=h' }:=I.kept (t':=s.toks) λb o e=>hx b o (aE (az e)) e;exact h O2 _ O H xs _ Q I1 (by simpa using rv) hw
def gSub(to ti:TE)(t:MN):TG:=λv O H Q=>to O H λo H1=>ti O H1 λi H2=>t o i v H2 λH3=>Q O H3
def NW{t:MN}(ho:PE X o to)(hi:PE X i ti)(hs:PSet X t)(ha:∀v,assign (.Subscript o i pos) X.env v=(do
   let ov <-holding [v] (eval o X.env);let iv <-holding [v,ov] (eval i X.env)
   gv pos
   holding [v,ov,iv] (kn ov iv v)
   release [v,ov,iv] []):=by intro _;rfl):PG X (.Subscript o i pos) (gSub to ti t):=by
 intro O2 s O H v u Q I r h;rw[ha];refine ap (ed (thn (ho O2 s O H _ I h) λov s1=>e4 λx H1 I1 r1 q1=>?_));refine ap (ed (thn (hi O2 s1 O H1 _ I1 q1) λiv s2=>e4 λy H2 I2 r2 q2=>?_));refine ap (fV (ap (ed (thn (hs O2 s2 O H2 x y v ov iv u _ I2 r1 r2 r q2) λ_ s3=>e3 λH3 I3 q3=>?_))));exact wpAny_release ⟨O,H3,I3,q3⟩
def MS(te:TE)(g:TG):TS:=λD O H=>te O H λx H1=>g x O H1 D.nx
def JU{tg e}{te}(he:PE X e te)(hg:PG X tg g)(hs:gY [tg] e pos.line X.env=pure false:=by rfl)(hw:gZ [tg] e X.env=pure none:=by rfl)(h1:(cR [tg] X.env).map (·.2)=[assign tg X.env]:=by rfl):PS X (.Assign [tg] e pos) (MS te g):=by
 intro O2 s O H D I h;refine wpAny_Assign_stores (thn (he O2 s O H _ I h) λv s1=>e4 λx H1 I1 r1 q1=>?_) hs hw;rw[h1];exact thn (hg O2 s1 O H1 x v _ I1 r1 q1) λ_ s2 q=>q
def rm{i}{x}{e}{te}{Ph}(hN:X.N.Nodup)(hi:X.N[i]?=Za x)(hx:Loc X.env.scope x)(he:PE X e te)(hs:dQ e (Za (.Name x Ph)) pos.line X.env=pure false:=by rfl)(hf:X.fn x=true\/X.env.scope.names.lookup x=Za .local:=by first|exact .inl rfl|exact .inr rfl|assumption) :
  PS X (.Assign [.Name x Ph] e pos) (MS te (E7 i)):=by
 intro O2 s O H D I h;refine wpAny_Assign_Name (thn (he O2 s O H _ I h) λv s1=>e4 λy H1 I1 r1 q1=>?_) hs;exact uy I1 hN hi hx r1 (λs2 I2=>⟨_,H1,I2,q1⟩) hf
def tPar(i j:Nat)(ta:TA):TS:=λD O H=>ta O H λvs H1=>∃v w,vs=[v,w]/\D.nx ((O.set i (Za v)).set j (Za w)) H1
def NR{kt k2 pt2}(hc:X.calm=true)(hN:X.N.Nodup)(hi:X.N[i]?=Za x)(hj:X.N[j]?=Za y)(Tv:i≠j)(hx:X.env.scope.names.lookup x=Za .local)(hy:X.env.scope.names.lookup y=Za .local)(ha:PA X [a,b] ta)(hw:gZ [.Tuple [.Name x px,.Name y py] kt pt] (.Tuple [a,b] k2 pt2) X.env=pure (Za [x,y]))(hs:gY [.Tuple [.Name x px,.Name y py] kt pt] (.Tuple [a,b] k2 pt2) pos.line X.env=pure false:=by rfl) :
  PS X (.Assign [.Tuple [.Name x px,.Name y py] kt pt] (.Tuple [a,b] k2 pt2) pos) (tPar i j ta):=by
 intro O2 s O H D I h;rw[exec_Assign_arm];refine ap (fV ?_);rw[hs];refine ap (aL ?_);rw[Zd (by decide)];refine ap (Tuple_ (thn (ha _ O2 s O H _ I h) λus s1=>e4 λvs H1 I1 r1 q1=>?_));obtain⟨v,w,e1,q1⟩:=q1;subst e1;obtain⟨u1,u2,rfl,rv,PB⟩:∃u1 u2,us=[u1,u2]/\RelV v u1/\RelV w u2:=by
  cases r1 with
  |cons p q =>
   cases q with
   |cons p' q' =>
    cases q';exact⟨_,_,rfl,p,p'⟩
 refine eA ?_ (by show 2<=aJ;decide);have I2:Inv X O2 O H1 { s1 with heap:=s1.heap.push { cls:=.type "tuple",data:=.seq [u1,u2].toArray } }:=I1.kept (t':=s1.toks) λb o e=>au _ e;rw[hw];refine ap (aL ?_);show aT (model X.prog X.w) X.A (do rule "assign.swapped-stores";let items <-unpackItems (.ref s1.heap.objs.size) 2 Zb;kZ [λv=>bindName X.env y v,λv=>bindName X.env x v] items.reverse;pure Flow.next) _ _ _;refine ap (wpAny_rule (ap (unpackItems_tuple (items:=#[u1,u2]) (I.ok.hd hc) (IsTup.new s1.heap _) λh' QJ=>?_)));have I3:=I2.kept (h':=h') (t':=s1.toks) λb o e=>QJ b o (aE (az e)) e;show aT _ _ (kZ [λv=>bindName X.env y v,λv=>bindName X.env x v] [u2,u1] >>= λ_=>pure Flow.next) _ _ _;refine ap (jn (wpAny_bindName (uy I3 hN hj (.inl hy) PB (λs2 I4=>?_) (.inr hy))));refine jn (wpAny_bindName (uy I4 hN hi (.inl hx) rv (λs3 I5=>assignInOrder_nil (aL ?_)) (.inr hx)));rw[List.set_comm _ _ (bX Tv)] at I5;exact⟨_,H1,I5,q1⟩
def tAug(i:Nat)(te:TE)(ti:TIp):TS:=λD O H=>∃x,O[i]?=Za (Za x)/\te O H λy H1=>ti x y H1 λz H2=>D.nx (O.set i (Za z)) H2
def NS{e}{te}(hN:X.N.Nodup)(hi:X.N[i]?=Za x)(hx:Loc X.env.scope x)(he:PE X e te)(ho:PIp X op ti)(hf:X.fn x=true\/X.env.scope.names.lookup x=Za .local:=by first|exact .inl rfl|exact .inr rfl|assumption) :
  PS X (.AugAssign (.Name x Ph) op e pos) (tAug i te ti):=by
 intro O2 s O H D I h;obtain⟨v,e1,h⟩:=h;obtain⟨m,hn,hl⟩:=I.loc;have vis:Vis X.env.scope x:=by rcases hx with k|k;exact .inl k;exact .inr (.inl k)
 obtain⟨u,r,l⟩:=hl i x v hi e1 vis;refine wpAny_AugAssign_Name ?_;have go:aT (model X.prog X.w) X.A (eval e X.env) (λw Qi=>aT (model X.prog X.w) X.A (inplaceOp op u w) (λr O7=>aT (model X.prog X.w) X.A (storeName X.env x r) (λ_=>SP X O2 D .next) X.xe O7) X.xe Qi) X.xe s:=by refine thn (he O2 s O H _ I h) λw s1=>e4 λy H1 I1 r1 q1=>?_;refine thn (ho O2 s1 O H1 v y u w _ I1 r r1 q1) λz s2=>e4 λzv H2 I2 r2 q2=>?_;exact uy I2 hN hi hx r2 (λs3 I3=>⟨_,H2,I3,q2⟩) hf
 rcases l with⟨hk,hm⟩|⟨hk,c,hc,PK⟩
 ·exact wpAny_loadName_local I.ok.kind hk hn hm go
 ·rcases hk with hk|hk
  ·exact wpAny_loadName_cell I.ok.kind hk hc PK go
  ·rcases hx with k|k
   ·have:X.env.scope.names.lookup x=Za .free:=hk;rw[k] at this;cases this
   ·have:X.env.scope.names.lookup x=Za .free:=hk;rw[k] at this;cases this
def tAugS(to ti te:TE)(RL:V->V->Hp->VK->Prop)(UG:TIp)(RJ:MN):TS:=λD O H=>to O H λo H1=>ti O H1 λi H2=>RL o i H2 λx H3=>te O H3 λy H4=>UG x y H4 λz H5=>RJ o i z H5 λH6=>D.nx O H6
def PGet(X:Cx)(t:V->V->Hp->VK->Prop):Prop :=
 ∀(O2:List (ak×Obj))(s:ax)(O:St)(H:Hp)(o i:V)(ov iv:ah)(Q:VK),Inv X O2 O H s->RelV o ov->RelV i iv->t o i H Q ->
  aT (model X.prog X.w) X.A (iz ov iv) (EP X O2 O Q) X.xe s
def Ll{o i e}{to ti te}(ho:PE X o to)(hi:PE X i ti)(hg:PGet X RL)(he:PE X e te)(hp:PIp X op UG)(hs:PSet X RJ)(ha:∀ov iv new,augStore i ov iv new=(do holding [new,ov,iv] (kn ov iv new);release [new,ov,iv] [];pure .next):=by intros;rfl):PS X (.AugAssign (.Subscript o i Px) op e pos) (tAugS to ti te RL UG RJ):=by
 intro O2 s O H D I h;refine wpAny_AugAssign_SubscriptAny (thn (ho O2 s O H _ I h) λov s1=>e4 λx1 H1 I1 r1 q1=>?_) ha;refine thn (hi O2 s1 O H1 _ I1 q1) λiv s2=>e4 λx2 H2 I2 r2 q2=>?_;refine thn (hg O2 s2 O H2 x1 x2 ov iv _ I2 r1 r2 q2) λold s3=>e4 λx3 H3 I3 r3 q3=>?_;refine thn (he O2 s3 O H3 _ I3 q3) λv s4=>e4 λx4 H4 I4 r4 q4=>?_;refine thn (hp O2 s4 O H4 x3 x4 old v _ I4 r3 r4 q4) λnew s5=>e4 λx5 H5 I5 r5 q5=>?_;exact thn (hs O2 s5 O H5 x1 x2 x5 ov iv new _ I5 r1 r2 r5 q5) λ_ s6=>e3 λH6 I6 q6=>⟨O,H6,I6,q6⟩
def ipI(f:Int->Int->Int):TIp:=λx y H Q=>∃i j,x=.int i/\y=.int j/\Q (.int (f i j)) H
def J9:PIp X .Add (ipI λi j=>i+j):=by intro O2 s O H x y v u Q I r1 r2 h;obtain⟨i,j,e1,e2,q⟩:=h;subst e1;subst e2;obtain⟨t,rfl⟩:=r1;obtain⟨t',rfl⟩:=r2;exact iadd_int ⟨.int _,H,I.tok _,⟨_,rfl⟩,q⟩
def Nz(c:TT)(tb:TS):TS:=λD O H=>∃W:Nat->St->Hp->Prop,(∃m,W m O H)/\∀m O H,W m O H ->
 c O H λb H1=>if b=true then ∃N:St->Hp->Prop,(∀σ' H',N σ' H'->∃m',m'<m/\W m' σ' H')/\tb { D with nx:=N,ct:=N,bk:=D.nx } O H1 else D.nx O H1
def DK(hp:PassesOwn (model X.prog X.w) X.A X.env X.xe)(hc:PT X c tc)(hb:PSs X body tb):PS X (.While c body [] pos) (Nz tc tb):=by
 intro O2 s O H D I h;obtain⟨W,⟨m0,w0⟩,Qf⟩:=h;refine wpAny_While (codeAny_whileLoop (λn s'=>∃σ' H',Inv X O2 σ' H' s'/\W n σ' H') ?_ m0 ⟨O,H,I,w0⟩)
 rintro n s1 ⟨σ1,H1,I1,w1⟩
 refine d7 hp (thn (hc O2 s1 σ1 H1 _ I1 (Qf n σ1 H1 w1)) λb s2=>e3 λH2 I2 q2=>?_);cases b with
 |true =>
  obtain⟨N,hN,q2⟩:=q2;rw[Zc rfl];refine d7 hp (thn (hb O2 s2 σ1 H2 _ I2 q2) λf s3 q3=>?_);cases f with
  |next =>
   obtain⟨σ3,H3,I3,n3⟩:=q3;obtain⟨m',hm,w3⟩:=hN σ3 H3 n3;exact⟨m',hm,σ3,H3,I3,w3⟩
  |cont =>
   obtain⟨σ3,H3,I3,n3⟩:=q3;obtain⟨m',hm,w3⟩:=hN σ3 H3 n3;exact⟨m',hm,σ3,H3,I3,w3⟩
  |brk=>exact q3
  |ret v=>exact q3
 |false =>
  rw[Zd aY];exact iH ⟨σ1,H2,I2,q2⟩
end
structure It where
 go:Nat->Hp->Prop
 yld:Nat->Hp->V->Hp->Prop
 stop:Nat->Hp->Prop
def zC(X:Cx)(O2:List (ak×Obj))(H:Hp)(b:ak):Prop :=
 H b=Zb/\b≠X.env.locals/\b∉X.fs/\(b∈X.ex\/X.sa0.heap.objs.size<=b)/\(∀x c,X.env.cells.lookup x=Za c->c≠b)/\∀p∈X.pn++O2,p.1≠b
def Inv.fpOk(I:Inv X O2 O H s)(hb:s.heap.objs.size<=b)(hn:H' b=Zb):zC X O2 H' b:=by
 refine⟨hn,f7 (ay I.lt hb),I.nofs hb,.inr (aI I.sz hb),λx c e z=>?_,λp hp z=>?_⟩
 ·obtain⟨v,q⟩:=I.cell x c e;exact absurd (ay q.lt (by rw[z];exact hb)) (dS _)
 ·exact absurd (ay (az (I.pin p hp).1) (by rw[z];exact hb)) (dS _)
structure Turn(P:aK)(w:a6)(K:aa)(tg:bo)(J:It)(fp:List ak)(it:ak)(tn:Nat->bx->Prop):Prop where
 mem:it∈fp
 obj:∀i h,tn i h->∀b∈fp,∃o,h.get? b=Za o/\∀v,o.data≠.cell v
 keep:∀i h h',tn i h->(∀b∈fp,∀o,h.get? b=Za o->h'.get? b=Za o)->tn i h'
 item:∀(X:Cx),X.prog=P->X.w=w->X.K=K->X.calm=true->∀(i:Nat)(O2:List (ak×Obj))(s:ax)(O:St)(H:Hp)(E:ah->ax->Prop),Inv X O2 O H s->(∀b∈fp,zC X O2 H b)->tn i s.heap->J.go i H ->
  aT (model P w) X.A (pyNext (.ref it)) (λr s1=>∃u,r=Za u /\
   aT (model P w) X.A (iI tg (.ref it) u) (λ_ s2=>∃x H',Inv X O2 O H' s2/\RelV x u/\J.yld i H x H'/\tn (i+1) s2.heap/\∀b∈fp,H' b=Zb) E s1) E s
 done:∀(X:Cx),X.prog=P->X.w=w->X.K=K->X.calm=true->∀(i:Nat)(O2:List (ak×Obj))(s:ax)(O:St)(H:Hp)(E:ah->ax->Prop),Inv X O2 O H s->(∀b∈fp,zC X O2 H b)->tn i s.heap->J.stop i H ->
  aT (model P w) X.A (pyNext (.ref it)) (λr s1=>r=Zb/\Inv X O2 O H s1) E s
 self:∀(A:cE)(i:Nat)(s:ax)(Q:ah->ax->Prop)(E:ah->ax->Prop),tn i s.heap->Q (.ref it) s->aT (model P w) A (pyIter (.ref it)) Q E s
abbrev TI:=St->Hp->(It->Hp->Prop)->Prop
def PIE(X:Cx)(O2:List (ak×Obj))(O:St)(tg:bo)(R:It->Hp->Prop)(Ss:ah)(s2:ax):Prop :=
 ∃(it:ak)(fp:List ak)(tn:Nat->bx->Prop)(J:It)(H':Hp),Ss=.ref it/\Inv X O2 O H' s2/\Turn X.prog X.w X.K tg J fp it tn/\tn 0 s2.heap/\(∀b∈fp,zC X O2 H' b)/\R J H'
def PI(X:Cx)(tg iter:bo)(wi:TI):Prop :=
 ∀(O2:List (ak×Obj))(s:ax)(O:St)(H:Hp)(R:It->Hp->Prop),Inv X O2 O H s->wi O H R ->
  aT (model X.prog X.w) X.A (eval iter X.env) (λv s1=>aT (model X.prog X.w) X.A (pyIter v) (PIE X O2 O tg R) X.xe s1) X.xe s
def E3(ho:s.heap.get? it=Za o)(hc:o.cls=.type n)(hd:o.data=.fields vs)(hn:["enumerate","zip","dict_itemiterator","dict_reverseitemiterator","odict_iterator","itertools.zip_longest","itertools.pairwise"].contains n=false)(hQ:Q () s):aT M A (iI tg (.ref it) u) Q E s:=by
 unfold iI;cases tg<;>first
  |exact aL hQ
  | (cases u<;>first
    |exact aL hQ
    | (refine ap (wpAny_load ho ?_)
       rw[hc,hd];show aT M A (if(["enumerate","zip","dict_itemiterator","dict_reverseitemiterator","odict_iterator","itertools.zip_longest","itertools.pairwise"].contains n&&vs[0]?==Za (rawInt _))=true then _ else _) Q E s;rw[Zd (by intro h;rw[hn,fj] at h;cases h)];exact aL hQ))
def Itl(K:aa)(a:ak):It :=
 ⟨λi H=>∃xs x,SqL K H a xs/\xs[i]?=Za x,λi H x H'=>H'=H/\∀xs,SqL K H a xs->xs[i]?=Za x,λi H=>∃xs,SqL K H a xs/\xs.length<=i⟩
def Itt(K:aa)(a:ak):It :=
 ⟨λi H=>∃xs x,SqT K H a xs/\xs[i]?=Za x,λi H x H'=>H'=H/\∀xs,SqT K H a xs->xs[i]?=Za x,λi H=>∃xs,SqT K H a xs/\xs.length<=i⟩
def Itr(lo:Int)(n:Nat):It:=⟨λi _=>i<n,λi H x H'=>H'=H/\x=.int (lo+i),λi _=>n<=i⟩
def AT{P}{w}{K}{tg}(a it):Turn P w K tg (Itl K a) [it] it (λi h=>h.IsListIter it a i) where
 mem:=by simp
 obj:=λi h st b hb=>by
  have e:b=it:=by simpa using hb
  subst e;obtain⟨o,e,c,d⟩:=st;exact⟨o,e,λv z=>by rw[d] at z;cases z⟩
 keep:=λi h h' st k=>st.at λo e=>k it (by simp) o e
 item:=by intro X hP hw hK hc i O2 s O H E I hf st hg;subst hP hw hK;obtain⟨xs,x,hq,hx⟩:=hg;obtain⟨its,rv,p,hz⟩:=I.list hq;obtain⟨u,hu,ru⟩:=rv.get hx;obtain⟨f0,f1,f2,f3,f4,f5⟩:=hf it (by simp);refine wpAny_pyNext_list_item st p.isList (x:=u) (by simpa using hu) λh' Qd sb=>?_;have I1:Inv X O2 O H { s with heap:=h' }:=I.turned (t':=s.toks) (λb o hb e=>(sb.2 b hb).trans e) f0 f1 f3 f4 f5;obtain⟨o,e,c,d⟩:=id Qd;exact⟨u,rfl,E3 (s:={ s with heap:=h' }) e c d (by decide) ⟨x,H,I1,ru,⟨rfl,λys hy=>by rw[I.list_inj hy hq];exact hx⟩,Qd,λb hb=>(hf b hb).1⟩⟩
 done:=by intro X hP hw hK hc i O2 s O H E I hf st hg;subst hP hw hK;obtain⟨xs,hq,hx⟩:=hg;obtain⟨its,rv,p,hz⟩:=I.list hq;obtain⟨f0,f1,f2,f3,f4,f5⟩:=hf it (by simp);have hl:=rv.length;exact wpAny_pyNext_list_end (I.ok.hd hc) st p.isList (by simp;lia) λh' eb=>⟨rfl,I.turned (t':=s.toks) (λb o hb e=>eb b o hb e) f0 f1 f3 f4 f5⟩
 self:=λ_ _ _ _ _ st h=>wpAny_pyIter_listiter st h
def Et{P}{w}{K}{tg}(a it):Turn P w K tg (Itt K a) [it] it (λi h=>h.IsTupleIter it a i) where
 mem:=by simp
 obj:=λi h st b hb=>by
  have e:b=it:=by simpa using hb
  subst e;obtain⟨o,e,c,d⟩:=st;exact⟨o,e,λv z=>by rw[d] at z;cases z⟩
 keep:=λi h h' st k=>st.at λo e=>k it (by simp) o e
 item:=by intro X hP hw hK hc i O2 s O H E I hf st hg;subst hP hw hK;obtain⟨xs,x,hq,hx⟩:=hg;obtain⟨its,rv,p,hz⟩:=I.tuple hq;obtain⟨u,hu,ru⟩:=rv.get hx;obtain⟨f0,f1,f2,f3,f4,f5⟩:=hf it (by simp);refine wpAny_pyNext_tuple_item st (show s.heap.IsTuple a its.toArray from p) (x:=u) (by simpa using hu) λh' Qd sb=>?_;have I1:Inv X O2 O H { s with heap:=h' }:=I.turned (t':=s.toks) (λb o hb e=>(sb.2 b hb).trans e) f0 f1 f3 f4 f5;obtain⟨o,e,c,d⟩:=id Qd;exact⟨u,rfl,E3 (s:={ s with heap:=h' }) e c d (by decide) ⟨x,H,I1,ru,⟨rfl,λys hy=>by rw[I.tuple_inj hy hq];exact hx⟩,Qd,λb hb=>(hf b hb).1⟩⟩
 done:=by intro X hP hw hK hc i O2 s O H E I hf st hg;subst hP hw hK;obtain⟨xs,hq,hx⟩:=hg;obtain⟨its,rv,p,hz⟩:=I.tuple hq;obtain⟨f0,f1,f2,f3,f4,f5⟩:=hf it (by simp);have hl:=rv.length;exact wpAny_pyNext_tuple_end (I.ok.hd hc) st (show s.heap.IsTuple a its.toArray from p) (by simp;lia) λh' eb=>⟨rfl,I.turned (t':=s.toks) (λb o hb e=>eb b o hb e) f0 f1 f3 f4 f5⟩
 self:=λ_ _ _ _ _ st h=>wpAny_pyIter_tupleiter st h
def Eu{P}{w}{K}{tg}(it)(lo)(n):Turn P w K tg (Itr lo n) [it] it (λi h=>IsRangeIter h it (lo+(i:Nat)*1) ((n:Int)-(i:Nat)) 1) where
 mem:=by simp
 obj:=λi h st b hb=>by
  have e:b=it:=by simpa using hb
  subst e;exact⟨_,st,λv z=>by have z':Data.fields _=Data.cell v:=z;cases z'⟩
 keep:=λi h h' st k=>k it (by simp) _ st
 item:=by intro X hP hw hK hc i O2 s O H E I hf st hg;subst hP hw hK;obtain⟨f0,f1,f2,f3,f4,f5⟩:=hf it (by simp);have W:=Walks.range (prog:=X.prog) (w:=X.w) (I.ok.hd hc) it lo 1 n;refine W.item i s _ _ hg st λv h' tk hv Qd kk=>?_;obtain⟨t,rfl⟩:=hv;have I1:Inv X O2 O H { s with heap:=h',toks:=tk }:=I.turned (λb o hb e=>kk b o (by simpa using hb) e) f0 f1 f3 f4 f5;refine⟨_,rfl,E3 (s:={ s with heap:=h',toks:=tk }) (n:="range_iterator") Qd rfl rfl (by decide) ⟨.int (lo+i),H,I1,⟨t,?_⟩,⟨rfl,rfl⟩,Qd,λb hb=>(hf b hb).1⟩⟩;rw[lr]
 done:=by intro X hP hw hK hc i O2 s O H E I hf st hg;subst hP hw hK;obtain⟨f0,f1,f2,f3,f4,f5⟩:=hf it (by simp);exact wpAny_pyNext_range_end (I.ok.hd hc) st (by have:n<=i:=hg;lia) λh' eb=>⟨rfl,I.turned (t':=s.toks) (λb o hb e=>eb b o hb e) f0 f1 f3 f4 f5⟩
 self:=λ_ _ _ _ _ st h=>wpAny_pyIter_rangeiter st h
section
variable{X:Cx}{tg:bo}
def iList(K:aa)(tl:TE):TI:=λO H R=>tl O H λx H1=>∃a,x=.ref a/\(∃xs,SqL K H1 a xs)/\R (Itl K a) H1
def FW{l}{tl}(hl:PE X l tl):PI X tg l (iList X.K tl):=by
 intro O2 s O H R I h;refine thn (hl O2 s O H _ I h) λv s1=>e4 λx H1 I1 r1 q1=>?_;obtain⟨a,e,⟨xs,hq⟩,q⟩:=q1;subst e;cases r1;obtain⟨its,rv,p,hz⟩:=I1.list hq;refine gS p.isList ?_;refine⟨s1.heap.objs.size,[s1.heap.objs.size],_,_,H1,rfl,I1.kept (t':=s1.toks) λb o e=>au _ e,AT a _,⟨_,a7 _ rfl,rfl,rfl⟩,λb hb=>?_,q⟩;have e:b=s1.heap.objs.size:=by simpa using hb
 subst e;exact I1.fpOk (am _) (I1.hok.fresh (am _))
def Iw{O2}{O}{H}{s}{R:It->Hp->Prop}{E}{lo hi}{t u v}{tk}(I:Inv X O2 O H s)(h1:-(2^62)<=lo)(h2:lo<2^62)(h3:-(2^62)<=hi)(h4:hi<2^62)(q:R (Itr lo (hi-lo).toNat) H):aT (model X.prog X.w) X.A (pyIter (.ref s.heap.objs.size)) (PIE X O2 O tg R) E { s with heap:=s.heap.push { cls:=.type "range",data:=.fields #[.int lo t,.int hi u,.int 1 v] },toks:=tk }:=by
 refine wpAny_pyIter_range (IsRange.new ..) (small_one h1 h2 h3 h4) ?_;have I1:Inv X O2 O H { s with heap:=s.heap.push { cls:=.type "range",data:=.fields #[.int lo t,.int hi u,.int 1 v] },toks:=tk }:=I.kept λb o e=>au _ e;refine⟨(s.heap.push { cls:=.type "range",data:=.fields #[.int lo t,.int hi u,.int 1 v] }).objs.size,[(s.heap.push { cls:=.type "range",data:=.fields #[.int lo t,.int hi u,.int 1 v] }).objs.size],_,_,H,rfl,
  I1.kept (t':=tk) λb o e=>au _ e,Eu _ lo (hi-lo).toNat,?_,λb hb=>?_,q⟩
 ·have e1:lo+((0:Nat):Int)*1=lo:=by simp
  have e2:(((hi-lo).toNat:Nat):Int)-((0:Nat):Int)=Builtin.Range.rangeSize lo hi 1:=by rw[rangeSize_one];split<;>lia
  show IsRangeIter _ _ (lo+((0:Nat):Int)*1) ((((hi-lo).toNat:Nat):Int)-((0:Nat):Int)) 1;rw[e1,e2];exact a7 _ rfl
 ·have e:b=(s.heap.push { cls:=.type "range",data:=.fields #[.int lo t,.int hi u,.int 1 v] }).objs.size:=by simpa using hb
  subst e;exact I1.fpOk (am _) (I1.hok.fresh (am _))
def iRng1(ta:TA):TI:=λO H R=>ta O H λvs H1=>∃j:Int,vs=[.int j]/\-(2^62)<=j/\j<2^62/\R (Itr 0 j.toNat) H1
def GU{a}{ta}{p pos}(hg:Gl X "range")(hm:X.mg "range"=Zb)(ha:PA X [a] ta)(hs:aC [a] X.env=[(false,eval a X.env)]:=by rfl):PI X tg (.Call (.Name "range" p) [a] [] pos) (iRng1 ta):=by
 intro O2 s O H R I h;refine Call_ (Aq I hg hm boot_range (dL (thn (ha pos O2 s O H _ I h) λus s1=>e4 λvs H1 I1 r1 q1=>?_) hs rfl));obtain⟨j,e,q1,q2,q⟩:=q1;subst e;cases r1 with
 |cons r rr =>
  cases rr;obtain⟨t,rfl⟩:=r;exact call_range_1 (Iw I1 (by lia) (by lia) q1 q2 (by simpa using q))
def tFor(wi:TI)(g:TG)(tb:TS):TS:=λD O H=>wi O H λJ H1=>∃W:Nat->Nat->St->Hp->Prop,(∃m,W 0 m O H1)/\∀i m O H,W i m O H ->
 (J.stop i H/\D.nx O H)\/(J.go i H/\∃N:St->Hp->Prop,(∀σ' H',N σ' H'->∃m',m'<m/\W (i+1) m' σ' H')/\∀x H',J.yld i H x H'->g x O H' λσ2 H2=>tb { D with nx:=N,ct:=N,bk:=D.nx } σ2 H2)
def Af(fp:List ak)(h:bx):List (ak×Obj):=fp.filterMap λb=>(h.get? b).map λo=>(b,o)
def sU(hb:b∈fp)(e:h.get? b=Za o):(b,o)∈Af fp h:=iQ.mpr ⟨b,hb,by rw[e];rfl⟩
def Hd(hp:p∈Af fp h):p.1∈fp/\h.get? p.1=Za p.2:=by
 obtain⟨b,hb,e⟩:=iQ.mp hp;cases q:h.get? b with
 |none=>rw[q] at e;cases e
 |some o =>
  rw[q] at e;have e':(b,o)=p:=aO e;subst e';exact⟨hb,q⟩
def Inv.pinned(I:Inv X O2 O H s)(hf:∀b∈fp,zC X O2 H b)(ho:∀b∈fp,∃o,s.heap.get? b=Za o/\∀v,o.data≠.cell v):Inv X (O2++Af fp s.heap) O H s :=
 I.pins_of λp hp=>(aP.mp hp).elim (λz=>I.pin p (aH _ z)) λz=>by obtain⟨hb,e⟩:=Hd z;obtain⟨f0,f1,f2,_⟩:=hf p.1 hb;obtain⟨o,e',d⟩:=ho p.1 hb;rw[e] at e';cases e';exact⟨e,f0,f1,f2,d⟩
def Inv.unpinned(I:Inv X (O2++pl) O H s):Inv X O2 O H s:=I.pins_of λp hp=>I.pin p (aH _ (bU _ hp))
def JT(hp:PassesOwn (model X.prog X.w) X.A X.env X.xe)(hc:X.calm=true)(hi:PI X tg iter wi)(hg:PG X tg g)(hb:PSs X body tb)(hs:∀x,ce iter X.env x=pure x:=by intro _;rfl):PS X (.For tg iter body [] pos) (tFor wi g tb):=by
 intro O2 s O H D I h;refine wpAny_For (thn (hi O2 s O H _ I h) λv s1 h1=>thn h1 λSs s2 h2=>?_) hs;obtain⟨it,fp,tn,J,H2,e,I2,T,PY,f2,W,⟨m0,w0⟩,Qf⟩:=h2;subst e;have Qh:∀{H':Hp},(∀b∈fp,H' b=Zb)->∀b∈fp,zC X O2 H' b:=λhn b hb=>⟨hn b hb,(f2 b hb).2⟩;refine codeAny_forLoop_any (λn s'=>∃i σ' H',Inv X O2 σ' H' s'/\tn i s'.heap/\(∀b∈fp,H' b=Zb)/\W i n σ' H') ?_ m0 ⟨0,O,H2,I2,PY,λb hb=>(f2 b hb).1,w0⟩
 rintro n s3 ⟨i,σ3,H3,I3,SK,TK,w3⟩
 rcases Qf i n σ3 H3 w3 with⟨stop,qn⟩|⟨go,N,hN,step⟩
 ·refine d7 hp (thn (T.done X rfl rfl rfl hc i O2 s3 σ3 H3 X.xe I3 (Qh TK) SK stop) λr s4 ⟨hr,I4⟩=>?_);subst hr;exact iH ⟨σ3,H3,I4,qn⟩
 ·refine d7 hp (thn (T.item X rfl rfl rfl hc i O2 s3 σ3 H3 X.xe I3 (Qh TK) SK go) λr s4 ⟨u,hr,h4⟩=>?_);subst hr;refine d7 hp (thn h4 λ_ s5=>e4 λx H5 I5 r5 ⟨y5,st5,fr5⟩=>?_);have I5':=I5.pinned (Qh fr5) (T.obj _ _ st5);refine d7 hp (thn (hg _ s5 σ3 H5 x u _ I5' r5 (step x H5 y5)) λ_ s6=>e4b λσ6 H6 I6 q6=>?_);refine d7 hp (thn (hb _ s6 σ6 H6 _ I6 q6) λf s7 q7=>?_);have again:∀{σ7:St}{H7:Hp},Inv X (O2++Af fp s5.heap) σ7 H7 s7->N σ7 H7->∃m,m<n/\∃i σ' H',Inv X O2 σ' H' s7/\tn i s7.heap/\(∀b∈fp,H' b=Zb)/\W i m σ' H':=λ{σ7 H7} I7 n7=>by obtain⟨m',hm,w7⟩:=hN σ7 H7 n7;refine⟨m',hm,i+1,σ7,H7,I7.unpinned,T.keep _ _ _ st5 λb hb o e=>(I7.pin (b,o) (aH _ (aH _ (sU hb e)))).1,λb hb=>?_,w7⟩;obtain⟨o,e,d⟩:=T.obj _ _ st5 b hb;exact(I7.pin (b,o) (aH _ (aH _ (sU hb e)))).2.1
  cases f with
  |next=>obtain⟨σ7,H7,I7,n7⟩:=q7;exact again I7 n7
  |cont=>obtain⟨σ7,H7,I7,n7⟩:=q7;exact again I7 n7
  |brk=>obtain⟨σ7,H7,I7,q7⟩:=q7;exact⟨σ7,H7,I7.unpinned,q7⟩
  |ret v=>obtain⟨x7,σ7,H7,I7,r7,q7⟩:=q7;exact⟨x7,σ7,H7,I7.unpinned,r7,q7⟩
end
def Ji{K:aa}{a:ak}{xs:List V}{g:TG}{tb:TS}{D:Ends}{O:St}{H:Hp}(Pv:Nat->St->Hp->Prop)(h0:Pv 0 O H)(hl:∀i O H,i<=xs.length->Pv i O H->SqL K H a xs)(hs:∀i x O H,xs[i]?=Za x->Pv i O H->g x O H λσ2 H2=>tb { D with nx:=Pv (i+1),ct:=Pv (i+1),bk:=D.nx } σ2 H2)(hd:∀O H,Pv xs.length O H->D.nx O H) :
  ∃W:Nat->Nat->St->Hp->Prop,(∃m,W 0 m O H)/\∀i m O H,W i m O H ->
   ((Itl K a).stop i H/\D.nx O H)\/((Itl K a).go i H/\∃N:St->Hp->Prop,(∀σ' H',N σ' H'->∃m',m'<m/\W (i+1) m' σ' H')/\∀x H',(Itl K a).yld i H x H'->g x O H' λσ2 H2=>tb { D with nx:=N,ct:=N,bk:=D.nx } σ2 H2):=by
 refine⟨λi m O H=>m=xs.length-i/\i<=xs.length/\Pv i O H,⟨xs.length,by simp,aX _,h0⟩,?_⟩
 rintro i m O H ⟨rfl,hi,p⟩
 have q:=hl i O H hi p;by_cases Pd:i<xs.length
 ·refine .inr ⟨⟨xs,xs[i],q,by simp[Pd]⟩,Pv (i+1),λσ' H' p'=>⟨xs.length-(i+1),by lia,rfl,Pd,p'⟩,λx H' y=>?_⟩;obtain⟨e,y⟩:=y;subst e;exact hs i x O _ (y xs q) p
 ·have e:i=xs.length:=by lia
  subst e;exact .inl ⟨⟨xs,q,am _⟩,hd O H p⟩
abbrev R2:=V->V->Hp->VK->Prop
def OpR(X:Cx)(f:ah->ah->Sem ah)(r:R2):Prop :=
 ∀(O2:List (ak×Obj))(s:ax)(O:St)(H:Hp)(x y:V)(v u:ah)(Q:VK),Inv X O2 O H s->RelV x v->RelV y u->r x y H Q ->
  aT (model X.prog X.w) X.A (f v u) (EP X O2 O Q) X.xe s
def UnR(X:Cx)(f:ah->Sem ah)(r:V->Hp->VK->Prop):Prop :=
 ∀(O2:List (ak×Obj))(s:ax)(O:St)(H:Hp)(x:V)(v:ah)(Q:VK),Inv X O2 O H s->RelV x v->r x H Q ->
  aT (model X.prog X.w) X.A (f v) (EP X O2 O Q) X.xe s
def CallR(X:Cx)(f:ah)(r:List V->Hp->VK->Prop):Prop :=
 ∀(O2:List (ak×Obj))(s:ax)(O:St)(H:Hp)(xs:List V)(us:List ah)(Q:VK),Inv X O2 O H s->Vals xs us->r xs H Q ->
  aT (model X.prog X.w) X.A (call f us) (EP X O2 O Q) X.xe s
def tOp(r:R2)(ta tb:TE):TE:=λO H Q=>ta O H λx H1=>tb O H1 λy H2=>r x y H2 Q
def tUn(r:V->Hp->VK->Prop)(ta:TE):TE:=λO H Q=>ta O H λx H1=>r x H1 Q
def rI(C:Int->Int->Prop)(g:Int->Int->V):R2:=λx y H Q=>∃i j,x=.int i/\y=.int j/\C i j/\Q (g i j) H
def rI0(g:Int->Int->V):R2:=λx y H Q=>∃i j,x=.int i/\y=.int j/\Q (g i j) H
def rU(g:Int->V):V->Hp->VK->Prop:=λx H Q=>∃i,x=.int i/\Q (g i) H
section
variable{X:Cx}{a b c:bo}{ta tb tc:TE}{pos:Pos}
def O0(ha:PE X a ta)(hb:PE X b tb){O2:List (ak×Obj)}{s:ax}{O:St}{H:Hp}{R:V->V->Hp->Prop}(I:Inv X O2 O H s)(h:ta O H λx H1=>tb O H1 λy H2=>R x y H2){Q:ah->ax->Prop}{f:ah->ah->Sem ah}(hf:∀v u s2 x y H2,Inv X O2 O H2 s2->RelV x v->RelV y u->R x y H2->aT (model X.prog X.w) X.A (f v u) Q X.xe s2) :
  aT (model X.prog X.w) X.A (eval a X.env) (λv Pf=>aT (model X.prog X.w) X.A (eval b X.env) (λu Qi=>aT (model X.prog X.w) X.A (f v u) Q X.xe Qi) X.xe Pf) X.xe s:=by
 refine thn (ha O2 s O H _ I h) λv s1=>e4 λx H1 I1 r1 q1=>?_;refine thn (hb O2 s1 O H1 _ I1 q1) λu s2=>e4 λy H2 I2 r2 q2=>?_;exact hf v u s2 x y H2 I2 r1 r2 q2
def tF{op:Operator}{r:R2}(ho:OpR X (dI op) r)(ha:PE X a ta)(hb:PE X b tb):PE X (.BinOp a op b pos) (tOp r ta tb):=by intro O2 s O H Q I h;exact wpAny_BinOp (O0 ha hb I h λv u s2 x y H2 I2 rx ry q=>ho O2 s2 O H2 x y v u Q I2 rx ry q)
def M5{op:UnaryOp}{r}(ho:UnR X (unaryOp op) r)(ha:PE X a ta):PE X (.UnaryOp op a pos) (tUn r ta):=by intro O2 s O H Q I h;exact UnaryOp_ (thn (ha O2 s O H _ I h) λv s1=>e4 λx H1 I1 r1 q1=>ho O2 s1 O H1 x v Q I1 r1 q1)
def opI{f:ah->ah->Sem ah}{C:Int->Int->Prop}{g:Int->Int->Int}(rule:∀(i j:Int)(t u:Tok)(s:ax)(Q:ah->ax->Prop)(E:ah->ax->Prop),C i j->Q (.int (g i j) s.toks) { s with toks:=s.toks+1 }->aT (model X.prog X.w) X.A (f (.int i t) (.int j u)) Q E s) :
  OpR X f (rI C λi j=>.int (g i j)):=by
 intro O2 s O H x y v u Q I rx ry h;obtain⟨i,j,rfl,rfl,hc,q⟩:=h;obtain⟨t,rfl⟩:=rx;obtain⟨t',rfl⟩:=ry;exact rule i j t t' s _ _ hc ⟨.int (g i j),H,I.tok _,⟨_,rfl⟩,q⟩
def opI0{f:ah->ah->Sem ah}{g:Int->Int->Int}(rule:∀(i j:Int)(t u:Tok)(s:ax)(Q:ah->ax->Prop)(E:ah->ax->Prop),Q (.int (g i j) s.toks) { s with toks:=s.toks+1 }->aT (model X.prog X.w) X.A (f (.int i t) (.int j u)) Q E s) :
  OpR X f (rI0 λi j=>.int (g i j)):=by
 intro O2 s O H x y v u Q I rx ry h;obtain⟨i,j,rfl,rfl,q⟩:=h;obtain⟨t,rfl⟩:=rx;obtain⟨t',rfl⟩:=ry;exact rule i j t t' s _ _ ⟨.int (g i j),H,I.tok _,⟨_,rfl⟩,q⟩
def M9{f:ah->ah->Sem ah}{g:Int->Int->Bool}(rule:∀(i j:Int)(t u:Tok)(s:ax)(Q:ah->ax->Prop)(E:ah->ax->Prop),Q (.bool (g i j)) s->aT (model X.prog X.w) X.A (f (.int i t) (.int j u)) Q E s) :
  OpR X f (rI0 λi j=>.bl (g i j)):=by
 intro O2 s O H x y v u Q I rx ry h;obtain⟨i,j,rfl,rfl,q⟩:=h;obtain⟨t,rfl⟩:=rx;obtain⟨t',rfl⟩:=ry;exact rule i j t t' s _ _ ⟨.bl (g i j),H,I,rfl,q⟩
def CPow(i j:Int):Prop:=0<=j/\j<=1000000/\i.natAbs<2^64
def CMul(i j:Int):Prop:=(-(2^64)<i/\i<2^64)\/(-(2^64)<j/\j<2^64)
def CMul.ok(h:CMul i j):iV i j:=by
 rcases h with⟨h1,h2⟩|⟨h1,h2⟩
 ·exact .of_left (intBits_le_64 h1 h2)
 ·exact .of_right (intBits_le_64 h1 h2)
def op_add:OpR X (dI .Add) (rI0 λi j=>.int (i+j)):=opI0 λ_ _ _ _ _ _ _ q=>add_int q
def NZ:OpR X (dI .Sub) (rI0 λi j=>.int (i-j)):=opI0 λ_ _ _ _ _ _ _ q=>sub_int q
def N3:OpR X (dI .Mult) (rI CMul λi j=>.int (i*j)):=opI λ_ _ _ _ _ _ _ hc q=>mul_int q hc.ok
def J3:OpR X (dI .Mod) (rI (λ_ j=>0<j) λi j=>.int (i%j)):=opI λi j _ _ _ _ _ hc q=>by have h1:(0:Int)<j:=hc;exact mod_int' (by lia) (by rw[Int.fmod_eq_emod_of_nonneg i (by lia)];exact q)
def N1:OpR X (dI .Pow) (rI CPow λi j=>.int (i^j.toNat)):=opI λ_ _ _ _ _ _ _ hc q=>pow_int_small hc.1 hc.2.1 hc.2.2 q
def unI{f:ah->Sem ah}{g:Int->Int}(rule:∀(i:Int)(t:Tok)(s:ax)(Q:ah->ax->Prop)(E:ah->ax->Prop),Q (.int (g i) s.toks) { s with toks:=s.toks+1 }->aT (model X.prog X.w) X.A (f (.int i t)) Q E s) :
  UnR X f (rU λi=>.int (g i)):=by
 intro O2 s O H x v Q I rx h;obtain⟨i,rfl,q⟩:=h;obtain⟨t,rfl⟩:=rx;exact rule i t s _ _ ⟨.int (g i),H,I.tok _,⟨_,rfl⟩,q⟩
def JG:UnR X (unaryOp .USub) (rU λi=>.int (-i)):=unI λ_ _ _ _ _ q=>neg_int q
def scal:V->V->Bool
 |.non,.non=>true|.non,.int _=>true|.int _,.non=>true|.non,.bl _=>true|.bl _,.non=>true|.non,.str _=>true|.str _,.non=>true
 |.int _,.int _=>true|.bl _,.bl _=>true|.str _,.str _=>true|.byt _,.byt _=>true
 |.int _,.str _=>true|.str _,.int _=>true|.bl _,.str _=>true|.str _,.bl _=>true
 |_,_=>false
def rNe:R2:=λx y H Q=>scal x y=true/\Q (.bl (!decide (x=y))) H
def Mr:decide (V.int i=V.int j)=(i==j):=by rw[bZ];simp
def OE:decide (V.bl i=V.bl j)=(i==j):=by rw[bZ];simp
def Mq:decide (V.str i=V.str j)=(i==j):=by rw[bZ];simp
def Ms:decide (V.byt i=V.byt j)=(i.toList==j.toList):=by rw[bZ];cases i;cases j;simp
def o8(I:Inv X O2 O H s)(q:Q (.bl k) H)(e:k=k'):EP X O2 O Q (.bool k') s:=by subst e;exact⟨.bl k,H,I,rfl,q⟩
def op_ne:OpR X (cm .NotEq) rNe:=by
 intro O2 s O H x y v u Q I rx ry h;obtain⟨hs,q⟩:=h;cases x with
 |non =>
  cases rx;cases y with
  |non=>cases ry;exact PySem.EqNone.ne_none_none (o8 I q (by simp))
  |bl j=>cases ry;exact PySem.EqNone.ne_none_bool (o8 I q (by simp))
  |int j=>obtain⟨t',rfl⟩:=ry;exact PySem.EqNone.ne_none_int (o8 I q (by simp))
  |str j=>obtain⟨t',rfl⟩:=ry;exact PySem.EqNone.ne_none_str (o8 I q (by simp))
  |_=>exact absurd (show false=true from hs) aY
 |bl i =>
  cases rx;cases y with
  |non=>cases ry;exact PySem.EqNone.ne_bool_none (o8 I q (by simp))
  |bl j=>cases ry;exact ne_bool (o8 I q (congrArg not OE))
  |str j=>obtain⟨t',rfl⟩:=ry;exact PySem.EqMixed.ne_bool_str (o8 I q (by simp))
  |_=>exact absurd (show false=true from hs) aY
 |int i =>
  obtain⟨t,rfl⟩:=rx;cases y with
  |non=>cases ry;exact PySem.EqNone.ne_int_none (o8 I q (by simp))
  |int j=>obtain⟨t',rfl⟩:=ry;exact ne_int (o8 I q (congrArg not Mr))
  |str j=>obtain⟨t',rfl⟩:=ry;exact PySem.EqMixed.ne_int_str (o8 I q (by simp))
  |_=>exact absurd (show false=true from hs) aY
 |str i =>
  obtain⟨t,rfl⟩:=rx;cases y with
  |non=>cases ry;exact PySem.EqNone.ne_str_none (o8 I q (by simp))
  |bl j=>cases ry;exact PySem.EqMixed.ne_str_bool (o8 I q (by simp))
  |int j=>obtain⟨t',rfl⟩:=ry;exact PySem.EqMixed.ne_str_int (o8 I q (by simp))
  |str j=>obtain⟨t',rfl⟩:=ry;exact ne_str (o8 I q (congrArg not Mq))
  |_=>exact absurd (show false=true from hs) aY
 |byt i =>
  obtain⟨t,rfl⟩:=rx;cases y with
  |byt j=>obtain⟨t',rfl⟩:=ry;exact PySem.W.ne_bytes (o8 I q (congrArg not Ms))
  |_=>exact absurd (show false=true from hs) aY
 |_=>cases y<;>exact absurd (show false=true from hs) aY
def M6:OpR X (cm .Lt) (rI0 λi j=>.bl (decide (i<j))):=M9 λ_ _ _ _ _ _ _ q=>lt_int q
def M7:OpR X (cm .LtE) (rI0 λi j=>.bl (decide (i<=j))):=M9 λ_ _ _ _ _ _ _ q=>le_int q
def M8:OpR X (cm .Gt) (rI0 λi j=>.bl (decide (j<i))):=M9 λ_ _ _ _ _ _ _ q=>gt_int q
def KD:OpR X (cm .GtE) (rI0 λi j=>.bl (decide (j<=i))):=M9 λ_ _ _ _ _ _ _ q=>ge_int q
def OpR.or(h:OpR X f r)(h':OpR X f r'):OpR X f (λx y H Q=>r x y H Q\/r' x y H Q):=by
 intro O2 s O H x y v u Q I rx ry q;rcases q with q|q
 ·exact h O2 s O H x y v u Q I rx ry q
 ·exact h' O2 s O H x y v u Q I rx ry q
def uY(b)(h:op≠.In:=by decide)(h2:op≠.NotIn:=by decide):cT op b=false:=by
 have e1:(op==CmpOp.In)=false:=by cases op<;>first|rfl|exact absurd rfl h
 have e2:(op==CmpOp.NotIn)=false:=by cases op<;>first|rfl|exact absurd rfl h2
 cases b<;>simp[cT,e1,e2]
def FY{op:CmpOp}{r}(ho:OpR X (cm op) r)(ha:PE X a ta)(hb:PE X b tb)(hm:cT op b=false):PE X (.Compare a [op] [b] pos) (tOp r ta tb):=by intro O2 s O H Q I h;exact wpAny_Compare1 (O0 ha hb I h λv u s2 x y H2 I2 rx ry q=>ho O2 s2 O H2 x y v u Q I2 rx ry q) hm
def tTest(t:TE):TT:=λO H Q=>t O H λx H'=>∃k,x=.bl k/\Q k H'
def uV{op:CmpOp}{r}(ho:OpR X (cm op) r)(ha:PE X a ta)(hb:PE X b tb)(hm:cT op b=false):PT X (.Compare a [op] [b] pos) (tTest (tOp r ta tb)):=by
 intro O2 s O H Q I h;refine wpAny_isTrue_Compare1 (thn (ha O2 s O H _ I h) λv s1=>e4 λx H1 I1 r1 q1=>thn (hb O2 s1 O H1 _ I1 q1) λu s2=>e4 λy H2 I2 r2 q2 =>
  thn (ho O2 s2 O H2 x y v u _ I2 r1 r2 q2) λc s3=>e4 λz H3 I3 r3 ⟨k,e,q3⟩=>?_) hm
 subst e;cases r3;exact ej ⟨H3,I3,q3⟩
def NE(r r':R2)(ta tb tc:TE):TE:=λO H Q=>ta O H λx H1=>tb O H1 λy H2=>r x y H2 λz H3=>∃k,z=.bl k /\
 (if k=true then tc O H3 λw' H4=>r' y w' H4 Q else Q (.bl false) H3)
def DQ(ho:OpR X (cm op) r)(Rj:OpR X (cm op') r')(ha:PE X a ta)(hb:PE X b tb)(hc:PE X c tc)(hm:lastMarks [op,op'] [b,c]=false:=by with_unfolding_all rfl):PE X (.Compare a [op,op'] [b,c] pos) (NE r r' ta tb tc):=by
 intro O2 s O H Q I h;refine Compare_chain (thn (ha O2 s O H _ I h) λv s1=>e4 λx H1 I1 r1 q1=>chain_link (thn (hb O2 s1 O H1 _ I1 q1) λu s2=>e4 λy H2 I2 r2 q2 =>
  thn (ho O2 s2 O H2 x y v u _ I2 r1 r2 q2) λd s3=>e4 λz H3 I3 r3 ⟨k,e,q3⟩=>?_)) hm
 subst e;cases r3;refine ej ?_;cases k with
 |false=>exact ite_ff ⟨.bl false,H3,I3,rfl,q3⟩
 |true=>exact ite_tt (chain_last (thn (hc O2 s3 O H3 _ I3 q3) λw' s4=>e4 λz' H4 I4 r4 q4=>Rj O2 s4 O H4 y z' u w' Q I4 r2 r4 q4))
def wa:(aJ:Nat)<2^63:=by rw[jX];decide
def op_add_str:OpR X (dI .Add) (λx y H Q=>∃i j,x=.str i/\y=.str j/\i.length+j.length<=aJ/\Q (.str (i++j)) H):=by intro O2 s O H x y v u Q I rx ry h;obtain⟨i,j,rfl,rfl,hz,q⟩:=h;obtain⟨t,rfl⟩:=rx;obtain⟨t',rfl⟩:=ry;exact add_str (λt' tk=>⟨.str (i++j),H,I.tok _,⟨_,rfl⟩,q⟩) hz
def qp(r:Vals [x] us):∃u,us=[u]/\RelV x u:=by
 cases r with
 |cons r1 r2=>cases r2;exact⟨_,rfl,r1⟩
def MR(r:Vals [x,y] us):∃u w',us=[u,w']/\RelV x u/\RelV y w':=by
 cases r with
 |cons r1 r2 =>
  cases r2 with
  |cons r3 r4=>cases r4;exact⟨_,_,rfl,r1,r3⟩
def Jx:CallR X (.builtin "abs") (λxs H Q=>∃i,xs=[.int i]/\Q (.int (if i<0 then -i else i)) H):=by intro O2 s O H xs us Q I r h;obtain⟨i,rfl,q⟩:=h;obtain⟨u,rfl,t,rfl⟩:=qp r;exact call_abs_int λu tk=>⟨.int (if i<0 then -i else i),H,I.tok _,⟨_,rfl⟩,q⟩
def HB:CallR X (.type "int") (λxs H Q=>(∃i,xs=[.int i]/\Q (.int i) H)\/∃k,xs=[.bl k]/\Q (.int (if k then 1 else 0)) H):=by
 intro O2 s O H xs us Q I r h;rcases h with⟨i,rfl,q⟩|⟨k,rfl,q⟩
 ·obtain⟨u,rfl,t,rfl⟩:=qp r;exact call_int_int ⟨.int i,H,I,⟨_,rfl⟩,q⟩
 ·obtain⟨u,rfl,r1⟩:=qp r;cases r1;exact call_int_bool ⟨.int (if k then 1 else 0),H,I.tok _,⟨_,rfl⟩,q⟩
end
structure ObjM(h:bx)(x dx C:ak)(mA:Str->Option ah):Prop where
 obj:h.get? x=Za (dq C dx)
 ns:h.Ns1 dx mA
 ne:dx≠x
def Hi{h:bx}{dx:ak}{mA:Str->Option ah}(n:h.Ns1 dx mA):∃od,h.get? dx=Za od/\∀name,g5 name od=Za (mA name):=by
 obtain⟨o,es,ep,ho,hd,hk,_,hm⟩:=n;refine⟨o,ho,λname=>?_⟩;have e:=hm name;unfold nsFind findBy at e;rw[<-Array.find?_toList] at e;unfold g5;rw[hd];dsimp only;split
 ·rename_i y q;rw[q] at e;exact congrArg Za e
 ·rename_i q;rw[q] at e;have a:es.toList.any (·.refKey)=false:=by rw[List.any_eq_false];intro y hy;obtain⟨z,t,R3⟩:=hk y (Array.mem_toList_iff.mp hy);simp[DictEntry.refKey,R3]
  have a':¬es.toList.any (·.refKey)=true:=by rw[a];exact aY
  rw[Zd a'];exact congrArg Za e
def ObjM.look(I:ObjM h x dx C mA):∃od,PySem.W.InstAt h x (dq C dx) C (Za od)/\∀name,g5 name od=Za (mA name) :=
 let⟨od,ho,hl⟩:=Hi I.ns
 ⟨od,⟨I.obj,rfl,rfl,ho⟩,hl⟩
section
variable{prog:aK}{w:a6}{A:cE}{E:ah->ax->Prop}{s:ax}{K:aa}{x dx C f:ak}{mA:Str->Option ah}{name:Str}{v:ah}
def Mb(X:K.In s.heap)(I:ObjM s.heap x dx C mA)(hg:d8 K C name=true)(hh:eS K C=true)(ha:aW K (.ref C) name=Za Zb)(hv:mA name=Za v)(hv':k6 v=true)(h:Q v { s with toks:=s.toks+1 }) :
  aT (model prog w) A (getAttr (.ref x) name expr) Q E s:=by
 obtain⟨od,J,hl⟩:=I.look;exact PySem.W.get_value X J (im hg).1 (PySem.W.findObj_own hh ha rfl (by rw[hl,hv])) hv' h
def Je(X:K.In s.heap)(I:ObjM s.heap x dx C mA)(hg:d8 K C name=true)(hf:aW K (.ref C) name=Za (Za (.ref f)))(ht:gF K (.ref f)=true)(hv:mA name=Zb)(h:Q (.ref f,[.ref x]) s) :
  aT (model prog w) A (fQ (.ref x) name pl) Q E s:=by
 obtain⟨od,J,hl⟩:=I.look;exact PySem.W.method_fn X J (im hg).1 (im hg).2 hf (beq_iff_eq.mp ht) (by show(g5 name od).map (·.isSome)=Za false;rw[hl,hv];rfl) h
def La(X:K.In s.heap)(I:ObjM s.heap x dx C mA)(hs:aW K (.ref C) "__setattr__"=Za (Za (.builtin "object.__setattr__")))(hp:f9 K C=true)(ht:jd K C name=Za Zb)(hh:eS K C=true)(hw:kj mA ns)(hsz:ns.length<=aJ)(h:∀h',ObjM h' x dx C (λy=>if y=name then Za v else mA y)->i0 dx s.heap h'->Q () { s with heap:=h',toks:=s.toks+2 }) :
  aT (model prog w) A (setAttr (.ref x) name v) Q E s:=by
 obtain⟨od,J,hl⟩:=I.look;refine PySem.W.set_plain X J hs (PySem.W.osa_open (s:={ s with toks:=s.toks+1 }) (r:=Zb) X J hp ht λb=>?_);obtain⟨cd,hc,Tz⟩:=PySem.W.any_some hh;have hx:s.heap.get? x=Za ⟨.ref C,Za dx,.plain,#[]⟩:=I.obj;refine ap (aL (ap (ap (wpAny_loadPart hx (ap (PySem.W.Looks.here (s:={ s with toks:=s.toks+1 }) (PySem.W.looks_clsIn X hc) ?_))))));rw[Tz];refine aL (a:=Za dx) (ap (aL (ap ?_)));refine wpAny_nsSet1 (s:={ s with toks:=s.toks+1 }) I.ns λh' Ui Rg=>?_;obtain⟨oD,esD,epD,hoD,hdD,hcD⟩:=Ui.count (PySem.Within.cons name v hw);refine ap (wpAny_lookBehind hoD (by rw[hdD];exact pastItsLine_dict (aI hcD (by rw[bc];lia))) ?_);exact aL (h _ ⟨(Rg.2 _ (bX I.ne)).trans I.obj,Ui,I.ne⟩ Rg)
def IV(X:K.In s.heap)(hm:fE K C=true)(hi:aW K (.ref C) "__init__"=Za (Za (.ref f)))(hf:PySem.W.typeIn K (.ref f)=Za (.type "function"))(h:gw (model prog w) (A.under (.builtin "type.__call__" ⟨.ref C::vs,kw⟩)) (.call (.ref f) ⟨.ref (s.heap.objs.size+1)::vs,kw⟩) (PySem.W.InitBack (s.heap.objs.size+1) R)
   {s with heap:=(s.heap.push cG).push (dq C s.heap.objs.size) }) :
  gw (model prog w) A (.call (.ref C) ⟨vs,kw⟩) R s:=by
 obtain⟨hh,g,d,t,os⟩:=s;exact PySem.W.make_core (PySem.W.makes_of X hm) (PySem.W.looks_findIn X hi) (λself=>PySem.W.bind_fn X self hf) (.inl rfl) h
end
def putF(f:Str)(v:V):List (Str×V)->List (Str×V)
 |[]=>[(f,v)]
 |(g,x)::r=>if g=f then(g,v)::r else(g,x)::putF f v r
theorem xJ(f g)(v):∀fs:List (Str×V),(putF f v fs).lookup g=if g=f then Za v else fs.lookup g
 |[]=>by
  show da g [(f,v)]=_;by_cases h:g=f
  ·have hb:(g==f)=true:=beq_iff_eq.mpr h;simp only[da,hb,Zc h]
  ·have hb:(g==f)=false:=beq_eq_false_iff_ne.mpr h;simp only[da,hb,Zd h]
 |(k,x)::r=>by
  have ih:=xJ f g v r;rw[show putF f v ((k,x)::r)=(if k=f then(k,v)::r else(k,x)::putF f v r) from rfl];by_cases hk:k=f
  ·rw[Zc hk];by_cases h:g=k
   ·have hb:(g==k)=true:=beq_iff_eq.mpr h;simp only[da,hb,Zc (h.trans hk)]
   ·have hb:(g==k)=false:=beq_eq_false_iff_ne.mpr h;simp only[da,hb,Zd (λe:g=f=>h (e.trans hk.symm))]
  ·rw[Zd hk];by_cases h:g=k
   ·have hb:(g==k)=true:=beq_iff_eq.mpr h;simp only[da,hb,Zd (λe:g=f=>hk (h.symm.trans e))]
   ·have hb:(g==k)=false:=beq_eq_false_iff_ne.mpr h;simp only[da,hb];exact ih
theorem xt(f)(v):∀fs:List (Str×V),f∈(putF f v fs).map (·.1)/\∀g,g∈fs.map (·.1)->g∈(putF f v fs).map (·.1)
 |[]=>⟨by simp[putF],λg h=>by simp at h⟩
 |(k,x)::r=>by
  obtain⟨i1,i2⟩:=xt f v r;rw[show putF f v ((k,x)::r)=(if k=f then(k,v)::r else(k,x)::putF f v r) from rfl];by_cases hk:k=f
  ·rw[Zc hk];subst hk;exact⟨by simp,λg h=>by simpa using h⟩
  ·rw[Zd hk];refine⟨?_,λg h=>?_⟩
   ·rw[ao];exact ae _ i1
   ·rw[ao] at h ⊢;rcases af.mp h with e|e
    ·exact af.mpr (.inl e)
    ·exact ae _ (i2 g e)
theorem ue(f)(v):∀fs:List (Str×V),(putF f v fs).length<=fs.length+1
 |[]=>by simp[putF]
 |(k,x)::r=>by
  have ih:=ue f v r;rw[show putF f v ((k,x)::r)=(if k=f then(k,v)::r else(k,x)::putF f v r) from rfl];by_cases hk:k=f
  ·rw[Zc hk,bc,bc];lia
  ·rw[Zd hk,bc,bc];lia
def RelO.some_of(r:RelO (Za v) o):∃u,o=Za u/\RelV v u:=by
 cases o with
 |none=>exact(show False from r).elim
 |some u=>exact⟨u,rfl,r⟩
def RelO.none_of(r:RelO Zb o):o=none:=by
 cases o with
 |none=>rfl
 |some u=>exact(show False from r).elim
def Hu(r:RelV v u):k6 u=true:=by
 cases v with
 |non=>cases(show u=k8 from r);rfl
 |bl b=>cases(show u=k9 b from r);rfl
 |int i=>obtain⟨t,e⟩:=(show ∃t,u=fW i t from r);cases e;rfl
 |str x=>obtain⟨t,e⟩:=(show ∃t,u=iq x t from r);cases e;rfl
 |byt b=>obtain⟨t,e⟩:=(show ∃t,u=Value.bytes b t from r);cases e;rfl
 |flt b=>obtain⟨t,e⟩:=(show ∃t,u=Value.float b t from r);cases e;rfl
 |ref a=>cases(show u=bj a from r);rfl
 |ty n=>cases(show u=Value.type n from r);rfl
section
variable{P:aK}{w:a6}{H H':Hp}{h h':bx}{a C dx:ak}{fs fs':List (Str×V)}
def CA(hok:HOk P w H h)(e:H a=Za (.ins C dx fs)):∃mA,ObjM h a dx C mA/\(∀f,RelO (fs.lookup f) (mA f))/\kj mA (fs.map (·.1))/\fs.length<=1000/\H dx=Za (.own a):=by obtain⟨d,z,ne,ob,mA,n,r,q⟩:=(show ObjOk P w H h a (.ins C dx fs) from hok a _ e);exact⟨mA,⟨ob,n,ne⟩,r,q,z,d⟩
end
structure Cls(K:aa)(C:ak):Prop where
 pg:d8 K C cC=true
 hd:eS K C=true
 po:f9 K C=true
 sa:aW K (.ref C) "__setattr__"=Za (Za (.builtin "object.__setattr__"))
def Cls.get{K}{C}(c:Cls K C)(f):d8 K C f=true:=c.pg
def NoAttr(K:aa)(C:ak)(f:Str):Prop:=aW K (.ref C) f=Za Zb
def NoAttr.taker{K}{C}{f}(n:NoAttr K C f):jd K C f=Za none:=by unfold jd;rw[show aW K (.ref C) f=Za Zb from n];rfl
structure Con(K:aa)(C:ak)(f:Str)(v:V)(u:ah):Prop where
 at_:aW K (.ref C) f=Za (Za u)
 rel:RelV v u
 get:f8 K u "__get__"=Za Zb
 cp:PySem.W.copiedNames.contains f=false
structure Meth(K:aa)(C:ak)(m:Str)(f:ak):Prop where
 at_:aW K (.ref C) m=Za (Za (.ref f))
 fn:gF K (.ref f)=true
 kp:cF K (.ref f)=true
section
variable{X:Cx}{O2:List (ak×Obj)}{O:St}{H:Hp}{s:ax}{a C dx:ak}{fs:List (Str×V)}{f:Str}{v:V}{A:cE}{E:ah->ax->Prop}
def E5(I:Inv X O2 O H s)(e:H a=Za (.ins C dx fs))(c:Cls X.K C)(n:NoAttr X.K C f)(l:fs.lookup f=Za v)(h:∀u s',Inv X O2 O H s'->RelV v u->Q u s'):aT (model X.prog X.w) A (getAttr (.ref a) f b) Q E s:=by
 obtain⟨mA,Zi,r,_,_,_⟩:=CA I.hok e;obtain⟨u,hu,ru⟩:=RelO.some_of (v:=v) (o:=mA f) (by rw[<-l];exact r f);exact Mb I.kIn Zi (c.get f) c.hd n hu (Hu ru) (h u _ (I.tok _) ru)
def za(I:Inv X O2 O H s)(e:H a=Za (.ins C dx fs))(c:Cls X.K C)(k:Meth X.K C m g)(l:fs.lookup m=Zb)(h:Q (.ref g,[.ref a]) s):aT (model X.prog X.w) A (fQ (.ref a) m pl) Q E s:=by
 obtain⟨mA,Zi,r,_,_,_⟩:=CA I.hok e;have hn:mA m=none:=RelO.none_of (by rw[<-l];exact r m);exact Je I.kIn Zi (c.get m) k.at_ k.fn hn h
def EA(I:Inv X O2 O H s)(e:H a=Za (.ins C dx fs))(c:Cls X.K C)(n:NoAttr X.K C f)(hl:fs.length<1000)(ry:RelV y u)(h:∀s',Inv X O2 O (upd H a (.ins C dx (putF f y fs))) s'->Q () s'):aT (model X.prog X.w) A (setAttr (.ref a) f u) Q E s:=by
 obtain⟨mA,Zi,r,wi,_,ho⟩:=CA I.hok e;have hz:(fs.map (·.1)).length<=aJ:=by rw[ac,jX];lia
 refine La I.kIn Zi c.sa c.po n.taker c.hd wi hz λh' O' sb=>h _ ?_;have hd:∃o,h'.get? dx=Za o:=let⟨o,_,_,e',_⟩:=O'.ns;⟨o,e'⟩;refine I.write (x:=a) (e:=dx) (by rw[e];exact eR) (.inr ho) (λb q hb z=>(sb.2 b hb).trans z) hd ?_;refine⟨by rw[lK Zi.ne];exact ho,?_,Zi.ne,O'.obj,_,O'.ns,λg=>?_,λg hg=>?_⟩
 ·have:=ue f y fs;lia
 ·show RelO ((putF f y fs).lookup g) (if g=f then Za u else mA g);rw[xJ];by_cases q:g=f
  ·rw[Zc q,Zc q];exact ry
  ·rw[Zd q,Zd q];exact r g
 ·by_cases q:g=f
  ·rw[q];exact(xt f y fs).1
  ·refine(xt f y fs).2 g (wi g λz=>hg ?_);show(if g=f then Za u else mA g)=Zb;rw[Zd q];exact z
def Inv.made(I:Inv X O2 O H s):Inv X O2 O (upd (upd H s.heap.objs.size (.own (s.heap.objs.size+1))) (s.heap.objs.size+1) (.ins C s.heap.objs.size []))
  {s with heap:=(s.heap.push cG).push (dq C s.heap.objs.size) }:=by
 have e1:(s.heap.push cG).get? s.heap.objs.size=Za cG:=a7 s.heap rfl;have e2:((s.heap.push cG).push (dq C s.heap.objs.size)).get? (s.heap.objs.size+1)=Za (dq C s.heap.objs.size):=by have:=a7 (s.heap.push cG) (o:=dq C s.heap.objs.size) rfl;rwa[jI] at this
 have e3:(s.heap.push cG).Ns s.heap.objs.size (λ_=>Zb):=⟨cG,#[],_,e1,rfl,(λe he=>absurd he (by simp)),λ_=>rfl⟩;have I1:=I.laid (a:=s.heap.objs.size) (o:=.own (s.heap.objs.size+1)) (h':=s.heap.push cG) (t':=s.toks) (λb u q=>au _ q) (am _) ⟨_,e1⟩;refine I1.laid (a:=s.heap.objs.size+1) (o:=.ins C s.heap.objs.size []) (t':=s.toks) (λb u q=>au _ q) (kQ (jI _ _)) ?_;have ne:s.heap.objs.size≠s.heap.objs.size+1:=aE (bT _);refine⟨by rw[lK ne,lN],aX _,ne,e2,λ_=>Zb,(Heap.Ns1.of_empty e3).at λo q=>au _ q,λ_=>eR,λy hy=>absurd rfl hy⟩
def MH{f}{s}(hb:cU e f env (eval e env)=eval e env)(h:aT (model prog w) A (eval e env) (λo Pf=>aT (model prog w) A (getAttr o f true) Q E Pf) E s):aT (model prog w) A (eval (.Attribute e f pos) env) Q E s :=
 Attribute_any_ h (by rw[arm_eval_Attribute,hb])
end
def tFld(K:aa)(ta:TE)(f:Str):TE:=λO H Q=>ta O H λx H1=>∃a C dx fs v,x=.ref a/\H1 a=Za (.ins C dx fs)/\Cls K C/\NoAttr K C f/\fs.lookup f=Za v/\Q v H1
def sFld(K:aa)(ta tv:TE)(f:Str):TS:=λD O H=>tv O H λy H1=>ta O H1 λx H2=>∃a C dx fs,x=.ref a/\H2 a=Za (.ins C dx fs)/\Cls K C/\NoAttr K C f/\fs.length<1000 /\
 D.nx O (upd H2 a (.ins C dx (putF f y fs)))
section
variable{X:Cx}{o e value:bo}{f:Str}{pos Ph Px:Pos}{ta tv:TE}
def m6(he:PE X e ta)(hb:cU e f X.env (eval e X.env)=eval e X.env):PE X (.Attribute e f pos) (tFld X.K ta f):=by intro O2 s O H Q I h;refine MH hb (thn (he O2 s O H _ I h) λu s1=>e4 λx H1 I1 rx ⟨a,C,dx,fs,v,ex,ea,c,n,l,q⟩=>?_);subst ex;obtain rfl:u=bj a:=rx;exact E5 I1 ea c n l λu' s2 I2 ru=>⟨v,H1,I2,ru,q⟩
def sd(ha:PE X o ta)(hv:PE X value tv)(hs:dQ value (Za (.Attribute o f Ph)) pos.line X.env=pure false):PS X (.Assign [.Attribute o f Ph] value pos) (sFld X.K ta tv f):=by intro O2 s O H D I h;refine plainObj_wpAny_Assign_Attribute (thn (hv O2 s O H _ I h) λu s1=>e4 λy H1 I1 ry q=>thn (ha O2 s1 O H1 _ I1 q) λov s2=>e4 λx H2 I2 rx ⟨a,C,dx,fs,ex,ea,c,n,l,q2⟩=>?_) hs;subst ex;obtain rfl:ov=bj a:=rx;exact EA I2 ea c n l ry λs3 I3=>⟨O,_,I3,q2⟩
end
section
variable{X:Cx}{O2:List (ak×Obj)}{O:St}{H:Hp}{s:ax}{A:cE}{E:ah->ax->Prop}{Q:ah->ax->Prop}{c:ah}{b:Bool}
inductive TyOf (K:aa) (H:Hp):V->ah->Prop where
 |non:TyOf K H .non (.type "NoneType")
 |bl (x:Bool):TyOf K H (.bl x) (.type "bool")
 |int (i:Int):TyOf K H (.int i) (.type "int")
 |str (x:Str):TyOf K H (.str x) (.type "str")
 |flt (x:UInt64):TyOf K H (.flt x) (.type "float")
 |lst {a:ak}{xs:List V} (e:H a=Za (.lst xs)):TyOf K H (.ref a) (.type "list")
 |frz {a:ak}{o:Obj}{xs:List V} (e:H a=Za (.frz o (.lst xs))):TyOf K H (.ref a) (.type "list")
 |tup {a:ak}{xs:List V} (e:H a=Za (.tup xs)):TyOf K H (.ref a) (.type "tuple")
 |dK {a:ak}{kvs:List (Key×V)} (e:H a=Za (.dK kvs)):TyOf K H (.ref a) (.type "dict")
 |dT {a:ak}{kvs:List (List Key×V)} (e:H a=Za (.dT kvs)):TyOf K H (.ref a) (.type "dict")
 |ins {a C dx:ak}{fs:List (Str×V)} (e:H a=Za (.ins C dx fs)) (cl:Cls K C) (ha:aW K (.ref C) "__class__"=Za (Za (.builtin "object.__class__")))
   (hn:f8 K (.builtin "object.__class__") "__get__"=Za (Za (.builtin "getset_descriptor.__get__"))) (htk:jc K (.builtin "object.__class__")=Za true)
   (hm:gh K C (.type "object")=Za true):TyOf K H (.ref a) (.ref C)
end
structure Room(k:Nat)(A:cE):Prop where
 hd:A.handled=Zb
 dp:A.depth+3*k+5<recursionLimit
 un:A.units+16*k+200<fD
def Room.mono(r:Room k A)(h:j<=k):Room j A:=⟨r.hd,by have:=r.dp;lia,by have:=r.un;lia⟩
theorem Room.deeper(r:Room (k+1) A)(env:Env):Room k (A.deeper env) :=
 ⟨r.hd,by have:=r.dp;show A.depth+1+3*k+5<_;lia,by have:=r.un;show A.units+3+16*k+200<_;lia⟩
def EX{A:cE}{C:ak}{us:List ah}{kw:List (Str×ah)}:(A.under (.builtin "type.__call__" ⟨.ref C::us,kw⟩)).depth=A.depth+1:=by
 first|rfl|simp[kf,Code.weight,Code.isCreation,Code.isGuard,Code.isCaller,Code.frames,kB,guardIds]
def EW{A:cE}{C:ak}{us:List ah}{kw:List (Str×ah)}:(A.under (.builtin "type.__call__" ⟨.ref C::us,kw⟩)).units=A.units+1:=by
 first|rfl|simp[kf,Code.cUnits,Code.frames,kB]
def Room.make(r:Room (k+1) A)(C:ak)(us:List ah)(kw:List (Str×ah)):Room k (A.under (.builtin "type.__call__" ⟨.ref C::us,kw⟩)) :=
 ⟨r.hd,by have:=r.dp;rw[EX];lia,by have:=r.un;rw[EW];lia⟩
theorem Room.depth(r:Room k A):A.depth<recursionLimit:=by have:=r.dp;lia
theorem Room.units(r:Room k A):A.units+64<fD:=by have:=r.un;lia
def JI:TA:=λ_ H Q=>Q [] H
def Kv(ta:TE)(tr:TA):TA:=λO H Q=>ta O H λx H1=>tr O H1 λxs H2=>Q (x::xs) H2
section
variable{X:Cx}{e:bo}{es:List bo}{te:TE}{t:TA}{pos:Pos}
def pa_nil:PA X [] JI:=λ_ _ _ _ H Q I h=>gu ⟨[],H,I,.nil,h⟩
abbrev SEb(X:Cx)(e:bo)(es:List bo):Prop:=aC (e::es) X.env=(false,eval e X.env)::aC es X.env
def lW(ha:PE X e te)(hr:PA X es t)(hs:SEb X e es:=by rfl):PA X (e::es) (Kv te t):=by intro pos O2 s O H Q I h;rw[hs];show aT _ _ (spliced ((false,eval e X.env)::b8 pos (aC es X.env))) _ _ s;refine eP (thn (ha O2 s O H _ I h) λu s1=>e4 λx H1 I1 r1 q1=>?_);exact thn (hr pos O2 s1 O H1 _ I1 q1) λus s2=>e4 λxs H2 I2 r2 q2=>⟨x::xs,H2,I2,.cons r1 r2,q2⟩
def tTup(t:TA):TE:=λO H Q=>t O H λxs H1=>xs.length<=aJ/\∀p,H1 p=Zb->Q (.ref p) (upd H1 p (.tup xs))
def tLst(t:TA):TE:=λO H Q=>t O H λxs H1=>xs.length<=aJ/\∀p,H1 p=Zb->Q (.ref p) (upd H1 p (.lst xs))
def vY{x1}(h:PA X es t):PE X (.Tuple es x1 pos) (tTup t):=by intro O2 s O H Q I hq;refine wpAny_Tuple_spliced (thn (h pos O2 s O H _ I hq) λus s1=>e4 λxs H1 I1 r ⟨z,q⟩=>⟨by rw[<-r.length];exact z,?_⟩);have hf:H1 s1.heap.objs.size=none:=I1.hok.fresh (am _);refine⟨.ref s1.heap.objs.size,upd H1 s1.heap.objs.size (.tup xs),I1.laid (t':=s1.toks) (λb u e=>au _ e) (am _) ?_,rfl,q _ hf⟩;exact⟨z,us,r,⟨_,a7 _ rfl,rfl,_,rfl⟩⟩
def JY(h:PA X es t):PE X (.List es pos) (tLst t):=by intro O2 s O H Q I hq;refine wpAny_List_spliced (thn (h pos O2 s O H _ I hq) λus s1=>e4 λxs H1 I1 r ⟨z,q⟩=>⟨by rw[<-r.length];exact z,?_⟩);have hf:H1 s1.heap.objs.size=none:=I1.hok.fresh (am _);refine⟨.ref s1.heap.objs.size,upd H1 s1.heap.objs.size (.lst xs),I1.laid (t':=s1.toks) (λb u e=>au _ e) (am _) ?_,rfl,q _ hf⟩;exact⟨z,us,0,r,a7 _ rfl⟩
end
abbrev Sp:=List V->Hp->VK->XK->Prop
abbrev CXT:=List Env->Hp->ax->XK->ah->ax->Prop
structure Env0(P:aK)(w:a6)(K:aa)(mg:Str->Option ah)(base:bx)(A:cE)(outer:List Env)(s:ax)(H:Hp):Prop where
 frames:A.frames=Za outer
 mod:Mod K mg base
 bs:∀b o,base.get? b=Za o->s.heap.get? b=Za o/\H b=Zb
 bsz:base.objs.size<=s.heap.objs.size
 funs:s.heap.FunFrames base outer
 frf:∀b∈frs outer,H b=Zb
 hok:HOk P w H s.heap
 bare:gU s.gens
def CE(outer:List Env)(P:aK)(w:a6)(H:Hp)(s:ax)(Q:VK)(u:ah)(s':ax):Prop :=
 ∃v H',s'.os=s.os/\gU s'.gens/\Un (frs outer) [] H H' s.heap s'.heap/\HOk P w H' s'.heap/\RelV v u/\Q v H'
def CR(CX:CXT)(outer:List Env)(P:aK)(w:a6)(H:Hp)(s:ax)(Q:VK)(E:XK)(r:Result)(s':ax):Prop :=
 match r with
 |.ok (.ret u)=>CE outer P w H s Q u s'
 |.ok _=>False
 |.error e=>CX outer H s E e s'
structure FnOk(P:aK)(w:a6)(K:aa)(mg:Str->Option ah)(base:bx)(CX:CXT)(k:Nat)(f:ak)(fd:cz)(ps:List Str)(sp:Sp):Prop where
 len:∀vs H Q E,sp vs H Q E->vs.length=ps.length
 run:∀(A:cE)(outer:List Env)(s:ax)(H:Hp)(args:Args)(us:List ah)(vs:List V)(Q:VK)(E:XK),Room k A->Env0 P w K mg base A outer s H->jG s fd args (ps.zip us)->Vals vs us->sp vs H Q E ->
  gw (model P w) A (.call (.ref f) args) (CR CX outer P w H s Q E) s
def FnOk.imp{P}{w}{K}{mg}{base}{CX:CXT}{k}{f}{fd}{ps}{sp Sk:Sp}(F:FnOk P w K mg base CX k f fd ps sp)(h:∀vs H Q E,Sk vs H Q E->sp vs H Q E):FnOk P w K mg base CX k f fd ps Sk :=
 ⟨λvs H Q E q=>F.len vs H Q E (h _ _ _ _ q),λA outer s H args us vs Q E hr he hb hv hs=>F.run A outer s H args us vs Q E hr he hb hv (h _ _ _ _ hs)⟩
def Env0.make{P}{w}{K}{mg}{base}{A}{outer}{s}{H}(e:Env0 P w K mg base A outer s H)(C)(us)(kw) :
  Env0 P w K mg base (A.under (.builtin "type.__call__" ⟨.ref C::us,kw⟩)) outer s H:=⟨by first|exact e.frames|(simpa[kf,Code.envs,kB,pushEnvs] using e.frames),e.mod,e.bs,e.bsz,e.funs,e.frf,e.hok,e.bare⟩
section
variable{X:Cx}{O2:List (ak×Obj)}{O:St}{H:Hp}{s s':ax}
def Inv.env0(I:Inv X O2 O H s):Env0 X.prog X.w X.K X.mg X.base X.A X.stack s H :=
 ⟨I.ok.frames,I.ok.mod,I.bs,aI I.ok.bsz I.sz,I.stack,I.stkFree,I.hok,I.bare⟩
def Inv.after(I:Inv X O2 O H s)(h:CE X.stack X.prog X.w H s Q u s'):EP X O2 O Q u s':=by obtain⟨v,H',os,bare,un,hok,r,q⟩:=h;obtain⟨hh,g,d,t,os'⟩:=s';obtain rfl:os'=s.os:=os;exact⟨v,H',I.call (h':=hh) (g':=g) (d':=d) (t':=t) (ch:=[]) un hok bare (λb z=>absurd z (by simp)),r,q⟩
end
def Kw(sp:Sp)(PM:List V)(E:XK)(t:TA):TE:=λO H Q=>t O H λvs H1=>sp (vs++PM) H1 Q E
def HG(C:ak)(m:Str)(sp:Sp)(PM:List V)(E:XK)(ta:TE)(t:TA):TE:=λO H Q=>ta O H λx H1=>∃a dx fs,x=.ref a/\H1 a=Za (.ins C dx fs)/\fs.lookup m=Zb /\
 t O H1 λvs H2=>sp (x::(vs++PM)) H2 Q E
def HH(C:ak)(sp:Sp)(PM:List V)(E:XK)(t:TA):TE:=λO H Q=>t O H λvs H1=>∀x dx,H1 x=Zb->H1 dx=Zb->dx≠x ->
 sp (.ref x::(vs++PM)) (upd (upd H1 dx (.own x)) x (.ins C dx [])) (λv H2=>v=.non/\Q (.ref x) H2) E
def Binds(K:aa)(fd:cz)(ps:List Str)(ds:List ah):Prop :=
 ∀(s:ax)(us:List ah),K.In s.heap->(us++ds).length=ps.length->jG s fd ⟨us,[]⟩ (ps.zip (us++ds))
def Binds.all{K}{fd}{ps}(h:∀us:List ah,us.length=ps.length->fZ fd ⟨us,[]⟩=pure (ps.zip us)):Binds K fd ps []:=λs us _ hl=>by rw[cK] at hl ⊢;exact .of_eq (h us hl)
def nO(CX:CXT)(X:Cx)(E:XK):Prop:=∀(O2:List (ak×Obj))(O:St)(H:Hp)(s:ax)(e:ah)(s':ax),Inv X O2 O H s->CX X.stack H s E e s'->X.xe e s'
section
variable{X:Cx}{CX:CXT}{k:Nat}{f C:ak}{fd:cz}{ps:List Str}{sp:Sp}{PM:List V}{ds:List ah}{E:XK}{x m:Str}{p pos O4:Pos}{e o:bo}{es:List bo}{ta:TE}{t:TA}
def Fo(F:FnOk X.prog X.w X.K X.mg X.base CX k f fd ps sp)(hr:Room k X.A)(hb:Binds X.K fd ps ds)(hd:Vals PM ds)(hx:nO CX X E)(I:Inv X O2 O H s)(r:Vals vs us)(h:sp (vs++PM) H Q E):aT (model X.prog X.w) X.A (call (.ref f) us) (EP X O2 O Q) X.xe s:=by
 have r2:Vals (vs++PM) (us++ds):=r.append hd;have hl:(us++ds).length=ps.length:=by rw[<-r2.length];exact F.len _ _ _ _ h
 refine wpAny_call (jz (F.run X.A X.stack s H ⟨us,[]⟩ (us++ds) (vs++PM) Q E hr I.env0 (hb s us I.kIn hl) r2 h) λr s' hq=>?_);cases r with
 |error e=>exact hx O2 O H s e s' I hq
 |ok fl =>
  cases fl with
  |ret u=>exact I.after hq
  |next=>exact bS hq
  |brk=>exact bS hq
  |cont=>exact bS hq
def Lu(F:FnOk X.prog X.w X.K X.mg X.base CX k f fd ps sp)(hr:Room k X.A)(hg:Gl X x)(hm:X.mg x=Za (.ref f))(hk:cF X.K (.ref f)=true)(hb:Binds X.K fd ps ds)(hd:Vals PM ds)(hx:nO CX X E)(ha:PA X (e::es) t)(PL:NDb x:=by decide)(he:SEb X e es:=by rfl)(Pn:(b8 pos (aC es X.env)).any (·.1)=false:=by rfl) :
  PE X (.Call (.Name x p) (e::es) [] pos) (Kw sp PM E t):=by
 intro O2 s O H Q I h;refine fm (wV I hg hm ?_ PL);refine iA (h₀:=X.base) I.ok.mod.kin hk (thn (ha pos O2 s O H _ I h) λus s1=>e4 λvs H1 I1 r q=>⟨I1.kIn,?_⟩) he Pn;exact Fo F hr hb hd hx I1 r q
def Lq(he:PE X o ta)(c:Cls X.K C)(hm:Meth X.K C m f)(F:FnOk X.prog X.w X.K X.mg X.base CX k f fd ps sp)(hr:Room k X.A)(hb:Binds X.K fd ps ds)(hd:Vals PM ds)(hx:nO CX X E)(ha:PA X (e::es) t)(Qt:SEb X e es:=by rfl)(Pn:(b8 pos (aC es X.env)).any (·.1)=false:=by rfl)(ht:eval (.Call (.Attribute o m O4) (e::es) [] pos) X.env=(do
   let ov <-eval o X.env
   gv O4.atName
   let(f,first) <-holding [ov] (fQ ov m pl)
   iT pos f first (b8 pos (aC (e::es) X.env)) (eK pos (cY [] X.env))):=by rfl) :
  PE X (.Call (.Attribute o m O4) (e::es) [] pos) (HG C m sp PM E ta t):=by
 intro O2 s O H Q I h;refine jY (pl:=pl) (thn (he O2 s O H _ I h) λu s1=>e4 λx H1 I1 rx ⟨a,dx,fs,ex,ea,l,q⟩=>?_) ht;subst ex;obtain rfl:u=bj a:=rx;refine za I1 ea c hm l ?_;refine iA (first:=[.ref a]) (h₀:=X.base) I.ok.mod.kin hm.kp (thn (ha pos O2 s1 O H1 _ I1 q) λus s2=>e4 λvs H2 I2 r q2=>⟨I2.kIn,?_⟩) Qt Pn;exact Fo (us:=.ref a::us) (vs:=.ref a::vs) F hr hb hd hx I2 (.cons rfl r) q2
def IE(he:PE X o ta)(c:Cls X.K C)(hm:Meth X.K C m f)(F:FnOk X.prog X.w X.K X.mg X.base CX k f fd ps sp)(hr:Room k X.A)(hb:Binds X.K fd ps ds)(hd:Vals PM ds)(hx:nO CX X E)(ht:eval (.Call (.Attribute o m O4) [] [] pos) X.env=(do
   let ov <-eval o X.env
   gv O4.atName
   let(f,first) <-holding [ov] (fQ ov m pl)
   iT pos f first (b8 pos (aC [] X.env)) (eK pos (cY [] X.env))):=by rfl) :
  PE X (.Call (.Attribute o m O4) [] [] pos) (HG C m sp PM E ta JI):=by
 intro O2 s O H Q I h;refine jY (pl:=pl) (thn (he O2 s O H _ I h) λu s1=>e4 λx H1 I1 rx ⟨a,dx,fs,ex,ea,l,q⟩=>?_) ht;subst ex;obtain rfl:u=bj a:=rx;refine za I1 ea c hm l ?_;exact kr (first:=[.ref a]) I1.kIn hm.kp (Fo (us:=[.ref a]) (vs:=[.ref a]) F hr hb hd hx I1 (.cons rfl .nil) q)
structure Mk(K:aa)(C f:ak):Prop where
 makes:fE K C=true
 init:aW K (.ref C) "__init__"=Za (Za (.ref f))
 fn:gF K (.ref f)=true
 kp:cF K (.ref C)=true
def DF(M:Mk X.K C f)(F:FnOk X.prog X.w X.K X.mg X.base CX k f fd ps sp)(hr:Room (k+1) X.A)(hb:Binds X.K fd ps ds)(hd:Vals PM ds)(hx:nO CX X E)(I:Inv X O2 O H s)(r:Vals vs us)(h:∀x dx,H x=Zb->H dx=Zb->dx≠x->sp (.ref x::(vs++PM)) (upd (upd H dx (.own x)) x (.ins C dx [])) (λv H2=>v=.non/\Q (.ref x) H2) E) :
  aT (model X.prog X.w) X.A (call (.ref C) us) (EP X O2 O Q) X.xe s:=by
 have hq:=h (s.heap.objs.size+1) s.heap.objs.size (I.hok.fresh (fL _)) (I.hok.fresh (am _)) (aE (bT _));have I2:=Inv.made (C:=C) I;have r2:Vals (V.ref (s.heap.objs.size+1)::(vs++PM)) (bj (s.heap.objs.size+1)::(us++ds)):=.cons rfl (r.append hd);have hl:(bj (s.heap.objs.size+1)::us++ds).length=ps.length:=by have e:=r2.length;rw[F.len _ _ _ _ hq] at e;exact e.symm
 refine wpAny_call (IV (f:=f) I.kIn M.makes M.init (beq_iff_eq.mp M.fn) (jz (F.run _ X.stack _ _ ⟨bj (s.heap.objs.size+1)::us,[]⟩ (bj (s.heap.objs.size+1)::(us++ds)) _ _ E (hr.make C us [])
  (I2.env0.make C us []) (hb _ (bj (s.heap.objs.size+1)::us) I2.kIn hl) r2 hq) λr s' PZ=>?_))
 cases r with
 |error e=>exact hx O2 O _ _ e s' I2 PZ
 |ok fl =>
  cases fl with
  |ret u =>
   obtain⟨v,H',I3,rv,ev,q3⟩:=I2.after PZ;subst ev;exact⟨rv,⟨V.ref (s.heap.objs.size+1),H',I3,rfl,q3⟩⟩
  |next=>exact bS PZ
  |brk=>exact bS PZ
  |cont=>exact bS PZ
def Lr(M:Mk X.K C f)(F:FnOk X.prog X.w X.K X.mg X.base CX k f fd ps sp)(hr:Room (k+1) X.A)(hg:Gl X x)(hm:X.mg x=Za (.ref C))(hb:Binds X.K fd ps ds)(hd:Vals PM ds)(hx:nO CX X E)(ha:PA X (e::es) t)(PL:NDb x:=by decide)(he:SEb X e es:=by rfl)(Pn:(b8 pos (aC es X.env)).any (·.1)=false:=by rfl) :
  PE X (.Call (.Name x p) (e::es) [] pos) (HH C sp PM E t):=by
 intro O2 s O H Q I h;refine fm (wV I hg hm ?_ PL);refine iA (h₀:=X.base) I.ok.mod.kin M.kp (thn (ha pos O2 s O H _ I h) λus s1=>e4 λvs H1 I1 r q=>⟨I1.kIn,?_⟩) he Pn;exact DF M F hr hb hd hx I1 r q
def IF(M:Mk X.K C f)(F:FnOk X.prog X.w X.K X.mg X.base CX k f fd ps sp)(hr:Room (k+1) X.A)(hg:Gl X x)(hm:X.mg x=Za (.ref C))(hb:Binds X.K fd ps ds)(hd:Vals PM ds)(hx:nO CX X E)(PL:NDb x:=by decide):PE X (.Call (.Name x p) [] [] pos) (HH C sp PM E JI):=by
 intro O2 s O H Q I h;refine fm (wV I hg hm ?_ PL);exact kr I.kIn M.kp (DF (us:=[]) M F hr hb hd hx I .nil h)
end
section
variable{X:Cx}{CX:CXT}{k:Nat}{f C:ak}{fd:cz}{ps ks:List Str}{sp:Sp}{E:XK}{x m:Str}{p pos O4 kpos:Pos}{e o:bo}{es:List bo}{kws:List fG}{te ta:TE}{t tk:TA}{nm:Option Str}
structure KBinds(K:aa)(fd:cz)(ps ks:List Str)(g:List ah->List ah->List ah)(gV:List V->List V->List V):Prop where
 to:∀(s:ax)(us ws:List ah),K.In s.heap->(g us ws).length=ps.length->jG s fd ⟨us,ks.zip ws⟩ (ps.zip (g us ws))
 rel:∀{vs:List V}{us:List ah}{zs:List V}{ws:List ah},Vals vs us->Vals zs ws->Vals (gV vs zs) (g us ws)
variable{g:List ah->List ah->List ah}{gV:List V->List V->List V}
end
structure FnScope(N P:List Str)(sc:dM):Prop where
 kind:sc.kind=.function
 co:sc.isCoroutine=false
 gen:sc.isGenerator=false
 nd:N.Nodup
 pre:N.take P.length=P
 par:∀x∈P,sc.names.lookup x=Za .local\/sc.names.lookup x=Za .cell
 nofree:∀y∈sc.names,y.2≠.free
def fsc{N P:List Str}{sc:dM}(h1:sc.kind=.function:=by rfl)(h2:sc.isCoroutine=false:=by rfl)(h3:sc.isGenerator=false:=by rfl)(h4:N.Nodup:=by decide +kernel)(h5:N.take P.length=P:=by rfl)(h6:∀x∈P,sc.names.lookup x=Za .local\/sc.names.lookup x=Za .cell:=by decide +kernel)(h7:∀y∈sc.names,y.2≠.free:=by decide +kernel):FnScope N P sc:=⟨h1,h2,h3,h4,h5,h6,h7⟩
theorem BF{kindOf}{x}:∀{binds:List (Str×ah)}{m:Str->Option ah},(∀v,(x,v)∉binds)->lw kindOf binds m x=m x
 |[],_,_=>rfl
 |(n,v)::r,m,h=>by
  unfold lw;rw[BF λw hw=>h w (ae _ hw)];split
  ·have:x≠n:=by rintro rfl;exact h v ai
   simp[this]
  ·rfl
theorem BI{kindOf}{x}:∀{binds:List (Str×ah)}{m:Str->Option ah},(∀v,(x,v)∉binds)->ly kindOf binds m x=m x
 |[],_,_=>rfl
 |(n,v)::r,m,h=>by
  unfold ly;rw[BI λw hw=>h w (ae _ hw)];split
  ·rfl
  ·have:x≠n:=by rintro rfl;exact h v ai
   simp[this]
theorem BG{kindOf}{x}{v}:∀{P:List Str}{vs:List ah}{i:Nat}{m:Str->Option ah},P.Nodup->P[i]?=Za x->vs[i]?=Za v->kindOf x=Za .local ->
  lw kindOf (P.zip vs) m x=Za v
 |[],_,_,_,_,h,_,_=>by simp at h
 |_::_,[],_,_,_,_,h,_=>by simp at h
 |p::P,w::vs,0,m,nd,h1,h2,hk=>by
  simp at h1 h2;subst h1;subst h2;show lw kindOf ((p,w)::P.zip vs) m p=_;unfold lw;rw[BF λv hv=>(ar.mp nd).1 (jv hv).1,Zc hk];simp
 |p::P,w::vs,i+1,m,nd,h1,h2,hk=>by show lw kindOf ((p,w)::P.zip vs) m x=_;unfold lw;exact BG (i:=i) (ar.mp nd).2 (by simpa using h1) (by simpa using h2) hk
theorem BJ{kindOf}{x}{v}:∀{P:List Str}{vs:List ah}{i:Nat}{m:Str->Option ah},P.Nodup->P[i]?=Za x->vs[i]?=Za v->kindOf x≠Za .local ->
  ly kindOf (P.zip vs) m x=Za v
 |[],_,_,_,_,h,_,_=>by simp at h
 |_::_,[],_,_,_,_,h,_=>by simp at h
 |p::P,w::vs,0,m,nd,h1,h2,hk=>by
  simp at h1 h2;subst h1;subst h2;show ly kindOf ((p,w)::P.zip vs) m p=_;unfold ly;rw[BI λv hv=>(ar.mp nd).1 (jv hv).1,Zd hk];simp
 |p::P,w::vs,i+1,m,nd,h1,h2,hk=>by show ly kindOf ((p,w)::P.zip vs) m x=_;unfold ly;exact BJ (i:=i) (ar.mp nd).2 (by simpa using h1) (by simpa using h2) hk
def start(N:List Str)(vs:List V):St:=vs.map Za++aR (N.length-vs.length) Zb
def Ec(CX:CXT)(P:aK)(w:a6)(K:aa)(mg:Str->Option ah)(base:bx)(N:List Str)(qual:Str)(scope:dM)(f:ak)(cd:ah)(A:cE)(outer:List Env)(s:ax)(H:Hp)(E:XK):Cx where
 prog:=P
 w:=w
 K:=K
 mg:=mg
 base:=base
 A:=A.deeper (eU qual scope s.heap.objs.size f cd)
 N:=N
 sa0:=s
 Ha0:=H
 env:=eU qual scope s.heap.objs.size f cd
 outer:=outer
 stack:=eU qual scope s.heap.objs.size f cd::outer
 ex:=[]
 calm:=true
 fn:=λ_=>true
 pn:=[]
 xe:=λe s'=>aT (model P w) (A.deeper (eU qual scope s.heap.objs.size f cd)) (leaving (eU qual scope s.heap.objs.size f cd) e) (λ_ UO=>CX outer H s E e UO) (λe' UO=>CX outer H s E e' UO) s'
def Ef{sc:dM}{n:Nat}{x:Str}(h:sc.names.lookup x=Za .cell):∃c,(cellsFrom n sc.names []).lookup x=Za c:=by have q:=jP sc.names n [] (.inl h);exact dB.mp q
def Hq{CX:CXT}{P:aK}{w:a6}{K:aa}{mg:Str->Option ah}{base:bx}{N ps:List Str}{qual:Str}{scope:dM}{f:ak}{cd:ah}{A:cE}{outer:List Env}{s s1:ax}{H:Hp}{E:XK}{us:List ah}{vs:List V}(S:FnScope N ps scope)(hd:A.handled=Zb)(e0:Env0 P w K mg base A outer s H)(hl:vs.length=ps.length)(r:Vals vs us)(x:InCallC s s.heap.objs.size (lw (eU qual scope s.heap.objs.size f cd).kindOf (ps.zip us) λ_=>Zb) (cellsFrom (s.heap.objs.size+1) scope.names []) (ly (eU qual scope s.heap.objs.size f cd).kindOf (ps.zip us) λ_=>Zb) s1) :
  Inv (Ec CX P w K mg base N qual scope f cd A outer s H E) [] (start N vs) H s1:=by
 have Pn:ps.length<=N.length:=by have:=congrArg cg S.pre;rw[dJ] at this;lia
 obtain⟨h1,tk,rfl,hk⟩:=x.done;have S6:∀b:ak,b∉(Ec CX P w K mg base N qual scope f cd A outer s H E).ex:=λb z=>absurd (show b∈([]:List ak) from z) (by simp);refine⟨⟨e0.mod,S.kind,rfl,rfl,am _,λy z c h1 h2=>?_,λy hy=>?_,λy c _ h=>?_,λ_=>hd,Around.frames_deeper e0.frames,.inr ⟨rfl,rfl⟩,λb z=>absurd z (S6 b),e0.bs,e0.bsz,λb _ _=>S6 b,λb z=>absurd z (S6 b),e0.funs,e0.frf⟩,
  rfl,e0.bare,Un.kept hk,⟨_,x.toInCall.ns,λi y v h1 h2 h3=>?_⟩,λy c h=>⟨_,x.cell y c h⟩,e0.hok.fresh (am _),λy c h=>?_,λp hp=>absurd (show p∈([]:List (ak×Obj)) from hp) (by simp),e0.hok.kept hk,?_⟩
 ·exact name_of_addr x.apart (dG h1) (dG h2)
 ·have hy:scope.names.lookup y=Za .cell\/scope.names.lookup y=Za .free:=hy;rcases hy with hy|hy
  ·exact Ef hy
  ·exact absurd rfl (S.nofree _ (dG hy))
 ·exact eE (x.above y c (dG h))
 ·have hi:i<vs.length:=by
   unfold start at h2;by_cases hi:i<vs.length
   ·exact hi
   ·rw[dk (by simpa using hi)] at h2;rw[gK] at h2;split at h2<;>cases h2
  have ha:vs[i]?=Za v:=by
   unfold start at h2;rw[dw (by simpa using hi),aD] at h2;cases e:vs[i]? with
   |none=>rw[e] at h2;cases h2
   |some a=>rw[e] at h2;cases h2;rfl
  obtain⟨u,hu,rv⟩:=r.get ha;have hp:ps[i]?=Za y:=by rw[<-S.pre,List.getElem?_take_of_lt (by lia)];exact h1
  have ndP:ps.Nodup:=by rw[<-S.pre];exact S.nd.sublist (List.take_sublist _ _)
  refine⟨u,rv,?_⟩;rcases S.par y (dD hp) with k|k
  ·exact .inl ⟨k,BG ndP hp hu k⟩
  ·obtain⟨c,e⟩:=Ef (n:=s.heap.objs.size+1) k;refine .inr ⟨.inl k,c,e,?_⟩;have q:=x.cell y c e;rw[BJ ndP hp hu (by show scope.names.lookup y≠_;rw[k];decide)] at q;exact q
 ·exact e0.hok.fresh (eE (x.above y c (dG h)))
 ·unfold start;show _=N.length;rw[aM,ac,dU];lia
def Nk{CX:CXT}{P}{w}{K}{mg}{base}{k}{f}{name qual}{params:jT}{body}{scope}{dV kV P9 pm Pb ct oc}{an od}{Ra:Array (Option ah)}{N ps}{sp:Sp}(lk:K.lookup f=Za ⟨oc,od,.func (b6 name qual params body scope dV kV P9 pm an Pb ct),Ra⟩)(Ql:fR K Pb qual=true)(S:FnScope N ps scope)(len:∀vs H Q E,sp vs H Q E->vs.length=ps.length)(Qb:∀(A:cE)(outer:List Env)(s:ax)(H:Hp)(vs:List V)(Q:VK)(E:XK),Room k (A.deeper (eU qual scope s.heap.objs.size f Pb))->sp vs H Q E ->
   ∃t,PSs (Ec CX P w K mg base N qual scope f Pb A outer s H E) body t/\t { nx:=λ_ H'=>Q .non H',rt:=Q } (start N vs) H) :
  FnOk P w K mg base CX (k+1) f (b6 name qual params body scope dV kV P9 pm an Pb ct) ps sp:=by
 refine⟨len,λA outer s H args us vs Q E hr e0 hb r Q3=>?_⟩;have hl:=len _ _ _ _ Q3;have KX:K.In s.heap:=e0.mod.kin.keeps λb o e=>(e0.bs b o e).1;have lim:s.heap.NoLimit:=e0.mod.nolimit.keeps λb o e=>(e0.bs b o e).1;have Ts:∀y∈ps.zip us,scope.names.lookup y.1=Za .local\/(scope.names.lookup y.1=Za .cell/\((cellsFrom (s.heap.objs.size+1) scope.names []).lookup y.1).isSome=true):=λ⟨n,v⟩ hy=>by
  rcases S.par n (jv hy).1 with q|q
  ·exact .inl q
  ·exact .inr ⟨q,jP _ _ _ (.inl q)⟩
 refine codeAny_call_function hr.depth (KX _ _ lk) rfl S.co S.gen rfl (PySem.W.codeRec_of KX Ql) (hb _ _ _ _ ?_);refine wpAny_newFunctionEnv_cells S.kind Ts λenv he s1 x=>?_;subst he;refine⟨lim.keeps x.toInCall.keep,codeAny_func ?_⟩;obtain⟨t,ht,hq⟩:=Qb A outer s H vs Q E (hr.deeper _) Q3;have I:Inv (Ec CX P w K mg base N qual scope f Pb A outer s H E) [] (start N vs) H s1:=Hq S hr.hd e0 hl r x;refine bO (ht [] s1 (start N vs) H _ I hq) (λfl s' hs=>?_) λe s' hs=>hs;have Pq:∀{σ':St}{H':Hp}{v:V}{u:ah},Inv (Ec CX P w K mg base N qual scope f Pb A outer s H E) [] σ' H' s'->RelV v u->Q v H'->CE outer P w H s Q u s' :=
  λ{σ' H' v u} J rv q=>⟨v,H',J.os,J.bare,J.base,J.hok,rv,q⟩
 cases fl with
 |ret u =>
  obtain⟨v,σ',H',J,rv,q⟩:=hs;exact Pq J rv q
 |next =>
  obtain⟨σ',H',J,q⟩:=hs;exact Pq (v:=V.non) (u:=k8) J rfl q
 |brk =>
  obtain⟨_,_,_,q⟩:=hs;exact bS q
 |cont =>
  obtain⟨_,_,_,q⟩:=hs;exact bS q
section
variable{X:Cx}{x:Str}{p pos:Pos}{e:bo}{es:List bo}{t:TA}{id T:String}{r:List V->Hp->VK->Prop}
def tCB(r:List V->Hp->VK->Prop)(t:TA):TE:=λO H Q=>t O H λvs H1=>r vs H1 Q
def pz(hc:CallR X (.builtin id) r)(hg:Gl X x)(hm:X.mg x=Zb)(hv:bP x=Za (.builtin id))(ha:PA X (e::es) t)(hn:x≠"__name__":=by decide)(PL:NDb x:=by decide)(he:SEb X e es:=by rfl)(Pn:(b8 pos (aC es X.env)).any (·.1)=false:=by rfl):PE X (.Call (.Name x p) (e::es) [] pos) (tCB r t):=by
 intro O2 s O H Q I h;refine fm (Aq I hg hm hv ?_ hn PL);exact PyProof.Rows.callWith_builtin1 (thn (ha pos O2 s O H _ I h) λus s1=>e4 λvs H1 I1 r1 q1=>hc O2 s1 O H1 vs us Q I1 r1 q1) he Pn
def qF(hc:CallR X (.type T) r)(hg:Gl X x)(hm:X.mg x=Zb)(hv:bP x=Za (.type T))(ha:PA X (e::es) t)(hn:x≠"__name__":=by decide)(PL:NDb x:=by decide)(he:SEb X e es:=by rfl)(Pn:(b8 pos (aC es X.env)).any (·.1)=false:=by rfl):PE X (.Call (.Name x p) (e::es) [] pos) (tCB r t):=by
 intro O2 s O H Q I h;refine fm (Aq I hg hm hv ?_ hn PL);exact dL (thn (ha pos O2 s O H _ I h) λus s1=>e4 λvs H1 I1 r1 q1=>hc O2 s1 O H1 vs us Q I1 r1 q1) he Pn
end
end L2
namespace HT
open PySem PyProof.Rows
section
open PySem.SeqAt
open PySem.AutoSeq1 (wpAny_loadPart')
open PySem.MeetsSeq PySem.MeetsSeq2 PySem.MeetsSeq3
end
section
variable{prog:aK}{w:a6}{A:cE}{E:ah->ax->Prop}{s:ax}
def sIx(n d:Nat):Option Int->Nat
 |none=>d
 |some v=>if v<0 then(v+(n:Int)).toNat else min v.toNat n
def NL(n d)(hd:d<=n)(o):sIx n d o<=n:=by
 cases o with
 |none=>exact hd
 |some v =>
  show(if v<0 then(v+(n:Int)).toNat else min v.toNat n)<=n;by_cases hv:v<0
  ·rw[Zc hv];lia
  ·rw[Zd hv];exact Nat.min_le_right _ _
def Gv(v:Int)(n d:Nat):(if v<0 then max (v+(n:Int)) 0 else min v (n:Int))=((sIx n d (Za v):Nat):Int):=by
 show(if v<0 then max (v+(n:Int)) 0 else min v (n:Int))=(((if v<0 then(v+(n:Int)).toNat else min v.toNat n):Nat):Int);by_cases hv:v<0
 ·simp only[Zc hv];lia
 ·simp only[Zd hv];lia
def Fe(lo hi:Option Int)(n:Nat):fI lo hi 1 (n:Int)=(((sIx n 0 lo:Nat):Int),((sIx n n hi:Nat):Int)):=by
 have h1:¬((1:Int)<0):=by lia
 unfold fI;simp only[h1,if_false];refine Prod.ext ?_ ?_
 ·cases lo with
  |none=>rfl
  |some v=>exact Gv v n 0
 ·cases hi with
  |none=>rfl
  |some v=>exact Gv v n n
def EI(i j:Nat):dR (i:Int) (j:Int) 1=j-i:=by
 unfold dR;have h1:(1:Int)>0:=by lia
 simp only[h1,if_true,Int.ediv_one];split<;>lia
def yK(p:jR v o)(h:Q o s):aT (model prog w) A (Builtin.Slice.slicePartIndex v) Q E s:=by
 cases p with
 |none=>exact slicePart_none h
 |int i t=>exact slicePart_int h
def wM{sl:ak}{vl vu:ah}{lo hi:Option Int}{n:Nat}{Q:Int×Int×Nat->ax->Prop}(hs:s.heap.IsSliceOf sl vl vu .none)(pl:jR vl lo)(pu:jR vu hi)(h:Q (((sIx n 0 lo:Nat):Int),1,sIx n n hi-sIx n 0 lo) s):aT (model prog w) A (iL (.ref sl) (pure (n:Int))) Q E s:=by
 obtain⟨os,RX,Sb,Um⟩:=id hs;unfold iL Builtin.Slice.sliceFields;refine ap (ap (wpAny_field RX Um (x:=vl) rfl (ap (wpAny_field RX Um (x:=vu) rfl (ap (wpAny_field RX Um (x:=.none) rfl (aL ?_)))))));refine ap (slicePart_none ?_);show aT _ _ (if((1:Int)==0)=true then _ else _) _ _ s;rw[Zd (by decide)];refine ap (yK pl (ap (yK pu (ap (aL ?_)))));show aT _ _ (match fI lo hi 1 (n:Int) with|(lo,hi)=>pure (lo,(1:Int),dR lo hi 1)) _ _ s;rw[Fe lo hi n];show aT _ _ (pure (((sIx n 0 lo:Nat):Int),(1:Int),dR ((sIx n 0 lo:Nat):Int) ((sIx n n hi:Nat):Int) 1)) _ _ s;rw[EI];exact aL h
def IB(xs:Array ah)(i k:Nat):((bF k).filterMap λ(m:Nat)=>xs[((i:Int)+(m:Int)*1).toNat]?).toArray=((xs.toList.drop i).take k).toArray:=by
 have e:(λ(m:Nat)=>xs[((i:Int)+(m:Int)*1).toNat]?)=λm=>xs[i+m]?:=by
  funext m
  have:((i:Int)+(m:Int)*1).toNat=i+m:=by lia
  rw[this]
 rw[e];have:=pick_run xs i k;rw[List.filterMap_map] at this;have e2:((λx=>xs[x]?)∘λx=>i+x)=λm=>xs[i+m]?:=rfl;rw[e2] at this;rw[this]
def getItem_tuple_cut{t sl}{items:Array ah}{vl vu}{lo hi}{Q}(ht:IsTup s.heap t items)(hs:s.heap.IsSliceOf sl vl vu .none)(pl:jR vl lo)(pu:jR vu hi)(hw:¬(sIx items.size 0 lo=0/\sIx items.size items.size hi=items.size))(h:Q (.ref s.heap.objs.size) { s with heap:=s.heap.push { cls:=.type "tuple",data:=.seq ((items.toList.drop (sIx items.size 0 lo)).take (sIx items.size items.size hi-sIx items.size 0 lo)).toArray } })(hsz:items.size<=aJ):aT (model prog w) A (iz (.ref t) (.ref sl)) Q E s:=by
 have Qs:sizeOk (.seq ((items.toList.drop (sIx items.size 0 lo)).take (sIx items.size items.size hi-sIx items.size 0 lo)).toArray):=by show((items.toList.drop (sIx items.size 0 lo)).take (sIx items.size items.size hi-sIx items.size 0 lo)).toArray.size<=aJ;rw[aN,dJ,gJ,fO];lia
 have hj:sIx items.size items.size hi<=items.size:=NL _ _ (am _) hi;obtain⟨os,RX,Sb,Um⟩:=id hs;have hTs:s.TypeIs (.ref sl) "slice":=⟨os,RX,Sb⟩;unfold iz
 try with_reducible refine ed ?_
 first|refine ap (aL ?_)|skip
 refine ap (wpAny_sequenceKey ht.typeIs (by decide) ?_);refine ap (wpAny_callSpecial?_slot (name:=aG "__getitem__") ht.typeIs dN
  (wpAny_call_entry dN ht.typeIs entry_tuple_getitem ?_ (args_tuple_getitem _ _)))
 show aT _ _ (Builtin.Tuple.tupleItemsOf (.ref t) >>= _) _ _ s;refine ap (tupleItemsOf_ ht ?_);refine ap (wpAny_typeOf hTs ?_);rw[Zc (by decide)];refine ap (wM hs pl pu ?_);have Qu:¬((((sIx items.size 0 lo:Nat):Int)==0&&(1:Int)==1&&(sIx items.size items.size hi-sIx items.size 0 lo)==items.size)=true):=by intro q;rw[cx,cx] at q;have q1:((sIx items.size 0 lo:Nat):Int)=0:=eq_of_beq q.1.1;have q2:sIx items.size items.size hi-sIx items.size 0 lo=items.size:=eq_of_beq q.2;exact hw ⟨by lia,by lia⟩
 show aT _ _ (if(((sIx items.size 0 lo:Nat):Int)==0&&(1:Int)==1&&(sIx items.size items.size hi-sIx items.size 0 lo)==items.size)=true then _ else _) _ _ s;rw[Zd Qu,IB]
 first
  |exact ap (m:=dX _) (eA (aL ⟨_,rfl,aL h⟩) Qs)
  |exact ap (m:=dX _) (eA (ap (aL (aL ⟨_,rfl,aL h⟩))) Qs)
  |exact ap (ap (m:=dX _) (eA (aL (aL ⟨_,rfl,aL h⟩)) Qs))
  |exact ap (ap (m:=dX _) (eA (aL ⟨_,rfl,aL h⟩) Qs))
end
end HT
namespace L2
open PySem PySem.Spec PyProof.Rows
abbrev TO:=St->Hp->(Option Int->Hp->Prop)->Prop
def PO(X:Cx)(e:Option bo)(t:TO):Prop :=
 ∀(O2:List (ak×Obj))(s:ax)(O:St)(H:Hp)(Q:Option Int->Hp->Prop),Inv X O2 O H s->t O H Q ->
  aT (model X.prog X.w) X.A (evalPart e X.env) (λu s'=>∃o H',Inv X O2 O H' s'/\jR u o/\Q o H') X.xe s
def K1:TO:=λ_ H Q=>Q Zb H
def tPart(t:TE):TO:=λO H Q=>t O H λx H1=>∃i,x=.int i/\Q (Za i) H1
section
variable{X:Cx}{e:bo}{te:TE}{lo hi:Option bo}{tl th:TO}{pos p2:Pos}
def po_none:PO X Zb K1:=by intro O2 s O H Q I h;rw[evalPart_none];exact aL ⟨Zb,H,I,.none,h⟩
def Lm(h:PE X e te):PO X (Za e) (tPart te):=by intro O2 s O H Q I hw;rw[evalPart_some];refine thn (h O2 s O H _ I hw) λu s1=>e4 λx H1 I1 r1 q1=>?_;obtain⟨i,rfl,q⟩:=q1;obtain⟨t,rfl⟩:=r1;exact⟨Za i,H1,I1,.int i t,q⟩
def SlR(X:Cx)(r:V->Option Int->Option Int->Hp->VK->Prop):Prop :=
 ∀(O2:List (ak×Obj))(s:ax)(O:St)(H:Hp)(x:V)(v vl vu:ah)(lo hi:Option Int)(sl:ak)(Q:VK),Inv X O2 O H s->RelV x v->s.heap.IsSliceOf sl vl vu .none->jR vl lo->jR vu hi->r x lo hi H Q ->
  ∃T id,typeLookup (.type T) "__getitem__"=pure (Za (.builtin id))/\s.TypeIs v T/\aT (model X.prog X.w) X.A (iz v (.ref sl)) (EP X O2 O Q) X.xe s
def SlR.or(h:SlR X r)(h':SlR X r'):SlR X (λx lo hi H Q=>r x lo hi H Q\/r' x lo hi H Q):=by
 intro O2 s O H x v vl vu lo hi sl Q I rx hs pl pu q;rcases q with q|q
 ·exact h O2 s O H x v vl vu lo hi sl Q I rx hs pl pu q
 ·exact h' O2 s O H x v vl vu lo hi sl Q I rx hs pl pu q
def tSl(r:V->Option Int->Option Int->Hp->VK->Prop)(te:TE)(tl th:TO):TE:=λO H Q=>te O H λx H1=>tl O H1 λl H2=>th O H2 λu H3=>r x l u H3 Q
def ID(hr:SlR X r)(he:PE X e te)(hl:PO X lo tl)(hu:PO X hi th):PE X (.Subscript e (.Slice lo hi Zb p2) pos) (tSl r te tl th):=by intro O2 s O H Q I h;refine Subscript_ (thn (he O2 s O H _ I h) λv s1=>e4 λx H1 I1 r1 q1=>?_);refine wpAny_Slice (thn (hl O2 s1 O H1 _ I1 q1) λvl s2=>e4 λl H2 I2 pl q2=>thn (hu O2 s2 O H2 _ I2 q2) λvu s3=>e4 λu H3 I3 pu q3=>?_);rw[evalPart_none];refine aL ?_;have I4:Inv X O2 O H3 { s3 with heap:=s3.heap.push { cls:=.type "slice",data:=.fields #[vl,vu,.none] } }:=I3.kept (t':=s3.toks) λb ob q=>au _ q;obtain⟨T,id,hT,ht,hg⟩:=hr O2 { s3 with heap:=s3.heap.push { cls:=.type "slice",data:=.fields #[vl,vu,.none] } } O H3 x v vl vu l u s3.heap.objs.size Q I4 r1 (Heap.IsSliceOf.new ..) pl pu q3;show aT (model X.prog X.w) X.A (jh e (.Slice lo hi Zb p2) v (.ref s3.heap.objs.size)) (EP X O2 O Q) X.xe { s3 with heap:=s3.heap.push { cls:=.type "slice",data:=.fields #[vl,vu,.none] } };exact tail_any (ops:=[.ref s3.heap.objs.size,v]) ht hT hg (by with_unfolding_all rfl)
def Gq(xs:List V)(lo hi:Option Int):List V:=(xs.drop (HT.sIx xs.length 0 lo)).take (HT.sIx xs.length xs.length hi-HT.sIx xs.length 0 lo)
def xR(xs)(lo hi):(Gq xs lo hi).length<=xs.length:=by unfold Gq;rw[dJ,gJ];lia
def rSlT(K:aa):V->Option Int->Option Int->Hp->VK->Prop:=λx lo hi H Q=>∃a xs,x=.ref a/\SqT K H a xs /\
 ¬(HT.sIx xs.length 0 lo=0/\HT.sIx xs.length xs.length hi=xs.length)/\∀p,H p=Zb->Q (.ref p) (upd H p (.tup (Gq xs lo hi)))
def NI:SlR X (rSlT X.K):=by
 intro O2 s O H x v vl vu lo hi sl Q I rx hs pl pu h;obtain⟨a,xs,rfl,hx,hw,q⟩:=h;cases rx;obtain⟨its,r,ht,hz⟩:=I.tuple hx;have O6:its.toArray.size=xs.length:=by rw[aN];exact r.length.symm
 refine⟨"tuple",_,dN.lookup,ht.typeIs,?_⟩;refine HT.getItem_tuple_cut ht hs pl pu (by rw[O6];exact hw) ?_ (by rw[O6];exact hz);rw[O6];refine⟨.ref s.heap.objs.size,_,I.laid (t':=s.toks) (o:=.tup (Gq xs lo hi)) (λb ob q=>au _ q) (am _) ?_,rfl,q _ (I.hok.fresh (am _))⟩;exact⟨aI (xR xs lo hi) hz,_,(r.drop (HT.sIx xs.length 0 lo)).take (HT.sIx xs.length xs.length hi-HT.sIx xs.length 0 lo),IsTup.new _ _⟩
end
def ixN(n:Nat)(i:Int):Option Nat:=if 0<=i then(if i<n then Za i.toNat else Zb) else if -(n:Int)<=i then Za (i+n).toNat else Zb
def atI{α:Type}(xs:List α)(i:Int):Option α:=(ixN xs.length i).bind λj=>xs[j]?
def F8(h:ixN n i=Za j):seqIndex? i n=Za j/\j<n/\-(n:Int)<=i/\i<n:=by
 unfold ixN at h;by_cases h0:0<=i
 ·rw[Zc h0] at h;by_cases h1:i<n
  ·rw[Zc h1] at h;have e:i.toNat=j:=aO h;exact⟨by rw[seqIndex_of h0 h1,e],by lia,by lia,h1⟩
  ·rw[Zd h1] at h;cases h
 ·rw[Zd h0] at h;by_cases h1:-(n:Int)<=i
  ·rw[Zc h1] at h;have e:(i+n).toNat=j:=aO h;exact⟨by rw[seqIndex_neg (by lia) h1,e],by lia,h1,by lia⟩
  ·rw[Zd h1] at h;cases h
def CK(h:atI xs i=Za v):∃j,seqIndex? i xs.length=Za j/\xs[j]?=Za v/\j<xs.length/\-(xs.length:Int)<=i/\i<xs.length:=by
 unfold atI at h;cases e:ixN xs.length i with
 |none=>rw[e] at h;cases h
 |some j =>
  rw[e] at h;obtain⟨h1,h2,h3,h4⟩:=F8 e;exact⟨j,h1,h,h2,h3,h4⟩
def mQ{α:Type}{xs:List α}{j:Nat}{v:α}(h:xs[j]?=Za v):atI xs (j:Int)=Za v:=by
 have hj:j<xs.length:=(aS.mp h).1;have e:ixN xs.length (j:Int)=Za j:=by unfold ixN;rw[Zc (by lia),Zc (by lia)];simp
 unfold atI;rw[e];exact h
def GC(b:bo):Prop:=∀o i,subscripted b false o i=operate [o,i] (iz o i)
def IxR(X:Cx)(r:R2):Prop :=
 ∀(value Pj:bo)(O2:List (ak×Obj))(s:ax)(O:St)(H:Hp)(x y:V)(v u:ah)(Q:VK),Inv X O2 O H s->RelV x v->RelV y u->r x y H Q ->
  subscripted Pj false v u=operate [v,u] (iz v u)->aT (model X.prog X.w) X.A (jh value Pj v u) (EP X O2 O Q) X.xe s
def MtR(X:Cx)(id:String)(r:V->List V->Hp->VK->Prop):Prop :=
 ∀(O2:List (ak×Obj))(s:ax)(O:St)(H:Hp)(x:V)(xs:List V)(v:ah)(us:List ah)(Q:VK),Inv X O2 O H s->RelV x v->Vals xs us->r x xs H Q ->
  aT (model X.prog X.w) X.A (call (.builtin id) (v::us)) (EP X O2 O Q) X.xe s
section
variable{X:Cx}{a b:bo}{ta tb:TE}{pos:Pos}
def IxR.or(h:IxR X r)(h':IxR X r'):IxR X (λx y H Q=>r x y H Q\/r' x y H Q):=by
 intro value Pj O2 s O H x y v u Q I rx ry q hs;rcases q with q|q
 ·exact h value Pj O2 s O H x y v u Q I rx ry q hs
 ·exact h' value Pj O2 s O H x y v u Q I rx ry q hs
def rO{r}(hr:IxR X r)(ha:PE X a ta)(hb:PE X b tb)(hs:GC b):PE X (.Subscript a b pos) (tOp r ta tb):=by intro O2 s O H Q I h;exact Subscript_ (O0 ha hb I h λv u s2 x y H2 I2 rx ry q=>hr a b O2 s2 O H2 x y v u Q I2 rx ry q (hs _ _))
def OT(K:aa):R2:=λx y H Q=>∃p xs i v,x=.ref p/\y=.int i/\SqL K H p xs/\atI xs i=Za v/\Q v H
def OR(K:aa):R2:=λx y H Q=>∃p xs i v,x=.ref p/\y=.int i/\SqT K H p xs/\atI xs i=Za v/\Q v H
def OS:R2:=λx y H Q=>∃z i c,x=.str z/\y=.int i/\z.length<=aJ/\atI z.cps.toList i=Za c/\Q (.str ⟨#[c]⟩) H
def ix_list:IxR X (OT X.K):=by
 intro value Pj O2 s O H x y v u Q I rx ry h hs;obtain⟨p,xs,i,z,rfl,rfl,hq,he,q⟩:=h;cases rx;obtain⟨t,rfl⟩:=ry;obtain⟨its,r,pl,hz⟩:=I.list hq;obtain⟨j,h1,h2,h3,h4,h5⟩:=CK he;obtain⟨w,ew,PB⟩:=r.get h2;have hl:=r.length;have hn:=wa;have Pq:EP X O2 O Q w s:=⟨z,H,I,PB,q⟩;by_cases h0:0<=i
 ·have hj:i.toNat=j:=by rw[seqIndex_of h0 h5] at h1;exact aO h1
  exact item_listR pl.isList h0 (by lia) (by rw[hj];simpa using ew) Pq hs
 ·have hj:(i+(its.toArray.size:Int)).toNat=j:=by rw[seqIndex_neg (by lia) h4] at h1;rw[aN,<-hl];exact aO h1
  exact subscriptTail_builtinR (x:=w) pl.isList.typeIs slot_list_getitem.lookup
   (wpAny_getItem_list_neg (Q:=λr s'=>r=w/\EP X O2 O Q r s') pl.isList (by lia) (by rw[aN]<;>lia) (by lia) (by rw[hj];simpa using ew) ⟨rfl,Pq⟩) hs
def ix_tup:IxR X (OR X.K):=by
 intro value Pj O2 s O H x y v u Q I rx ry h hs;obtain⟨p,xs,i,z,rfl,rfl,hq,he,q⟩:=h;cases rx;obtain⟨t,rfl⟩:=ry;obtain⟨its,r,pl,hz⟩:=I.tuple hq;obtain⟨j,h1,h2,h3,h4,h5⟩:=CK he;obtain⟨w,ew,PB⟩:=r.get h2;have hl:=r.length;have hn:=wa;have Pq:EP X O2 O Q w s:=⟨z,H,I,PB,q⟩;exact subscriptTail_builtinR (x:=w) pl.typeIs dN.lookup
  (getItem_tuple (j:=j) (Q:=λr s'=>r=w/\EP X O2 O Q r s') pl (by lia) (by lia) (by rw[aN,<-hl];exact h1) (by simpa using ew) ⟨rfl,Pq⟩) hs
def yi:IxR X OS:=by
 intro value Pj O2 s O H x y v u Q I rx ry h hs;obtain⟨z,i,c,rfl,rfl,hz,he,q⟩:=h;obtain⟨t,rfl⟩:=rx;obtain⟨t',rfl⟩:=ry;obtain⟨j,h1,h2,h3,h4,h5⟩:=CK he;have hl:z.cps.toList.length=z.length:=by simp[Str.length]
 rw[hl] at h1 h4 h5;have hn:=wa;exact tail_any (typeIs_str s z t) slot_str_getitem.lookup (getItem_str (c:=c) (by have e1:decide (i < -(2^63:Int))=false:=Zh (by lia);have e2:decide (i>=2^63)=false:=Zh (by lia);rw[e1,e2,Bool.or_false]) (by rw[h1];simpa using h2) ⟨.str ⟨#[c]⟩,H,I.tok _,⟨_,rfl⟩,q⟩) hs
def EV(its:List ah)(n j:Nat)(u:ah):iU (·.setIfInBounds j u) { cls:=.type "list",data:=.seq its.toArray n }={ cls:=.type "list",data:=.seq (its.set j u).toArray n }:=by simp[iU]
theorem Inv.lst{O2}{O}{H}{s}{p}{xs}(I:Inv X O2 O H s)(h:H p=Za (.lst xs)) :
  ∃(its:List ah)(n:Nat),Vals xs its/\s.heap.get? p=Za { cls:=.type "list",data:=.seq its.toArray n }/\xs.length<=aJ:=by
 obtain⟨z,its,n,r,e⟩:=I.hok p _ h;exact⟨its,n,r,e,z⟩
def Inv.lstUpd{O2:List (ak×Obj)}{O:St}{H:Hp}{s:ax}{p:ak}{xs ys:List V}{its its':List ah}{n n':Nat}{f:Obj->Obj}(I:Inv X O2 O H s)(h:H p=Za (.lst xs))(ho:s.heap.get? p=Za { cls:=.type "list",data:=.seq its.toArray n })(hf:f { cls:=.type "list",data:=.seq its.toArray n }={ cls:=.type "list",data:=.seq its'.toArray n' })(r:Vals ys its')(hz:ys.length<=aJ)(t:Nat) :
  Inv X O2 O (upd H p (.lst ys)) { s with heap:=s.heap.update p f,toks:=t }:=by
 have e:(s.heap.update p f).get? p=Za { cls:=.type "list",data:=.seq its'.toArray n' }:=by rw[Heap.get?_update_self f ho (by rw[hf]<;>rfl),hf]
 refine I.write (x:=p) (e:=p) (by rw[h];trivial) (.inl rfl) (λb u hb q=>(ky _ _ (bX hb)).trans q) ⟨_,e⟩ ?_;exact⟨hz,its',n',r,e⟩
def MX:V->V->V->Hp->(Hp->Prop)->Prop:=λo i v H Q=>∃p xs k j,o=.ref p/\i=.int k/\H p=Za (.lst xs)/\ixN xs.length k=Za j/\Q (upd H p (.lst (xs.set j v)))
def set_list:PSet X MX:=by
 intro O2 s O H o i v ov iv u Q I ro ri rv h;obtain⟨p,xs,k,j,rfl,rfl,hp,hj,q⟩:=h;cases ro;obtain⟨t,rfl⟩:=ri;obtain⟨its,n,r,ho,hz⟩:=I.lst hp;obtain⟨h1,h2,h3,h4⟩:=F8 hj;have hl:=r.length;have hn:=wa;have I':Inv X O2 O (upd H p (.lst (xs.set j v))) { s with heap:=s.heap.update p (iU (·.setIfInBounds j u)) } :=
  I.lstUpd hp ho (EV its n j u) (r.set rv j) (by rw[List.length_set];exact hz) s.toks
 by_cases h0:0<=k
 ·have hk:k.toNat=j:=by rw[seqIndex_of h0 h4] at h1;exact aO h1
  exact PySem.W.ki_setAt ho h0 (by lia) (by rw[aN,<-hl];exact h4) (by rw[hk];exact⟨_,I',q⟩)
 ·have hk:(k+(its.toArray.size:Int)).toNat=j:=by rw[seqIndex_neg (by lia) h3] at h1;rw[aN,<-hl];exact aO h1
  exact PySem.W.ki_setBack ho (by lia) (by rw[aN,<-hl];exact h3) (by lia) (by rw[hk];exact⟨_,I',q⟩)
def BM(lo hi)(n):(fY lo hi Zb n).1=((HT.sIx n 0 lo:Nat):Int)/\(fY lo hi Zb n).2.1=((HT.sIx n n hi:Nat):Int)/\(fY lo hi Zb n).2.2=1:=by
 refine⟨?_,?_,rfl⟩
 ·cases lo with
  |none=>simp[fY,HT.sIx]
  |some i =>
   simp only[fY,HT.sIx,lA,show(1:Int)>0 by decide,if_true];by_cases h:i<0
   ·simp only[h,if_true]<;>lia
   ·simp only[h,if_false]<;>lia
 ·cases hi with
  |none=>simp[fY,HT.sIx]
  |some i =>
   simp only[fY,HT.sIx,lA,show(1:Int)>0 by decide,if_true];by_cases h:i<0
   ·simp only[h,if_true]<;>lia
   ·simp only[h,if_false]<;>lia
def z5(its:List ah)(lo hi:Option Int):slicePick its.toArray lo hi Zb=((its.drop (HT.sIx its.length 0 lo)).take (HT.sIx its.length its.length hi-HT.sIx its.length 0 lo)).toArray:=by obtain⟨h1,h2,h3⟩:=BM lo hi its.toArray.size;unfold slicePick;rw[h1,h2,h3];simp only[sliceRange_one,pick_run,aN]<;>rfl
def rSlL(K:aa):V->Option Int->Option Int->Hp->VK->Prop:=λx lo hi H Q=>∃a xs,x=.ref a/\SqL K H a xs/\∀p,H p=Zb->Q (.ref p) (upd H p (.lst (Gq xs lo hi)))
def sl_list:SlR X (rSlL X.K):=by intro O2 s O H x v vl vu lo hi sl Q I rx hs pl pu h;obtain⟨a,xs,rfl,hx,q⟩:=h;cases rx;obtain⟨its,r,ht,hz⟩:=I.list hx;have O6:=r.length;refine⟨"list",_,slot_list_getitem.lookup,ht.isList.typeIs,?_⟩;refine wpAny_getItem_list_slice ht.isList hs pl pu .none (by simp) ?_ (by rw[aN]<;>lia);rw[z5,<-O6];refine⟨.ref s.heap.objs.size,_,I.laid (t':=s.toks) (o:=.lst (Gq xs lo hi)) (λb ob q=>au _ q) (am _) ?_,rfl,q _ (I.hok.fresh (am _))⟩;exact⟨aI (xR xs lo hi) hz,_,0,(r.drop (HT.sIx xs.length 0 lo)).take (HT.sIx xs.length xs.length hi-HT.sIx xs.length 0 lo),a7 _ rfl⟩
def sV:V->Bool
 |.non=>true
 |.bl _=>true
 |.int _=>true
 |.str _=>true
 |_=>false
def eqV:V->V->Bool
 |.non,.non=>true
 |.bl a,.bl b=>a==b
 |.bl a,.int b=>(if a then 1 else 0)==b
 |.int a,.bl b=>a==(if b then 1 else 0)
 |.int a,.int b=>a==b
 |.str a,.str b=>a==b
 |_,_=>false
def Fx(ry:RelV y u)(rx:RelV x v)(fy:sV y=true)(fx:sV x=true):la A s u v (eqV y x):=by
 cases y with
 |non =>
  cases ry;cases x with
  |non=>cases rx;exact SeqAt.EqAt.same _
  |bl b=>cases rx;exact SeqAt.EqAt.none_bool b
  |int b=>obtain⟨t,rfl⟩:=rx;exact SeqAt.EqAt.none_int b t
  |str b=>obtain⟨t,rfl⟩:=rx;exact SeqAt.EqAt.none_str b t
  |_=>exact absurd (show false=true from fx) aY
 |bl a =>
  cases ry;cases x with
  |non=>cases rx;exact SeqAt.EqAt.bool_none a
  |bl b=>cases rx;exact SeqAt.EqAt.bool_bool a b
  |int b=>obtain⟨t,rfl⟩:=rx;exact SeqAt.EqAt.bool_int a b t
  |str b=>obtain⟨t,rfl⟩:=rx;exact SeqAt.EqAt.bool_str a b t
  |_=>exact absurd (show false=true from fx) aY
 |int a =>
  obtain⟨t',rfl⟩:=ry;cases x with
  |non=>cases rx;exact SeqAt.EqAt.int_none a t'
  |bl b=>cases rx;exact SeqAt.EqAt.int_bool a t' b
  |int b=>obtain⟨t,rfl⟩:=rx;exact SeqAt.EqAt.int_int a t' b t
  |str b=>obtain⟨t,rfl⟩:=rx;exact ka a t' b t
  |_=>exact absurd (show false=true from fx) aY
 |str a =>
  obtain⟨t',rfl⟩:=ry;cases x with
  |non=>cases rx;exact SeqAt.EqAt.str_none a t'
  |bl b=>cases rx;exact SeqAt.EqAt.str_bool a t' b
  |int b=>obtain⟨t,rfl⟩:=rx;exact jZ a t' b t
  |str b=>obtain⟨t,rfl⟩:=rx;exact SeqAt.EqAt.str_str a t' b t
  |_=>exact absurd (show false=true from fx) aY
 |_=>exact absurd (show false=true from fy) aY
def eqU(x:V)(u:ah):Bool:=match u with
 |.none=>eqV .non x
 |.bool b=>eqV (.bl b) x
 |.int i _=>eqV (.int i) x
 |.str z _=>eqV (.str z) x
 |_=>false
def Kg(r:RelV y u)(f:sV y=true):eqU x u=eqV y x:=by
 cases y with
 |non=>cases r;rfl
 |bl b=>cases r;rfl
 |int i=>obtain⟨t,rfl⟩:=r;rfl
 |str z=>obtain⟨t,rfl⟩:=r;rfl
 |_=>exact absurd (show false=true from f) aY
theorem CL:∀{xs:List V}{us:List ah},Vals xs us->xs.all sV=true->us.any (eqU x)=xs.any λy=>eqV y x
 |_,_,.nil,_=>rfl
 |y::xs,u::us,.cons r t,f=>by rw[iN,cx] at f;rw[cQ,cQ,Kg r f.1,CL t f.2]
theorem zO(rx:RelV x v)(fx:sV x=true):∀{xs:List V}{us:List ah},Vals xs us->xs.all sV=true->∀u∈us,la A s u v (eqU x u)
 |_,_,.nil,_=>λu hu=>by cases hu
 |y::xs,u::us,.cons r t,f=>λu' hu=>by
  rw[iN,cx] at f;rcases af.mp hu with rfl|hu
  ·rw[Kg r f.1];exact Fx r rx f.1 fx
  ·exact zO rx fx t f.2 u' hu
def inV(x:V)(xs:List V):Bool:=xs.any λy=>eqV y x
def rIn(K:aa)(neg:Bool):R2:=λx y H Q=>∃p xs,y=.ref p/\(SqL K H p xs\/SqT K H p xs)/\sV x=true/\xs.all sV=true/\Q (.bl (if neg then !inV x xs else inV x xs)) H
def GX:OpR X (cm .In) (rIn X.K false):=by
 intro O2 s O H x y v u Q I rx ry h;obtain⟨p,xs,rfl,hq,fx,fs,q⟩:=h;cases ry;rcases hq with hq|hq
 ·obtain⟨its,r,pl,hz⟩:=I.list hq;refine SeqAt.in_listAt (eqU x) pl.isList (λw hw=>zO rx fx r fs w (by simpa using hw)) ⟨.bl _,H,I,rfl,?_⟩;rw[show its.toArray.any (eqU x)=its.any (eqU x) by simp,CL r fs];exact q
 ·obtain⟨its,r,pl,hz⟩:=I.tuple hq;refine SeqAt.in_tupleAt (eqU x) pl (λw hw=>zO rx fx r fs w (by simpa using hw)) ⟨.bl _,H,I,rfl,?_⟩;rw[show its.toArray.any (eqU x)=its.any (eqU x) by simp,CL r fs];exact q
def call_len_seq:CallR X (.builtin "len") (λxs H Q=>∃p ys,xs=[.ref p]/\(SqL X.K H p ys\/SqT X.K H p ys)/\Q (.int ys.length) H):=by
 intro O2 s O H xs us Q I r h;obtain⟨p,ys,rfl,hq,q⟩:=h;obtain⟨u,rfl,rx⟩:=qp r;cases rx;have hn:=wa;rcases hq with hq|hq
 ·obtain⟨its,r',pl,hz⟩:=I.list hq;have O6:=r'.length;exact Calls.call_len_list pl.isList (by simp only[aN]<;>lia) ⟨.int ys.length,H,I.tok _,⟨s.toks+1,by rw[aN,O6]⟩,q⟩
 ·obtain⟨its,r',pl,hz⟩:=I.tuple hq;have O6:=r'.length;exact len_tuple pl (by simp only[aN]<;>lia) ⟨.int ys.length,H,I.tok _,⟨s.toks+1,by rw[aN,O6]⟩,q⟩
def call_len_str:CallR X (.builtin "len") (λxs H Q=>∃z,xs=[.str z]/\z.length<=aJ/\Q (.int z.length) H):=by intro O2 s O H xs us Q I r h;obtain⟨z,rfl,hz,q⟩:=h;obtain⟨u,rfl,t,rfl⟩:=qp r;have hn:=wa;exact len_str (by lia) ⟨.int z.length,H,I.tok _,⟨_,rfl⟩,q⟩
def CallR.or(h:CallR X f r)(h':CallR X f r'):CallR X f (λxs H Q=>r xs H Q\/r' xs H Q):=by
 intro O2 s O H xs us Q I rs q;rcases q with q|q
 ·exact h O2 s O H xs us Q I rs q
 ·exact h' O2 s O H xs us Q I rs q
def Ch:CallR X (.type "list") (λxs H Q=>∃p ys,xs=[.ref p]/\(SqL X.K H p ys\/SqT X.K H p ys)/\∀l,H l=Zb->Q (.ref l) (upd H l (.lst ys))):=by
 intro O2 s O H xs us Q I r h;obtain⟨p,ys,rfl,hq,q⟩:=h;obtain⟨u,rfl,rx⟩:=qp r;cases rx;have Pq:∀(its:List ah),Vals ys its->ys.length<=aJ->∀(h':bx)(c':Nat),(∀b o',s.heap.get? b=Za o'->h'.get? b=Za o') ->
   h'.get? s.heap.objs.size=Za { cls:=.type "list",dict:=Zb,data:=.seq its.toArray c',slots:=#[] }->EP X O2 O Q (.ref s.heap.objs.size) { s with heap:=h' }:=λits r' hz h' c' kp e =>
  ⟨.ref s.heap.objs.size,_,I.laid (t':=s.toks) kp (am _) (show ObjOk X.prog X.w _ h' _ (.lst ys) from⟨hz,its,c',r',e⟩),rfl,q _ (I.hok.fresh (am _))⟩
 rcases hq with hq|hq
 ·obtain⟨its,r',pl,hz⟩:=I.list hq;have O6:=r'.length;obtain⟨o,ho,hc,n,hd⟩:=pl.isList;exact call_list_seq p (.inl rfl) ho hc hd (λh' c' kp e=>Pq its r' hz h' c' kp e) (by simp only[aN]<;>lia)
 ·obtain⟨its,r',pl,hz⟩:=I.tuple hq;have O6:=r'.length;obtain⟨o,ho,hc,n,hd⟩:=pl;exact call_list_seq p (.inr rfl) ho hc hd (λh' c' kp e=>Pq its r' hz h' c' kp e) (by simp only[aN]<;>lia)
def Az:CallR X (.type "tuple") (λxs H Q=>∃p ys,xs=[.ref p]/\((SqL X.K H p ys/\∀l,H l=Zb->Q (.ref l) (upd H l (.tup ys)))\/(SqT X.K H p ys/\Q (.ref p) H))):=by
 intro O2 s O H xs us Q I r h;obtain⟨p,ys,rfl,h⟩:=h;obtain⟨u,rfl,rx⟩:=qp r;cases rx;rcases h with⟨hq,q⟩|⟨hq,q⟩
 ·obtain⟨its,r',pl,hz⟩:=I.list hq;have O6:=r'.length;refine call_tuple_list pl.isList (λh' kp=>?_) (by simp only[aN]<;>lia);have I1:Inv X O2 O H { s with heap:=h' }:=I.kept (t':=s.toks) kp;have I2:Inv X O2 O (upd H h'.objs.size (.tup ys)) { s with heap:=h'.push { cls:=.type "tuple",data:=.seq its.toArray } } :=
   I1.laid (t':=s.toks) (λb o e=>au _ e) (am _) (show ObjOk X.prog X.w _ _ _ (.tup ys) from⟨hz,its,r',IsTup.new _ _⟩)
  exact⟨.ref h'.objs.size,_,I2,rfl,q _ (I1.hok.fresh (am _))⟩
 ·obtain⟨its,r',pl,hz⟩:=I.tuple hq;exact call_tuple_same pl ⟨.ref p,H,I,rfl,q⟩
def tyV(K:aa)(T:String)(x:V)(H:Hp):Prop:=match x with
 |.str _=>T="str"
 |.int _=>T="int"
 |.ref p=>(T="list"/\∃xs,SqL K H p xs)\/(T="tuple"/\∃o,K.lookup p=Za o/\o.cls=.type "tuple"/\o.dict=Zb) \/
   (T="dict"/\((∃kvs,H p=Za (.dK kvs))\/∃kvs,H p=Za (.dT kvs)))\/(T="set"/\∃S n,H p=Za (.set S n))
 |_=>False
def Nx(I:Inv X O2 O H s)(r:RelV x v)(ty:tyV X.K T x H) :
  s.TypeIs v T/\∀a,v=.ref a->∃ob,s.heap.get? a=Za ob/\ob.dict=none:=by
 cases x with
 |str z =>
  obtain⟨t,rfl⟩:=r;cases(show T="str" from ty);exact⟨typeIs_str s z t,λ_ e=>nomatch e⟩
 |int i =>
  obtain⟨t,rfl⟩:=r;cases(show T="int" from ty);exact⟨typeIs_int s i t,λ_ e=>nomatch e⟩
 |ref p =>
  cases r;rcases ty with⟨rfl,xs,hq⟩|⟨rfl,o,hk,hc,hd⟩|⟨rfl,hk⟩|⟨rfl,S,n,hk⟩
  ·obtain⟨its,_,pl,_⟩:=I.list hq;refine⟨pl.isList.typeIs,λa e=>?_⟩;cases e;obtain⟨o,n,e,c,hd,_⟩:=pl;exact⟨o,e,hd⟩
  ·refine⟨⟨o,I.kIn p o hk,hc⟩,λa e=>?_⟩;cases e;exact⟨o,I.kIn _ o hk,hd⟩
  ·have z:∃o,s.heap.get? p=Za o/\o.ExactDict:=by
    rcases hk with⟨kvs,hk⟩|⟨kvs,hk⟩
    ·obtain⟨_,_,_,_,o,_,_,e,ex,_⟩:=I.hok p _ hk;exact⟨o,e,ex⟩
    ·obtain⟨_,_,_,_,o,_,_,e,ex,_⟩:=I.hok p _ hk;exact⟨o,e,ex⟩
   obtain⟨o,e,ex⟩:=z;refine⟨⟨o,e,ex.1⟩,λa e2=>?_⟩;cases e2;exact⟨o,e,ex.2.1⟩
  ·obtain⟨o,_,_,_,e,ex,_⟩:=I.hok p _ hk;refine⟨⟨o,e,ex.1⟩,λa e2=>?_⟩;cases e2;exact⟨o,e,ex.2.1⟩
 |_=>exact bS ty
def tBM(K:aa)(T:String)(r:V->List V->Hp->VK->Prop)(to:TE)(t:TA):TE:=λO H Q=>to O H λx H1=>tyV K T x H1/\t O H1 λxs H2=>r x xs H2 Q
variable{o e:bo}{es:List bo}{to:TE}{t:TA}{name:Str}{O4 O5:Pos}{T id:String}{r:V->List V->Hp->VK->Prop}
def KC(pa:PlainAttrs T)(slot:Slot T name id)(Vd:typeOf (.builtin id)=pure (.type "method_descriptor"))(hm:MtR X id r)(ho:PE X o to)(ha:PA X (e::es) t)(Pu:cU o name X.env (eval o X.env)=eval o X.env:=by rfl)(Qk:((b8 O5 (aC (e::es) X.env)).all (λx=>!x.1)&&(eK O5 (cY [] X.env)).all (λx=>x.1.isSome)
   && decide ((e::es).length+([]:List fG).length+(if([]:List fG).isEmpty then 0 else 1)<30))=true:=by rfl)(Pt:(O4.endLine==O5.line)=true:=by rfl)(hs:SEb X e es:=by rfl)(Py:(b8 O5 (aC es X.env)).any (·.1)=false:=by rfl) :
  PE X (.Call (.Attribute o name O4) (e::es) [] O5) (tBM X.K T r to t):=by
 intro O2 s O H Q I h;refine wpAny_Call_method_late Pu Qk Pt rfl (thn (ho O2 s O H _ I h) λv s1=>e4 λx H1 I1 r1 ⟨ty,q1⟩=>?_);obtain⟨h1,h2⟩:=Nx I1 r1 ty;refine⟨T,id,pa,slot,Vd,h1,h2,?_⟩;have hA:=ha O5 O2 s1 O H1 _ I1 q1;rw[hs] at hA ⊢;refine fb (by show(false||(b8 O5 (aC es X.env)).any (·.1))=false;rw[Py]<;>rfl) (fH ?_);exact thn hA λus s2=>e4 λvs H2 I2 r2 q2=>hm O2 s2 O H2 x vs v us Q I2 r1 r2 q2
end
def MtM(X:Cx)(id:String)(r:V->List V->Hp->VK->Prop):Prop :=
 ∀(O2:List (ak×Obj))(s:ax)(O:St)(H:Hp)(x:V)(xs:List V)(v:ah)(us:List ah)(Q:VK),Inv X O2 O H s->RelV x v->Vals xs us->r x xs H Q ->
  aT (model X.prog X.w) X.A (call (.builtin id) (v::us)) (EP X O2 O Q) X.xe s
def Vals.one:∀{x:V}{us:List ah},Vals [x] us->∃u,us=[u]/\RelV x u
 |_,_,.cons r .nil=>⟨_,rfl,r⟩
theorem Vals.rep(h:Vals xs us):∀k:Nat,Vals (aR k xs).flatten (aR k us).flatten
 |0=>.nil
 |k+1=>by rw[cZ,cZ,dZ,dZ];exact Vals.append h (Vals.rep h k)
theorem Bs(its):∀(k:Nat)(Pc:List ah),
  lG (λx1 x2=>x1++x2) Pc.toArray (aR k its.toArray)=(Pc++(aR k its).flatten).toArray
 |0,Pc=>by simp
 |k+1,Pc=>by
  have e:Pc.toArray++its.toArray=(Pc++its).toArray:=by simp
  have e2:(Pc++its)++(aR k its).flatten=Pc++(aR (k+1) its).flatten:=by rw[cZ,dZ,ja]
  rw[<-e2,<-Bs its k (Pc++its),<-e,cZ,List.foldl_cons]
section
variable{X:Cx}{O2:List (ak×Obj)}{O:St}{H:Hp}{s:ax}{l b:ak}{xs ys zs:List V}
def Inv.lset{its its':List ah}{n:Nat}{f:Array ah->Array ah}{t':Nat}(I:Inv X O2 O H s)(hH:H l=Za (.lst xs))(e:s.heap.get? l=Za { cls:=.type "list",data:=.seq its.toArray n })(hf:f its.toArray=its'.toArray)(hv:Vals ys its')(hz:ys.length<=aJ) :
  Inv X O2 O (upd H l (.lst ys)) { s with heap:=s.heap.update l (iU f),toks:=t' }:=by
 have q:=PySem.IsL.update e f;rw[hf] at q;refine I.write (x:=l) (e:=l) (by rw[hH];exact trivial) (.inl rfl) (λb' u hb hu=>(ky s.heap (iU f) (bX hb)).trans hu) ⟨_,q⟩ ?_;exact⟨hz,its',_,hv,q⟩
def Inv.lnew(I:Inv X O2 O H s)(hv:Vals ys its)(hz:ys.length<=aJ) :
  Inv X O2 O (upd H s.heap.objs.size (.lst ys)) { s with heap:=s.heap.push { cls:=.type "list",data:=.seq its.toArray },toks:=t' } :=
 I.laid (λ_ _ q=>au _ q) (am _) ⟨hz,its,0,hv,a7 _ rfl⟩
theorem Inv.fresh(I:Inv X O2 O H s):H s.heap.objs.size=none:=I.hok.fresh (am _)
def Inv.lstM(I:Inv X O2 O H s)(hH:H l=Za (.lst xs)):xs.length<=aJ/\∃(its:List ah)(n:Nat),Vals xs its/\xs.length=its.length/\s.heap.get? l=Za { cls:=.type "list",data:=.seq its.toArray n }:=by obtain⟨z,its,n,r,e⟩:=I.hok l _ hH;exact⟨z,its,n,r,r.length,e⟩
def IN(h:n<=aJ):fM n=false:=by unfold fM;exact Zh (by lia)
def Lh:V->List V->Hp->VK->Prop:=λx vs H Q=>∃l xs y,x=.ref l/\vs=[y]/\H l=Za (.lst xs)/\xs.length<aJ/\Q .non (upd H l (.lst (xs++[y])))
def Bg:MtM X "list.append" Lh:=by intro O2 s O H x vs v us Q I rx rv h;obtain⟨l,xs,y,rfl,rfl,hH,hz,q⟩:=h;cases rx;obtain⟨u,rfl,ru⟩:=rv.one;obtain⟨z,its,n,r,hl,e⟩:=I.lstM hH;refine jj kO ⟨_,e,rfl⟩ F.entry_list_append (F.args_list_append_2 _ _) (PySem.list_append l its.toArray n u (by rw[aN];lia)) ⟨e,?_⟩;refine⟨.non,_,I.lset (its':=its++[u]) hH e (by simp) (r.append (.cons ru .nil)) ?_,rfl,q⟩;rw[aM,List.length_singleton];lia
def OQ:R2:=λx y H Q=>∃l k xs,x=.ref l/\y=.int k/\H l=Za (.lst xs)/\-(2^63)<=k/\k<2^63/\xs.length*k.toNat<=aJ /\
 ∀p,H p=Zb->Q (.ref p) (upd H p (.lst (aR k.toNat xs).flatten))
def LV(xs:List α)(k:Nat):(aR k xs).flatten.length=k*xs.length:=by
 induction k with
 |zero=>simp
 |succ k ih=>rw[cZ,dZ,aM,ih,Nat.succ_mul,kR]
def N0:OpR X (dI .Mult) OQ:=by
 intro O2 s O H x y v u Q I rx ry h;obtain⟨l,k,xs,rfl,rfl,hH,h1,h2,hz,q⟩:=h;cases rx;obtain⟨t,rfl⟩:=ry;obtain⟨z,its,n,r,hl,e⟩:=I.lstM hH;have O6:its.toArray.size*k.toNat<=aJ:=by rw[aN,<-hl];exact hz
 have VB:¬its.toArray.size*k.toNat>(2^63-1)/8:=by
  have:(aJ:Nat)<=(2^63-1)/8:=by decide
  lia
 have Vv:¬(!Builtin.List.listFitsIndex k)=true:=by rw[fitsIndex_both h1 h2];exact aY
 have To:¬fM (its.toArray.size*k.toNat)=true:=by rw[IN O6];exact aY
 have P0:lG (λx1 x2=>x1++x2) #[] (aR (if its.toArray.isEmpty=true then 0 else k.toNat) its.toArray)=(aR k.toNat its).flatten.toArray:=by
  have f0:∀m:Nat,lG (λx1 x2=>x1++x2) #[] (aR m its.toArray)=(aR m its).flatten.toArray:=λm=>by have:=Bs its m [];rw[g8] at this;exact this
  rw[f0];cases its with
  |nil=>simp
  |cons a r'=>rw[Zd (by simp)]
 refine wpAny_binaryOp_repeat_ref (T:="list") (U:="int") (by decide) ⟨_,e,rfl⟩ (λs'=>typeIs_int s' k t) noFill_list_mul F.fills_int_mul F.slot_int_rmul repeat_list F.slot_int_index.lookup
  (jj F.slot_int_rmul (typeIs_int s k t) F.entry_int_rmul (F.args_int_rmul_2 _ _) (int___rmul___int_list k t l its.toArray n)
   ⟨e,rfl,⟨_,e,rfl⟩,jj F.slot_list_mul ⟨_,e,rfl⟩ F.entry_list_mul (F.args_list_mul_2 _ _) (AutoListH.list___mul___list_int_3 l its.toArray n k t Vv VB To) ⟨e,?_⟩⟩)
 rw[P0];exact⟨.ref _,_,I.lnew (t':=s.toks) (r.rep k.toNat) (by rw[LV,kP];exact hz),rfl,q _ I.fresh⟩
end
section
variable{prog:aK}{w:a6}{A:cE}{E:ah->ax->Prop}{s:ax}
set_option maxRecDepth 100000 in
end
section
variable{X:Cx}
end
open PySem PySem.Spec PyProof.Rows
section
variable{κ:Type}[DecidableEq κ]
def om(kvs:List (κ×V))(k:κ):Option V:=(kvs.find? λkv=>decide (kv.1=k)).map (·.2)
def qf(kvs:List (κ×V))(k:κ)(v:V):List (κ×V) :=
 if(kvs.any λkv=>decide (kv.1=k))=true then kvs.map (λkv=>if kv.1=k then(kv.1,v) else kv) else kvs++[(k,v)]
def x8(kvs:List (κ×V))(k:κ):List (κ×V):=kvs.filter λkv=>decide (kv.1≠k)
def wk{p:κ×V}{r}{k:κ}(e:p.1=k):om (p::r) k=Za p.2:=by simp[om,bG,e]
def wl{p:κ×V}{r}{k:κ}(e:¬p.1=k):om (p::r) k=om r k:=by simp[om,bG,e]
theorem wm(k:κ):∀kvs:List (κ×V),(kvs.any λkv=>decide (kv.1=k))=(om kvs k).isSome
 |[]=>rfl
 |p::r=>by
  rw[cQ];by_cases e:p.1=k
  ·simp only[wk e,Zg e,Bool.true_or,Option.isSome_some]
  ·rw[wl e,Zh e,kh];exact wm k r
def qT(kvs)(k:κ)(v):(qf kvs k v).length<=kvs.length+1:=by
 unfold qf;split
 ·rw[ac];lia
 ·rw[aM,bc,jw];lia
def rZ{kvs}{k:κ}(v)(h:om kvs k=Zb):qf kvs k v=kvs++[(k,v)]:=by unfold qf;rw[wm,h];exact Zd (by decide)
def RelO.isSome_eq(r:RelO o u):o.isSome=u.isSome:=by
 cases o with
 |none=>cases u with
  |none=>rfl
  |some _=>exact(show False from r).elim
 |some _=>cases u with
  |none=>exact(show False from r).elim
  |some _=>rfl
theorem RelO.getD(r:RelO o u)(rd:RelV d d'):RelV (o.getD d) (u.getD d'):=by
 cases o with
 |none=>cases u with
  |none=>exact rd
  |some _=>exact(show False from r).elim
 |some _=>cases u with
  |none=>exact(show False from r).elim
  |some _=>exact r
def KV.val{kvs}{vs}(r:KV kvs vs)(k:κ):RelO (om kvs k) (iY vs k):=by
 unfold KV at r;induction r with
 |nil=>exact eR
 |@cons p q ps qs h t ih =>
  obtain⟨h1,h2⟩:=h;by_cases e:p.1=k
  ·have e':q.1=k:=h1.symm.trans e;have b:iY (q::qs) k=Za q.2:=by simp[iY,bG,e']
   rw[wk e,b];exact h2
  ·have e':¬q.1=k:=λz=>e (h1.trans z);have b:iY (q::qs) k=iY qs k:=by simp[iY,bG,e']
   rw[wl e,b];exact ih
theorem KV.any(r:KV kvs vs)(k:κ):(kvs.any λkv=>decide (kv.1=k))=vs.any λkv=>decide (kv.1=k):=by
 unfold KV at r;induction r with
 |nil=>rfl
 |cons h t ih=>rw[cQ,cQ,ih,h.1]
def KV.repl(r:KV kvs vs)(k:κ)(ry:RelV y u) :
  KV (kvs.map λkv=>if kv.1=k then(kv.1,y) else kv) (vs.map λkv=>if kv.1=k then(kv.1,u) else kv):=by
 unfold KV at r ⊢;induction r with
 |nil=>exact .nil
 |@cons p q ps qs h t ih =>
  rw[ao,ao];refine .cons ?_ ih;obtain⟨h1,h2⟩:=h;by_cases e:p.1=k
  ·rw[Zc e,Zc (h1.symm.trans e)];exact⟨h1,ry⟩
  ·rw[Zd e,Zd (λz=>e (h1.trans z))];exact⟨h1,h2⟩
def KV.put(r:KV kvs vs)(k:κ)(ry:RelV y u):KV (qf kvs k y) (stored vs k u):=by
 unfold qf stored;rw[r.any k];by_cases e:(vs.any λkv=>decide (kv.1=k))=true
 ·rw[Zc e,Zc e];exact r.repl k ry
 ·rw[Zd e,Zd e];exact ku r ⟨rfl,ry⟩
def KV.drop(r:KV kvs vs)(k:κ):KV (x8 kvs k) (without vs k):=by
 unfold KV at r ⊢;unfold x8 without;induction r with
 |nil=>exact .nil
 |@cons p q ps qs h t ih =>
  obtain⟨h1,h2⟩:=h;rw[gO,gO];by_cases e:p.1=k
  ·have a:¬decide (p.1≠k)=true:=by simp[e]
   have b:¬decide (q.1≠k)=true:=by simp[h1.symm.trans e]
   rw[Zd a,Zd b];exact ih
  ·have e':¬q.1=k:=λz=>e (h1.trans z);have a:decide (p.1≠k)=true:=by simp[e]
   have b:decide (q.1≠k)=true:=by simp[e']
   rw[Zc a,Zc b];exact .cons ⟨h1,h2⟩ ih
def KV.keys{kvs:List (κ×V)}{vs:List (κ×ah)}(r:KV kvs vs):kvs.map (·.1)=vs.map (·.1):=by
 unfold KV at r;induction r with
 |nil=>rfl
 |cons h t ih=>rw[ao,ao,ih,h.1]
theorem KV.length(r:KV kvs vs):kvs.length=vs.length:=iB r
def Jl(kvs)(k:κ):(x8 kvs k).length<=kvs.length:=fA _ _
end
def yZ(r:RelV (kV k) u):(mK P w).is k u=true:=by
 cases k with
 |inl i=>obtain⟨t,e⟩:=(show ∃t,u=fW i t from r);subst e;exact Dh P w i t
 |inr x=>obtain⟨t,e⟩:=(show ∃t,u=iq x t from r);subst e;exact Dg P w x t
theorem Bm:∀{ks:List Key}{us:List ah},Vals (ks.map kV) us->ItemsAre (mK P w) ks us
 |[],_,r=>by rw[cP] at r;cases r;exact .nil
 |k::ks,_,r=>by
  rw[ao] at r;cases r with
  |cons h t=>exact .cons (yZ h) (Bm t)
abbrev KT(H:Hp):List (List Key×V)->List (List Key×ak×ah)->Prop:=eT λp q=>p.1=q.1/\H q.2.1=Za (.tup (p.1.map kV))/\RelV p.2 q.2.2
def KT.val{H}{kvs}{xs}(r:KT H kvs xs)(k):RelO (om kvs k) ((kM xs k).map (·.2)):=by
 induction r with
 |nil=>exact eR
 |@cons p q ps qs h t ih =>
  obtain⟨h1,_,h2⟩:=h;by_cases e:p.1=k
  ·have e':q.1=k:=h1.symm.trans e;have b:kM (q::qs) k=Za q.2:=by simp[kM,bG,e']
   rw[wk e,b];exact h2
  ·have e':¬q.1=k:=λz=>e (h1.trans z);have b:kM (q::qs) k=kM qs k:=by simp[kM,bG,e']
   rw[wl e,b];exact ih
def KT.repl(r:KT H kvs xs)(k)(ry:RelV y u) :
  KT H (kvs.map λkv=>if kv.1=k then(kv.1,y) else kv) (xs.map (putAt k u)):=by
 induction r with
 |nil=>exact .nil
 |@cons p q ps qs h t ih =>
  rw[ao,ao];refine .cons ?_ ih;obtain⟨h1,h2,h3⟩:=h;unfold putAt;by_cases e:p.1=k
  ·rw[Zc e,Zc (h1.symm.trans e)];exact⟨h1,h2,ry⟩
  ·rw[Zd e,Zd (λz=>e (h1.trans z))];exact⟨h1,h2,h3⟩
def KT.put(r:KT H kvs xs)(k)(hb:H b=Za (.tup (k.map kV)))(ry:RelV y u) :
  KT H (qf kvs k y) (storedH xs k b u):=by
 have e:(kvs.any λkv=>decide (kv.1=k))=(kM xs k).isSome:=by rw[wm,(r.val k).isSome_eq,cS]
 unfold qf storedH;rw[e];by_cases q:(kM xs k).isSome=true
 ·rw[Zc q,Zc q];exact r.repl k ry
 ·rw[Zd q,Zd q];exact ku r ⟨rfl,hb,ry⟩
def KT.keeps(r:KT H kvs xs)(ht:∀b ys,H b=Za (.tup ys)->H' b=Za (.tup ys)):KT H' kvs xs :=
 eT.mapP r λ_ _ z=>⟨z.1,ht _ _ z.2.1,z.2.2⟩
section
variable{P:aK}{w:a6}{H:Hp}{h:bx}{a:ak}
def MW(ok:HOk P w H h)(e:Rd H a u):ObjOk P w H h a u:=e.ok ok
def sY(ok:HOk P w H h)(e:Rd H a (.dK kvs)):kvs.length<=aJ/\(a==dW)=false/\∃vs,KV kvs vs/\h.DictOf (mK P w) a vs :=
 show ObjOk P w H h a (.dK kvs) from MW ok e
def KM(ok:HOk P w H h)(e:H a=Za (.dK kvs)):kvs.length<=aJ/\(a==dW)=false/\∃vs,KV kvs vs/\h.DictOf (mK P w) a vs:=sY ok (.inl e)
def As(ok:HOk P w H h)(e:H a=Za (.tup (ks.map kV))):(iZ (mK P w)).is h ks a:=by obtain⟨_,its,r,o,h1,h2,n,h3⟩:=(show ObjOk P w H h a (.tup (ks.map kV)) from ok a _ e);exact⟨o,its.toArray,n,h1,h2,h3,by simpa using Bm r⟩
def CZ(ok:HOk P w H h)(e:Rd H a (.dT kvs)):kvs.length<=aJ/\(a==dW)=false /\
  ∃xs,KT H kvs xs/\h.DictOfH (iZ (mK P w)) a xs:=by
 obtain⟨z,y,xs,r,o,es,ep,h1,h2,h3,h4,h5⟩:=(show ObjOk P w H h a (.dT kvs) from MW ok e);refine⟨z,y,xs,r,o,es,ep,h1,h2,h3,h4,λx hx=>?_,h5⟩;have all:∀{l:List (List Key×V)}{m:List (List Key×ak×ah)},KT H l m->∀x∈m,(iZ (mK P w)).is h x.1 x.2.1:=by
  intro l m q;induction q with
  |nil=>intro x hx;exact nomatch hx
  |@cons p q ps qs hq t ih =>
   intro x hx;rcases af.mp hx with e|hx
   ·subst e;exact As ok (by rw[<-hq.1];exact hq.2.1)
   ·exact ih x hx
 exact all r x hx
def dt_of(ok:HOk P w H h)(e:H a=Za (.dT kvs)):kvs.length<=aJ/\(a==dW)=false /\
  ∃xs,KT H kvs xs/\h.DictOfH (iZ (mK P w)) a xs:=CZ ok (.inl e)
end
def DGet(H:Hp)(a:ak)(y:V)(r:Option V):Prop :=
 (∃kvs k,Rd H a (.dK kvs)/\y=kV k/\r=om kvs k)\/∃kvs k b,Rd H a (.dT kvs)/\y=.ref b/\H b=Za (.tup (k.map kV))/\r=om kvs k
def DPut(H:Hp)(a:ak)(y v:V)(H':Hp):Prop :=
 (∃kvs k,H a=Za (.dK kvs)/\y=kV k/\kvs.length<aJ/\H'=upd H a (.dK (qf kvs k v))) \/
 ∃kvs k b,H a=Za (.dT kvs)/\y=.ref b/\H b=Za (.tup (k.map kV))/\kvs.length<aJ/\H'=upd H a (.dT (qf kvs k v))
theorem DGet.k{H}{a}{kvs}{k}(e:H a=Za (.dK kvs)):DGet H a (kV k) (om kvs k):=.inl ⟨kvs,k,.inl e,rfl,rfl⟩
def DGet.t{H}{a b}{kvs}{k}(e:H a=Za (.dT kvs))(eb:H b=Za (.tup (k.map kV))):DGet H a (.ref b) (om kvs k):=.inr ⟨kvs,k,b,.inl e,rfl,eb,rfl⟩
theorem DPut.k{H}{a}{kvs}{k}{v}(e:H a=Za (.dK kvs))(hl:kvs.length<aJ):DPut H a (kV k) v (upd H a (.dK (qf kvs k v))):=.inl ⟨kvs,k,e,rfl,hl,rfl⟩
def DPut.t{H}{a b}{kvs}{k}{v}(e:H a=Za (.dT kvs))(eb:H b=Za (.tup (k.map kV)))(hl:kvs.length<aJ) :
  DPut H a (.ref b) v (upd H a (.dT (qf kvs k v))):=.inr ⟨kvs,k,b,e,rfl,eb,hl,rfl⟩
section
variable{X:Cx}{O2:List (ak×Obj)}{O:St}{H:Hp}{s:ax}{a:ak}{y v:V}{u r:ah}{o:Option V}{A:cE}{E:ah->ax->Prop}
def Inv.big(I:Inv X O2 O H s):dW<s.heap.objs.size:=by have h:ba<s.heap.objs.size:=(I.mod.glob.keeps I.bk).lt;exact g7 (by decide) h
def Bx(hu:A.units+1<fD)(I:Inv X O2 O H s)(g:DGet H a y (Za v))(ry:RelV y u)(h:∀w' s',Inv X O2 O H s'->RelV v w'->Q w' s') :
  aT (model X.prog X.w) A (iz (.ref a) u) Q E s:=by
 rcases g with⟨kvs,k,e,ey,l⟩|⟨kvs,k,b,e,ey,eb,l⟩
 ·subst ey;obtain⟨z,hd,vs,rel,dd⟩:=sY I.hok e;obtain⟨w',hw,PB⟩:=RelO.some_of (v:=v) (o:=iY vs k) (by rw[l];exact rel.val k);exact wpAny_getItem_of (yZ ry) dd.mapOf hw (h w' _ (I.tok _) PB)
 ·subst ey;cases(show u=bj b from ry);obtain⟨z,hd,xs,rel,dd⟩:=CZ I.hok e;obtain⟨w',hw,PB⟩:=RelO.some_of (v:=v) (o:=(kM xs k).map (·.2)) (by rw[l];exact rel.val k);obtain⟨p,hp,hp2⟩:=kg.mp hw;refine wpAny_getItem_heap (gE hu) (As I.hok eb) dd hp ?_;rw[hp2];exact h w' _ (I.tok _) PB
def d_in(hu:A.units+1<fD)(I:Inv X O2 O H s)(g:DGet H a y o)(ry:RelV y u)(h:∀s',Inv X O2 O H s'->Q (.bool o.isSome) s') :
  aT (model X.prog X.w) A (cm .In u (.ref a)) Q E s:=by
 rcases g with⟨kvs,k,e,ey,l⟩|⟨kvs,k,b,e,ey,eb,l⟩
 ·subst ey;obtain⟨z,hd,vs,rel,dd⟩:=sY I.hok e;refine wpAny_in_of (yZ ry) hd dd.mapOf ?_;rw[<-(rel.val k).isSome_eq,<-l];exact h _ (I.tok _)
 ·subst ey;cases(show u=bj b from ry);obtain⟨z,hd,xs,rel,dd⟩:=CZ I.hok e;refine wpAny_in_heap (gE hu) (As I.hok eb) hd dd ?_;have q:=(rel.val k).isSome_eq;rw[cS] at q;rw[<-q,<-l];exact h _ (I.tok _)
def zo(I:Inv X O2 O H s)(mu:Mut (H a))(hs:i0 a s.heap h')(he:∃q,h'.get? a=Za q)(new:ObjOk X.prog X.w (upd H a ob) h' a ob) :
  Inv X O2 O (upd H a ob) { s with heap:=h',toks:=t' } :=
 I.write (x:=a) (e:=a) mu (.inl rfl) (λb q hb z=>(hs.2 b hb).trans z) he new
def Av(z:kvs.length<=aJ)(hd:(a==dW)=false)(rel:KV kvs vs)(dd:h'.DictOf (mK P w) a vs) :
  ObjOk P w H' h' a (.dK kvs):=⟨z,hd,vs,rel,dd⟩
def Bw(hu:A.units+1<fD)(I:Inv X O2 O H s)(g:DPut H a y v H')(ry:RelV y u)(rv:RelV v r)(h:∀s',Inv X O2 O H' s'->Q () s') :
  aT (model X.prog X.w) A (kn (.ref a) u r) Q E s:=by
 rcases g with⟨kvs,k,e,ey,l,eH⟩|⟨kvs,k,b,e,ey,eb,l,eH⟩
 ·subst ey eH;obtain⟨z,hd,vs,rel,dd⟩:=KM I.hok e;have hz:vs.length<=aJ:=by rw[<-rel.length];exact z
  have hl:(qf kvs k v).length<=aJ:=by have:=qT kvs k v;lia
  refine wpAny_setItem_pairs (hsz:=hz) (yZ ry) dd λh' QO hs=>h _ ?_;have he:∃q,h'.get? a=Za q:=let⟨q,_,_,hq,_⟩:=QO;⟨q,hq⟩;exact zo I (by rw[e];exact eR) hs he (Av hl hd (rel.put k rv) QO)
 ·subst ey eH;cases(show u=bj b from ry);obtain⟨z,hd,xs,rel,dd⟩:=dt_of I.hok e;have hz:xs.length<=aJ:=by rw[<-iB rel];exact z
  have hl:(qf kvs k v).length<=aJ:=by have:=qT kvs k v;lia
  refine wpAny_setItem_heap (hsz:=hz) (gE hu) (As I.hok eb) dd λh' QO hs=>h _ ?_;obtain⟨q,es,ep,hq,h2,h3,h4,_,h5⟩:=QO;refine zo I (by rw[e];exact eR) hs ⟨q,hq⟩ ⟨hl,hd,_,(rel.put k eb rv).keeps λc ys ec=>?_,q,es,ep,hq,h2,h3,h4,h5⟩;rw[lK (CT ec e (λz=>nomatch z))];exact ec
end
section
variable{X:Cx}{O2:List (ak×Obj)}{O:St}{H:Hp}{s:ax}{a:ak}{kvs:List (Key×V)}{k:Key}{u:ah}{A:cE}{E:ah->ax->Prop}
def d_pop(I:Inv X O2 O H s)(e:H a=Za (.dK kvs))(ry:RelV (kV k) u)(l:om kvs k=Za v)(hm:more=[]\/∃x,more=[x])(h:∀w' s',Inv X O2 O (upd H a (.dK (x8 kvs k))) s'->RelV v w'->Q w' s'):aT (model X.prog X.w) A (call (.builtin "dict.pop") (.ref a::u::more)) Q E s:=by
 obtain⟨z,hd,vs,rel,dd⟩:=KM I.hok e;obtain⟨w',hw,PB⟩:=RelO.some_of (v:=v) (o:=iY vs k) (by rw[<-l];exact rel.val k);have hp:(keyPart u).isSome=true:=by
  cases k with
  |inl i=>obtain⟨t,q⟩:=(show ∃t,u=fW i t from ry);subst q;rfl
  |inr x=>obtain⟨t,q⟩:=(show ∃t,u=iq x t from ry);subst q;rfl
 have ha:argsOk "dict.pop" ⟨.ref a::u::more,[]⟩:=by
  rcases hm with q|⟨x,q⟩
  ·subst q;exact PySem.F.args_dict_pop_2 _ _
  ·subst q;exact PySem.F.args_dict_pop_3 _ _ _
 refine jB ke dd.typeIs PySem.F.entry_dict_pop ha (meets_dict_pop_there (mK X.prog X.w) a (yZ ry) more hm hp)
  ⟨vs,w',dd,by rw[<-rel.length];exact z,hw,λh' QO hs=>h w' _ ?_ PB⟩
 have he:∃q,h'.get? a=Za q:=let⟨q,_,_,hq,_⟩:=QO;⟨q,hq⟩;exact zo I (by rw[e];exact eR) hs he (Av (aI (Jl kvs k) z) hd (rel.drop k) QO)
def Np(I:Inv X O2 O H s)(e:Rd H a (.dK kvs))(h:∀t s',Inv X O2 O H s'->Q (.int kvs.length t) s'):aT (model X.prog X.w) A (call (.builtin "len") [.ref a]) Q E s:=by obtain⟨z,hd,vs,rel,dd⟩:=sY I.hok e;refine call_len_dict hd dd (by rw[<-rel.length];rw[jX] at z;lia) ?_;rw[<-rel.length];exact h _ _ (I.tok _)
end
def O1(i:bo):Prop:=∀ov iv,subscripted i false ov iv=operate [ov,iv] (iz ov iv)
def K2{prog}{w}{A}{E}{s}{env:Env}{value Pj}{pos}{T id:String}{Q}(hl:typeLookup (.type T) "__getitem__"=pure (Za (.builtin id)))(hs:O1 Pj)(h:aT (model prog w) A (eval value env) (λo Pf=>aT (model prog w) A (eval Pj env) (λi Qi=>Qi.TypeIs o T/\aT (model prog w) A (iz o i) Q E Qi) E Pf) E s) :
  aT (model prog w) A (eval (.Subscript value Pj pos) env) Q E s:=by
 refine Subscript_ (bO h (λo Pf TJ=>bO TJ (λi Qi TH=>?_) λ_ _ x=>x) λ_ _ x=>x);obtain⟨hT,TH⟩:=TH;unfold jh;refine ap ?_;rw[getitemInPython_of_ne hT.not_modules];refine ap (wpAny_specialOf hT hl ?_);have Pq:aT (model prog w) A (subscripted Pj false o i) (λr O7=>aT (model prog w) A (letTemporaryGo value o r >>= λ_=>pure r) Q E O7) E Qi:=by rw[hs o i];exact wpAny_operating (bO TH (λr O7 SA=>ap (wpAny_letTemporaryGo (aL SA))) λ_ _ x=>x)
 first
  |exact aL (ap Pq)
  |exact ap (aL (ap Pq))
  |exact ap Pq
def xQ(I:Inv X O2 O H s)(g:DGet H a y o):s.TypeIs (.ref a) "dict":=by
 rcases g with⟨kvs,k,e,_,_⟩|⟨kvs,k,b,e,_,_,_⟩
 ·obtain⟨_,_,vs,_,dd⟩:=sY I.hok e;exact dd.typeIs
 ·obtain⟨_,_,xs,_,dd⟩:=CZ I.hok e;exact dd.typeIs
def tDGet(td ty:TE):TE:=λO H Q=>td O H λx H1=>ty O H1 λy H2=>∃a v,x=.ref a/\DGet H2 a y (Za v)/\Q v H2
def tDIn(ty td:TE):TE:=λO H Q=>ty O H λy H1=>td O H1 λx H2=>∃a o,x=.ref a/\DGet H2 a y o/\Q (.bl o.isSome) H2
def MU(td ty tv:TE):TS:=λD O H=>tv O H λv H1=>td O H1 λx H2=>ty O H2 λy H3=>∃a H4,x=.ref a/\DPut H3 a y v H4/\D.nx O H4
section
variable{X:Cx}{o i e value:bo}{pos Ph Px:Pos}{td ty tv:TE}
def qM(hu:X.A.units+1<fD)(ho:PE X o td)(hi:PE X i ty)(hs:O1 i):PE X (.Subscript o i pos) (tDGet td ty):=by intro O2 s O H Q I h;refine K2 jq.lookup hs (thn (ho O2 s O H _ I h) λu s1=>e4 λx H1 I1 rx q1=>thn (hi O2 s1 O H1 _ I1 q1) λiv s2=>e4 λy H2 I2 ry ⟨a,v,ex,g,q2⟩=>?_);subst ex;obtain rfl:u=bj a:=rx;exact⟨xQ I2 g,Bx hu I2 g ry λw' s3 I3 PB=>⟨v,H2,I3,PB,q2⟩⟩
def J1(hu:X.A.units+1<fD)(hi:PE X i ty)(ho:PE X o td):PC X .In i o (tDIn ty td):=by intro O2 s O H Q I h;refine thn (hi O2 s O H _ I h) λiv s1=>e4 λy H1 I1 ry q1=>thn (ho O2 s1 O H1 _ I1 q1) λu s2=>e4 λx H2 I2 rx ⟨a,ov,ex,g,q2⟩=>?_;subst ex;obtain rfl:u=bj a:=rx;exact d_in hu I2 g ry λs3 I3=>⟨.bl ov.isSome,H2,I3,rfl,q2⟩
def qh(hu:X.A.units+1<fD)(ho:PE X o td)(hi:PE X i ty)(hv:PE X value tv)(hs:dQ value (Za (.Subscript o i Ph)) pos.line X.env=pure false) :
  PS X (.Assign [.Subscript o i Ph] value pos) (MU td ty tv):=by
 intro O2 s O H D I h;refine wpAny_Assign_Subscript (thn (hv O2 s O H _ I h) λr s1=>e4 λv H1 I1 rv q1=>thn (ho O2 s1 O H1 _ I1 q1) λu s2=>e4 λx H2 I2 rx q2=>thn (hi O2 s2 O H2 _ I2 q2) λiv s3=>e4 λy H3 I3 ry ⟨a,H4,ex,g,q3⟩=>?_) hs;subst ex;obtain rfl:u=bj a:=rx;exact Bw hu I3 g ry rv λs4 I4=>⟨O,H4,I4,q3⟩
def Eb(h:bx)(hb:dW<h.objs.size):ObjOk P w H (h.push { cls:=.type "dict",data:=.dict #[] }) h.objs.size (.dK []) :=
 ⟨aX _,beq_eq_false_iff_ne.mpr (bX (aE hb)),[],.nil,kA h⟩
def Jk(h:bx)(hb:dW<h.objs.size):ObjOk P w H (h.push { cls:=.type "dict",data:=.dict #[] }) h.objs.size (.dT []) :=
 ⟨aX _,beq_eq_false_iff_ne.mpr (bX (aE hb)),[],.nil,_,#[],0,a7 _ rfl,⟨rfl,rfl,rfl⟩,rfl,rfl,gc⟩
def ND:TE:=λ_ H Q=>∀p,H p=Zb->Q (.ref p) (upd H p (.dK []))
def NC:TE:=λ_ H Q=>∀p,H p=Zb->Q (.ref p) (upd H p (.dT []))
def pe_dnewK:PE X (.Dict [] [] pos) ND:=λO2 s O H Q I h =>
 wpAny_Dict_empty ⟨.ref s.heap.objs.size,_,I.laid (a:=s.heap.objs.size) (o:=.dK []) (t':=s.toks) (λ_ _ q=>au _ q) (am _) (Eb s.heap I.big),rfl,h _ (I.hok.fresh (am _))⟩
def pe_dnewT:PE X (.Dict [] [] pos) NC:=λO2 s O H Q I h =>
 wpAny_Dict_empty ⟨.ref s.heap.objs.size,_,I.laid (a:=s.heap.objs.size) (o:=.dT []) (t':=s.toks) (λ_ _ q=>au _ q) (am _) (Jk s.heap I.big),rfl,h _ (I.hok.fresh (am _))⟩
end
def Fi:List (TE×TE)->St->Hp->(List (V×V)->Hp->Prop)->Prop
 |[],_,H,Q=>Q [] H
 |(tk,tv)::r,O,H,Q=>tk O H λx H1=>tv O H1 λy H2=>Fi r O H2 λps H3=>Q ((x,y)::ps) H3
abbrev VV:List (V×V)->List (ah×ah)->Prop:=eT λp q=>RelV p.1 q.1/\RelV p.2 q.2
def PPs(X:Cx)(pos:Pos)(keys:List (Option bo))(P6:List bo)(RK:List (TE×TE)):Prop :=
 ∀(O2:List (ak×Obj))(s:ax)(O:St)(H:Hp)(Q:List (V×V)->Hp->Prop),Inv X O2 O H s->Fi RK O H Q ->
  aT (model X.prog X.w) X.A (evalPairs (pairTrees keys P6 X.env pos)) (λvs s'=>∃ps H',Inv X O2 O H' s'/\VV ps vs/\Q ps H') X.xe s
def FV:PPs X pos [] [] []:=λO2 s O H Q I h=>pairTrees_nil_walk ⟨[],H,I,.nil,h⟩
def DM(hk:PE X k tk)(hv:PE X v tv)(hr:PPs X pos ks vs RK) :
  PPs X pos (Za k::ks) (v::vs) ((tk,tv)::RK):=λO2 s O H Q I h =>
 pairTrees_cons_walk (thn (hk O2 s O H _ I h) λu s1=>e4 λx H1 I1 rx q1=>thn (hv O2 s1 O H1 _ I1 q1) λw2 s2=>e4 λy H2 I2 ry q2 =>
  thn (hr O2 s2 O H2 _ I2 q2) λws s3=>e4 λps H3 I3 rel q3=>⟨(x,y)::ps,H3,I3,.cons ⟨rx,ry⟩ rel,q3⟩)
def Ap(kvs more:List (Key×V)):List (Key×V):=more.foldl (λPc kv=>qf Pc kv.1 kv.2) kvs
def KV.merge:∀{more:List (Key×V)}{rs:List (Key×ah)}{kvs:List (Key×V)}{vs:List (Key×ah)},KV more rs->KV kvs vs->KV (Ap kvs more) (merged vs rs):=by
 intro more rs kvs vs r;unfold KV at r;induction r generalizing kvs vs with
 |nil=>intro q;exact q
 |@cons p q ps qs h t ih =>
  intro r0;have e:KV (qf kvs p.1 p.2) (stored vs q.1 q.2):=by have:=r0.put p.1 h.2;rw[<-h.1];exact this
  exact ih e
theorem vd:∀(more kvs:List (Key×V)),(Ap kvs more).length<=kvs.length+more.length
 |[],kvs=>by show kvs.length<=kvs.length+0;lia
 |p::r,kvs=>by have h1:=vd r (qf kvs p.1 p.2);have h2:=qT kvs p.1 p.2;show(Ap (qf kvs p.1 p.2) r).length<=_;rw[bc];lia
theorem zx:∀{kvs:List (Key×V)}{ws:List (ah×ah)},VV (kvs.map λkv=>(kV kv.1,kv.2)) ws->∃rs,Carries (mK P w) ws rs/\KV kvs rs
 |[],_,r=>by rw[cP] at r;cases r;exact⟨[],eR,.nil⟩
 |p::kvs,_,r=>by
  rw[ao] at r;cases r with
  |@cons a b as bs h t =>
   obtain⟨rs,c,q⟩:=zx (P:=P) (w:=w) t;obtain⟨b1,b2⟩:=b;exact⟨(p.1,b2)::rs,⟨yZ h.1,rfl,c⟩,.cons ⟨rfl,h.2⟩ q⟩
def tDisp(RK:List (TE×TE)):TE:=λO H Q=>∀p,H p=Zb->Fi RK O (upd H p (.dK [])) λps H2=>H2 p=Za (.dK [])/\∃kvs:List (Key×V),ps=kvs.map (λkv=>(kV kv.1,kv.2))/\kvs.length<=15/\Q (.ref p) (upd H2 p (.dK (Ap [] kvs)))
def FX(h:PPs X pos keys P6 RK)(Sd:keys.all (·.isSome)=true)(hl:keys.length=P6.length)(h0:keys≠[])(h15:keys.length<=15):PE X (.Dict keys P6 pos) (tDisp RK):=by
 intro O2 s O H Q I q;have hn:=I.hok.fresh (am s.heap.objs.size);have I1:=I.laid (a:=s.heap.objs.size) (o:=.dK []) (h':=s.heap.push { cls:=.type "dict",data:=.dict #[] }) (t':=s.toks) (λ_ _ q=>au _ q) (am _) (Eb s.heap I.big);refine wpAny_Dict_walk (knd:=mK X.prog X.w) Sd hl h0 h15 (thn (h O2 _ O _ _ I1 (q _ hn)) λws s2=>e4 λps H2 I2 rel ⟨e,kvs,ep,lk,q2⟩=>?_);subst ep;obtain⟨rs,c,rk⟩:=zx (P:=X.prog) (w:=X.w) rel;obtain⟨z,hd,Q8,r0,dd⟩:=KM I2.hok e;cases r0;refine⟨rs,c,dd,λh' QO hs=>⟨.ref s.heap.objs.size,_,?_,rfl,q2⟩⟩;have hz:(Ap [] kvs).length<=aJ:=by have h1:=vd kvs [];rw[jw] at h1;rw[jX];lia
 have he:∃q,h'.get? s.heap.objs.size=Za q:=let⟨q,_,_,hq,_⟩:=QO;⟨q,hq⟩;exact zo I2 (by rw[e];exact eR) hs he (Av hz hd (rk.merge .nil) QO)
structure M1(X:Cx)(o:bo)(m:Str)(O4:Pos)(e:bo)(O5:Pos):Prop where
 base:cU o m X.env (eval o X.env)=eval o X.env
 few:((b8 O5 (aC [e] X.env)).all (λx=>!x.1)&&(eK O5 (cY [] X.env)).all (λx=>x.1.isSome)
  && decide (([e]:List bo).length+([]:List fG).length+(if([]:List fG).isEmpty then 0 else 1)<30))=true
 line:(O4.endLine==O5.line)=true
 trees:b8 O5 (aC [e] X.env)=[(false,eval e X.env)]
structure M2(X:Cx)(o:bo)(m:Str)(O4:Pos)(e f:bo)(O5:Pos):Prop where
 base:cU o m X.env (eval o X.env)=eval o X.env
 few:((b8 O5 (aC [e,f] X.env)).all (λx=>!x.1)&&(eK O5 (cY [] X.env)).all (λx=>x.1.isSome)
  && decide (([e,f]:List bo).length+([]:List fG).length+(if([]:List fG).isEmpty then 0 else 1)<30))=true
 line:(O4.endLine==O5.line)=true
 trees:b8 O5 (aC [e,f] X.env)=[(false,eval e X.env),(false,eval f X.env)]
def IsD(H:Hp)(a:ak):Prop:=(∃kvs,Rd H a (.dK kvs))\/∃kvs,Rd H a (.dT kvs)
def Fv(I:Inv X O2 O H s)(d:IsD H a) :
  s.TypeIs (.ref a) "dict"/\(∀b,bj a=.ref b->∃ob,s.heap.get? b=Za ob/\ob.dict=Zb)/\(a==dW)=false:=by
 rcases d with⟨kvs,e⟩|⟨kvs,e⟩
 ·obtain⟨_,hd,vs,_,dd⟩:=sY I.hok e;refine⟨dd.typeIs,λb q=>?_,hd⟩;cases q;obtain⟨ob,_,_,h1,h2,_⟩:=dd;exact⟨ob,h1,h2.2.1⟩
 ·obtain⟨_,hd,xs,_,dd⟩:=CZ I.hok e;refine⟨dd.typeIs,λb q=>?_,hd⟩;cases q;obtain⟨ob,_,_,h1,h2,_⟩:=dd;exact⟨ob,h1,h2.2.1⟩
section
variable{X:Cx}{O2:List (ak×Obj)}{O:St}{H:Hp}{s:ax}{a:ak}{y d:V}{u r:ah}{o:Option V}{A:cE}{E:ah->ax->Prop}
def OI(hu:A.units+1<fD)(I:Inv X O2 O H s)(g:DGet H a y o)(ry:RelV y u)(rd:RelV d r)(h:∀w' s',Inv X O2 O H s'->RelV (o.getD d) w'->Q w' s') :
  aT (model X.prog X.w) A (call (.builtin "dict.get") [.ref a,u,r]) Q E s:=by
 rcases g with⟨kvs,k,e,ey,l⟩|⟨kvs,k,b,e,ey,eb,l⟩
 ·subst ey;obtain⟨z,hd,vs,rel,dd⟩:=sY I.hok e;refine jB gR dd.typeIs jS (jL _ _ _) (meets_dict_get_default (mK X.prog X.w) a (yZ ry) hd r) ⟨_,dd.mapOf,h _ _ (I.tok _) ?_⟩;rw[l];exact(rel.val k).getD rd
 ·subst ey;cases(show u=bj b from ry);obtain⟨z,hd,xs,rel,dd⟩:=CZ I.hok e;refine jB gR dd.typeIs jS (jL _ _ _) (meetsH_dict_get_default (iZ (mK X.prog X.w)) a b hd r) ⟨gE hu,k,xs,As I.hok eb,dd,h _ _ (I.tok _) ?_⟩;rw[l];exact(rel.val k).getD rd
end
def JJ(td ty tx:TE):TE:=λO H Q=>td O H λx H1=>∃a,x=.ref a/\IsD H1 a/\ty O H1 λy H2=>tx O H2 λz H3=>∃o,DGet H3 a y o/\Q (o.getD z) H3
def NB(td ty:TE):TE:=λO H Q=>td O H λx H1=>∃a,x=.ref a/\IsD H1 a/\ty O H1 λy H2=>∃kvs k v,H2 a=Za (.dK kvs)/\y=kV k/\om kvs k=Za v/\Q v (upd H2 a (.dK (x8 kvs k)))
section
variable{X:Cx}{o e f:bo}{O4 O5:Pos}{td ty tx:TE}
def zN(hu:X.A.units+1<fD)(ho:PE X o td)(he:PE X e ty)(hf:PE X f tx)(m:M2 X o "get" O4 e f O5):PE X (.Call (.Attribute o "get" O4) [e,f] [] O5) (JJ td ty tx):=by
 intro O2 s O H Q I h;refine wpAny_Call_method m.base m.few m.line gy gR PySem.F.type_dict_get (thn (ho O2 s O H _ I h) λu s1=>e4 λx H1 I1 rx ⟨a,ex,d,q1⟩=>?_);subst ex;obtain rfl:u=bj a:=rx;obtain⟨t1,t2,_⟩:=Fv I1 d;refine⟨t1,t2,?_⟩;rw[m.trees];refine fb rfl (fH (eP (thn (he O2 s1 O H1 _ I1 q1) λiv s2=>e4 λy H2 I2 ry q2 =>
  eP (thn (hf O2 s2 O H2 _ I2 q2) λfv s3=>e4 λz H3 I3 rz ⟨ov,g,q3⟩=>gu ?_))))
 exact OI hu I3 g ry rz λw' s4 I4 PB=>⟨_,H3,I4,PB,q3⟩
def DP(ho:PE X o td)(he:PE X e ty)(m:M1 X o "pop" O4 e O5):PE X (.Call (.Attribute o "pop" O4) [e] [] O5) (NB td ty):=by intro O2 s O H Q I h;refine wpAny_Call_method m.base m.few m.line gy ke PySem.F.type_dict_pop (thn (ho O2 s O H _ I h) λu s1=>e4 λx H1 I1 rx ⟨a,ex,d,q1⟩=>?_);subst ex;obtain rfl:u=bj a:=rx;obtain⟨t1,t2,_⟩:=Fv I1 d;refine⟨t1,t2,?_⟩;rw[m.trees];refine fb rfl (fH (eP (thn (he O2 s1 O H1 _ I1 q1) λiv s2=>e4 λy H2 I2 ry ⟨kvs,k,v,ea,ey,l,q2⟩=>gu ?_)));subst ey;exact d_pop I2 ea ry l (.inl rfl) λw' s3 I3 PB=>⟨v,_,I3,PB,q2⟩
end
section
variable{X:Cx}{O2:List (ak×Obj)}{O:St}{H:Hp}{s:ax}{a:ak}{kvs:List (Key×V)}{A:cE}{E:ah->ax->Prop}
def Jq(I:Inv X O2 O H s)(e:Rd H a (.dK kvs))(h:∀p s',H p=Zb->Inv X O2 O (upd H p (.dK kvs)) s'->Q (.ref p) s'):aT (model X.prog X.w) A (call (.type "dict") [.ref a]) Q E s:=by obtain⟨z,hd,vs,rel,dd⟩:=sY I.hok e;refine kt_call_dict hd dd (by rw[<-rel.length];exact z) λh' QO hs=>?_;refine h _ _ (I.hok.fresh (am _)) (I.laid (a:=s.heap.objs.size) (o:=.dK kvs) (t':=s.toks) (λb q hq=>?_) (am _) (Av z (beq_eq_false_iff_ne.mpr (bX (aE I.big))) rel QO));exact(hs.2 b (aE (az hq))).trans (au _ hq)
end
section
variable{X:Cx}{O2:List (ak×Obj)}{O:St}{H:Hp}{s:ax}{a:ak}{y:V}{u:ah}{A:cE}{E:ah->ax->Prop}
end
end L2
namespace Att
open PySem PySem.W PySem.Calls PyProof.Rows
def xZ:∀(ns:List Int)(vs:List ah),WellAll P h vs (ns.map gG)->IntsAre vs ns:=by
 intro ns;induction ns with
 |nil =>
  intro vs w;rw[cP] at w;cases w;exact .nil
 |cons n ns ih =>
  intro vs w;rw[ao] at w;cases w with
  |cons a b =>
   cases a;exact .cons _ _ (ih _ b)
def GM{l:gC}{n}(hn:l.most=Za n){P:Params}{h}{args}{RI}(Rh:l.row.toRowW.claim.pre args=true)(Vc:WellAll P h RI args) :
  ∃a vs ns,RI=[bj a]/\args=[WData.list (ns.map gG)]/\h.get? a=Za { cls:=.type "list",data:=.seq vs.toArray }/\IntsAre vs ns/\ns.length<=n:=by
 have hsh:WShape.hasAll [] args [.list .int]=true:=(pre_splitW Rh).1;have hc:l.pre.holds [] { args:=args }=true:=(pre_splitW Rh).2;obtain⟨d,r,rfl,h1,h2⟩:=hasAllW_cons hsh;obtain rfl:=hasAllW_nil h2;obtain⟨xs,rfl,h3⟩:=hasW_list h1;obtain⟨ns,rfl⟩:=items_int h3;have O6:ns.length<=n:=by
  unfold OpenLaw.pre at hc;have h4:(WTm.not (.lt (.lit (.int (n:Int))) (.len (.arg 0)))).holds [] { args:=[.list (ns.map .int)] }=true:=by have h4:=(holds_andW hc).1;rw[hn] at h4;exact h4
  have h5:=condW_of h4 (w_not (w_lt w_lit (w_len_list (w_arg rfl))));rw[ac] at h5;refine eC λq=>?_;have q':(n:Int)<((ns.length:Nat):Int):=by lia
  first
   |(rw[Zg q'] at h5;exact absurd h5 (by decide))
   |(simp at h5;lia)
 cases Vc with
 |cons w1 w2 =>
  cases w2;cases w1 with
  |list ho Sd=>exact⟨_,_,ns,rfl,rfl,ho,xZ ns _ Sd,O6⟩
def GT(l:gC)(args):l.row.toRowW.claim.post args (.bool true) args=true :=
 postW_of (r:=l.row.toRowW) (X:=(true==true))
  (show WShape.has [] (.bool true) .bool=true by first|rfl|decide|simp[WShape.has,WShape.arms,WShape.armsAll])
  (show(WTm.eq .res (.lit (.bool true))).value [] { args:=args,res:=Za (.bool true),after:=args }=Za (.bool (true==true)) from w_eq_bool (w_res rfl) w_lit) rfl
section
variable{prog:aK}{w:a6}{A:cE}{E:ah->ax->Prop}{s:ax}{K:aa}
end
end Att
namespace L2
open PySem PySem.Spec PyProof.Rows
theorem AR:∀{vs:List ah}{ns:List Int},IntsAre vs ns->Vals (ns.map V.int) vs
 |_,_,.nil=>.nil
 |_,_,.cons n t h=>.cons ⟨t,rfl⟩ (AR h)
def MO(H:Hp):Prop:=∀b,H b=Zb\/∃o xs,H b=Za (.frz o (.lst xs))
def Jb{P}{w}{K}{mg mb}{CX:CXT}{k}{fa a}{fd}{x}{sp:Sp}{Pf}{vs}{ns}(KX:K.In Pf.heap)(Q4:Pf.heap.Ns ba mg)(hb:Pf.heap.Ns jk mb)(hbb:∀x:Str,x≠"__name__"->mb x=bP x)(Vo:Pf.heap.NoLimit)(hg:Pf.gens=#[])(ha:Pf.heap.get? a=Za { cls:=.type "list",data:=.seq vs.toArray })(hi:IntsAre vs ns)(hl:ns.length<=aJ)(hr:Room k jA)(F:∀base:bx,K.In base->base.Ns ba mg->FnOk P w K mg base CX k fa fd [x] sp)(TB:∀(s:ax)(u:ah),jG s fd ⟨[u],[]⟩ [(x,u)])(Q3:∀H:Hp,MO H->SqL K H a (ns.map V.int)->sp [.ref a] H (λv _=>v=.bl true) λ_ _ _=>False)(VN:∀H e s',CX [] H Pf (λ_ _ _=>False) e s'->False) :
  gw (model P w) jA (.call (.ref fa) ⟨[.ref a],[]⟩) (λr s'=>r=.ok (.ret (.bool true))/\OldK Pf.heap s'.heap/\s'.os=Pf.os/\gU s'.gens) Pf:=by
 have rv:=AR hi;have U2:=hi.length;have TR:∀H:Hp,MO H->SqL K H a (ns.map V.int)->HOk P w H Pf.heap->(∀b,H b≠Zb->b=a)->(H a≠Zb->K.lookup a=Zb) ->
   gw (model P w) jA (.call (.ref fa) ⟨[.ref a],[]⟩) (λr s'=>r=.ok (.ret (.bool true))/\OldK Pf.heap s'.heap/\s'.os=Pf.os/\gU s'.gens) Pf:=by
  intro H hO hS hok hA hK;have Qy:∀{b:ak}{o:Obj},Pf.heap.get? b=Za o->H b=Zb->(E1 Pf.heap H).get? b=Za o:=λe n=>Jd e n;have S6:∀{b:ak}{o:Obj}{es:Array DictEntry}{ep:Nat},Pf.heap.get? b=Za o->o.data=.dict es ep->H b=none:=λ{b o es ep} e d=>by
   cases q:H b with
   |none=>rfl
   |some u =>
    have e':b=a:=hA b (by rw[q];simp);subst e';rw[ha] at e;cases e;have d':Data.seq vs.toArray _=Data.dict es ep:=d;cases d'
  have Ub:∀{b:ak}{m:Str->Option ah},Pf.heap.Ns b m->(E1 Pf.heap H).Ns b m:=λ{b m} ⟨o,es,ep,e,d,r⟩=>⟨o,es,ep,Qy e (S6 e d),d,r⟩;have hKb:K.In (E1 Pf.heap H):=λb o e=>Qy (KX b o e) (by
   cases q:H b with
   |none=>rfl
   |some u =>
    have e':b=a:=hA b (by rw[q];simp);subst e';rw[hK (by rw[q];simp)] at e;cases e)
  have hM:Mod K mg (E1 Pf.heap H):=⟨hKb,Ub Q4,⟨mb,Ub hb,hbb⟩,let⟨mc,h1,h2⟩:=Vo;⟨mc,Ub h1,h2⟩⟩;have e0:Env0 P w K mg (E1 Pf.heap H) jA [] Pf H:=⟨rfl,hM,λb o e=>LM e,kQ (Hs _ _),trivial,λb hb=>absurd (show b∈([]:List ak) from hb) (by simp),hok,.of_eq hg⟩;refine jz ((F _ hKb (Ub Q4)).run jA [] Pf H ⟨[.ref a],[]⟩ [.ref a] [.ref a] _ _ hr e0 (TB Pf (.ref a)) (.cons rfl .nil) (Q3 H hO hS)) λr s' h=>?_;cases r with
  |error e=>exact(VN H e s' h).elim
  |ok fl =>
   cases fl with
   |next=>exact bS h
   |brk=>exact bS h
   |cont=>exact bS h
   |ret u =>
    obtain⟨v,H',os,bare,un,Vj,r',q⟩:=h;have q':v=.bl true:=q;subst q';obtain rfl:u=k9 true:=r';refine⟨rfl,OldK.of_keep λb o e=>?_,os,bare⟩;cases q:H b with
    |none=>exact un.keep b o e q (by intro z;exact absurd (show b∈([]:List ak) from z) (by simp)) (by simp)
    |some u =>
     rcases hO b with z|⟨ob,xs,z⟩
     ·rw[q] at z;cases z
     ·have z2:=un.frzs b ob _ z;obtain⟨e1,_⟩:=hok b _ z;obtain⟨e2,_⟩:=Vj b _ z2;rw[e] at e1;cases e1;exact e2
 cases hk:K.lookup a with
 |some o =>
  have e:=KX a o hk;rw[ha] at e;cases e;refine TR (λ_=>Zb) (λ_=>.inl rfl) (.inr ⟨_,vs.toArray,_,hk,rfl,rfl,rfl,by rw[aN,U2];exact hl,by simpa using rv⟩) (λb u z=>by have z':(Zb:Option HO)=Za u:=z;cases z') (λb z=>absurd rfl z) λz=>absurd rfl z
 |none =>
  refine TR (λb=>if b=a then Za (.frz { cls:=.type "list",data:=.seq vs.toArray } (.lst (ns.map V.int))) else Zb) (λb=>?_) (.inl (.inr ⟨{ cls:=.type "list",data:=.seq vs.toArray },Zc rfl⟩)) (λb u z=>?_) (λb z=>?_) λ_=>hk
  ·by_cases hb:b=a
   ·exact .inr ⟨_,_,Zc hb⟩
   ·exact .inl (Zd hb)
  ·by_cases hb:b=a
   ·have z':=(Zc hb).symm.trans z;cases z';subst hb;exact⟨ha,by rw[ac];exact hl,vs,_,rv,ha⟩
   ·have z':=(Zd hb).symm.trans z;cases z'
  ·by_cases hb:b=a
   ·exact hb
   ·exact absurd (Zd hb) z
def m7(s:bQ)(j:Nat):bQ:=match s with
 |.ClassDef _ _ _ body _ _ _ _ _ _ _=>body.getD j (.Pass ⟨0,0,0,0⟩)
 |_=>.Pass ⟨0,0,0,0⟩
def n8(s:bQ):jT:=match s with
 |.FunctionDef _ a _ _ _ _ _ _ _ _=>a
 |_=>{ posonlyargs:=[],args:=[],vararg:=Zb,kwonlyargs:=[],kw_defaults:=[],kwarg:=Zb,defaults:=[] }
def nq(s:bQ):List bQ:=match s with
 |.FunctionDef _ _ b _ _ _ _ _ _ _=>b
 |_=>[]
def lP(s:bQ):dM:=match s with
 |.FunctionDef _ _ _ _ _ _ sc _ _ _=>sc
 |_=>{ kind:=.function,names:=[],isGenerator:=false,isCoroutine:=false }
abbrev E0:XK:=λ_ _ _=>False
structure Fun(K:aa)(x qual:Str)(st:bQ)(f:ak)(fd:cz):Prop where
 ex:∃(oc:ah)(od:Option ak)(kV P9 pm:ah)(an:Option ak)(Pb ct:ah)(Ra:Array (Option ah)),
  fd=b6 x qual (n8 st) (nq st) (lP st) .none kV P9 pm an Pb ct/\K.lookup f=Za ⟨oc,od,.func fd,Ra⟩/\fR K Pb qual=true
 kp:cF K (.ref f)=true
section
variable{P:aK}{w:a6}{K:aa}{mg:Str->Option ah}{base:bx}
def Fun.binds{x qual}{st}{f}{fd}{ps}(F:Fun K x qual st f fd)(h:∀(kV P9 pm:ah)(an:Option ak)(Pb ct:ah)(us:List ah),us.length=ps.length->fZ (b6 x qual (n8 st) (nq st) (lP st) .none kV P9 pm an Pb ct) ⟨us,[]⟩=pure (ps.zip us)):Binds K fd ps []:=by
 obtain⟨oc,od,kV,P9,pm,an,Pb,ct,Ra,rfl,lk,Ql⟩:=F.ex;exact .all (h kV P9 pm an Pb ct)
def Kc{x qual}{st}{f}{oc}{od an}{Ra:Array (Option ah)}{kV P9 pm Pb ct}(l:K.lookup f=Za ⟨oc,od,.func (b6 x qual (n8 st) (nq st) (lP st) .none kV P9 pm an Pb ct),Ra⟩)(c:fR K Pb qual=true)(k:cF K (.ref f)=true):Fun K x qual st f (b6 x qual (n8 st) (nq st) (lP st) .none kV P9 pm an Pb ct):=⟨⟨oc,od,kV,P9,pm,an,Pb,ct,Ra,rfl,l,c⟩,k⟩
end
def nQ(hr:Room k A):A.units+1<fD:=aZ (lE (by decide:1<=64) _) hr.units
section
variable{X:Cx}
def pv(i)(hN:X.N[i]?=Za x:=by rfl)(hv:Vis X.env.scope x:=by first|exact eO rfl|exact ig (eO rfl)|exact ig (ig rfl))(hd:NDb x:=by decide)(Ql:(x==("__classdict__":Str))=false:=by decide):PE X (.Name x pos) (HX i):=JV hN hv hd Ql
def BE:CallR X (.builtin "len") (λxs H Q=>∃a kvs,xs=[V.ref a]/\H a=Za (.dK kvs)/\Q (.int kvs.length) H):=by intro O2 s O H xs us Q I r h;obtain⟨a,kvs,rfl,ha,q⟩:=h;obtain⟨u,rfl,ru⟩:=qp r;cases ru;exact Np I (.inl ha) λt s' I'=>⟨.int kvs.length,H,I',⟨t,rfl⟩,q⟩
end
def L1{A B:Prop}(h:B):if false=true then A else B:=by rw[Zd aY];exact h
def L0{A B:Prop}(h:A):if true=true then A else B:=by rw[Zc rfl];exact h
def vA{c A B:Prop}[Decidable c](h1:c->A)(h2:¬c->B):if c then A else B:=by
 by_cases h:c
 ·rw[Zc h];exact h1 h
 ·rw[Zd h];exact h2 h
def Same(H H':Hp):Prop:=∀b o,H b=Za o->H' b=Za o
def Same.trans(a:Same H H1)(b:Same H1 H2):Same H H2:=λc o h=>b c o (a c o h)
def Same.free(e:Same H H')(h:H' l=Option.none):H l=Option.none:=by
 cases q:H l with
 |none=>rfl
 |some o =>
  rw[e l o q] at h;cases h
def Same.seq{K}{H H'}{a}{xs}(e:Same H H')(h:SqL K H a xs):SqL K H' a xs:=by
 rcases h with(h|⟨o,h⟩)|h
 ·exact .inl (.inl (e _ _ h))
 ·exact .inl (.inr ⟨o,e _ _ h⟩)
 ·exact .inr h
section
variable{κ:Type}[DecidableEq κ]
theorem uZ:∀{l:List κ}{k:κ},l.Nodup->¬k∈l->(l++[k]).Nodup
 |[],k,_,_=>by simp
 |a::r,k,h,hk=>by
  obtain⟨h1,h2⟩:=ar.mp h;show(a::(r++[k])).Nodup;refine ar.mpr ⟨λm=>?_,uZ h2 λm=>hk (af.mpr (ig m))⟩;rcases aP.mp m with q|q
  ·exact h1 q
  ·exact hk (af.mpr (eO (aq.mp q).symm))
end
def ff:(bM==bM)=true:=rfl
def qQ(cells:List (Str×ak)):List (Str×ip)->List (Str×ak)->List (Str×ak)
 |[],cs=>cs
 |(n,k)::r,cs=>qQ cells r (if k==.free then(n,(cells.lookup n).getD 0)::cs else cs)
theorem xz(env:Env):∀(names:List (Str×ip))(cs:List (Str×ak)),(∀y∈names,y.2=.free->∃c,env.cells.lookup y.1=Za c) ->
  (forIn names cs λ(x:Str×ip)(r:List (Str×ak))=>match x with
   |(name,kind)=>if(kind==.free)=true then(do let c <-cellOf env name;pure (eB ((name,c)::r))) else pure (eB r):Sem (List (Str×ak)))=pure (qQ env.cells names cs)
 |[],cs,_=>rfl
 |(n,k)::r,cs,h=>by
  rw[List.forIn_cons];by_cases hk:k=.free
  ·subst hk;obtain⟨c,hc⟩:=h (n,.free) ai rfl;have hc:env.cells.lookup n=Za c:=hc;have ih:=xz env r ((n,c)::cs) λy hy=>h y (ae _ hy);have e1:qQ env.cells ((n,bM)::r) cs=qQ env.cells r ((n,c)::cs):=by
    show qQ env.cells r (if(bM==bM)=true then(n,(env.cells.lookup n).getD 0)::cs else cs)=_;rw[Zc ff,hc]
    all_goals rfl
   rw[e1,<-ih];have e2:cellOf env n=pure c:=by unfold cellOf;rw[hc]
   simp only[beq_self_eq_true,if_true,e2];rfl
  ·have hb:(k==bM)=false:=by simpa using hk
   have ih:=xz env r cs λy hy=>h y (ae _ hy);have e1:qQ env.cells ((n,k)::r) cs=qQ env.cells r cs:=by show qQ env.cells r (if(k==bM)=true then(n,(env.cells.lookup n).getD 0)::cs else cs)=_;rw[hb,Zd aY]
   rw[e1,<-ih];simp only[hb];rfl
def pL(h:∀y∈scope.names,y.2=.free->∃c,env.cells.lookup y.1=Za c):closureFor scope env=pure (qQ env.cells scope.names []):=by have e:=xz env scope.names [] h;unfold closureFor;refine Eq.trans ?_ (congrArg (λm:Sem (List (Str×ak))=>m >>= pure) e);rfl
theorem Ee:∀(names:List (Str×ip))(cs:List (Str×ak)),(∀z∈names,z.2=.free->∃c,cells.lookup z.1=Za c)->(∀z d,cs.lookup z=Za d->cells.lookup z=Za d) ->
  (qQ cells names cs).lookup y=Za c->cells.lookup y=Za c
 |[],cs,_,Sb,h=>Sb y c h
 |(n,k)::r,cs,hf,Sb,h=>by
  refine Ee r _ (λz hz=>hf z (ae _ hz)) ?_ h;by_cases hk:k=.free
  ·subst hk;obtain⟨d,hd⟩:=hf (n,.free) ai rfl;have hd:cells.lookup n=Za d:=hd;intro z d' hz;rw[Zc ff,hd] at hz;by_cases e:z=n
   ·subst e;rw[bJ] at hz;simp only[beq_self_eq_true] at hz;rw[hd];exact hz
   ·have hb:(z==n)=false:=by simpa using e
    rw[bJ] at hz;simp only[hb] at hz;exact Sb z d' hz
  ·have hb:(k==bM)=false:=by simpa using hk
   rw[hb,Zd aY];exact Sb
theorem zw:∀(names:List (Str×ip))(cs:List (Str×ak)),(cs.lookup y).isSome=true->((qQ cells names cs).lookup y).isSome=true
 |[],cs,h=>h
 |(n,k)::r,cs,h=>by
  refine zw r _ ?_;by_cases hk:(k==bM)=true
  ·rw[Zc hk,bJ];cases z:(y==n)
   ·exact h
   ·rfl
  ·rw[Zd hk];exact h
theorem BD:∀(names:List (Str×ip))(cs:List (Str×ak)),(y,bM)∈names->((qQ cells names cs).lookup y).isSome=true
 |(n,k)::r,cs,h=>by
  rcases af.mp h with e|e
  ·cases e;refine zw r _ ?_;rw[Zc ff,bJ];simp
  ·exact BD r _ e
def blk(X:Cx)(scope:dM)(cl:List (Str×ak))(C:ak)(Nb:List Str)(O7:ax)(O9:Hp)(fp:List ak):Cx where
 prog:=X.prog
 w:=X.w
 K:=X.K
 mg:=X.mg
 base:=X.base
 A:=X.A
 N:=Nb
 sa0:=O7
 Ha0:=O9
 env:=compEnvC scope cl C X.env
 outer:=X.stack
 stack:=X.stack
 ex:=fp
 fn:=λ_=>false
 calm:=true
 pn:=[]
 xe:=λ_ _=>False
structure CompOk(N:List Str)(TM:dM)(scope:dM)(x:Str)(fr:List Str)(ix:List Nat):Prop where
 kind:scope.kind=.function
 cell:∀y∈scope.names,y.2≠.cell
 loc:scope.names.lookup x=Za .local
 nm:∀y∈scope.names,y.2=.local->scope.names.lookup y.1=Za .local
 free:∀y∈scope.names,y.2=.free->TM.names.lookup y.1=Za .cell
 nd:(x::fr).Nodup
 idx:∀p∈fr.zip ix,N[p.2]?=Za p.1
 frs:∀y∈fr,scope.names.lookup y=Za .free/\TM.names.lookup y=Za .cell
 len:ix.length=fr.length
def cok{N:List Str}{e c:dM}{x:Str}{fr:List Str}{ix:List Nat}(h1:c.kind=.function:=by rfl)(h2:∀y∈c.names,y.2≠.cell:=by decide +kernel)(h3:c.names.lookup x=Za .local:=by rfl)(h4:∀y∈c.names,y.2=.local->c.names.lookup y.1=Za .local:=by decide +kernel)(h5:∀y∈c.names,y.2=.free->e.names.lookup y.1=Za .cell:=by decide +kernel)(h6:(x::fr).Nodup:=by decide +kernel)(h7:∀p∈fr.zip ix,N[p.2]?=Za p.1:=by decide +kernel)(h8:∀y∈fr,c.names.lookup y=Za .free/\e.names.lookup y=Za .cell:=by decide +kernel)(h9:ix.length=fr.length:=by rfl):CompOk N e c x fr ix:=⟨h1,h2,h3,h4,h5,h6,h7,h8,h9⟩
def OY{X:Cx}{N ps:List Str}{e c:dM}{x:Str}{fr:List Str}{ix:List Nat}(S:FnScope N ps e)(h0:X.N=N:=by rfl)(VP:X.env.scope=e:=by rfl)(h1:c.kind=.function:=by rfl)(h2:∀y∈c.names,y.2≠.cell:=by decide +kernel)(h3:c.names.lookup x=Za .local:=by rfl)(h4:∀y∈c.names,y.2=.local->c.names.lookup y.1=Za .local:=by decide +kernel)(h5:∀y∈c.names,y.2=.free->e.names.lookup y.1=Za .cell:=by decide +kernel)(h6:(x::fr).Nodup:=by decide +kernel)(h7:∀p∈fr.zip ix,N[p.2]?=Za p.1:=by decide +kernel)(h8:∀y∈fr,c.names.lookup y=Za .free/\e.names.lookup y=Za .cell:=by decide +kernel)(h9:ix.length=fr.length:=by rfl):CompOk X.N X.env.scope c x fr ix:=by rw[h0,VP];exact⟨h1,h2,h3,h4,h5,h6,h7,h8,h9⟩
def capt(ix:List Nat)(O:St):St:=ix.map λi=>(O[i]?).getD Zb
def Ff(X:Cx)(Pk:List bo)(t:TT):Prop :=
 ∀(O2:List (ak×Obj))(s:ax)(O:St)(H:Hp)(Q:Bool->Hp->Prop),Inv X O2 O H s->t O H Q ->
  aT (model X.prog X.w) X.A (forIn Pk true λc r=>if r=true then do let ok <-isTrue c X.env (eval c X.env);pure (eB ok) else pure (eB r)) (TP X O2 O Q) X.xe s
def tYes:TT:=λ_ H Q=>Q true H
def zM:Ff X [] tYes:=λO2 s O H Q I h=>aL ⟨H,I,h⟩
def IA(h:PT X c t):Ff X [c] t:=by intro O2 s O H Q I hq;rw[List.forIn_cons];refine ap ?_;rw[Zc rfl];refine ap (thn (h O2 s O H Q I hq) λb s1 h1=>aL ?_);show aT _ _ (forIn [] b _) _ _ _;rw[List.forIn_nil];exact aL h1
def CompB(J:It)(tc:TT)(te:TE)(cap:St)(D:ak)(H1:Hp)(Q:VK):Prop :=
 ∃Pv:Nat->Nat->List V->Hp->Prop,(∃m,Pv 0 m [] (upd H1 D (.lst [])))/\∀i m ys H2,Pv i m ys H2 ->
  (J.stop i H2/\H2 D=Za (.lst ys)/\Q (.ref D) H2)\/(J.go i H2/\∀x H3,J.yld i H2 x H3->tc (Za x::cap) H3 λb H4=>if b=true then
   te (Za x::cap) H4 λv H5=>H5 D=Za (.lst ys)/\ys.length<aJ/\∃m',m'<m/\Pv (i+1) m' (ys++[v]) (upd H5 D (.lst (ys++[v])))
   else ∃m',m'<m/\Pv (i+1) m' ys H4)
def HI(wi:TI)(ix:List Nat)(tc:TT)(te:TE):TE:=λO H Q=>wi O H λJ H1=>∀D,H1 D=Zb->CompB J tc te (capt ix O) D H1 Q
section
variable{X:Cx}{Pl iter:bo}{Pk:List bo}{x:Str}{px pos:Pos}{scope:dM}{wi:TI}{tc:TT}{te:TE}{fr:List Str}{ix:List Nat}
theorem qi{env:Env}(hk:env.scope.kind=.function):∀{names:List (Str×ip)}{y:Str},names.lookup y=Za .free->env.scope.names.lookup y=Za .cell ->
  (names.map λ(n,k)=>if(k==bM&&env.scope.kind==.function&&env.kindOf n==Za .cell) then(n,io) else(n,k)).lookup y=Za .cell
 |[],_,h,_=>by simp at h
 |(n,k)::r,y,h,hc=>by
  have ih:=@qi env hk r y;show da y ((if(k==bM&&env.scope.kind==.function&&env.kindOf n==Za .cell)=true then(n,io) else(n,k))::_)=_;cases hx:y==n with
  |true =>
   simp only[bJ,hx] at h;cases h;have e:y=n:=by simpa using hx
   subst e;have e2:env.kindOf y=Za .cell:=hc;rw[Zc (by rw[hk,e2];rfl),bJ];simp
  |false =>
   simp only[bJ,hx] at h;split
   ·simp only[bJ,hx];exact ih h hc
   ·simp only[bJ,hx];exact ih h hc
def Jv{ix:List Nat}{O:St}{k:Nat}{v:V}(h:(capt ix O)[k]?=Za (Za v)):∃i,ix[k]?=Za i/\O[i]?=Za (Za v):=by
 unfold capt at h;rw[aD] at h;cases e:ix[k]? with
 |none=>rw[e] at h;cases h
 |some i =>
  rw[e] at h;refine⟨i,rfl,?_⟩;have h2:(O[i]?).getD Zb=Za v:=aO h;cases q:O[i]? with
  |none=>rw[q] at h2;cases h2
  |some o=>rw[q] at h2;exact congrArg Za h2
def Nu(X:Cx)(O2:List (ak×Obj))(C:ak):Prop:=C≠X.env.locals/\X.sa0.heap.objs.size<=C/\(∀y c,X.env.cells.lookup y=Za c->c≠C)/\∀p∈X.pn++O2,p.1≠C
end
section
variable{prog:aK}{w:a6}{A:cE}{R:Result->ax->Prop}{s:ax}
def Fb(I:Nat->ax->Prop)(Qf:∀n s,I n s->aT (model prog w) A (pyNext it) (λr Pf=>match r with
   |none=>R (.ok .next) Pf
   |some v=>aT (model prog w) A (iI PN it v) (λ_ sa0=>aT (model prog w) A (assign PN env v) (λ_ Qi =>
     aT (model prog w) A (forIn Pk true λc r=>if r=true then do let ok <-isTrue c env (eval c env);pure (eB ok) else pure (eB r)) (λok O7 =>
      if ok=true then aT (model prog w) A (eval Pl env) (λx Sl =>
       aT (model prog w) A (call (.builtin "list.append") [Pc,x]) (λ_ sa5=>∃m,m<n/\I m sa5) (ko (model prog w) A env λe s'=>R (.error e) s') Sl) (ko (model prog w) A env λe s'=>R (.error e) s') O7
      else ∃m,m<n/\I m O7) (ko (model prog w) A env λe s'=>R (.error e) s') Qi) (ko (model prog w) A env λe s'=>R (.error e) s') sa0) (ko (model prog w) A env λe s'=>R (.error e) s') Pf) (ko (model prog w) A env λe s'=>R (.error e) s') s)(n:Nat)(h:I n s) :
  gw (model prog w) A (.compLoop (.ListComp Pl [⟨PN,iter,Pk,0⟩] scope pos) 0 it Pc env) R s:=by
 refine codeAny_loop rfl I (λn s hI=>?_) n h;show aT _ A ((compTurn (.ListComp Pl [⟨PN,iter,Pk,0⟩] scope pos) 0 it Pc env).onRaise (λx=>do noteFrame x env;theTreesLotGoes x)) _ _ s;refine wpAny_noted ?_;rw[compTurn_list];refine ap (fV (ap (bO (Qf n s hI) (λr Pf TJ=>?_) λ_ _ h'=>h')));cases r with
 |none=>exact aL TJ
 |some v =>
  refine ap (bO TJ (λ_ sa0 h₀=>?_) λ_ _ h'=>h');refine ap (bO h₀ (λ_ Qi TH=>ap (bO TH (λok O7 SA=>?_) λ_ _ h'=>h')) λ_ _ h'=>h');cases ok with
  |false=>exact aL ⟨rfl,SA⟩
  |true =>
   exact ap (ap (bO SA (λx Sl ha4=>ap (bO ha4 (λ_ sa5 hb5=>aL (aL ⟨rfl,hb5⟩)) λ_ _ h'=>h')) λ_ _ h'=>h'))
end
structure CompOkG(N:List Str)(TM:dM)(scope:dM)(xs fr:List Str)(ix:List Nat):Prop where
 kind:scope.kind=.function
 cell:∀y∈scope.names,y.2≠.cell
 nm:∀y∈scope.names,y.2=.local->scope.names.lookup y.1=Za .local
 free:∀y∈scope.names,y.2=.free->TM.names.lookup y.1=Za .cell
 nd:(xs++fr).Nodup
 idx:∀p∈fr.zip ix,N[p.2]?=Za p.1
 frs:∀y∈fr,scope.names.lookup y=Za .free/\TM.names.lookup y=Za .cell
 len:ix.length=fr.length
def cokG{X:Cx}{N ps:List Str}{e c:dM}{xs fr:List Str}{ix:List Nat}(S:FnScope N ps e)(h0:X.N=N:=by rfl)(VP:X.env.scope=e:=by rfl)(h1:c.kind=.function:=by rfl)(h2:∀y∈c.names,y.2≠.cell:=by decide +kernel)(h4:∀y∈c.names,y.2=.local->c.names.lookup y.1=Za .local:=by decide +kernel)(h5:∀y∈c.names,y.2=.free->e.names.lookup y.1=Za .cell:=by decide +kernel)(h6:(xs++fr).Nodup:=by decide +kernel)(h7:∀p∈fr.zip ix,N[p.2]?=Za p.1:=by decide +kernel)(h8:∀y∈fr,c.names.lookup y=Za .free/\e.names.lookup y=Za .cell:=by decide +kernel)(h9:ix.length=fr.length:=by rfl):CompOkG X.N X.env.scope c xs fr ix:=by rw[h0,VP];exact⟨h1,h2,h4,h5,h6,h7,h8,h9⟩
def C2(J:It)(gt:TG)(k:Nat)(tc:TT)(te:TE)(cap:St)(D:ak)(H1:Hp)(Q:VK):Prop :=
 ∃Pv:Nat->Nat->List V->St->Hp->Prop,(∃m,Pv 0 m [] (aR k Zb++cap) (upd H1 D (.lst [])))/\∀i m ys σ2 H2,Pv i m ys σ2 H2 ->
  (J.stop i H2/\H2 D=Za (.lst ys)/\Q (.ref D) H2)\/(J.go i H2/\∀x H3,J.yld i H2 x H3->gt x σ2 H3 λσ3 H3'=>tc σ3 H3' λb H4=>if b=true then
   te σ3 H4 λv H5=>H5 D=Za (.lst ys)/\ys.length<aJ/\∃m',m'<m/\Pv (i+1) m' (ys++[v]) σ3 (upd H5 D (.lst (ys++[v])))
   else ∃m',m'<m/\Pv (i+1) m' ys σ3 H4)
def Fj(wi:TI)(ix:List Nat)(gt:TG)(k:Nat)(tc:TT)(te:TE):TE:=λO H Q=>wi O H λJ H1=>∀D,H1 D=Zb->C2 J gt k tc te (capt ix O) D H1 Q
section
variable{X:Cx}{Pl iter tg:bo}{Pk:List bo}{pos:Pos}{scope:dM}{wi:TI}{tc:TT}{te:TE}{gt:TG}{xs fr:List Str}{ix:List Nat}
def vG{PR:ah->ak->Result->ax->Prop}{O2:List (ak×Obj)}{O:St}{H2:Hp}{s2:ax}{it:ak}{fp:List ak}{tn:Nat->bx->Prop}{J:It}{Q:VK}(hc:X.calm=true)(S:CompOkG X.N X.env.scope scope xs fr ix)(hg:∀cl C O7 O9 fp,PG (blk X scope cl C (xs++fr) O7 O9 fp) tg gt)(ht:∀cl C O7 O9 fp,Ff (blk X scope cl C (xs++fr) O7 O9 fp) Pk tc)(he:∀cl C O7 O9 fp,PE (blk X scope cl C (xs++fr) O7 O9 fp) Pl te)(Pa:∀y∈scope.names,y.2=.free->∃c,X.env.cells.lookup y.1=Za c)(I2:Inv X O2 O H2 s2)(T:Turn X.prog X.w X.K tg J fp it tn)(PY:tn 0 s2.heap)(f2:∀b∈fp,zC X O2 H2 b)(q2:∀D,H2 D=Zb->C2 J gt xs.length tc te (capt ix O) D H2 Q)(R8:∀D C H' s',Inv X O2 O H' s'->H' C=Zb->Nu X O2 C->(∃m,s'.heap.Ns C m)->Q (.ref D) H'->PR (.ref D) C (.ok .next) s') :
  aT (model X.prog X.w) X.A (newList []) (λPc O7=>aT (model X.prog X.w) X.A (newFunctionEnv scope X.env.globals (qQ X.env.cells scope.names []) [] X.env.qual Zb .none (Za X.env)) (λQY Sl =>
   gw (model X.prog X.w) X.A (.compStart (.ListComp Pl [⟨tg,iter,Pk,0⟩] scope pos) 0 (.ref it) Pc { QY with scope:=relabel scope X.env }) (PR Pc QY.locals) Sl) X.xe O7) X.xe s2:=by
 refine eA ?_;have hD:H2 s2.heap.objs.size=none:=I2.hok.fresh (am _);have I3:Inv X O2 O (upd H2 s2.heap.objs.size (.lst [])) { s2 with heap:=s2.heap.push { cls:=.type "list",dict:=Zb,data:=.seq ([]:List ah).toArray } } :=
  I2.lnew (its:=[]) (t':=s2.toks) (.nil) (aX _)
 obtain⟨Pv,⟨m0,p0⟩,Qf⟩:=q2 s2.heap.objs.size hD;generalize hD':s2.heap.objs.size=D at *;generalize hs3:({ s2 with heap:=s2.heap.push { cls:=.type "list",dict:=Zb,data:=.seq ([]:List ah).toArray } }:ax)=s3 at *;have Tu:∀b o,s2.heap.get? b=Za o->s3.heap.get? b=Za o:=λb o e=>by rw[<-hs3];exact au _ e
 have hH3:∀b,b≠D->(upd H2 D (.lst [])) b=H2 b:=λb hb=>lK hb;have f3:∀b∈fp,zC X O2 (upd H2 D (.lst [])) b/\b<s3.heap.objs.size:=λb hb=>by obtain⟨o,e,_⟩:=T.obj _ _ PY b hb;have Pd:=az e;refine⟨⟨?_,(f2 b hb).2⟩,az (Tu b o e)⟩;rw[hH3 b (by rw[<-hD'];exact aE Pd)];exact(f2 b hb).1
 have SK:tn 0 s3.heap:=T.keep _ _ _ PY λb hb o e=>Tu b o e;refine wpAny_newFunctionEnv S.cell (by intro y hy;simp at hy) (λh4 Vl Vg=>?_) S.kind;generalize hC:s3.heap.objs.size=C at *;let X':Cx:=blk X scope (qQ X.env.cells scope.names []) C (xs++fr) s3 (upd H2 D (.lst [])) fp;have Qm:∀y c,(qQ X.env.cells scope.names []).lookup y=Za c->X.env.cells.lookup y=Za c:=λy c e=>Ee scope.names [] Pa (λz d hz=>by simp at hz) e;have QX:∀y,(y,bM)∈scope.names->∃c,(qQ X.env.cells scope.names []).lookup y=Za c:=λy hy=>dB.mp (BD scope.names [] hy);have Sr:∀b o,s3.heap.get? b=Za o->h4.get? b=Za o:=λb o e=>Vg.extBut b o (by rw[<-hC];exact aE (az e)) (au _ e);have Qr:∀(l:List (Str×ip)) y k,(l.map λ(n,k)=>if(k==bM&&X.env.scope.kind==.function&&X.env.kindOf n==Za .cell) then(n,io) else(n,k)).lookup y=Za k->(k=.cell\/k=.free) ->
   (∀z∈l,z.2≠.cell)->(y,bM)∈l:=by
  intro l;induction l with
  |nil=>intro y k e _ _;simp at e
  |cons z r ih =>
   intro y k e hk hn;obtain⟨n,kz⟩:=z;rw[ao] at e;by_cases hy:y=n
   ·subst hy;have:kz=.free:=by
     by_cases hkz:kz=.free
     ·exact hkz
     ·exfalso;have hb:(kz==bM)=false:=by simpa using hkz
      simp only[hb,fj,Bool.false_eq_true,if_false,bJ,beq_self_eq_true] at e;have e':kz=k:=aO e;rcases hk with z|z
      ·exact hn (y,kz) ai (e'.trans z)
      ·exact hkz (e'.trans z)
    rw[this];exact ai
   ·have hb:(y==n)=false:=by simpa using hy
    refine ae _ (ih y k ?_ hk λz hz=>hn z (ae _ hz));have e:da y ((if(kz==bM&&X.env.scope.kind==.function&&X.env.kindOf n==Za .cell)=true then(n,io) else(n,kz))::_)=Za k:=e;by_cases hq:(kz==bM&&X.env.scope.kind==.function&&X.env.kindOf n==Za .cell)=true
    ·rw[Zc hq,bJ] at e;simp only[hb] at e;exact e
    ·rw[Zd hq,bJ] at e;simp only[hb] at e;exact e
 have ok':X'.Ok:=by
  refine⟨I3.ok.mod,S.kind,I3.ok.glob,I3.ok.blt,?_,λy z c e1 e2=>I3.ok.inj y z c (Qm y c e1) (Qm z c e2),λy hy=>?_,λy c e _=>(by cases e),λ_=>I3.ok.hd hc,I3.ok.frames,.inl rfl,λb hb=>⟨?_,λy c e=>(f3 b hb).1.2.2.2.2.1 y c (Qm y c e)⟩,I3.bs,aI I3.ok.bsz I3.sz,λb o e hb=>?_,λb hb z=>?_,I3.stack,I3.stkFree⟩
  ·show s3.heap.objs.size<=C;rw[hC];exact am _
  ·rcases hy with hy|hy
   ·exact QX y (Qr scope.names y _ hy (.inl rfl) S.cell)
   ·exact QX y (Qr scope.names y _ hy (.inr rfl) S.cell)
  ·exact aE (f3 b hb).2
  ·rcases(f3 b hb).1.2.2.2.1 with z|z
   ·exact I3.ok.noex b o e z
   ·exact absurd (ay (az e) (aI I3.ok.bsz z)) (dS _)
  ·rcases af.mp (I3.stkSub b z) with z|z
   ·exact(f3 b hb).1.2.1 z
   ·exact(f3 b hb).1.2.2.1 z
 have Rq:∀{h':bx}{m:Str->Option ah},(∀b o,s3.heap.get? b=Za o->(∃v,o.data=.cell v)->h'.get? b=Za o)->∀(k:Nat)(y:Str)(v:V),fr[k]?=Za y->(capt ix O)[k]?=Za (Za v)->∃u,RelV v u/\Look X'.env h' m y u:=by
  intro h' m hkc k y v hy hv;obtain⟨i,hix,hσ⟩:=Jv hv;have U9:(y,i)∈fr.zip ix:=by refine dD (i:=k) ?_;rw[List.getElem?_zip_eq_some];exact⟨hy,hix⟩
  have hN:X.N[i]?=Za y:=S.idx (y,i) U9;obtain⟨hfr,PK⟩:=S.frs y (dD hy);obtain⟨m3,hn3,hl3⟩:=I3.loc;obtain⟨u,ru,l⟩:=hl3 i y v hN hσ (.inr (.inl PK));refine⟨u,ru,?_⟩;rcases l with⟨kd,_⟩|⟨_,c,ec,ic⟩
  ·have kd:X.env.scope.names.lookup y=Za .local:=kd;rw[PK] at kd;cases kd
  ·refine .inr ⟨.inl (qi I3.ok.kind hfr PK),c,?_,?_⟩
   ·obtain⟨c',e'⟩:=QX y (dG hfr);have:=Qm y c' e';rw[ec] at this;cases this;exact e'
   ·obtain⟨o,ho,hd⟩:=ic;exact⟨o,hkc c o ho ⟨_,hd⟩,hd⟩
 have hNd:X'.N.Nodup:=S.nd;have U0:(aR xs.length Zb++capt ix O).length=X'.N.length:=by show _=(xs++fr).length;unfold capt;rw[aM,aM,dU,ac,S.len]
 have I4:Inv X' [] (aR xs.length Zb++capt ix O) (upd H2 D (.lst [])) { s3 with heap:=h4,toks:=s3.toks+([]:List (Str×ah)).length }:=by
  refine⟨ok',rfl,I3.bare,Un.kept Sr,⟨_,Vl,λk y v e1 e2 e3=>?_⟩,λy c e=>?_,?_,λy c e=>I3.freeC y c (Qm y c e),λp hp=>?_,I3.hok.kept Sr,U0⟩
  ·have e1:(xs++fr)[k]?=Za y:=e1;by_cases hk:k<xs.length
   ·rw[dw (by rw[dU];exact hk),gK,Zc hk] at e2;cases e2
   ·have hk:xs.length<=k:=eC hk;rw[dk hk] at e1;rw[dk (by rw[dU];exact hk),dU] at e2;exact Rq (λb o e _=>Sr b o e) (k-xs.length) y v e1 e2
  ·obtain⟨v,o,ho,hd⟩:=I3.cell y c (Qm y c e);exact⟨v,o,Sr c o ho,hd⟩
  ·exact I3.hok.fresh (by show s3.heap.objs.size<=C;rw[hC];exact am _)
  ·exact absurd (show p∈([]:List (ak×Obj)) from hp) (by simp)
 have Qh:∀{H':Hp}{b:ak},b∈fp->H' b=Zb->zC X' [] H' b:=λ{H' b} hb hn=>by
  refine⟨hn,?_,?_,.inl hb,λy c e=>(f3 b hb).1.2.2.2.2.1 y c (Qm y c e),λp hp=>absurd (show p∈([]:List (ak×Obj)) from hp) (by simp)⟩
  ·exact aE (f3 b hb).2
  ·intro z;rcases af.mp (I3.stkSub b z) with z|z
   ·exact(f3 b hb).1.2.1 z
   ·exact(f3 b hb).1.2.2.1 z
 have QM:∀b∈fp,(b∈X.ex\/X.sa0.heap.objs.size<=b)/\b≠X.env.locals/\(∀y c,X.env.cells.lookup y=Za c->c≠b)/\∀p∈X.pn++O2,p.1≠b:=λb hb =>
  ⟨(f3 b hb).1.2.2.2.1,(f3 b hb).1.2.1,(f3 b hb).1.2.2.2.2.1,(f3 b hb).1.2.2.2.2.2⟩
 have Pq:∀{σ':St}{H':Hp}{s':ax},Inv X' [] σ' H' s'->Q (.ref D) H'->PR (.ref D) C (.ok .next) s':=λ{σ' H' s'} I' q'=>by
  obtain⟨m',QS,_⟩:=I'.loc;have J:=I3.call' (s':=s') (ch:=fp) I'.os I'.base I'.hok I'.bare QM;refine R8 D C H' s' J I'.free ⟨?_,?_,λy c e=>?_,λp hp=>?_⟩ ⟨m',QS⟩ q'
  ·rw[<-hC];exact f7 I3.lt
  ·rw[<-hC];exact I3.sz
  ·obtain⟨v,z⟩:=I3.cell y c e;rw[<-hC];exact aE z.lt
  ·rw[<-hC];exact aE (az (I3.pin p hp).1)
 have loop:gw (model X.prog X.w) X.A (.compLoop (.ListComp Pl [⟨tg,iter,Pk,0⟩] scope pos) 0 (.ref it) (.ref D) X'.env) (PR (.ref D) C) { s3 with heap:=h4,toks:=s3.toks+([]:List (Str×ah)).length }:=by
  refine Fb (λn s'=>∃i ys σ5 H',Inv X' [] σ5 H' s'/\tn i s'.heap/\(∀b∈fp,H' b=Zb)/\Pv i n ys σ5 H') ?_ m0 ⟨0,[],_,_,I4,T.keep _ _ _ SK λb hb o e=>Sr b o e,λb hb=>(f3 b hb).1.1,p0⟩
  rintro n s5 ⟨i,ys,σ5,H5,I5,st5,fr5,p5⟩
  rcases Qf i n ys σ5 H5 p5 with⟨stop,hd5,qn⟩|⟨go,step⟩
  ·refine bO (T.done X' rfl rfl rfl rfl i [] s5 _ H5 (λ_ _=>False) I5 (λb hb=>Qh hb (fr5 b hb)) st5 stop) (λr s6 ⟨hr,I6⟩=>?_) λ_ _ z=>bS z;subst hr;exact Pq I6 qn
  ·refine bO (T.item X' rfl rfl rfl rfl i [] s5 _ H5 (λ_ _=>False) I5 (λb hb=>Qh hb (fr5 b hb)) st5 go) (λr s6 ⟨u,hr,h6⟩=>?_) λ_ _ z=>bS z;subst hr;dsimp only;refine bO h6 (λ_ s6' h6'=>?_) λ_ _ z=>bS z;obtain⟨xv,H6,I6,r6,y6,UK,fr6⟩:=h6';have I6':=I6.pinned (λb hb=>Qh hb (fr6 b hb)) (T.obj _ _ UK);refine bO (hg _ _ _ _ _ _ s6' _ H6 xv u _ I6' r6 (step xv H6 y6)) (λ_ s7 h7=>?_) λ_ _ z=>bS z;obtain⟨σ7,H7,I7,q7⟩:=h7;refine bO (ht _ _ _ _ _ _ s7 _ H7 _ I7 q7) (λb s8=>e3 λH8 I8 q8=>?_) λ_ _ z=>bS z;have back:∀{H9:Hp}{s9:ax}{SH:List V},Inv X' ([]++Af fp s6'.heap) σ7 H9 s9->(∃m',m'<n/\Pv (i+1) m' SH σ7 H9) ->
     ∃m,m<n/\∃i ys σ5 H',Inv X' [] σ5 H' s9/\tn i s9.heap/\(∀b∈fp,H' b=Zb)/\Pv i m ys σ5 H':=λ{H9 s9 SH} I9 h9=>by
    obtain⟨m',hm,p9⟩:=h9;refine⟨m',hm,i+1,SH,_,H9,I9.unpinned,T.keep _ _ _ UK λb hb o e=>(I9.pin (b,o) (aH _ (aH _ (sU hb e)))).1,λb hb=>?_,p9⟩;obtain⟨o,e,d⟩:=T.obj _ _ UK b hb;exact(I9.pin (b,o) (aH _ (aH _ (sU hb e)))).2.1
   cases b with
   |false =>
    rw[Zd aY] at q8 ⊢;exact back I8 q8
   |true =>
    rw[Zc rfl] at q8 ⊢;refine bO (he _ _ _ _ _ _ s8 _ H8 _ I8 q8) (λw9 s9=>e4 λv9 H9 I9 r9 ⟨hd9,hz9,q9⟩=>?_) λ_ _ z=>bS z;refine bO (Bg (X:=X') _ s9 _ H9 (.ref D) [v9] (.ref D) [w9] (λ_ H'=>H'=upd H9 D (.lst (ys++[v9]))) I9 rfl (.cons r9 .nil) ⟨D,ys,v9,rfl,rfl,hd9,hz9,rfl⟩) (λ_ s10 h10=>?_) λ_ _ z=>bS z;obtain⟨_,H10,I10,_,rfl⟩:=h10;exact back I10 q9
 exact codeAny_compStart_list loop (T.self _ 0 _ _ _ (T.keep _ _ _ SK λb hb o e=>Sr b o e) loop)
end
section
variable{X:Cx}{Pl iter:bo}{Pk:List bo}{x:Str}{px pos:Pos}{scope:dM}{wi:TI}{tc:TT}{te:TE}{fr:List Str}{ix:List Nat}
theorem CompB.g(h:CompB J tc te cap D H1 Q):C2 J (E7 0) 1 tc te cap D H1 Q:=by obtain⟨Pv,⟨m,p⟩,h⟩:=h;refine⟨λi m ys σ2 H2=>Pv i m ys H2/\∃o,σ2=o::cap,⟨m,p,Zb,rfl⟩,λi m ys σ2 H2 ⟨p,o,e⟩=>?_⟩;subst e;refine(h i m ys H2 p).imp id λ⟨g,h⟩=>⟨g,λx H3 y=>?_⟩;have h:=h x H3 y;have e:(∃o,(Za x::cap:St)=o::cap)=True:=eq_true ⟨_,rfl⟩;show tc (Za x::cap) H3 _;simpa only[List.set_cons_zero,e,and_true] using h
def Bz{PR:ah->ak->Result->ax->Prop}{O2:List (ak×Obj)}{O:St}{H2:Hp}{s2:ax}{it:ak}{fp:List ak}{tn:Nat->bx->Prop}{J:It}{Q:VK}(hc:X.calm=true)(S:CompOk X.N X.env.scope scope x fr ix)(ht:∀cl C O7 O9 fp,Ff (blk X scope cl C (x::fr) O7 O9 fp) Pk tc)(he:∀cl C O7 O9 fp,PE (blk X scope cl C (x::fr) O7 O9 fp) Pl te)(Pa:∀y∈scope.names,y.2=.free->∃c,X.env.cells.lookup y.1=Za c)(I2:Inv X O2 O H2 s2)(T:Turn X.prog X.w X.K (.Name x px) J fp it tn)(PY:tn 0 s2.heap)(f2:∀b∈fp,zC X O2 H2 b)(q2:∀D,H2 D=Zb->CompB J tc te (capt ix O) D H2 Q)(R8:∀D C H' s',Inv X O2 O H' s'->H' C=Zb->Nu X O2 C->(∃m,s'.heap.Ns C m)->Q (.ref D) H'->PR (.ref D) C (.ok .next) s') :
  aT (model X.prog X.w) X.A (newList []) (λPc O7=>aT (model X.prog X.w) X.A (newFunctionEnv scope X.env.globals (qQ X.env.cells scope.names []) [] X.env.qual Zb .none (Za X.env)) (λQY Sl =>
   gw (model X.prog X.w) X.A (.compStart (.ListComp Pl [⟨.Name x px,iter,Pk,0⟩] scope pos) 0 (.ref it) Pc { QY with scope:=relabel scope X.env }) (PR Pc QY.locals) Sl) X.xe O7) X.xe s2 :=
 vG (xs:=[x]) hc ⟨S.kind,S.cell,S.nm,S.free,S.nd,S.idx,S.frs,S.len⟩ (λcl C O7 O9 fp=>Ct (i:=0) S.nd rfl (.inl (dH S.loc)) (.inr (dH S.loc))) ht he Pa I2 T PY f2 (λD hD=>(q2 D hD).g) R8
def Cu(hc:X.calm=true)(S:CompOk X.N X.env.scope scope x fr ix)(hi:PI X (.Name x px) iter wi)(ht:∀cl C O7 O9 fp,Ff (blk X scope cl C (x::fr) O7 O9 fp) Pk tc)(he:∀cl C O7 O9 fp,PE (blk X scope cl C (x::fr) O7 O9 fp) Pl te)(hs:∀v,ce iter X.env v=pure v:=by intro _;rfl):PE X (.ListComp Pl [⟨.Name x px,iter,Pk,0⟩] scope pos) (HI wi ix tc te):=by
 intro O2 s O H Q I h;have Pa:∀y∈scope.names,y.2=.free->∃c,X.env.cells.lookup y.1=Za c:=λy hy hf=>I.ok.has y.1 (.inl (S.free y hy hf));rw[eval_ListComp];refine eZ (use:=Zb) rfl hs (pL Pa) S.kind S.nm (thn (hi O2 s O H _ I h) λv s1 h1=>thn h1 λSs s2 h2=>?_);obtain⟨it,fp,tn,J,H2,e,I2,T,PY,f2,q2⟩:=h2;subst e;refine Bz (PR:=λPc C r s'=>compPost (model X.prog X.w) X.A X.xe Zb (EP X O2 O Q) Pc C r s') hc S ht he Pa I2 T PY f2 q2 λD C H' s' I' Sf ⟨b1,b2,b3,b4⟩ Q4 q'=>?_;obtain⟨m',QS⟩:=Q4;refine⟨m',QS,λh' RV=>⟨.ref D,H',?_,rfl,q'⟩⟩;exact I'.turned (t':=s'.toks) (it:=C) (λb o hb e=>RV.extBut b o hb e) Sf b1 (.inr b2) b3 b4
def yP(hN:X.N.Nodup)(Rl:X.N[i]?=Za y)(QT:X.env.scope.names.lookup y=Za .local)(hc:X.calm=true)(S:CompOk X.N X.env.scope scope x fr ix)(hi:PI X (.Name x px) iter wi)(ht:∀cl C O7 O9 fp,Ff (blk X scope cl C (x::fr) O7 O9 fp) Pk tc)(he:∀cl C O7 O9 fp,PE (blk X scope cl C (x::fr) O7 O9 fp) Pl te)(Rf:dQ (.ListComp Pl [⟨.Name x px,iter,Pk,0⟩] scope pos) (Za (.Name y py)) spos.line X.env=pure true:=by rfl)(hs:∀v,ce iter X.env v=pure v:=by intro _;rfl):PS X (.Assign [.Name y py] (.ListComp Pl [⟨.Name x px,iter,Pk,0⟩] scope pos) spos) (MS (HI wi ix tc te) (E7 i)):=by
 intro O2 s O H D0 I h;have Pa:∀y∈scope.names,y.2=.free->∃c,X.env.cells.lookup y.1=Za c:=λy hy hf=>I.ok.has y.1 (.inl (S.free y hy hf));rw[exec_Assign_Name_used _ _ _ _ Rf];refine ap (fV (ap ?_));show aT _ X.A (do let _ <-comprehension (.ListComp Pl [⟨.Name x px,iter,Pk,0⟩] scope pos) scope X.env _ (newList []) false (eval iter X.env) (Za (assign (.Name y py) X.env))) _ _ s;refine ap (bO (eZ (use:=Za (assign (.Name y py) X.env)) (Q:=λ_ s'=>SP X O2 D0 .next s') rfl hs (pL Pa) S.kind S.nm
  (thn (hi O2 s O H _ I h) λv s1 h1=>thn h1 λSs s2 h2=>?_)) (λ_ s' hq=>aL (aL hq)) λ_ _ e=>e)
 obtain⟨it,fp,tn,J,H2,e,I2,T,PY,f2,q2⟩:=h2;subst e;refine Bz (PR:=λPc C r s'=>compPost (model X.prog X.w) X.A X.xe (Za (assign (.Name y py) X.env)) (λ_ s'=>SP X O2 D0 .next s') Pc C r s') hc S ht he Pa I2 T PY f2 q2 λD C H' s' I' Sf ⟨b1,b2,b3,b4⟩ Q4 q'=>?_;obtain⟨m',QS⟩:=Q4;refine jy (xh (v:=.ref D) I' hN Rl (.inl QT) rfl (λs5 I5 sb=>?_) (.inr QT));obtain⟨a5,sb,VF⟩:=sb;have VM:C≠a5:=by
  rcases VF with z|z
  ·rw[z];exact b1
  ·exact(b3 _ _ z).symm
 refine⟨m',QS.sameBut sb VM,λh' RV=>⟨_,H',?_,q'⟩⟩;exact I5.turned (t':=s5.toks) (it:=C) (λb o hb e=>RV.extBut b o hb e) Sf b1 (.inr b2) b3 b4
end
abbrev bmV:List ah:=[.type "ValueError",.type "Exception",.type "BaseException",.type "object"]
structure Exc(K:aa)(C:ak):Prop where
 ex:jD K C bmV "ValueError.__new__"=true
 ga:aW K (.ref C) "__getattribute__"=Za (Za (.builtin "BaseException.__getattribute__"))
 gt:aW K (.ref C) "__getattr__"=Za Zb
 ha:aW K (.ref C) "__class__"=Za (Za (.builtin "object.__class__"))
 hn:f8 K (.builtin "object.__class__") "__get__"=Za (Za (.builtin "getset_descriptor.__get__"))
 ht:jc K (.builtin "object.__class__")=Za true
 mo:gh K C (.type "object")=Za true
 mb:gh K C (.type "BaseException")=Za true
def Exc.obj{K}{C}{h}(Zj:Exc K C)(X:K.In h):∃bm N nm q bs hdct sn sub ab col dd k0 k1 k2 k3 k5 mN,
  h.get? C=Za (excClassObj nm q C N bs bm hdct sn sub ab col dd k0 k1 k2 k3 k5 "ValueError.__new__")/\h.Ns N mN/\mN "__init__"=Zb/\OwnTail h bmV bm:=by
 have z:=Zj.ex;unfold jD at z;split at z
 case h_2=>cases z
 case h_1 ddv Pb slv lk =>
  split at z
  case h_2=>cases z
  case h_1 D bm a0 a1 a2 a3 nw a5 em es =>
   have z':((((D=C/\nw="ValueError.__new__")/\Pb.hasDel=false)/\PySem.W.tailIn K bmV bm=true)/\PySem.W.nsOkIn K Pb.ns=true)/\bR K Pb.ns "__init__"=Za none:=by simpa only[cx,beq_iff_eq,Bool.not_eq_true'] using z
   obtain⟨⟨⟨⟨⟨eD,eN⟩,Rn⟩,tl⟩,T8⟩,U7⟩:=z';rcases Pb with⟨c1,c2,c3,c4,c5,c6,c7,c8,c9,c10,c11⟩;have em:c3=.ref D::bm:=em;have Rn:c11=false:=Rn;have T8:PySem.W.nsOkIn K c4=true:=T8;have U7:bR K c4 "__init__"=Za none:=U7;subst em Rn eD eN;have esl:slv=#[a0,a1,a2,a3,Za (.builtin "ValueError.__new__"),a5]:=by rcases slv with⟨l⟩;have es:l=_:=es;rw[es]
   subst esl;refine⟨bm,c4,c1,c5,c2,c6,c7,c8,c9,c10,ddv,a0,a1,a2,a3,a5,h.nsMap c4,X _ _ lk,?_,?_,PySem.W.tail_of_in X tl⟩
   ·exact .of_isNs (PySem.W.isNs_of_in X T8)
   ·exact PySem.W.nsMap_none_of_in X T8 U7
def ExcAt(h:bx)(a C:ak):Prop:=∃ox vs,h.get? a=Za ox/\ox.cls=.ref C/\ox.data=.fields vs
def excO(C a:ak):HO:=.ext λh=>ExcAt h a C
section
variable{prog:aK}{w:a6}{A:cE}{E:ah->ax->Prop}{s:ax}{K:aa}{x C:ak}{ox:Obj}
open PySem.W Builtin Builtin.ObjectAttr Builtin.Getset_descriptor in
end
section
variable{K:aa}{C a:ak}
open PySem.W in
end
section
variable{X:Cx}
end
def ObjOk.there(x:ObjOk P w H h a o):∃ob,h.get? a=Za ob:=by
 cases o with
 |lst xs=>obtain⟨_,_,_,_,e⟩:=x;exact⟨_,e⟩
 |tup xs=>obtain⟨_,_,_,ob,e,_⟩:=x;exact⟨ob,e⟩
 |dK kvs=>obtain⟨_,_,_,_,ob,_,_,e,_⟩:=x;exact⟨ob,e⟩
 |dT kvs=>obtain⟨_,_,_,_,ob,_,_,e,_⟩:=x;exact⟨ob,e⟩
 |set S n=>obtain⟨ob,_,_,_,e,_⟩:=x;exact⟨ob,e⟩
 |ins C dx fs=>obtain⟨_,_,_,e,_⟩:=x;exact⟨_,e⟩
 |own y=>exact x
 |xd fs=>obtain⟨_,⟨ob,_,_,e,_⟩,_⟩:=x;exact⟨ob,e⟩
 |rng lo hi=>obtain⟨_,_,_,e⟩:=x;exact⟨_,e⟩
 |frz ob u=>obtain⟨e,_⟩:=x;exact⟨ob,e⟩
 |tbl ps=>exact⟨_,show h.get? a=Za _ from x⟩
 |met f y=>exact⟨_,show h.get? a=Za _ from x⟩
 |ext φ=>exact x.2.1
def CXo(P:aK)(w:a6):CXT:=λouter H s E e s'=>∃(a C:ak)(t:ah)(B:bx)(H':Hp),e=.ref a/\s'.os=s.os/\gU s'.gens/\Un (frs outer) [] H H' s.heap s'.heap/\HOk P w H' s'.heap /\
 Heap.FlyingW B outer a (.ref C) t s'.heap/\(∀b u o,H' b=Za u->s'.heap.get? b=Za o->B.get? b=Za o) /\
 (∀b o,s.heap.get? b=Za o->b∉frs outer->∃o',s'.heap.get? b=Za o'/\B.get? b=Za o')/\E (.ref C) Zb H'
def qG:nO (CXo P w) X E0:=λ_ _ _ _ _ _ _ h=>by obtain⟨_,_,_,_,_,_,_,_,_,_,_,_,_,z⟩:=h;exact z.elim
def LQ(hf:env.frame=Za L)(h:b∈frs (env::outer)):b=L\/b∈frs outer:=by unfold frs at h ⊢;rw[eJ,hf] at h;exact af.mp h
def zd(hf:env.frame=Za L)(h:b∈frs outer):b∈frs (env::outer):=by unfold frs at h ⊢;rw[eJ,hf];exact ae _ h
section
variable{P:aK}{w:a6}{K:aa}{mg:Str->Option ah}{base:bx}{N:List Str}{qual:Str}{scope:dM}{f:ak}{cd:ah}{A:cE}{outer:List Env}{sa0:ax}{Ha0:Hp}{E:XK}
def oC:nO (CXo P w) (Ec (CXo P w) P w K mg base N qual scope f cd A outer sa0 Ha0 E) E:=by
 intro O2 O H s e s' I h;obtain⟨a,C,t,B,H',rfl,RX,TC,un,hok,fl,U8,SU,hE⟩:=h;have Vn:∀b o,sa0.heap.get? b=Za o->b≠sa0.heap.objs.size:=λb o e=>aE (az e);refine wpAny_leaves_onW (L:=sa0.heap.objs.size) (by exact I.ok.frames) rfl fl λh' SD up=>?_;have VT:frs (eU qual scope sa0.heap.objs.size f cd::outer)=sa0.heap.objs.size::frs outer:=rfl;have PQ:∀b o,sa0.heap.get? b=Za o->b∉frs outer->b∉frs (eU qual scope sa0.heap.objs.size f cd::outer):=λb o e n z=>by
  rw[VT] at z;rcases af.mp z with z|z
  ·exact Vn b o e z
  ·exact n z
 have ub:Un (frs outer) [] Ha0 H sa0.heap s.heap:=I.base;have old:∀b o,sa0.heap.get? b=Za o->b∉frs outer->∃o',h'.get? b=Za o'/\B.get? b=Za o':=λb o e n=>by obtain⟨o1,e1⟩:=ub.there b o e (by simp);obtain⟨o2,e2,e3⟩:=SU b o1 e1 (PQ b o e n);exact⟨o2,SD.1 b o2 e3,e3⟩
 refine⟨a,C,t,B,H',rfl,RX.trans I.os,TC,⟨λb o e n hb _=>?_,λb o e n hb _=>?_,λb o e n _=>?_,λb o e _=>?_,λb xs e=>un.tups b xs (ub.tups b xs e),λb o u e=>un.frzs b o u (ub.frzs b o u e),λb ps e=>?_⟩,?_,SD,?_,old,hE⟩
 ·have e1:=ub.keep b o e n hb (by simp);have n1:=ub.free b o e n (by simp);have e2:=un.keep b o e1 n1 (PQ b o e hb) (by simp);obtain⟨o2,e3,e4⟩:=SU b o e1 (PQ b o e hb);rw[e2] at e3;cases e3;exact SD.1 b o e4
 ·obtain⟨sl,e1⟩:=ub.slot b o e n hb (by simp);have n1:=ub.free b o e n (by simp);obtain⟨SN,e2⟩:=un.slot b _ e1 n1 (zd rfl hb) (by simp);obtain⟨_,o3,e3,Tl⟩:=fl.2.2.1.mem (show b∈(eU qual scope sa0.heap.objs.size f cd::outer).filterMap (·.frame) from zd rfl hb);obtain⟨sl3,e4⟩:=up b _ e3 Tl;rw[e2] at e3;cases e3;exact⟨sl3,e4⟩
 ·obtain⟨o1,e1⟩:=ub.there b o e (by simp);exact un.free b o1 e1 (ub.free b o e n (by simp)) (by simp)
 ·by_cases hb:b∈frs outer
  ·obtain⟨_,o3,e3,Tl⟩:=fl.2.2.1.mem (show b∈(eU qual scope sa0.heap.objs.size f cd::outer).filterMap (·.frame) from zd rfl hb);obtain⟨sl3,e4⟩:=up b _ e3 Tl;exact⟨_,e4⟩
  ·obtain⟨o',e1,_⟩:=old b o e hb;exact⟨o',e1⟩
 ·obtain⟨m1,e1⟩:=ub.tbls b ps e;obtain⟨m2,e2⟩:=un.tbls b _ e1;exact⟨m1++m2,by rw[e2,lv]⟩
 ·intro b u e;refine(hok b u e).stay (λc v hc q=>?_) (λ_ q=>q) λ_ _ q=>q;rcases hc with z|z
  ·subst z;exact SD.1 _ _ (U8 _ u v e q)
  ·exact SD.1 _ _ (U8 c _ v z q)
 ·intro b u o e q;obtain⟨o1,q1⟩:∃o1,s'.heap.get? b=Za o1:=by exact(hok b u e).there
  have z:=U8 b u o1 e q1;have z2:=SD.1 b o1 z;rw[z2] at q;cases q;exact z
def zB(X:Cx)(E:XK):Prop:=∀(O2:List (ak×Obj))(O:St)(H:Hp)(s:ax)(a C:ak)(vs:List ah)(h':bx),Inv X O2 O H s->Heap.MadeExcOf s.heap h' a (.ref C) vs->E (.ref C) Zb H->X.xe (.ref a) { s with heap:=h' }
def yW:zB (Ec (CXo P w) P w K mg base N qual scope f cd A outer sa0 Ha0 E) E:=by
 intro O2 O H s a C vs TJ I mk hE;have stk:s.heap.FunFrames base (eU qual scope sa0.heap.objs.size f cd::outer):=I.stack;let l:List ak:=frs (eU qual scope sa0.heap.objs.size f cd::outer);have PD:∀env∈(eU qual scope sa0.heap.objs.size f cd::outer),∀b,env.frame=Za b->b∈l:=λenv he b hb=>iQ.mpr ⟨env,he,hb⟩;have UF:∀b o,s.heap.get? b=Za o->b∉l->(gH s.heap l).get? b=Za o:=λb o e n=>kq l e n;have ub:Un (frs outer) [] Ha0 H sa0.heap s.heap:=I.base;have PQ:∀b o,sa0.heap.get? b=Za o->b∉frs outer->b∉l:=λb o e n z=>by
  rcases LQ (L:=sa0.heap.objs.size) rfl z with z|z
  ·exact aE (az e) z
  ·exact n z
 have Q9:∀b u,H b=Za u->b∉l:=λb u e z=>by rw[I.stkFree b z] at e;cases e
 refine wpAny_leaves_madeW (L:=sa0.heap.objs.size) (base:=gH s.heap l) (h:=s.heap) (by exact I.ok.frames) rfl (λb o e=>kN l e) (PySem.W.funFrames_hide stk PD) mk λh' t fl tup nt up=>?_;have P5:∀b o,s.heap.get? b=Za o->b∉l->h'.get? b=Za o:=λb o e n=>fl.1 b o (UF b o e n);have frame:∀b o,s.heap.get? b=Za o->b∈l->∃sl,h'.get? b=Za { o with slots:=sl }:=λb o e hb=>by obtain⟨_,o3,e3,Tl⟩:=stk.mem hb;rw[e] at e3;cases e3;exact up b o (mk.keeps b o e) Tl
 refine⟨a,C,.ref t,gH s.heap l,H,rfl,I.os,I.bare,⟨λb o e n hb _=>?_,λb o e n hb _=>?_,λb o e n _=>ub.free b o e n (by simp),λb o e _=>?_,ub.tups,ub.frzs,ub.tbls⟩,λb u e=>?_,fl,λb u o e q=>?_,λb o e n=>?_,hE⟩
 ·exact P5 b o (ub.keep b o e n hb (by simp)) (PQ b o e hb)
 ·obtain⟨sl,e1⟩:=ub.slot b o e n hb (by simp);obtain⟨SN,e2⟩:=frame b _ e1 (zd rfl hb);exact⟨SN,e2⟩
 ·obtain⟨o1,e1⟩:=ub.there b o e (by simp);by_cases hb:b∈l
  ·obtain⟨SN,e2⟩:=frame b _ e1 hb;exact⟨_,e2⟩
  ·exact⟨o1,P5 b o1 e1 hb⟩
 ·refine(I.hok b u e).stay (λc v hc q=>?_) (λ_ q=>q) λ_ _ q=>q;rcases hc with z|z
  ·subst z;exact P5 _ v q (Q9 _ u e)
  ·exact P5 c v q (Q9 c _ z)
 ·obtain⟨o1,q1⟩:=(I.hok b u e).there;have z2:=P5 b o1 q1 (Q9 b u e);have q:h'.get? b=Za o:=q;rw[z2] at q;cases q;exact UF b _ q1 (Q9 b u e)
 ·obtain⟨o1,e1⟩:=ub.there b o e (by simp);exact⟨o1,P5 b o1 e1 (PQ b o e n),UF b o1 e1 (PQ b o e n)⟩
end
section
variable{X:Cx}{C:ak}{x:Str}{np O5 pos:Pos}{e:bo}{te:TE}{E:XK}
def NA(C:ak)(E:XK)(te:TE):TS:=λ_ O H=>te O H λ_ H1=>E (.ref C) Zb H1
def qg(Zj:Exc X.K C)(hg:Gl X x)(hm:X.mg x=Za (.ref C))(hc:X.calm=true)(ha:PE X e te)(hp:zB X E)(hd:NDb x:=by decide)(he:aC [e] X.env=[(false,eval e X.env)]:=by rfl):PS X (.Raise (Za (.Call (.Name x np) [e] [] O5)) Zb pos) (NA C E te):=by
 intro O2 s O H D I h;obtain⟨bm,N,nm,q,bs,hdct,sn,sub,ab,col,dd,k0,k1,k2,k3,k5,mN,hC,hN,hni,T⟩:=Zj.obj I.mod.kin;refine wpAny_Raise_call_subT (C:=C) (nm:=nm) (q:=q) (N:=N) (bs:=bs) (bm:=bm) (hdct:=hdct) (sn:=sn) (sub:=sub) (ab:=ab) (col:=col) (dd:=dd) (k0:=k0) (k1:=k1) (k2:=k2) (k3:=k3) (k5:=k5)
  jm (mN:=mN) (T.hasType jm.hasBase) (I.ok.hd hc) (by rw[he];rfl) hni (wV I hg hm ⟨rfl,?_⟩ hd)
 rw[he];refine fH ?_;show aT _ _ (spliced ((false,eval e X.env)::[])) _ _ s;refine eP (thn (ha O2 s O H _ I h) λu Qi=>e4 λv H2 I2 r2 q2=>?_);refine gu ⟨rfl,?_,I2.bk _ _ hC,hN.keeps I2.bk,T.keeps I2.bk,λh' a mk=>hp O2 O H2 Qi a C _ h' I2 mk q2⟩;show 1<=aJ;decide
end
section
variable{M:Model}{A:cE}{E:ah->ax->Prop}{K:aa}{C D e:ak}{oe:Obj}
end
def XO(X:Cx)(O2:List (ak×Obj))(O:St)(E:XK):ah->ax->Prop:=λe s'=>∃H1 s1,Inv X O2 O H1 s1/\CXo X.prog X.w X.stack H1 s1 E e s'
def PEx(X:Cx)(e:bo)(t:XK->TE):Prop:=∀(O2:List (ak×Obj))(s:ax)(O:St)(H:Hp)(Q:VK)(E:XK),Inv X O2 O H s->t E O H Q->aT (model X.prog X.w) X.A (eval e X.env) (EP X O2 O Q) (XO X O2 O E) s
def PSx(X:Cx)(st:bQ)(t:XK->TS):Prop:=∀(O2:List (ak×Obj))(s:ax)(O:St)(H:Hp)(D:Ends)(E:XK),Inv X O2 O H s->t E D O H->aT (model X.prog X.w) X.A (exec st X.env) (SP X O2 D) (XO X O2 O E) s
section
variable{X:Cx}{k:Nat}{f C:ak}{fd:cz}{ps:List Str}{sp:Sp}{PM:List V}{ds:List ah}{x m:Str}{p pos O4:Pos}{e o:bo}{es:List bo}{ta:TE}{t:TA}
end
section
variable{X:Cx}{e:bo}{te:XK->TE}{pos:Pos}
def hnd(X:Cx)(a:ak):Cx:={ X with A:=X.A.mark (Za (.ref a)),calm:=false,xe:=λ_ _=>False }
end
section
variable{X:Cx}{body:List bQ}{x n:Str}{np hp pos:Pos}{ba0:bQ}{bs:List bQ}{tb:XK->TS}{th:TS}{D:ak}{i:Nat}
def leS(a b:Str):Bool:=!fF b.cps.toList a.cps.toList
theorem vQ:∀a:List Nat,fF a a=false
 |[]=>rfl
 |a::r=>by show(decide (a<a)||(a==a&&fF r r))=false;rw[vQ r];simp
theorem ud:∀{a b c:List Nat},fF a b=true->fF b c=true->fF a c=true
 |[],_,[],h1,h2=>by
  cases ‹List Nat› with
  |nil=>exact h1
  |cons x r=>exact absurd (show fF (x::r) []=true from h2) (by intro z;cases z)
 |[],_,_::_,_,_=>rfl
 |a::r,[],_,h1,_=>by cases h1
 |a::r,b::t,[],_,h2=>by cases h2
 |a::r,b::t,c::u,h1,h2=>by
  have h1:(decide (a<b)||(a==b&&fF r t))=true:=h1;have h2:(decide (b<c)||(b==c&&fF t u))=true:=h2;show(decide (a<c)||(a==c&&fF r u))=true;simp only[dA,decide_eq_true_eq,cx,beq_iff_eq] at h1 h2 ⊢;rcases h1 with h1|⟨e1,g1⟩
  ·rcases h2 with h2|⟨e2,g2⟩
   ·exact .inl (by lia)
   ·exact .inl (by lia)
  ·rcases h2 with h2|⟨e2,g2⟩
   ·exact .inl (by lia)
   ·exact .inr ⟨e1.trans e2,ud g1 g2⟩
theorem xq:∀a b:List Nat,fF a b=false->fF b a=false->a=b
 |[],[],_,_=>rfl
 |[],_::_,h,_=>by cases h
 |_::_,[],_,h=>by cases h
 |a::r,b::t,h1,h2=>by
  have h1:(decide (a<b)||(a==b&&fF r t))=false:=h1;have h2:(decide (b<a)||(b==a&&fF t r))=false:=h2;simp only[Bool.or_eq_false_iff,decide_eq_false_iff_not,Bool.and_eq_false_iff,beq_eq_false_iff_ne] at h1 h2;have e:a=b:=by lia
  subst e;rw[xq r t (h1.2.resolve_left λz=>z rfl) (h2.2.resolve_left λz=>z rfl)]
def Hj(a b):leS a b=true\/leS b a=true:=by
 unfold leS;cases h:fF b.cps.toList a.cps.toList with
 |false=>exact .inl rfl
 |true =>
  right;cases h2:fF a.cps.toList b.cps.toList with
  |false=>rfl
  |true =>
   have:=ud h h2;rw[vQ] at this;cases this
def IZ(h1:leS a b=true)(h2:leS b a=true):a=b:=by unfold leS at h1 h2;have e:=xq b.cps.toList a.cps.toList (by simpa using h1) (by simpa using h2);obtain⟨⟨x⟩⟩:=a;obtain⟨⟨y⟩⟩:=b;have e:y=x:=e;rw[e]
def Bk(h1:leS a b=true)(h2:leS b c=true):leS a c=true:=by
 unfold leS at *;cases h:fF c.cps.toList a.cps.toList with
 |false=>rfl
 |true =>
  exfalso;have h1:fF b.cps.toList a.cps.toList=false:=by simpa using h1
  have h2:fF c.cps.toList b.cps.toList=false:=by simpa using h2
  cases h3:fF b.cps.toList c.cps.toList with
  |true =>
   have:=ud h3 h;rw[h1] at this;cases this
  |false =>
   have e:=xq _ _ h3 h2;rw[e,h] at h1;cases h1
def HZ(x:Str):List Str->List Str
 |[]=>[x]
 |y::r=>if leS x y then x::y::r else y::HZ x r
def srt:List Str->List Str
 |[]=>[]
 |x::r=>HZ x (srt r)
theorem xu(x):∀l,(HZ x l).Perm (x::l)
 |[]=>.refl _
 |y::r=>by
  unfold HZ;split
  ·exact .refl _
  ·exact((xu x r).cons y).trans (.swap x y r)
theorem lZ:∀l,(srt l).Perm l
 |[]=>.refl _
 |x::r=>(xu x (srt r)).trans ((lZ r).cons x)
theorem xK(x):∀l,l.Pairwise (λa b=>leS a b=true)->(HZ x l).Pairwise (λa b=>leS a b=true)
 |[],_=>by simp[HZ]
 |y::r,h=>by
  obtain⟨h1,h2⟩:=di.mp h;unfold HZ;split
  ·rename_i Uf;refine di.mpr ⟨λz hz=>?_,h⟩;rcases af.mp hz with rfl|hz
   ·exact Uf
   ·exact Bk Uf (h1 z hz)
  ·rename_i Uf;refine di.mpr ⟨λz hz=>?_,xK x r h2⟩;rcases af.mp ((xu x r).mem_iff.mp hz) with rfl|hz
   ·exact(Hj z y).resolve_left Uf
   ·exact h1 z hz
theorem pI:∀l,(srt l).Pairwise (λa b=>leS a b=true)
 |[]=>.nil
 |x::r=>xK x _ (pI r)
theorem pJ:∀{l m:List Str},l.Perm m->l.Pairwise (λa b=>leS a b=true)->m.Pairwise (λa b=>leS a b=true)->l=m
 |[],m,p,_,_=>(List.nil_perm.mp p).symm
 |a::l,[],p,_,_=>absurd (List.perm_nil.mp p) (by simp)
 |a::l,b::m,p,h1,h2=>by
  obtain⟨a1,a2⟩:=di.mp h1;obtain⟨b1,b2⟩:=di.mp h2;have e:a=b:=by
   have ha:a∈b::m:=p.mem_iff.mp ai;have hb:b∈a::l:=p.mem_iff.mpr ai;rcases af.mp ha with e|ha
   ·exact e
   ·rcases af.mp hb with e|hb
    ·exact e.symm
    ·exact IZ (a1 b hb) (b1 a ha)
  subst e;rw[pJ (List.Perm.cons_inv p) a2 b2]
def C6(p:l.Perm m):srt l=srt m:=pJ ((lZ l).trans (p.trans (lZ m).symm)) (pI l) (pI m)
def sS(l):(srt l).length=l.length:=(lZ l).length_eq
theorem sT:∀(p:Str)(l:List Str),risingS p l=true->(p::l).Pairwise (λa b=>leS a b=true)
 |p,[],_=>List.pairwise_singleton _ _
 |p,x::r,h=>by
  have h:(!fF x.cps.toList p.cps.toList&&risingS x r)=true:=h;rw[cx] at h;have ih:=sT x r h.2;refine di.mpr ⟨λz hz=>?_,ih⟩;rcases af.mp hz with rfl|hz
  ·exact h.1
  ·exact Bk (show leS p x=true from h.1) ((di.mp ih).1 z hz)
def wK:∀(l:List Str),sortedS l=true->l.Pairwise (λa b=>leS a b=true)
 |[],_=>.nil
 |x::r,h=>sT x r h
def J8(p:l.Perm m)(h:sortedS l=true):l=srt m:=pJ (p.trans (lZ m).symm) (wK l h) (pI m)
theorem yG:∀{ss:List Str}{us:List ah},Vals (ss.map V.str) us->StrsAre us ss
 |[],_,.nil=>.nil
 |x::ss,_,.cons ⟨t,e⟩ r=>by subst e;exact .cons x t (yG r)
theorem Cv:∀{ss:List Str}{us:List ah},StrsAre us ss->Vals (ss.map V.str) us
 |_,_,.nil=>.nil
 |_,_,.cons x t r=>.cons ⟨t,rfl⟩ (Cv r)
theorem FI:∀(xs:List V)(us:List ah),xs.length=us.length->(∀(j:Nat) x u,xs[j]?=Za x->us[j]?=Za u->RelV x u)->Vals xs us
 |[],[],_,_=>.nil
 |[],_::_,e,_=>by cases e
 |_::_,[],e,_=>by cases e
 |x::xs,u::us,e,h=>.cons (h 0 x u rfl rfl) (FI xs us (jM e) λj y v e1 e2=>h (j+1) y v (by simpa using e1) (by simpa using e2))
def call_sortedL:CallR X (.builtin "sorted") (λxs H Q=>∃p ss,xs=[.ref p]/\SqL X.K H p (ss.map V.str)/\ss.length<64/\∀l,H l=Zb->Q (.ref l) (upd H l (.lst ((srt ss).map V.str)))):=by
 intro O2 s O H xs us Q I r h;obtain⟨p,ss,rfl,hq,hz,q⟩:=h;obtain⟨u,rfl,ru⟩:=qp r;cases ru;obtain⟨its,rv,pl,Su⟩:=I.list hq;have hS:=yG rv;have hl:its.length=ss.length:=by have:=rv.length;rw[ac] at this;exact this.symm
 refine sorted_strs pl.isList hS (by lia) λout ss' h1 h2 h3=>?_;have e:=J8 h2 h3;subst e;obtain⟨ep,QE⟩:=sortedAll_at s.heap its out;have hf:H (s.heap.objs.size+1)=none:=I.hok.fresh (fL _);refine⟨.ref _,_,I.laid (t':=s.toks) (λb o e=>sortedAll_old e) (fL _) (o:=.lst ((srt ss).map V.str)) ?_,rfl,q _ hf⟩;refine⟨?_,out.toList,ep,Cv h1,?_⟩
 ·rw[ac,sS];exact aI (eE hz) (by decide)
 ·rw[QE]
def qq(hc:X.calm=true):CallR X (.builtin "sorted") (λxs H Q=>∃p kvs ss,xs=[.ref p]/\Rd H p (.dK kvs)/\kvs.map (·.1)=ss.map ag/\ss.length<64/\∀l,H l=Zb->Q (.ref l) (upd H l (.lst ((srt ss).map V.str)))):=by
 intro O2 s O H xs us Q I r h;obtain⟨p,kvs,ss,rfl,hq,hk,hz,q⟩:=h;obtain⟨u,rfl,ru⟩:=qp r;cases ru;obtain⟨z,RT,vs,rel,dd⟩:=sY I.hok hq;obtain⟨ep,QE⟩:=dd.dictAt;have O6:vs.length=ss.length:=by have e1:=rel.length;have e2:=congrArg cg hk;rw[ac,ac] at e2;lia
 refine Calls.call_function_entry kind_sorted plain_sorted entry_sorted (args_sorted1 _) ?_;unfold Builtin.«sorted»;refine ap (m:=checkCount "sorted" 1 1 _) (aL ?_);refine ap (PySem.W.kdu_collect (A:=X.A.in1) (PySem.W.kdl_dict (knd:=mK X.prog X.w) (kvs:=vs) (ep:=ep) RT) (I.ok.hd hc) QE (aI (by lia) (show 64<=aJ by decide)) λh' tk Pc hkp TF=>?_);have hl:Pc.toList.length=vs.length:=by rw[fO];exact TF.1
 have hS:StrsAre Pc.toList ss:=by
  refine yG (FI _ _ (by rw[ac,hl,O6]) λj x u e1 e2=>?_);obtain⟨k,y,e3,e4⟩:=TF.2 j u (by rw[<-Array.getElem?_toList];exact e2);have e5:(vs.map (·.1))[j]?=Za k:=by rw[aD,e3];rfl
  rw[<-rel.keys,hk,aD] at e5;rw[aD] at e1;cases e6:ss[j]? with
  |none=>rw[e6] at e1;cases e1
  |some z =>
   rw[e6] at e1 e5;have e1:V.str z=x:=aO e1;have e5:ag z=k:=aO e5;subst e1 e5;rcases mR (k:=ag z) (v:=u) e4 with⟨i,t,q1,_⟩|⟨y',t,q1,q2⟩
   ·cases q1
   ·cases q1;exact⟨t,q2⟩
 refine ap (wpAny_newList ?_ (by rw[hl];exact aI (by lia) (show 64<=aJ by decide)));have Tk:(h'.push (seqObj "list" Pc.toList.toArray 0)).get? h'.objs.size=Za (seqObj "list" Pc.toList.toArray 0):=a7 _ rfl;refine ap (ed (wpAny_call_entry slot_list_sort ⟨_,Tk,rfl⟩ entry_list_sort (list_sort_treeK strKind_oneLt Tk hS.keysOf (λSJ SI qL e=>keyKind_strs (by rw[<-e];exact hS)) (by lia) λQd a1 a2=>⟨_,rfl,?_⟩) (args_list_sort _)));refine aL ⟨_,rfl,?_⟩;obtain⟨ss',h1,h2,h3⟩:=sorted_out_str hS a1 a2;have e:=J8 h2 h3;subst e;have I1:Inv X O2 O H { s with heap:=h',toks:=tk }:=I.kept hkp;obtain⟨e',VE⟩:=sortedHeap_at (out:=(arrOf Qd).map (·.2)) Tk;have hf:H h'.objs.size=none:=I1.hok.fresh (am _);refine⟨.ref _,_,I1.laid (t':=tk) (λb o e=>?_) (am _) (o:=.lst ((srt ss).map V.str)) ?_,rfl,q _ hf⟩
 ·have Pd:b<h'.objs.size:=az e;refine(sortedHeap_old (aE Pd) (by rw[size_push'];exact cA Pd)).trans ?_;exact au _ e
 ·refine⟨?_,((arrOf Qd).map (·.2)).toList,e',Cv h1,?_⟩
  ·rw[ac,sS];exact aI (eE hz) (by decide)
  ·exact VE
end
def Its(x:Str):It:=⟨λi _=>i<x.cps.size,λi H v H'=>H'=H/\∃c,x.cps[i]?=Za c/\v=.str ⟨#[c]⟩,λi _=>x.cps.size<=i⟩
def AQ(hh:A.handled=Zb)(it)(x)(t):Walks P w A it [it] [it] x.cps.size (SignAt x) (λi h=>h.IsStrIter it (iS x) x t i):=by
 unfold iS;split
 ·exact Walks.strAscii hh it x t
 ·exact Walks.strWide hh it x t
def Ig{P}{w}{K}{tg}(it)(x)(t):Turn P w K tg (Its x) [it] it (λi h=>i<=x.cps.size/\h.IsStrIter it (iS x) x t i) where
 mem:=by simp
 obj:=λi h st b hb=>by
  have e:b=it:=by simpa using hb
  subst e;obtain⟨_,o,e,c,d⟩:=st;exact⟨o,e,λv z=>by rw[d] at z;cases z⟩
 keep:=λi h h' st k=>by obtain⟨z,o,e,c,d⟩:=st;exact⟨z,o,k it (by simp) o e,c,d⟩
 item:=by intro X hP hw hK hc i O2 s O H E I hf st hg;subst hP hw hK;obtain⟨f0,f1,f2,f3,f4,f5⟩:=hf it (by simp);refine(AQ (I.ok.hd hc) it x t).item i s _ _ hg st.2 λv h' tk hv Qd kk=>?_;obtain⟨c,u,e1,e2⟩:=hv;subst e2;have I1:Inv X O2 O H { s with heap:=h',toks:=tk }:=I.turned (λb o hb e=>kk b o (by simpa using hb) e) f0 f1 f3 f4 f5;obtain⟨o,e,cl,d⟩:=id Qd;refine⟨_,rfl,E3 (s:={ s with heap:=h',toks:=tk }) e cl d ?_ ⟨.str ⟨#[c]⟩,H,I1,⟨u,rfl⟩,⟨rfl,c,e1,rfl⟩,⟨hg,Qd⟩,λb hb=>(hf b hb).1⟩⟩;unfold iS;split<;>decide
 done:=by intro X hP hw hK hc i O2 s O H E I hf st hg;subst hP hw hK;obtain⟨f0,f1,f2,f3,f4,f5⟩:=hf it (by simp);have e:i=x.cps.size:=jH st.1 hg;subst e;exact(AQ (I.ok.hd hc) it x t).done s _ _ st.2 λh' tk kk=>⟨rfl,I.turned (λb o hb e=>kk b o (by simpa using hb) e) f0 f1 f3 f4 f5⟩
 self:=λA i s Q E st h=>by
  obtain⟨_,st⟩:=st;unfold iS at st;split at st
  ·exact wpAny_pyIter_striter_ascii st h
  ·exact wpAny_pyIter_striter_wide st h
section
variable{X:Cx}{tg:bo}
def iStr(tl:TE):TI:=λO H R=>tl O H λv H1=>∃x,v=.str x/\R (Its x) H1
def NU{l}{tl}(hl:PE X l tl):PI X tg l (iStr tl):=by
 intro O2 s O H R I h;refine thn (hl O2 s O H _ I h) λv s1=>e4 λy H1 I1 r1 q1=>?_;obtain⟨x,e,q⟩:=q1;subst e;obtain⟨t,rfl⟩:=r1;refine wpAny_pyIter_strU ?_;refine⟨s1.heap.objs.size,[s1.heap.objs.size],_,_,H1,rfl,I1.kept (t':=s1.toks) λb o e=>au _ e,Ig _ x t,⟨aX _,_,a7 _ rfl,rfl,rfl⟩,λb hb=>?_,q⟩;have e:b=s1.heap.objs.size:=by simpa using hb
 subst e;exact I1.fpOk (am _) (I1.hok.fresh (am _))
end
section
variable{X:Cx}{O2:List (ak×Obj)}{O:St}{H:Hp}{s:ax}{d:ak}{kvs:List (Key×V)}{ob:Obj}
def Inv.redo(I:Inv X O2 O H s)(hd:H d=Za u)(n1:∀y,u≠.own y)(n2:∀xs,u≠.tup xs)(n3:∀o v,X.Ha0 d≠Za (.frz o v))(n4:∀ps,u≠.tbl ps)(ok:ObjOk X.prog X.w (upd H d u') s.heap d u'):Inv X O2 O (upd H d u') s:=by
 have ne:∀b v,H b=Za v->v≠u->b≠d:=λb v e hv z=>by subst z;rw[hd] at e;exact hv (aO e).symm
 have nn:∀b,H b=Zb->b≠d:=λb e z=>by subst z;rw[hd] at e;cases e
 refine⟨I.ok,I.os,I.bare,⟨I.base.keep,I.base.slot,λb o e z hx=>?_,I.base.there,λb xs e=>?_,λb o v e=>?_,λb ps e=>?_⟩,I.loc,I.cell,?_,λy c e=>?_,λp hp=>?_,λb v e=>?_,I.len⟩
 ·have:=I.base.free b o e z hx;rw[lK (nn b this)];exact this
 ·have:=I.base.tups b xs e;rw[lK (ne b _ this λz=>n2 xs z.symm)];exact this
 ·have:=I.base.frzs b o v e;have hb:b≠d:=λz=>by subst z;exact n3 o v e
  rw[lK hb];exact this
 ·obtain⟨m,e1⟩:=I.base.tbls b ps e;exact⟨m,by rw[lK (ne b _ e1 λz=>n4 _ z.symm)];exact e1⟩
 ·rw[lK (nn _ I.free)];exact I.free
 ·rw[lK (nn _ (I.freeC y c e))];exact I.freeC y c e
 ·obtain⟨e1,z1,r1⟩:=I.pin p hp;exact⟨e1,by rw[lK (nn _ z1)];exact z1,r1⟩
 ·by_cases hb:b=d
  ·subst hb;rw[lN] at e;cases e;exact ok
  ·rw[lK hb] at e;exact(I.hok b v e).stay (λc v _ q=>q) (λc q=>by rw[lK (ne c _ q λz=>n1 _ z.symm)];exact q) λc xs q=>by rw[lK (ne c _ q λz=>n2 _ z.symm)];exact q
def dK_ok{H H'}(x:ObjOk P w H h d (.dK kvs)):ObjOk P w H' h d (.dK kvs):=x
def Inv.freeze(I:Inv X O2 O H s)(hd:H d=Za (.dK kvs))(ho:s.heap.get? d=Za ob):Inv X O2 O (upd H d (.frz ob (.dK kvs))) s :=
 I.redo hd (by intro y z;cases z) (by intro y z;cases z) (λo v z=>by rw[I.base.frzs d o v z] at hd;cases hd) (by intro y z;cases z) ⟨ho,dK_ok (I.hok d _ hd)⟩
end
def Itd(d:ak)(ob:Obj)(kvs:List (Key×V)):It :=
 ⟨λi H=>i<kvs.length/\H d=Za (.frz ob (.dK kvs)),λi H v H'=>H'=H/\∃kv,kvs[i]?=Za kv/\v=kV kv.1,λi H=>kvs.length<=i/\H d=Za (.frz ob (.dK kvs))⟩
def Kd(I:Inv X O2 O H s)(hd:H d=Za (.frz ob (.dK kvs)))(he:ob.data=.dict es0 ep) :
  ∃vs,KV kvs vs/\s.heap.DictAt (mK X.prog X.w) d vs ep:=by
 obtain⟨e,z,_,vs,rel,dd⟩:=(show ObjOk X.prog X.w H s.heap d (.frz ob (.dK kvs)) from I.hok d _ hd);obtain⟨Ut,o,es,e1,e2,e3,e4⟩:=dd.dictAt;rw[e] at e1;cases e1;rw[he] at e3;cases e3;exact⟨vs,rel,ob,_,e,e2,he,e4⟩
def AU{P}{w}{K}{tg}(d it)(ob)(kvs)(es0:Array DictEntry)(ep)(he:ob.data=.dict es0 ep) :
  Turn P w K tg (Itd d ob kvs) [it] it (λi h=>i<=kvs.length/\h.IsKeyIter it d i kvs.length ep) where
 mem:=by simp
 obj:=λi h st b hb=>by
  have e:b=it:=by simpa using hb
  subst e;obtain⟨_,o,e,c,d⟩:=st;exact⟨o,e,λv z=>by rw[d] at z;cases z⟩
 keep:=λi h h' st k=>by obtain⟨z,o,e,c,d⟩:=st;exact⟨z,o,k it (by simp) o e,c,d⟩
 item:=by
  intro X hP hw hK hc i O2 s O H E I hf st hg;subst hP hw hK;obtain⟨f0,f1,f2,f3,f4,f5⟩:=hf it (by simp);obtain⟨hi,hd⟩:=hg;obtain⟨vs,rel,at_⟩:=Kd I hd he;have hl:=rel.length;have hiv:i<vs.length:=by omega
  have R4:s.heap.IsKeyIter it d i vs.length ep:=by rw[<-hl];exact st.2
  refine wpAny_pyNext_dict_item (k:=vs[i].1) (v:=vs[i].2) R4 at_ (by simp[hiv]) λkey h' hk it' sb=>?_;have I1:Inv X O2 O H { s with heap:=h' }:=I.turned (t':=s.toks) (λb o hb e=>(sb.2 b hb).trans e) f0 f1 f3 f4 f5;have R3:kvs[i].1=vs[i].1:=by
   have e1:(kvs.map (·.1))[i]?=(vs.map (·.1))[i]?:=by rw[rel.keys]
   rw[aD,aD,aw hi,aw hiv] at e1;exact aO e1
  obtain⟨o,e,cl,dt⟩:=id it';refine⟨key,rfl,E3 (s:={ s with heap:=h' }) e cl dt (by decide) ⟨kV kvs[i].1,H,I1,?_,⟨rfl,kvs[i],by simp[hi],rfl⟩,⟨hi,by rw[hl];exact it'⟩,λb hb=>(hf b hb).1⟩⟩;rw[R3];have hk:AH vs[i].1 key=true:=hk;rcases mR hk with⟨z,t,q1,q2⟩|⟨z,t,q1,q2⟩
  ·rw[q1,q2];exact⟨t,rfl⟩
  ·rw[q1,q2];exact⟨t,rfl⟩
 done:=by
  intro X hP hw hK hc i O2 s O H E I hf st hg;subst hP hw hK;obtain⟨f0,f1,f2,f3,f4,f5⟩:=hf it (by simp);obtain⟨hi,hd⟩:=hg;obtain⟨vs,rel,at_⟩:=Kd I hd he;have hl:=rel.length;have R4:s.heap.IsKeyIter it d i vs.length ep:=by rw[<-hl];exact st.2
  exact wpAny_pyNext_dict_end (I.ok.hd hc) R4 at_ (by simp;omega) λh' eb=>⟨rfl,I.turned (t':=s.toks) (λb o hb e=>eb b o hb e) f0 f1 f3 f4 f5⟩
 self:=λA i s Q E st h=>by exact wpAny_pyIter_keyiter st.2 h
section
variable{X:Cx}{tg:bo}
def Nm(x:Str):Prop:=x.length<=100/\∀c∈x.cps.toList,c<16^8
def Be:OpR X (cm .LtE) (λx y H Q=>∃i j,x=.str i/\y=.str j/\Q (.bl (!decide (j.cps.toList<i.cps.toList))) H):=by intro O2 s O H x y v u Q I rx ry h;obtain⟨i,j,rfl,rfl,q⟩:=h;obtain⟨t,rfl⟩:=rx;obtain⟨t',rfl⟩:=ry;exact PySem.P.le_str ⟨.bl _,H,I,rfl,q⟩
def LP:MtR X "str.join" (λx vs H Q=>∃(z:Str)(p:ak)(ys:List Str),x=.str z/\vs=[.ref p]/\SqL X.K H p (ys.map V.str)/\(ys.map (·.length)).sum+ys.length*z.length<=16777216/\Q (.str (Txt.join z ys)) H):=by intro O2 s O H x vs v us Q I rx rv h;obtain⟨z,p,ys,rfl,rfl,hq,hz,q⟩:=h;obtain⟨t,rfl⟩:=rx;obtain⟨u,rfl,ru⟩:=rv.one;cases ru;obtain⟨its,r,pl,Su⟩:=I.list hq;exact join_list pl.isList (by simpa using yG r) hz λt' k=>⟨.str _,H,I.tok k,⟨t',rfl⟩,q⟩
def Eg:CallR X (.builtin "all") (λxs H Q=>∃(p:ak)(bs:List Bool),xs=[.ref p]/\SqL X.K H p (bs.map V.bl)/\X.calm=true/\Q (.bl (bs.all id)) H):=by
 intro O2 s O H xs us Q I r h;obtain⟨p,bs,rfl,hq,hc,q⟩:=h;obtain⟨u,rfl,ru⟩:=qp r;cases ru;obtain⟨its,rv,pl,Su⟩:=I.list hq;have hl:its.length=bs.length:=by have:=rv.length;rw[ac] at this;exact this.symm
 have Po:p≠s.heap.objs.size:=by obtain⟨o,ho,_⟩:=pl.isList;exact aE (az ho)
 refine call_all_walk (gS pl.isList ?_);refine⟨s.heap.objs.size,_,_,its.toArray.size,_,_,λi=>(bs[i]?).getD true,rfl,Walks.list (show X.A.in1.handled=Zb from I.ok.hd hc) _ p Po its.toArray,⟨⟨_,a7 _ rfl,rfl,rfl⟩,pl.isList.push _⟩,?_,λh' tk hk=>?_⟩
 ·intro i v s' Q' E' hP hQ;have hP:its.toArray[i]?=Za v:=hP;have hv:its[i]?=Za v:=by simpa using hP
  have hi:i<its.length:=(aS.mp hv).1;obtain⟨u',hu',ru'⟩:=rv.get (i:=i) (x:=.bl bs[i]) (by simp[<-hl,hi]);rw[hv] at hu';cases hu';cases ru';refine ej ?_;have e:(bs[i]?).getD true=bs[i]:=by simp[<-hl,hi]
  rw[<-e];exact hQ
 ·have I1:Inv X O2 O H { s with heap:=h',toks:=tk }:=I.kept λb o e=>hk b o (λz=>by
   have e1:b=s.heap.objs.size:=by simpa using z
   exact absurd (az e) (by rw[e1];exact dS _)) (au _ e)
  refine⟨.bl _,H,I1,rfl,?_⟩;have e:(bF its.toArray.size).all (λi=>(bs[i]?).getD true)=bs.all id:=by
   rw[aN,hl,bZ,dg,dg];constructor
   ·intro z b hb;obtain⟨i,hi,rfl⟩:=List.mem_iff_getElem.mp hb;have:=z i (cH.mpr hi);simpa[hi] using this
   ·intro z i hi;have hi:=cH.mp hi;simpa[hi] using z bs[i] (b5 hi)
  rw[e];exact q
def Mf:List V->List V->Bool
 |[],[]=>true
 |x::xs,y::ys=>eqV x y&&Mf xs ys
 |_,_=>false
theorem D9:∀{xs ys:List V},xs.length=ys.length->Mf xs ys=(bF xs.length).all λi=>eqV ((xs[i]?).getD .non) ((ys[i]?).getD .non)
 |[],[],_=>rfl
 |[],_::_,h=>by cases h
 |_::_,[],h=>by cases h
 |x::xs,y::ys,h=>by show(eqV x y&&Mf xs ys)=_;rw[D9 (jM h),bc,kG,iN,kI];rfl
def EY(rx:Vals xs us)(ry:Vals ys ws)(hl:xs.length=ys.length)(fx:xs.all sV=true)(fy:ys.all sV=true) :
  ∀j (h1:j<us.toArray.size) (h2:j<ws.toArray.size),la A s us.toArray[j] ws.toArray[j] (eqV ((xs[j]?).getD .non) ((ys[j]?).getD .non)):=by
 intro j h1 h2;have e1:=rx.length;have e2:=ry.length;have SB:j<xs.length:=by rw[e1];simpa using h1
 have VO:j<ys.length:=by rw[e2];simpa using h2
 obtain⟨u,hu,ru⟩:=rx.get (i:=j) (x:=xs[j]) (by simp[SB]);obtain⟨w,hw,PB⟩:=ry.get (i:=j) (x:=ys[j]) (by simp[VO]);have e3:us.toArray[j]=u:=by
  have:us[j]?=Za us.toArray[j]:=by simp[show j<us.length by simpa using h1]
  rw[hu] at this;exact(aO this).symm
 have e4:ws.toArray[j]=w:=by
  have:ws[j]?=Za ws.toArray[j]:=by simp[show j<ws.length by simpa using h2]
  rw[hw] at this;exact(aO this).symm
 rw[e3,e4];have e5:(xs[j]?).getD .non=xs[j]:=by simp[SB]
 have e6:(ys[j]?).getD .non=ys[j]:=by simp[VO]
 rw[e5,e6];exact Fx ru PB (dg.mp fx _ (b5 SB)) (dg.mp fy _ (b5 VO))
def gLst(K:aa)(n:Nat)(t:TGs):TG:=λv O H Q=>∃a xs,v=.ref a/\SqL K H a xs/\xs.length=n/\t xs O H Q
def NX(hc:X.calm=true)(h:PGs X es t)(hn:(cR es X.env).length=n:=by rfl)(Qt:(cR es X.env).findIdx? (·.1)=none:=by rfl):PG X (.Tuple es k pos) (gLst X.K n t):=by
 intro O2 s O H v u Q I r hw;obtain⟨a,xs,e1,hq,hl,hw⟩:=hw;subst e1;cases r;obtain⟨its,rv,ht,hz⟩:=I.list hq;rw[assign_Tuple];refine ap (fV ?_);unfold unpack;have hsz:(cR es X.env).length=its.toArray.size:=by simp[hn,<-hl,rv.length]
 rw[hsz,Qt];refine ap (ed (PySem.W.kun_itemsOf (I.ok.hd hc) ht.isList λh' hx=>?_));have I1:Inv X O2 O H { s with heap:=h' }:=I.kept (t':=s.toks) λb o e=>hx b o (aE (az e)) e;exact h O2 _ O H xs _ Q I1 (by simpa using rv) hw
def PJ(X:Cx)(es:List bo)(t:St->Hp->(Hp->Prop)->Prop):Prop:=∀(O2:List (ak×Obj))(s:ax)(O:St)(H:Hp)(Pc:Str)(n:Nat)(Q:Hp->Prop),Inv X O2 O H s->Pc.length<=2000*n->n+es.length<=100->t O H Q ->
 Joins (model X.prog X.w) X.A X.xe (evalEach es X.env) Pc (λout s1=>out.length<=aJ/\∃H',Inv X O2 O H' s1/\Q H') s
def jNil:St->Hp->(Hp->Prop)->Prop:=λ_ H Q=>Q H
def jRep(te:TE)(t:St->Hp->(Hp->Prop)->Prop):St->Hp->(Hp->Prop)->Prop:=λO H Q=>te O H λv H1=>(∃x,v=.str x/\Nm x)/\t O H1 Q
def Ae:PJ X [] jNil:=λO2 s O H Pc n Q I h1 h2 h=>⟨aI h1 (aI (lC 2000 (show n<=100 by simpa using h2)) (by decide)),H,I,h⟩
def yY(a b:Str):(a++b).length=a.length+b.length:=strLen_append a b
def Ad{j pos}(hr:PJ X es t)(hl:c.length<=2000:=by decide):PJ X (.Constant (.str c) j pos::es) t:=by
 intro O2 s O H Pc n Q I h1 h2 h;have h2:n+(es.length+1)<=100:=h2;refine lf ⟨c,s.toks,rfl,?_,hr O2 _ O H (Pc++c) (n+1) Q (I.tok _) ?_ (by lia) h⟩
 ·rw[yY];exact aI (show Pc.length+c.length<=2000*101 by lia) (by decide)
 ·rw[yY];lia
def yh(he:PE X e te)(hr:PJ X es t):PJ X (.FormattedValue e 114 Zb pos::es) (jRep te t):=by
 intro O2 s O H Pc n Q I h1 h2 h;have h2:n+(es.length+1)<=100:=h2;refine wpAny_FormattedValue_repr (thn (he O2 s O H _ I h) λv s1 ⟨y,H1,I1,r1,⟨x,e1,nm⟩,q1⟩=>?_);subst e1;obtain⟨tk,rfl⟩:=r1;have O6:(ij x).length<=1002:=aI (PySem.StrLaws.reprText_len x nm.2) (by have:=nm.1;lia);have hsz:(ij x).length<=aJ:=aI O6 (by decide);have Pq:∀tk s2,Inv X O2 O H1 s2->∃y t',iq (ij x) tk=.str y t'/\(Pc++y).length<=aJ/\Joins (model X.prog X.w) X.A X.xe (evalEach es X.env) (Pc++y) (λout s1=>out.length<=aJ/\∃H',Inv X O2 O H' s1/\Q H') s2:=λtk s2 I2=>by
  refine⟨_,tk,rfl,?_,hr O2 s2 O H1 _ (n+1) Q I2 ?_ (by lia) q1⟩
  ·rw[yY];exact aI (show Pc.length+(ij x).length<=2000*101 by lia) (by decide)
  ·rw[yY];lia
 refine wpAny_pyReprObj_str ?_ hsz;exact wpAny_formatField_str (Pq _ _ (I1.tok _)) (Pq _ _ ((I1.tok _).tok _)) hsz
def tFs(t:St->Hp->(Hp->Prop)->Prop):TE:=λO H Q=>t O H λH1=>∀x,Q (.str x) H1
def EJ{SJ SI}{qL}{pos}{t}(h:PJ X (SJ::SI::qL) t)(hl:(SJ::SI::qL).length<=100:=by decide):PE X (.JoinedStr (SJ::SI::qL) pos) (tFs t):=by
 intro O2 s O H Q I hq;refine wpAny_JoinedStr ?_;have:=h O2 s O H cC 0 (λH1=>∀x,Q (.str x) H1) I (aX _) (by lia) hq;revert this;generalize evalEach (SJ::SI::qL) X.env=parts;generalize cC=Pc;intro this;clear h hl hq I;induction parts generalizing Pc s with
 |nil =>
  obtain⟨z,H',I',q⟩:=this;exact⟨z,.str Pc,H',I'.tok _,⟨_,rfl⟩,q Pc⟩
 |cons p ps ih =>
  refine bO this (λv s1 ⟨y,t,e,z,k⟩=>⟨y,t,e,z,ih _ _ k⟩) λ_ _ z=>z
end
def Fn(P:aK)(w:a6)(K:aa)(mg:Str->Option ah)(base:bx)(x:Str)(k:Nat)(ps:List Str)(sp:Sp):Prop :=
 ∃f fd,FnOk P w K mg base (CXo P w) k f fd ps sp/\mg x=Za (.ref f)/\cF K (.ref f)=true/\Binds K fd ps []
def Mt(P:aK)(w:a6)(K:aa)(mg:Str->Option ah)(base:bx)(C:ak)(m:Str)(k:Nat)(ps:List Str)(sp:Sp):Prop :=
 ∃f fd,FnOk P w K mg base (CXo P w) k f fd ps sp/\Meth K C m f/\Cls K C/\Binds K fd ps []
def MkB(P:aK)(w:a6)(K:aa)(mg:Str->Option ah)(base:bx)(x:Str)(C:ak)(k:Nat)(ps:List Str)(sp:Sp):Prop :=
 ∃f fd,FnOk P w K mg base (CXo P w) k f fd ps sp/\mg x=Za (.ref C)/\Mk K C f/\Binds K fd ps []
section
variable{X:Cx}{k:Nat}{C:ak}{ps:List Str}{sp:Sp}{E:XK}{x m:Str}{p pos O4:Pos}{e o:bo}{es:List bo}{ta:TE}{t:TA}
def wu(F:Fn X.prog X.w X.K X.mg X.base x k ps sp)(hr:Room k X.A)(hg:Gl X x)(hx:nO (CXo X.prog X.w) X E)(ha:PA X (e::es) t)(PL:NDb x:=by decide)(he:SEb X e es:=by rfl)(Pn:(b8 pos (aC es X.env)).any (·.1)=false:=by rfl):PE X (.Call (.Name x p) (e::es) [] pos) (Kw sp [] E t):=by
 obtain⟨f,fd,F,hm,hk,hb⟩:=F;exact Lu F hr hg hm hk hb .nil hx ha PL he Pn
def rN(he:PE X o ta)(M:Mt X.prog X.w X.K X.mg X.base C m k ps sp)(hr:Room k X.A)(hx:nO (CXo X.prog X.w) X E)(ha:PA X (e::es) t)(Qt:SEb X e es:=by rfl)(Pn:(b8 pos (aC es X.env)).any (·.1)=false:=by rfl)(ht:eval (.Call (.Attribute o m O4) (e::es) [] pos) X.env=(do
   let ov <-eval o X.env
   gv O4.atName
   let(f,first) <-holding [ov] (fQ ov m pl)
   iT pos f first (b8 pos (aC (e::es) X.env)) (eK pos (cY [] X.env))):=by rfl):PE X (.Call (.Attribute o m O4) (e::es) [] pos) (HG C m sp [] E ta t):=by
 obtain⟨f,fd,F,hm,c,hb⟩:=M;exact Lq (pl:=pl) he c hm F hr hb .nil hx ha Qt Pn ht
def JW(he:PE X o ta)(M:Mt X.prog X.w X.K X.mg X.base C m k ps sp)(hr:Room k X.A)(hx:nO (CXo X.prog X.w) X E)(ht:eval (.Call (.Attribute o m O4) [] [] pos) X.env=(do
   let ov <-eval o X.env
   gv O4.atName
   let(f,first) <-holding [ov] (fQ ov m pl)
   iT pos f first (b8 pos (aC [] X.env)) (eK pos (cY [] X.env))):=by rfl):PE X (.Call (.Attribute o m O4) [] [] pos) (HG C m sp [] E ta JI):=by
 obtain⟨f,fd,F,hm,c,hb⟩:=M;exact IE (pl:=pl) he c hm F hr hb .nil hx ht
def JX(M:MkB X.prog X.w X.K X.mg X.base x C k ps sp)(hr:Room (k+1) X.A)(hg:Gl X x)(hx:nO (CXo X.prog X.w) X E)(PL:NDb x:=by decide):PE X (.Call (.Name x p) [] [] pos) (HH C sp [] E JI):=by obtain⟨f,fd,F,hm,mk,hb⟩:=M;exact IF mk F hr hg hm hb .nil hx PL
def se:OpR X (dI .FloorDiv) (rI (λ_ j=>0<j/\j.natAbs.log2<9000) λi j=>.int (i/j)):=opI λi j _ _ _ _ _ hc q=>by have h1:(0:Int)<j:=hc.1;exact floordiv_int (by lia) (by rw[Int.fdiv_eq_ediv_of_nonneg i (by lia)];exact q) (.inl (PyProof.noPylong_of_log2 hc.2))
end
section
variable{P:aK}{w:a6}{K:aa}{mg:Str->Option ah}{base:bx}
def Fun.okN{x qual}{st}{f}{fd}{N ps}{k}{sp:Sp}(F:Fun K x qual st f fd)(S:FnScope N ps (lP st))(len:∀vs H Q E,sp vs H Q E->vs.length=ps.length)(Qb:∀(Pb:ah)(A:cE)(outer:List Env)(s:ax)(H:Hp)(vs:List V)(Q:VK)(E:XK),Room k (A.deeper (eU qual (lP st) s.heap.objs.size f Pb))->sp vs H Q E ->
   ∃t,PSs (Ec (CXo P w) P w K mg base N qual (lP st) f Pb A outer s H E).nox (nq st) t/\t { nx:=λ_ H'=>Q .non H',rt:=Q } (start N vs) H):FnOk P w K mg base (CXo P w) (k+1) f fd ps sp:=by
 obtain⟨oc,od,kV,P9,pm,an,Pb,ct,Ra,rfl,lk,Ql⟩:=F.ex;refine Nk lk Ql S len λA outer s H vs Q E hr Q3=>?_;obtain⟨t,h,q⟩:=Qb Pb A outer s H vs Q E hr Q3;exact⟨t,h.nox,q⟩
def Fun.okX{x qual}{st}{f}{fd}{N ps}{k}{sp:Sp}(F:Fun K x qual st f fd)(S:FnScope N ps (lP st))(len:∀vs H Q E,sp vs H Q E->vs.length=ps.length)(Qb:∀(Pb:ah)(A:cE)(outer:List Env)(s:ax)(H:Hp)(vs:List V)(Q:VK)(E:XK),Room k (A.deeper (eU qual (lP st) s.heap.objs.size f Pb))->sp vs H Q E ->
   ∃t,PSs (Ec (CXo P w) P w K mg base N qual (lP st) f Pb A outer s H E) (nq st) t/\t { nx:=λ_ H'=>Q .non H',rt:=Q } (start N vs) H):FnOk P w K mg base (CXo P w) (k+1) f fd ps sp:=by
 obtain⟨oc,od,kV,P9,pm,an,Pb,ct,Ra,rfl,lk,Ql⟩:=F.ex;exact Nk lk Ql S len λA outer s H vs Q E hr Q3=>Qb Pb A outer s H vs Q E hr Q3
end
def Gu(n:Nat)(R:Nat->List V->Hp->Prop)(h0:R 0 [] (upd H1 D (.lst [])))(hn:n<=aJ)(hD:∀i ys H,R i ys H->H D=Za (.lst ys))(hgo:∀i ys H,i<n->R i ys H->J.go i H)(Tg:∀i ys H x H',i<n->R i ys H->J.yld i H x H'->∀(Kt:VK)(Kf:Hp->Prop),(∀v H5,H5 D=Za (.lst ys)->R (i+1) (ys++[v]) (upd H5 D (.lst (ys++[v])))->Kt v H5)->(∀H4,R (i+1) ys H4->Kf H4) ->
   tc (Za x::cap) H' λb H4=>if b=true then te (Za x::cap) H4 Kt else Kf H4)(Vw:∀ys H,ys.length<=n->R n ys H->J.stop n H/\Q (.ref D) H) :
  CompB J tc te cap D H1 Q:=by
 refine⟨λi m ys H=>i<=n/\m=n-i/\ys.length<=i/\R i ys H,⟨n,aX _,by simp,aX _,h0⟩,?_⟩
 rintro i m ys H2 ⟨hi,rfl,hl,r⟩
 by_cases Pd:i<n
 ·refine .inr ⟨hgo i ys H2 Pd r,λx H3 y=>Tg i ys H2 x H3 Pd r y _ _ (λv H5 e r'=>⟨e,by lia,n-(i+1),by lia,Pd,rfl,by rw[aM];simp;lia,r'⟩) λH4 r'=>⟨n-(i+1),by lia,Pd,rfl,by lia,r'⟩⟩
 ·have e:i=n:=by lia
  subst e;obtain⟨h1,h2⟩:=Vw ys H2 hl r;exact .inl ⟨h1,hD i ys H2 r,h2⟩
def C1:bP "len"=Za (.builtin "len"):=by decide +kernel
def uQ:bP "sorted"=Za (.builtin "sorted"):=by decide +kernel
def OO:bP "abs"=Za (.builtin "abs"):=by decide +kernel
def Kq:bP "all"=Za (.builtin "all"):=by decide +kernel
def ON:bP "int"=Za (.type "int"):=by decide +kernel
def Jz:bP "tuple"=Za (.type "tuple"):=by decide +kernel
def MG:bP "list"=Za (.type "list"):=by decide +kernel
def OM:bP "str"=Za (.type "str"):=by decide +kernel
end L2
set_option maxHeartbeats 4000000
namespace My
open PySem L2
abbrev Same:=L2.Same
def qe(h:H p=Zb):Same H (upd H p o):=λb u e=>by rw[lK (lR e h)];exact e
def nbT(h:(!b)=true):b=false:=by cases b<;>first|rfl|cases h
def nbF(h:¬(!b)=true):b=true:=by cases b<;>first|rfl|exact absurd rfl h
structure Ent where
 nm:Str
 th:Int
 mr:Int
 ls:Int
 held:List (Str×Int×Int)
structure BA where
 dx:ak
 dp:ak
 dt:ak
 dm:ak
 dl:ak
 dh:ak
def bf(z:BA):List (Str×V):=[(("people":Str),V.ref z.dp),("things_of",.ref z.dt),("mark_of",.ref z.dm),("loss_of",.ref z.dl),("held_of",.ref z.dh)]
def nS{g f:Str}{v:V}{r:List (Str×V)}(h:¬f=g):da f ((g,v)::r)=da f r:=by
 rw[bJ];have:(f==g)=false:=by simpa using h
 rw[this]
def wU{f:Str}{v:V}{r:List (Str×V)}:da f ((f,v)::r)=Za v:=by rw[bJ];simp
def rX(z:BA):(bf z).lookup ("people":Str)=Za (V.ref z.dp):=wU
def uR(z:BA):(bf z).lookup ("things_of":Str)=Za (V.ref z.dt):=by unfold bf;rw[nS (by decide +kernel)];exact wU
def CI(z:BA):(bf z).lookup ("mark_of":Str)=Za (V.ref z.dm):=by unfold bf;rw[nS (by decide +kernel),nS (by decide +kernel)];exact wU
def CJ(z:BA):(bf z).lookup ("loss_of":Str)=Za (V.ref z.dl):=by unfold bf;rw[nS (by decide +kernel),nS (by decide +kernel),nS (by decide +kernel)];exact wU
def rK(z:BA):(bf z).lookup ("held_of":Str)=Za (V.ref z.dh):=by unfold bf;rw[nS (by decide +kernel),nS (by decide +kernel),nS (by decide +kernel),nS (by decide +kernel)];exact wU
def rP(z:BA){m:Str}(h1:¬m="people":=by decide +kernel)(h2:¬m="things_of":=by decide +kernel)(h3:¬m="mark_of":=by decide +kernel)(h4:¬m="loss_of":=by decide +kernel)(h5:¬m="held_of":=by decide +kernel):(bf z).lookup m=none:=by unfold bf;rw[nS h1,nS h2,nS h3,nS h4,nS h5];rfl
def HeldAt(K:aa)(H:Hp)(p:ak)(l:List (Str×Int×Int)):Prop :=
 ∃ts:List ak,ts.length=l.length/\H p=Za (.dK ((l.zip ts).map λq=>(ag q.1.1,V.ref q.2)))/\∀q∈l.zip ts,SqT K H q.2 [.int q.1.2.1,.int q.1.2.2]
def PmAt(H:Hp)(d:ak)(S:List (Key×V)):Prop:=∃T:List (Key×V),H d=Za (.dK T)/\T.Perm S/\(S.map (·.1)).Nodup
theorem yC:∀{l:List (Key×V)},(l.map (·.1)).Nodup->(om l k=Za v↔(k,v)∈l)
 |[],_=>⟨λh=>(by cases h),λh=>(by cases h)⟩
 |x::r,h=>by
  obtain⟨h1,h2⟩:=ar.mp h;have ih:=yC (k:=k) (v:=v) h2;unfold om at ih ⊢;rw[bG];by_cases e:x.1=k
  ·rw[Zg e];constructor
   ·intro q;have q:x.2=v:=aO q;rw[<-q,<-e];exact ai
   ·intro q;rcases af.mp q with q|q
    ·rw[<-q];rfl
    ·exact absurd (aj.mpr ⟨(k,v),q,rfl⟩) (by rw[<-e];exact h1)
  ·rw[Zh e];refine ih.trans ⟨λq=>ae _ q,λq=>?_⟩;rcases af.mp q with q|q
   ·exact absurd (by rw[<-q]) e
   ·exact q
def Dq(p:T.Perm S)(nd:(S.map (·.1)).Nodup)(k:Key):om T k=om S k:=by apply Option.ext;intro v;rw[yC ((p.map (·.1)).nodup_iff.mpr nd),yC nd,p.mem_iff]
def PmAt.keep(h:PmAt H d S)(k:∀o,H d=Za o->H' d=Za o):PmAt H' d S:=by obtain⟨T,e,p,n⟩:=h;exact⟨T,k _ e,p,n⟩
def PmAt.dget(h:PmAt H d S)(x:Str):DGet H d (kV (ag x)) (om S (ag x)):=by obtain⟨T,e,p,n⟩:=h;rw[<-Dq p n];exact DGet.k e
def PmAt.keys{H:Hp}{d:ak}{α:Type}{L:List α}{key:α->Str}{v:α->V}(h:PmAt H d (L.map λe=>((ag (key e):Key),v e))):∃(T:List (Key×V))(ss:List Str),H d=Za (.dK T)/\T.map (·.1)=ss.map ag/\ss.Perm (L.map key):=by
 obtain⟨T,e,p,n⟩:=h;have q:=p.map (·.1);rw[aA] at q;refine⟨T,(T.map (·.1)).map λk=>match k with|.inr s=>s|.inl _=>cC,e,?_,?_⟩
 ·rw[aA];refine((jo _).symm.trans (aQ λk hk=>?_));have:=q.mem_iff.mp hk;obtain⟨x,_,rfl⟩:=aj.mp this;rfl
 ·have:=q.map λk:Key=>match k with|.inr s=>s|.inl _=>cC
  have e2:(L.map ((λx=>x.1)∘λe=>((ag (key e):Key),v e))).map (λk:Key=>match k with|.inr s=>s|.inl _=>cC)=L.map key:=by rw[aA];rfl
  rw[e2] at this;exact this
structure BookAt(K:aa)(C:ak)(H:Hp)(b:ak)(z:BA)(O3:List Str)(L:List (Ent×ak)):Prop where
 ob:H b=Za (.ins C z.dx (bf z))
 pp:H z.dp=Za (.dK (O3.map λn=>(ag n,.bl true)))
 tt:H z.dt=Za (.dK (L.map λe=>(ag e.1.nm,.int e.1.th)))
 mm:H z.dm=Za (.dK (L.map λe=>(ag e.1.nm,.int e.1.mr)))
 ll:H z.dl=Za (.dK (L.map λe=>(ag e.1.nm,.int e.1.ls)))
 hh:PmAt H z.dh (L.map λe=>(ag e.1.nm,.ref e.2))
 he:∀e∈L,HeldAt K H e.2 e.1.held
 nd:(b::z.dp::z.dt::z.dm::z.dl::z.dh::L.map (·.2)).Nodup
 p6:O3.length<=6
 h8:L.length<=8
def BFp(b:ak)(z:BA)(L:List (Ent×ak)):List ak:=b::z.dp::z.dt::z.dm::z.dl::z.dh::L.map (·.2)
def tm{K}(h:SqT K H t xs)(k:∀c o,H c=Za o->(∃xs,o=.tup xs\/∃ob,o=.frz ob (.tup xs))->H' c=Za o):SqT K H' t xs:=by
 rcases h with(h|⟨ob,h⟩)|h
 ·exact .inl (.inl (k _ _ h ⟨xs,.inl rfl⟩))
 ·exact .inl (.inr ⟨ob,k _ _ h ⟨xs,.inr ⟨ob,rfl⟩⟩⟩)
 ·exact .inr h
def HeldAt.keep{K}(h:HeldAt K H p l)(hp:∀o,H p=Za o->H' p=Za o)(k:∀c o,H c=Za o->(∃xs,o=.tup xs\/∃ob,o=.frz ob (.tup xs))->H' c=Za o):HeldAt K H' p l:=by obtain⟨ts,e1,e2,e3⟩:=h;exact⟨ts,e1,hp _ e2,λq hq=>tm (e3 q hq) k⟩
theorem BookAt.keep{K}(B:BookAt K C H b z O3 L)(k:∀c o,H c=Za o->(c∈BFp b z L\/∃xs,o=.tup xs\/∃ob,o=.frz ob (.tup xs))->H' c=Za o):BookAt K C H' b z O3 L:=by refine⟨k _ _ B.ob (.inl (by simp[BFp])),k _ _ B.pp (.inl (by simp[BFp])),k _ _ B.tt (.inl (by simp[BFp])),k _ _ B.mm (.inl (by simp[BFp])),k _ _ B.ll (.inl (by simp[BFp])),B.hh.keep (λo h=>k _ _ h (.inl (by simp[BFp]))),λe he=>?_,B.nd,B.p6,B.h8⟩;refine(B.he e he).keep (λo h=>k _ _ h (.inl ?_)) λc o h x=>k c o h (.inr x);unfold BFp;simp only[af];right;right;right;right;right;right;exact aj.mpr ⟨e,he,rfl⟩
def BookAt.same{K}(B:BookAt K C H b z O3 L)(s:Same H H'):BookAt K C H' b z O3 L:=B.keep λc o h _=>s c o h
def oI(L:List (Ent×ak))(n:Str):Bool:=(L.find? λe=>decide (e.1.nm=n)).isSome
def oH(O3:List Str)(n:Str):Bool:=(O3.find? λm=>decide (m=n)).isSome
def p8(l:List α)(key:α->Str)(v:α->V)(n:Str):om (l.map λe=>((ag (key e):Key),v e)) (ag n)=(l.find? λe=>decide (key e=n)).map v:=by
 unfold om;rw[fc,Option.map_map];have e:((λkv:Key×V=>decide (kv.1=ag n))∘λe=>((ag (key e):Key),v e))=λe=>decide (key e=n):=by
  funext x
  show decide ((ag (key x):Key)=ag n)=decide (key x=n);rw[Ar]
 rw[e];rfl
end My
namespace L2
open PySem PySem.Spec PyProof.Rows
abbrev fzO(o:Obj):HO:=.frz o (.own 0)
def fz(H:Hp)(cs:List (ak×Obj)):Hp:=λb=>match cs.lookup b with
 |some o=>Za (fzO o)
 |none=>H b
section
variable{H:Hp}{cs:List (ak×Obj)}{b:ak}{o:Obj}
end
section
variable{P:aK}{w:a6}{K:aa}{mg:Str->Option ah}{base:bx}{A:cE}{outer:List Env}{s s':ax}{H H2:Hp}{cs:List (ak×Obj)}
end
structure LamOk(scope:dM)(x:Str)(fr:List Str):Prop where
 kind:scope.kind=.function
 co:scope.isCoroutine=false
 gen:scope.isGenerator=false
 cell:∀y∈scope.names,y.2≠.cell
 par:scope.names.lookup x=Za .local
 frs:∀y∈fr,scope.names.lookup y=Za .free
 nd:(x::fr).Nodup
structure CloOk(scope:dM)(fr:List Str)(cl:List (Str×ak))(cs:List (ak×Obj))(Sg:List V):Prop where
 has:∀y,scope.names.lookup y=Za .free->∃c,cl.lookup y=Za c
 inj:∀y z c,cl.lookup y=Za c->cl.lookup z=Za c->y=z
 cel:∀y c,cl.lookup y=Za c->∃o u,cs.lookup c=Za o/\o.data=.cell u
 val:∀(i:Nat)(y:Str)(v:V),fr[i]?=Za y->Sg[i]?=Za v->∃c o u,cl.lookup y=Za c/\cs.lookup c=Za o/\o.data=.cell (Za u)/\RelV v u
 len:Sg.length=fr.length
section
variable{P:aK}{w:a6}{K:aa}{mg:Str->Option ah}{base:bx}{CX:CXT}{k:Nat}{f c':ak}{qual x:Str}{params:jT}{body:bo}{scope:dM}{cl:List (Str×ak)}{cs:List (ak×Obj)}{pm ctv:ah}{fr:List Str}{Sg:List V}{oc:Obj}
end
section
variable{X:Cx}{CX:CXT}{k i:Nat}{x:Str}{p pos:Pos}{e:bo}{es:List bo}{t:TA}{E:XK}
end
section
variable{X:Cx}{CX:CXT}{k:Nat}{f:ak}{fd:cz}{ps:List Str}{sp:Sp}{E:XK}
end
def Nt(H:Hp)(P:ak)(q:Str):Prop:=∃ps,H P=Za (.tbl ps)/\TriplesOk ps.toList/\∀pos c,codeAmong pos ps.toList=Za c->∃c' oc,c=.ref c'/\H c'=Za (fzO oc)/\∃vs tq,oc.data=.fields vs/\vs[1]?=Za (.str q tq)
section
variable{X:Cx}{params:jT}{body:bo}{scope:dM}{pos:Pos}{cd P:ak}{q:Str}
structure LamTxt(K:aa)(mg:Str->Option ah)(base:bx)(cd P:ak):Prop where
 hd:∀h:bx,K.In h->PySem.W.CodeHd h cd P
 nP:P≠ba
 bm:∃bm o,mg "__builtins__"=Za (.ref bm)/\bm≠jk/\bm≠ba/\bm≠P/\base.get? bm=Za o/\o.cls=.type "module"/\o.dict=Za jk/\o.data=.plain
end
def Odd(u:HO):Prop:=(∃ps,u=.tbl ps)\/∃ob x,u=.frz ob (.own x)
def TbS(H H':Hp):Prop:=(∀a ps,H a=Za (.tbl ps)->∃RM,H' a=Za (.tbl RM))/\∀P q,Nt H P q->Nt H' P q
def TbS.of(k:∀a o,H a=Za o->Odd o->H' a=Za o):TbS H H':=⟨λa ps h=>⟨ps,k a _ h (.inl ⟨ps,rfl⟩)⟩,λP q ⟨ps,h,t,g⟩=>⟨ps,k P _ h (.inl ⟨ps,rfl⟩),t,λp c e=>by obtain⟨c',oc,a1,a2,a3⟩:=g p c e;exact⟨c',oc,a1,k c' _ a2 (.inr ⟨oc,0,rfl⟩),a3⟩⟩⟩
def TbS.same(k:Same H H'):TbS H H':=.of λa o h _=>k a o h
theorem TbS.upd(h:H d=Za u)(n:¬Odd u):TbS H (upd H d o):=.of λa o' h' od=>by rw[lK (show a≠d from λz=>by rw[z,h] at h';cases h';exact n od)];exact h'
def EU:¬Odd (.dK kvs):=λz=>by rcases z with⟨_,z⟩|⟨_,_,z⟩<;>cases z
def An:¬Odd (.lst xs):=λz=>by rcases z with⟨_,z⟩|⟨_,_,z⟩<;>cases z
def no_dT:¬Odd (.dT kvs):=λz=>by rcases z with⟨_,z⟩|⟨_,_,z⟩<;>cases z
def J4:¬Odd (.ins C dx fs):=λz=>by rcases z with⟨_,z⟩|⟨_,_,z⟩<;>cases z
def Oe:¬Odd (.frz ob (.dK kvs)):=λz=>by rcases z with⟨_,z⟩|⟨_,_,z⟩<;>cases z
def Em:List Str:=["rules"]
def Tab(K:aa)(P:ak)(q:Str):Prop:=∃x∈Em,∃c,PySem.W.tabIn K x=Za (c,P)/\q=x++".<locals>.<lambda>"
inductive PV where
 |non|bl (b:Bool)|int (i:Int)|str (x:Str)|tup (l:List PV)|lst (l:List PV)|dct (l:List (Key×PV))|ref (n:Nat)|exc (c:ak)|seq (l:List PV)|clo (a:ak) (vs:List V) (l:List PV)
inductive Cell where
 |lst (l:List PV)|dct (l:List (Key×PV))|book (pp:List Str) (L:List My.Ent)|obj (C:ak) (fs:List (Str×PV))|dfz (l:List (Key×PV))|dtt (l:List (List Key×PV))
structure Sto where
 nx:Nat
 cs:List (Nat×Cell)
structure Mp where
 ad:Nat->ak
 fp:Nat->List ak
 hid:List ak
def qk:List (Nat×Cell)->Nat->Option Cell
 |[],_=>Zb
 |(k,c)::r,n=>if k=n then Za c else qk r n
def tu(n:Nat)(c:Cell):List (Nat×Cell)->List (Nat×Cell)
 |[]=>[]
 |(k,d)::r=>if k=n then(n,c)::r else(k,d)::tu n c r
def CF(n:Nat):List (Nat×Cell)->List (Nat×Cell)
 |[]=>[]
 |(k,d)::r=>if k=n then r else(k,d)::CF n r
def Sto.get(s:Sto)(n:Nat):Option Cell:=qk s.cs n
def Sto.set(s:Sto)(n:Nat)(c:Cell):Sto:=⟨s.nx,tu n c s.cs⟩
def Sto.del(s:Sto)(n:Nat):Sto:=⟨s.nx,CF n s.cs⟩
def Sto.add(s:Sto)(c:Cell):Sto:=⟨s.nx+1,(s.nx,c)::s.cs⟩
theorem oJ:∀{l:List (Nat×Cell)},qk l n=Za c->(n,c)∈l
 |(k,d)::r,h=>by
  unfold qk at h;split at h
  ·rename_i e;cases h;subst e;exact ai
  ·exact ae _ (oJ h)
theorem DC:∀{l:List (Nat×Cell)},(l.map (·.1)).Nodup->q∈tu n c l->q=(n,c)\/(q∈l/\q.1≠n)
 |(k,d)::r,nd,h=>by
  unfold tu at h;obtain⟨n1,n2⟩:=ar.mp (show(k::r.map (·.1)).Nodup from nd);split at h
  ·rename_i e;rcases af.mp h with h|h
   ·exact .inl h
   ·exact .inr ⟨ae _ h,λz=>n1 (by rw[e,<-z];exact aj.mpr ⟨q,h,rfl⟩)⟩
  ·rename_i e;rcases af.mp h with h|h
   ·subst h;exact .inr ⟨ai,e⟩
   ·rcases DC n2 h with h|⟨h,h'⟩
    ·exact .inl h
    ·exact .inr ⟨ae _ h,h'⟩
theorem pR:∀{l:List (Nat×Cell)},(tu n c l).map (·.1)=l.map (·.1)
 |[]=>rfl
 |(k,d)::r=>by
  unfold tu;split
  ·rename_i e;simp[e]
  ·simp[pR]
theorem uH:∀{l:List (Nat×Cell)},q∈CF n l->q∈l
 |(k,d)::r,h=>by
  unfold CF at h;split at h
  ·exact ae _ h
  ·rcases af.mp h with h|h
   ·subst h;exact ai
   ·exact ae _ (uH h)
theorem Go:∀{l:List (Nat×Cell)},(l.map (·.1)).Nodup->((CF n l).map (·.1)).Nodup
 |[],_=>gc
 |(k,d)::r,nd=>by
  obtain⟨n1,n2⟩:=ar.mp (show(k::r.map (·.1)).Nodup from nd);unfold CF;split
  ·exact n2
  ·refine ar.mpr ⟨λz=>n1 ?_,Go n2⟩;obtain⟨q,hq,e⟩:=aj.mp z;exact aj.mpr ⟨q,uH hq,e⟩
theorem Gn:∀{l:List (Nat×Cell)},(l.map (·.1)).Nodup->q∈CF n l->q.1≠n
 |(k,d)::r,nd,h=>by
  obtain⟨n1,n2⟩:=ar.mp (show(k::r.map (·.1)).Nodup from nd);unfold CF at h;split at h
  ·rename_i e;intro z;exact n1 (by rw[e,<-z];exact aj.mpr ⟨q,h,rfl⟩)
  ·rename_i e;rcases af.mp h with h|h
   ·subst h;exact e
   ·exact Gn n2 h
theorem ug(h:k≠n):∀{l:List (Nat×Cell)},qk (tu n c l) k=qk l k
 |[]=>rfl
 |(j,d)::r=>by
  unfold tu;split
  ·rename_i e;unfold qk;rw[Zd (λz=>h z.symm),Zd (λz=>h (z.symm.trans e))]
  ·unfold qk;split
   ·rfl
   ·exact ug h
theorem uh(h:k≠n):∀{l:List (Nat×Cell)},qk (CF n l) k=qk l k
 |[]=>rfl
 |(j,d)::r=>by
  unfold CF;split
  ·rename_i e
   conv=>rhs;unfold qk
   rw[Zd (λz=>h (z.symm.trans e))]
  ·unfold qk;split
   ·rfl
   ·exact uh h
def Pur(m:Mp)(s:Sto)(a:ak):Prop:=a∉m.hid/\∀n∈s.cs.map (·.1),a∉m.fp n
def KL(K:aa)(a:ak)(xs:List V):Prop:=∃(o:Obj)(its:Array ah)(n:Nat),K.lookup a=Za o/\o.cls=.type "list"/\o.dict=Zb/\o.data=.seq its n/\its.size<=aJ/\Vals xs its.toList
def KT'(K:aa)(a:ak)(xs:List V):Prop:=∃(o:Obj)(its:Array ah)(n:Nat),K.lookup a=Za o/\o.cls=.type "tuple"/\o.data=.seq its n/\its.size<=aJ/\Vals xs its.toList
mutual
inductive Rep (K:aa) (H:Hp) (m:Mp) (s:Sto):V->PV->Prop
 |non:Rep K H m s .non .non
 |bl {b:Bool}:Rep K H m s (.bl b) (.bl b)
 |int {i:Int}:Rep K H m s (.int i) (.int i)
 |str {x:Str}:Rep K H m s (.str x) (.str x)
 |tup {a:ak}{vs:List V}{l:List PV}:(Rd H a (.tup vs)/\Pur m s a\/KT' K a vs)->Reps K H m s vs l->Rep K H m s (.ref a) (.tup l)
 |lst {a:ak}{vs:List V}{l:List PV}:H a=Za (.lst vs)->Pur m s a->Reps K H m s vs l->Rep K H m s (.ref a) (.lst l)
 |seq {a:ak}{vs:List V}{l:List PV}:((∃o,H a=Za (.frz o (.lst vs)))/\Pur m s a\/KL K a vs)->Reps K H m s vs l->Rep K H m s (.ref a) (.seq l)
 |dct {a:ak}{vs:List (Key×V)}{l:List (Key×PV)}:Rd H a (.dK vs)->Pur m s a->RepKs K H m s vs l->Rep K H m s (.ref a) (.dct l)
 |ref {n:Nat}:n<s.nx->Rep K H m s (.ref (m.ad n)) (.ref n)
 |exc {a c:ak}:H a=Za (excO c a)->Pur m s a->Rep K H m s (.ref a) (.exc c)
 |clo {a:ak}{vs:List V}{l:List PV}:Reps K H m s vs l->Rep K H m s (.ref a) (.clo a vs l)
inductive Reps (K:aa) (H:Hp) (m:Mp) (s:Sto):List V->List PV->Prop
 |nil:Reps K H m s [] []
 |cons {v:V}{p:PV}{vs:List V}{l:List PV}:Rep K H m s v p->Reps K H m s vs l->Reps K H m s (v::vs) (p::l)
inductive RepKs (K:aa) (H:Hp) (m:Mp) (s:Sto):List (Key×V)->List (Key×PV)->Prop
 |nil:RepKs K H m s [] []
 |cons {k:Key}{v:V}{p:PV}{vs:List (Key×V)}{l:List (Key×PV)}:Rep K H m s v p->RepKs K H m s vs l->RepKs K H m s ((k,v)::vs) ((k,p)::l)
end
structure ExtR(H:Hp)(m:Mp)(s:Sto)(H':Hp)(m':Mp)(s':Sto):Prop where
 nx:s.nx<=s'.nx
 ad:∀n,n<s.nx->m'.ad n=m.ad n
 pu:∀a u,Rd H a u->Pur m s a->Rd H' a u/\Pur m' s' a
 el:∀a u,H a=Za u->(∀kvs,u≠.dK kvs)->Pur m s a->H' a=Za u
structure Ext0(H:Hp)(m:Mp)(s:Sto)(H':Hp)(m':Mp)(s':Sto):Prop extends ExtR H m s H' m' s' where
 df:∀n l,n<s.nx->qk s.cs n=Za (.dfz l)->qk s'.cs n=Za (.dfz l)/\∀o,H (m.ad n)=Za o->H' (m.ad n)=Za o
structure Ext(H:Hp)(m:Mp)(s:Sto)(H':Hp)(m':Mp)(s':Sto):Prop extends Ext0 H m s H' m' s' where
 hd:m'.hid=m.hid
 hk:∀a∈m.hid,∀o,H a=Za o->(∀ps,o≠.tbl ps)->H' a=Za o
def Ext.refl:Ext H m s H m s:=⟨⟨⟨am _,λ_ _=>rfl,λ_ _ h p=>⟨h,p⟩,λ_ _ h _ _=>h⟩,λ_ _ _ h=>⟨h,λ_ h=>h⟩⟩,rfl,λ_ _ _ h _=>h⟩
theorem Ext0.trans(a:Ext0 H m s H1 m1 s1)(b:Ext0 H1 m1 s1 H2 m2 s2):Ext0 H m s H2 m2 s2 :=
 ⟨⟨aI a.nx b.nx,λn h=>(b.ad n (ay h a.nx)).trans (a.ad n h),λc u h p=>let⟨h1,p1⟩:=a.pu c u h p;b.pu c u h1 p1,λc x h n p=>b.el c x (a.el c x h n p) n (a.pu c _ (.inl h) p).2⟩,λn l hn h=>by obtain⟨h1,k1⟩:=a.df n l hn h;obtain⟨h2,k2⟩:=b.df n l (ay hn a.nx) h1;rw[a.ad n hn] at k2;exact⟨h2,λo h=>k2 o (k1 o h)⟩⟩
theorem Ext.trans(a:Ext H m s H1 m1 s1)(b:Ext H1 m1 s1 H2 m2 s2):Ext H m s H2 m2 s2 :=
 ⟨a.toExt0.trans b.toExt0,b.hd.trans a.hd,λc hc o h n=>b.hk c (by rw[a.hd];exact hc) o (a.hk c hc o h n) n⟩
def Rd.same(k:Same H H')(h:Rd H a u):Rd H' a u:=h.elim (λh=>.inl (k _ _ h)) λ⟨o,h⟩=>.inr ⟨o,k _ _ h⟩
def Rd.ne(h:Rd H a u)(hb:H b=Zb):a≠b:=h.elim (λh=>lR h hb) λ⟨_,h⟩=>lR h hb
theorem Ext.same(k:Same H H'):Ext H m s H' m s:=⟨⟨⟨am _,λ_ _=>rfl,λ_ _ h p=>⟨h.same k,p⟩,λ_ _ h _ _=>k _ _ h⟩,λ_ _ _ h=>⟨h,λo h=>k _ _ h⟩⟩,rfl,λ_ _ _ h _=>k _ _ h⟩
mutual
theorem Rep.ext0{K}{H H'}{m m'}{s s'}(e:ExtR H m s H' m' s'):∀{v:V}{p:PV},Rep K H m s v p->Rep K H' m' s' v p
 |_,_,.non=>.non
 |_,_,.bl=>.bl
 |_,_,.int=>.int
 |_,_,.str=>.str
 |_,_,.tup h r=>.tup (h.imp (λz=>e.pu _ _ z.1 z.2) λz=>z) (Reps.ext0 e r)
 |_,_,.lst h p r=>.lst (e.el _ _ h (by intro _ z;cases z) p) (e.pu _ _ (.inl h) p).2 (Reps.ext0 e r)
 |_,_,.seq h r=>.seq (h.imp (λ⟨⟨o,z⟩,p⟩=>⟨⟨o,e.el _ _ z (by intro _ z;cases z) p⟩,(e.pu _ _ (.inl z) p).2⟩) λz=>z) (Reps.ext0 e r)
 |_,_,.dct h p r=>.dct (e.pu _ _ h p).1 (e.pu _ _ h p).2 (RepKs.ext0 e r)
 |_,_,.ref (n:=n) h=>by rw[<-e.ad _ h];exact .ref (ay h e.nx)
 |_,_,.exc h p=>.exc (e.el _ _ h (by intro _ z;cases z) p) (e.pu _ _ (.inl h) p).2
 |_,_,.clo r=>.clo (Reps.ext0 e r)
theorem Reps.ext0{K}{H H'}{m m'}{s s'}(e:ExtR H m s H' m' s'):∀{v:List V}{p:List PV},Reps K H m s v p->Reps K H' m' s' v p
 |_,_,.nil=>.nil
 |_,_,.cons a b=>.cons (Rep.ext0 e a) (Reps.ext0 e b)
theorem RepKs.ext0{K}{H H'}{m m'}{s s'}(e:ExtR H m s H' m' s'):∀{v:List (Key×V)}{p:List (Key×PV)},RepKs K H m s v p->RepKs K H' m' s' v p
 |_,_,.nil=>.nil
 |_,_,.cons a b=>.cons (Rep.ext0 e a) (RepKs.ext0 e b)
end
def Rep.ext{K}{H H'}{m m'}{s s'}(e:Ext H m s H' m' s'){v}{p}(r:Rep K H m s v p):Rep K H' m' s' v p:=r.ext0 e.toExtR
def Reps.ext{K}{H H'}{m m'}{s s'}(e:Ext H m s H' m' s'){v}{p}(r:Reps K H m s v p):Reps K H' m' s' v p:=r.ext0 e.toExtR
def RepKs.ext{K}{H H'}{m m'}{s s'}(e:Ext H m s H' m' s'){v}{p}(r:RepKs K H m s v p):RepKs K H' m' s' v p:=r.ext0 e.toExtR
mutual
inductive Old (k:Nat):PV->Prop
 |non:Old k .non
 |bl {b:Bool}:Old k (.bl b)
 |int {i:Int}:Old k (.int i)
 |str {x:Str}:Old k (.str x)
 |tup {l:List PV}:Olds k l->Old k (.tup l)
 |lst {l:List PV}:Olds k l->Old k (.lst l)
 |seq {l:List PV}:Olds k l->Old k (.seq l)
 |dct {l:List (Key×PV)}:OldKs k l->Old k (.dct l)
 |ref {n:Nat}:n<k->Old k (.ref n)
 |exc {c:ak}:Old k (.exc c)
 |clo {a:ak}{vs:List V}{l:List PV}:Olds k l->Old k (.clo a vs l)
inductive Olds (k:Nat):List PV->Prop
 |nil:Olds k []
 |cons {p:PV}{l:List PV}:Old k p->Olds k l->Olds k (p::l)
inductive OldKs (k:Nat):List (Key×PV)->Prop
 |nil:OldKs k []
 |cons {q:Key}{p:PV}{l:List (Key×PV)}:Old k p->OldKs k l->OldKs k ((q,p)::l)
end
structure Sub(m:Mp)(s:Sto)(m':Mp)(s':Sto):Prop where
 pu:∀a,Pur m s a->Pur m' s' a
 ad:∀n,n<s'.nx->m'.ad n=m.ad n
mutual
theorem Rep.sub{K}{H}{m m'}{s s'}(e:Sub m s m' s'):∀{v:V}{p:PV},Old s'.nx p->Rep K H m s v p->Rep K H m' s' v p
 |_,_,_,.non=>.non
 |_,_,_,.bl=>.bl
 |_,_,_,.int=>.int
 |_,_,_,.str=>.str
 |_,_,.tup o,.tup h r=>.tup (h.imp (λz=>⟨z.1,e.pu _ z.2⟩) λz=>z) (Reps.sub e o r)
 |_,_,.lst o,.lst h p r=>.lst h (e.pu _ p) (Reps.sub e o r)
 |_,_,.seq o,.seq h r=>.seq (h.imp (λz=>⟨z.1,e.pu _ z.2⟩) λz=>z) (Reps.sub e o r)
 |_,_,.dct o,.dct h p r=>.dct h (e.pu _ p) (RepKs.sub e o r)
 |_,_,.ref o,.ref _=>by rw[<-e.ad _ o];exact .ref o
 |_,_,_,.exc h p=>.exc h (e.pu _ p)
 |_,_,.clo o,.clo r=>.clo (Reps.sub e o r)
theorem Reps.sub{K}{H}{m m'}{s s'}(e:Sub m s m' s'):∀{v:List V}{p:List PV},Olds s'.nx p->Reps K H m s v p->Reps K H m' s' v p
 |_,_,_,.nil=>.nil
 |_,_,.cons o q,.cons a b=>.cons (Rep.sub e o a) (Reps.sub e q b)
theorem RepKs.sub{K}{H}{m m'}{s s'}(e:Sub m s m' s'):∀{v:List (Key×V)}{p:List (Key×PV)},OldKs s'.nx p->RepKs K H m s v p->RepKs K H m' s' v p
 |_,_,_,.nil=>.nil
 |_,_,.cons o q,.cons a b=>.cons (Rep.sub e o a) (RepKs.sub e q b)
end
mutual
theorem Rep.old{K}{H}{m}{s}:∀{v:V}{p:PV},Rep K H m s v p->Old s.nx p
 |_,_,.non=>.non
 |_,_,.bl=>.bl
 |_,_,.int=>.int
 |_,_,.str=>.str
 |_,_,.tup _ r=>.tup (Reps.old r)
 |_,_,.lst _ _ r=>.lst (Reps.old r)
 |_,_,.seq _ r=>.seq (Reps.old r)
 |_,_,.dct _ _ r=>.dct (RepKs.old r)
 |_,_,.ref h=>.ref h
 |_,_,.exc _ _=>.exc
 |_,_,.clo r=>.clo r.old
theorem Reps.old{K}{H}{m}{s}:∀{v:List V}{p:List PV},Reps K H m s v p->Olds s.nx p
 |_,_,.nil=>.nil
 |_,_,.cons a b=>.cons (Rep.old a) (Reps.old b)
theorem RepKs.old{K}{H}{m}{s}:∀{v:List (Key×V)}{p:List (Key×PV)},RepKs K H m s v p->OldKs s.nx p
 |_,_,.nil=>.nil
 |_,_,.cons a b=>.cons (Rep.old a) (RepKs.old b)
end
def RepFs(K:aa)(H:Hp)(m:Mp)(s:Sto)(fs':List (Str×V))(fs:List (Str×PV)):Prop:=fs'.map (·.1)=fs.map (·.1)/\Reps K H m s (fs'.map (·.2)) (fs.map (·.2))
def RepTs(K:aa)(H:Hp)(m:Mp)(s:Sto)(fs':List (List Key×V))(fs:List (List Key×PV)):Prop:=fs'.map (·.1)=fs.map (·.1)/\Reps K H m s (fs'.map (·.2)) (fs.map (·.2))
def CellOk(K:aa)(CB:ak)(H:Hp)(m:Mp)(s:Sto)(n:Nat):Cell->Prop
 |.lst l=>m.fp n=[m.ad n]/\∃vs,H (m.ad n)=Za (.lst vs)/\Reps K H m s vs l
 |.dct l=>m.fp n=[m.ad n]/\∃vs,H (m.ad n)=Za (.dK vs)/\RepKs K H m s vs l
 |.dfz l=>m.fp n=[m.ad n]/\∃ob vs,H (m.ad n)=Za (.frz ob (.dK vs))/\RepKs K H m s vs l
 |.book pp L=>∃z L',My.BookAt K CB H (m.ad n) z pp L'/\L'.map (·.1)=L/\m.fp n=My.BFp (m.ad n) z L'
 |.obj C fs=>m.fp n=[m.ad n]/\∃dx fs',H (m.ad n)=Za (.ins C dx fs')/\RepFs K H m s fs' fs
 |.dtt l=>m.fp n=[m.ad n]/\∃vs,H (m.ad n)=Za (.dT vs)/\RepTs K H m s vs l
structure SR(K:aa)(CB:ak)(H:Hp)(m:Mp)(s:Sto):Prop where
 nd:(s.cs.map (·.1)).Nodup
 lt:∀n∈s.cs.map (·.1),n<s.nx
 ok:∀q∈s.cs,CellOk K CB H m s q.1 q.2
 dj:∀n∈s.cs.map (·.1),∀k∈s.cs.map (·.1),n≠k->∀a∈m.fp n,a∉m.fp k
 hx:∀n∈s.cs.map (·.1),∀a∈m.fp n,a∉m.hid
 hs:∀a∈m.hid,H a≠Zb/\∀xs o,H a≠Za (.tup xs)/\H a≠Za (.frz o (.tup xs))/\H a≠Za (.frz o (.lst xs))/\∀x,H a≠Za (.frz o (.own x))
 tb:∀P q,Tab K P q->P∈m.hid/\Nt H P q
def SR.tbk{K}{CB}{H H'}{m}{s}(S:SR K CB H m s)(e:TbS H H'):∀P q,Tab K P q->P∈m.hid/\Nt H' P q:=λP q t=>⟨(S.tb P q t).1,e.2 P q (S.tb P q t).2⟩
def CellOk.kind{K}{CB}{H}{m}{s}{n}{c}(h:CellOk K CB H m s n c){a}(ha:a∈m.fp n):∃o,H a=Za o/\(∀xs,o≠.tup xs)/\(∀ob xs,o≠.frz ob (.tup xs)/\o≠.frz ob (.lst xs))/\¬Odd o:=by
 cases c with
 |lst l=>obtain⟨e,vs,h,_⟩:=h;rw[e,aq] at ha;subst ha;exact⟨_,h,(by intro _ z;cases z),(λ_ _=>⟨(by intro z;cases z),(by intro z;cases z)⟩),An⟩
 |dct l=>obtain⟨e,vs,h,_⟩:=h;rw[e,aq] at ha;subst ha;exact⟨_,h,(by intro _ z;cases z),(λ_ _=>⟨(by intro z;cases z),(by intro z;cases z)⟩),EU⟩
 |dfz l=>obtain⟨e,ob,vs,h,_⟩:=h;rw[e,aq] at ha;subst ha;exact⟨_,h,(by intro _ z;cases z),(λ_ _=>⟨(by intro z;cases z),(by intro z;cases z)⟩),Oe⟩
 |obj C fs=>obtain⟨e,dx,vs,h,_⟩:=h;rw[e,aq] at ha;subst ha;exact⟨_,h,(by intro _ z;cases z),(λ_ _=>⟨(by intro z;cases z),(by intro z;cases z)⟩),J4⟩
 |dtt l=>obtain⟨e,vs,h,_⟩:=h;rw[e,aq] at ha;subst ha;exact⟨_,h,(by intro _ z;cases z),(λ_ _=>⟨(by intro z;cases z),(by intro z;cases z)⟩),no_dT⟩
 |book pp L =>
  obtain⟨z,L',B,_,e⟩:=h;rw[e] at ha;unfold My.BFp at ha;have d:∀{c:ak}{kvs:List (Key×V)},H c=Za (.dK kvs)->∃o,H c=Za o/\(∀xs,o≠.tup xs)/\(∀ob xs,o≠.frz ob (.tup xs)/\o≠.frz ob (.lst xs))/\¬Odd o:=λh=>⟨_,h,(by intro _ z;cases z),(λ_ _=>⟨(by intro z;cases z),(by intro z;cases z)⟩),EU⟩;simp only[af] at ha;rcases ha with rfl|rfl|rfl|rfl|rfl|rfl|ha
  ·exact⟨_,B.ob,(by intro _ z;cases z),(λ_ _=>⟨(by intro z;cases z),(by intro z;cases z)⟩),J4⟩
  ·exact d B.pp
  ·exact d B.tt
  ·exact d B.mm
  ·exact d B.ll
  ·obtain⟨T,e,_⟩:=B.hh;exact d e
  ·obtain⟨q,hq,rfl⟩:=aj.mp ha;obtain⟨ts,_,h2,_⟩:=B.he q hq;exact d h2
def SR.pure_none{K}{CB}{H}{m}{s}(S:SR K CB H m s){a}(h:H a=Zb):Pur m s a:=⟨λz=>(S.hs a z).1 h,λn hn ha=>by obtain⟨q,hq,rfl⟩:=aj.mp hn;obtain⟨o,e,_⟩:=(S.ok q hq).kind ha;rw[h] at e;cases e⟩
def SR.pure_tup{K}{CB}{H}{m}{s}(S:SR K CB H m s){a}{xs}(h:H a=Za (.tup xs)):Pur m s a:=⟨λz=>((S.hs a z).2 xs default).1 h,λn hn ha=>by obtain⟨q,hq,rfl⟩:=aj.mp hn;obtain⟨o,e,k,_⟩:=(S.ok q hq).kind ha;rw[h] at e;cases e;exact k _ rfl⟩
def SR.pure_frz{K}{CB}{H}{m}{s}(S:SR K CB H m s){a}{ob}{xs}(h:H a=Za (.frz ob (.tup xs))\/H a=Za (.frz ob (.lst xs))):Pur m s a:=⟨λz=>h.elim (λh=>((S.hs a z).2 xs ob).2.1 h) λh=>((S.hs a z).2 xs ob).2.2.1 h,λn hn ha=>by
 obtain⟨q,hq,rfl⟩:=aj.mp hn;obtain⟨o,e,_,k,_⟩:=(S.ok q hq).kind ha;rcases h with h|h<;>(rw[h] at e;cases e)
 ·exact(k _ _).1 rfl
 ·exact(k _ _).2 rfl⟩
def SqT.keepX{K}{CB}{H H'}{m m'}{s s'}(S:SR K CB H m s)(e:ExtR H m s H' m' s'){t}{xs}(h:SqT K H t xs):SqT K H' t xs:=by
 rcases h with h|h
 ·exact .inl (e.pu _ _ h (h.elim (λh=>S.pure_tup h) λ⟨_,h⟩=>S.pure_frz (.inl h))).1
 ·exact .inr h
def RepFs.ext{K}{H H'}{m m'}{s s'}(e:ExtR H m s H' m' s'){a}{b}(h:RepFs K H m s a b):RepFs K H' m' s' a b:=⟨h.1,h.2.ext0 e⟩
theorem CellOk.keep{K}{CB}{H H'}{m m'}{s s'}{n}{c}(S:SR K CB H m s)(e:ExtR H m s H' m' s')(k:∀a∈m.fp n,∀o,H a=Za o->H' a=Za o)(ha:m'.ad n=m.ad n)(hf:m'.fp n=m.fp n)(h:CellOk K CB H m s n c):CellOk K CB H' m' s' n c:=by
 cases c with
 |lst l=>obtain⟨e1,vs,h,r⟩:=h;exact⟨by rw[ha,hf];exact e1,vs,by rw[ha];exact k _ (by rw[e1];simp) _ h,r.ext0 e⟩
 |dct l=>obtain⟨e1,vs,h,r⟩:=h;exact⟨by rw[ha,hf];exact e1,vs,by rw[ha];exact k _ (by rw[e1];simp) _ h,r.ext0 e⟩
 |dfz l=>obtain⟨e1,ob,vs,h,r⟩:=h;exact⟨by rw[ha,hf];exact e1,ob,vs,by rw[ha];exact k _ (by rw[e1];simp) _ h,r.ext0 e⟩
 |obj C fs=>obtain⟨e1,dx,vs,h,r⟩:=h;exact⟨by rw[ha,hf];exact e1,dx,vs,by rw[ha];exact k _ (by rw[e1];simp) _ h,RepFs.ext e r⟩
 |dtt l=>obtain⟨e1,vs,h,r⟩:=h;exact⟨by rw[ha,hf];exact e1,vs,by rw[ha];exact k _ (by rw[e1];simp) _ h,⟨r.1,r.2.ext0 e⟩⟩
 |book pp L =>
  obtain⟨z,L',B,e1,e2⟩:=h;rw[e2] at k;have kb:∀a∈My.BFp (m.ad n) z L',∀o,H a=Za o->H' a=Za o:=k;refine⟨z,L',?_,e1,by rw[ha,hf];exact e2⟩;rw[ha];refine⟨kb _ (by simp[My.BFp]) _ B.ob,kb _ (by simp[My.BFp]) _ B.pp,kb _ (by simp[My.BFp]) _ B.tt,kb _ (by simp[My.BFp]) _ B.mm,kb _ (by simp[My.BFp]) _ B.ll,B.hh.keep (λo h=>kb _ (by simp[My.BFp]) _ h),λq hq=>?_,B.nd,B.p6,B.h8⟩;obtain⟨ts,h1,h2,h3⟩:=B.he q hq;refine⟨ts,h1,kb _ ?_ _ h2,λy hy=>(h3 y hy).keepX S e⟩;unfold My.BFp;simp only[af];right;right;right;right;right;right;exact aj.mpr ⟨q,hq,rfl⟩
theorem SR.same{K}{CB}{H H'}{m}{s}(S:SR K CB H m s)(k:Same H H'):SR K CB H' m s :=
 ⟨S.nd,S.lt,λq hq=>(S.ok q hq).keep S (Ext.same k).toExtR (λa _ o h=>k a o h) rfl rfl,S.dj,S.hx,λa ha=>by
  obtain⟨h1,h2⟩:=S.hs a ha;cases e:H a with
  |none=>exact absurd e h1
  |some o =>
   rw[k a o e];rw[e] at h2;exact⟨by simp,h2⟩,S.tbk (.same k)⟩
theorem SR.get{K}{CB}{H}{m}{s}(S:SR K CB H m s){n}{c}(h:s.get n=Za c):CellOk K CB H m s n c:=S.ok _ (oJ h)
def Mp.fput(m:Mp)(n:Nat)(f':List ak):Mp:=⟨m.ad,λj=>if j=n then f' else m.fp j,m.hid⟩
def SR.hsk{K}{CB}{H H'}{m}{s}(S:SR K CB H m s)(k:∀a∈m.hid,∀o,H a=Za o->(∀ps,o≠.tbl ps)->H' a=Za o)(kt:TbS H H'):∀a∈m.hid,H' a≠Zb/\∀xs o,H' a≠Za (.tup xs)/\H' a≠Za (.frz o (.tup xs))/\H' a≠Za (.frz o (.lst xs))/\∀x,H' a≠Za (.frz o (.own x)):=λa ha=>by
 obtain⟨h1,h2⟩:=S.hs a ha;cases e:H a with
 |none=>exact absurd e h1
 |some o =>
  by_cases t:∃ps,o=.tbl ps
  ·obtain⟨ps,t⟩:=t;rw[t] at e;obtain⟨RM,e'⟩:=kt.1 a ps e;rw[e'];exact⟨by simp,λ_ _=>⟨by simp,by simp,by simp,by simp⟩⟩
  rw[k a ha o e λps z=>t ⟨ps,z⟩];rw[e] at h2;exact⟨by simp,h2⟩
def SR.put'{K}{CB}{H}{m}{s}(S:SR K CB H m s){n}{c c'}(hn:s.get n=Za c)(H')(f')(k:∀a o,H a=Za o->a∉m.fp n->H' a=Za o)(P0:∀a∈f',a∈m.fp n\/H a=Zb)(hok:ExtR H m s H' (m.fput n f') (s.set n c')->CellOk K CB H' (m.fput n f') (s.set n c') n c') :
  SR K CB H' (m.fput n f') (s.set n c')/\ExtR H m s H' (m.fput n f') (s.set n c')/\((∀l,c≠.dfz l)->Ext H m s H' (m.fput n f') (s.set n c')):=by
 have PD:n∈s.cs.map (·.1):=aj.mpr ⟨_,oJ hn,rfl⟩;have hkd:∀a∈m.hid,∀o,H a=Za o->(∀ps,o≠.tbl ps)->H' a=Za o:=λa ha o h _=>k a o h λz=>S.hx n PD a z ha;have htb:TbS H H':=.of λa o h od=>k a o h λz=>by obtain⟨o',e',_,_,no⟩:=(S.get hn).kind z;rw[h] at e';cases e';exact no od
 have hx:ExtR H m s H' (m.fput n f') (s.set n c'):=by
  refine⟨am _,λ_ _=>rfl,λa u h p=>?_,λa u h _ p=>k _ _ h (p.2 n PD)⟩;have Po:∃o,H a=Za o:=h.elim (λh=>⟨_,h⟩) λ⟨o,h⟩=>⟨_,h⟩;refine⟨h.elim (λh=>.inl (k _ _ h (p.2 n PD))) λ⟨o,h⟩=>.inr ⟨o,k _ _ h (p.2 n PD)⟩,p.1,λj hj hm=>?_⟩;have hm:a∈(if j=n then f' else m.fp j):=hm;have Rk:j∈s.cs.map (·.1):=by rw[<-pR (n:=n) (c:=c')];exact hj
  by_cases e:j=n
  ·simp only[e,Zc] at hm;rcases P0 a hm with z|z
   ·exact p.2 n PD z
   ·obtain⟨o,ho⟩:=Po;rw[z] at ho;cases ho
  ·simp only[Zd e] at hm;exact p.2 j Rk hm
 refine⟨⟨?_,?_,λq hq=>?_,λj hj i hi Po a ha hb=>?_,λj hj a ha hb=>?_,S.hsk hkd htb,S.tbk htb⟩,hx,λhnd=>⟨⟨hx,λj l hj h=>?_⟩,rfl,hkd⟩⟩
 ·show((tu n c' s.cs).map (·.1)).Nodup;rw[pR];exact S.nd
 ·intro j hj;have Rk:j∈s.cs.map (·.1):=by rw[<-pR (n:=n) (c:=c')];exact hj
  exact S.lt j Rk
 ·rcases DC S.nd hq with rfl|⟨hq,Po⟩
  ·exact hok hx
  ·refine(S.ok q hq).keep S hx (λa ha o h=>k a o h (S.dj _ (aj.mpr ⟨q,hq,rfl⟩) _ PD Po a ha)) rfl ?_;show(if q.1=n then f' else m.fp q.1)=_;rw[Zd Po]
 ·have ha:a∈(if j=n then f' else m.fp j):=ha;have hb:a∈(if i=n then f' else m.fp i):=hb;have Rk:j∈s.cs.map (·.1):=by rw[<-pR (n:=n) (c:=c')];exact hj
  have R5:i∈s.cs.map (·.1):=by rw[<-pR (n:=n) (c:=c')];exact hi
  have Ps:∀j∈s.cs.map (·.1),∀a∈m.fp j,H a≠none:=λj hj a ha z=>by obtain⟨q,hq,rfl⟩:=aj.mp hj;obtain⟨o,e,_⟩:=(S.ok q hq).kind ha;rw[z] at e;cases e
  by_cases e1:j=n
  ·have e2:i≠n:=λz=>Po (e1.trans z.symm);simp only[e1,Zc] at ha;simp only[Zd e2] at hb;rcases P0 a ha with z|z
   ·exact S.dj _ PD _ R5 (λz=>e2 z.symm) a z hb
   ·exact Ps i R5 a hb z
  ·simp only[Zd e1] at ha;by_cases e2:i=n
   ·simp only[e2,Zc] at hb;rcases P0 a hb with z|z
    ·exact S.dj _ Rk _ PD e1 a ha z
    ·exact Ps j Rk a ha z
   ·simp only[Zd e2] at hb;exact S.dj _ Rk _ R5 Po a ha hb
 ·have ha:a∈(if j=n then f' else m.fp j):=ha;have Rk:j∈s.cs.map (·.1):=by rw[<-pR (n:=n) (c:=c')];exact hj
  by_cases e1:j=n
  ·rw[Zc e1] at ha;rcases P0 a ha with z|z
   ·exact S.hx n PD a z hb
   ·exact(S.hs a hb).1 z
  ·rw[Zd e1] at ha;exact S.hx j Rk a ha hb
 ·have hjn:j≠n:=λz=>by subst z;have h:s.get j=Za (.dfz l):=h;rw[hn] at h;exact hnd l (aO h)
  refine⟨(ug hjn).trans h,λo ho=>?_⟩;obtain⟨e1,_⟩:=S.ok _ (oJ h);exact k _ _ ho (S.dj j (aj.mpr ⟨_,oJ h,rfl⟩) n PD hjn _ (by rw[e1];simp))
def SR.put{K}{CB}{H}{m}{s}(S:SR K CB H m s){n}{c c'}(hn:s.get n=Za c)(hnd:∀l,c≠.dfz l)(H')(f')(k:∀a o,H a=Za o->a∉m.fp n->H' a=Za o)(P0:∀a∈f',a∈m.fp n\/H a=Zb)(hok:ExtR H m s H' (m.fput n f') (s.set n c')->CellOk K CB H' (m.fput n f') (s.set n c') n c'):SR K CB H' (m.fput n f') (s.set n c')/\Ext H m s H' (m.fput n f') (s.set n c') :=
 let⟨a,_,b⟩:=S.put' hn H' f' k P0 hok;⟨a,b hnd⟩
def Mp.add(m:Mp)(n:Nat)(p:ak)(f:List ak):Mp:=⟨λj=>if j=n then p else m.ad j,λj=>if j=n then f else m.fp j,m.hid⟩
theorem SR.add{K}{CB}{H}{m}{s}(S:SR K CB H m s){c}(H')(p)(f)(k:Same H H')(hf:∀a∈f,H a=Zb)(hok:Ext H m s H' (m.add s.nx p f) (s.add c)->CellOk K CB H' (m.add s.nx p f) (s.add c) s.nx c) :
  SR K CB H' (m.add s.nx p f) (s.add c)/\Ext H m s H' (m.add s.nx p f) (s.add c):=by
 have Pd:∀j∈s.cs.map (·.1),j≠s.nx:=λj hj=>aE (S.lt j hj);have Ps:∀j∈s.cs.map (·.1),∀a∈m.fp j,H a≠none:=λj hj a ha z=>by obtain⟨q,hq,rfl⟩:=aj.mp hj;obtain⟨o,e,_⟩:=(S.ok q hq).kind ha;rw[z] at e;cases e
 have hx:Ext H m s H' (m.add s.nx p f) (s.add c):=by
  refine⟨⟨⟨fL _,λj hj=>?_,λa u h q=>⟨h.same k,q.1,λj hj hm=>?_⟩,λa u h _ _=>k _ _ h⟩,λj l hj h=>⟨?_,λo ho=>k _ _ ho⟩⟩,rfl,λa _ o h _=>k a o h⟩
  rotate_left 2
  ·show qk ((s.nx,c)::s.cs) j=_;unfold qk;rw[Zd (λz=>aE hj z.symm)];exact h
  ·show(if j=s.nx then p else m.ad j)=_;rw[Zd (aE hj)]
  ·have hm:a∈(if j=s.nx then f else m.fp j):=hm;rcases af.mp (show j∈s.nx::s.cs.map (·.1) from hj) with e|hj
   ·rw[Zc e] at hm;have:=hf a hm;rcases h with h|⟨o,h⟩<;>(rw[this] at h;cases h)
   ·rw[Zd (Pd j hj)] at hm;exact q.2 j hj hm
 have Qw:∀j∈s.cs.map (·.1),(m.add s.nx p f).fp j=m.fp j:=λj hj=>by show(if j=s.nx then f else m.fp j)=_;rw[Zd (Pd j hj)]
 have QC:(m.add s.nx p f).fp s.nx=f:=by show(if s.nx=s.nx then f else _)=_;rw[Zc rfl]
 refine⟨⟨?_,?_,λq hq=>?_,λj hj i hi Po a ha hb=>?_,λj hj a ha hb=>?_,S.hsk hx.hk (.same k),S.tbk (.same k)⟩,hx⟩
 ·exact ar.mpr ⟨λz=>Pd _ z rfl,S.nd⟩
 ·intro j hj;rcases af.mp (show j∈s.nx::s.cs.map (·.1) from hj) with e|hj
  ·rw[e];exact bT _
  ·exact cA (S.lt j hj)
 ·rcases af.mp (show q∈(s.nx,c)::s.cs from hq) with rfl|hq
  ·exact hok hx
  ·have Tj:q.1∈s.cs.map (·.1):=aj.mpr ⟨q,hq,rfl⟩;exact(S.ok q hq).keep S hx.toExtR (λa ha o h=>k a o h) (hx.ad _ (S.lt _ Tj)) (Qw _ Tj)
 ·rcases af.mp (show j∈s.nx::s.cs.map (·.1) from hj) with e|hj<;>rcases af.mp (show i∈s.nx::s.cs.map (·.1) from hi) with e'|hi
  ·exact Po (e.trans e'.symm)
  ·rw[e,QC] at ha;rw[Qw i hi] at hb;exact Ps i hi a hb (hf a ha)
  ·rw[Qw j hj] at ha;rw[e',QC] at hb;exact Ps j hj a ha (hf a hb)
  ·rw[Qw j hj] at ha;rw[Qw i hi] at hb;exact S.dj j hj i hi Po a ha hb
 ·rcases af.mp (show j∈s.nx::s.cs.map (·.1) from hj) with e|hj
  ·rw[e,QC] at ha;exact(S.hs a hb).1 (hf a ha)
  ·rw[Qw j hj] at ha;exact S.hx j hj a ha hb
theorem SR.del{K}{CB}{H}{m}{s}(S:SR K CB H m s)(n)(hnd:∀l,s.get n≠Za (.dfz l)):SR K CB H m (s.del n)/\Ext H m s H m (s.del n):=by
 have PD:∀j∈(s.del n).cs.map (·.1),j∈s.cs.map (·.1):=λj hj=>by obtain⟨q,hq,rfl⟩:=aj.mp hj;exact aj.mpr ⟨q,uH hq,rfl⟩
 have hx:Ext H m s H m (s.del n):=⟨⟨⟨am _,λ_ _=>rfl,λa u h p=>⟨h,p.1,λj hj=>p.2 j (PD j hj)⟩,λ_ _ h _ _=>h⟩,λj l hj h=>⟨(uh (λz=>hnd l (by rw[<-z];exact h))).trans h,λo h=>h⟩⟩,rfl,λ_ _ _ h _=>h⟩;exact⟨⟨Go S.nd,λj hj=>S.lt j (PD j hj),λq hq=>(S.ok q (uH hq)).keep S hx.toExtR (λ_ _ _ h=>h) rfl rfl,λj hj i hi=>S.dj j (PD j hj) i (PD i hi),λj hj=>S.hx j (PD j hj),S.hs,S.tb⟩,hx⟩
inductive Out (α:Type) where
 |ok (a:α) (s:Sto)|ex (c:ak) (s:Sto)|bad
noncomputable def Out.bind{α β:Type}(o:Out α)(k:α->Sto->Out β):Out β:=match o with
 |.ok a s=>k a s
 |.ex c s=>.ex c s
 |.bad=>.bad
abbrev En:=List (Option PV)
abbrev XE:=En->Sto->Out PV
abbrev XT:=En->Sto->Out Bool
abbrev XA:=En->Sto->Out (List PV)
inductive SO where
 |nx (Z:En) (s:Sto)|rt (v:PV) (s:Sto)|bk (Z:En) (s:Sto)|ct (Z:En) (s:Sto)|ex (c:ak) (s:Sto)|bad
abbrev XS:=En->Sto->SO
def Post{α β:Type}(K:aa)(CB:ak)(R:Hp->Mp->Sto->β->α->Prop)(E:XK)(o:Out α)(H:Hp)(m:Mp)(s:Sto)(Q:β->Hp->Prop):Prop:=match o with
 |.ok v s'=>∀u H' m',Ext H m s H' m' s'->SR K CB H' m' s'->R H' m' s' u v->Q u H'
 |.ex c s'=>∀H' m',Ext H m s H' m' s'->SR K CB H' m' s'->E (.ref c) Zb H'
 |.bad=>False
def Post.shift{α β:Type}{K}{CB}{R}{E}{o:Out α}{H H1}{m m1}{s s1}{Q:β->Hp->Prop}(e:Ext H m s H1 m1 s1)(h:Post K CB R E o H m s Q):Post K CB R E o H1 m1 s1 Q:=by
 cases o with
 |ok v s'=>exact λu H' m' x S r=>h u H' m' (e.trans x) S r
 |ex c s'=>exact λH' m' x S=>h H' m' (e.trans x) S
 |bad=>exact h
theorem Post.bind{α β α' β':Type}{K}{CB}{R}{R'}{E}{o:Out α}{k:α->Sto->Out α'}{H}{m}{s}{Q:β'->Hp->Prop}{Q1:β->Hp->Prop}(h:Post K CB R' E (o.bind k) H m s Q)(f:∀v s1 u H1 m1,Ext H m s H1 m1 s1->SR K CB H1 m1 s1->R H1 m1 s1 u v->Post K CB R' E (k v s1) H1 m1 s1 Q->Q1 u H1):Post K CB R E o H m s Q1:=by
 cases o with
 |ok v s1=>exact λu H1 m1 x S r=>f v s1 u H1 m1 x S r (Post.shift x h)
 |ex c s'=>exact h
 |bad=>exact h
def Post.here{α β:Type}{K}{CB}{R}{E}{v:α}{H}{m}{s}{Q:β->Hp->Prop}{u:β}(h:Post K CB R E (.ok v s) H m s Q)(S:SR K CB H m s)(r:R H m s u v):Q u H:=h u H m .refl S r
def Post.new{α β:Type}{K}{CB}{R}{E}{v:α}{H}{m}{s}{Q:β->Hp->Prop}{u:β}{p}{o}(h:Post K CB R E (.ok v s) H m s Q)(S:SR K CB H m s)(hp:H p=Zb)(r:Ext H m s (upd H p o) m s->SR K CB (upd H p o) m s->R (upd H p o) m s u v):Q u (upd H p o):=by
 have k:Same H (upd H p o):=My.qe hp;exact h u _ m (.same k) (S.same k) (r (.same k) (S.same k))
structure ER(K:aa)(H:Hp)(m:Mp)(s:Sto)(O:St)(Z:En):Prop where
 len:Z.length=O.length
 at_:∀(i:Nat)(p:PV),Z[i]?=Za (Za p)->∃u,O[i]?=Za (Za u)/\Rep K H m s u p
theorem ER.ext{K}{H H'}{m m'}{s s'}{O}{Z}(h:ER K H m s O Z)(e:Ext H m s H' m' s'):ER K H' m' s' O Z :=
 ⟨h.len,λi p q=>let⟨u,a,b⟩:=h.at_ i p q;⟨u,a,b.ext e⟩⟩
theorem ER.set{K}{H}{m}{s}{O}{Z}{u}{p}(h:ER K H m s O Z)(i)(r:Rep K H m s u p):ER K H m s (O.set i (Za u)) (Z.set i (Za p)):=by
 refine⟨by simp[h.len],λj q e=>?_⟩;rw[List.getElem?_set] at e ⊢;by_cases c:i=j
 ·rw[Zc c] at e ⊢;by_cases d:i<Z.length
  ·rw[Zc d] at e;rw[Zc (by rw[<-h.len];exact d)];cases e;exact⟨u,rfl,r⟩
  ·rw[Zd d] at e;cases e
 ·rw[Zd c] at e ⊢;exact h.at_ j q e
def ER.cons{K}{H}{m}{s}{O}{Z}{u}{p}(h:ER K H m s O Z)(r:Rep K H m s u p):ER K H m s (Za u::O) (Za p::Z):=by
 refine⟨by simp[h.len],λj q e=>?_⟩;cases j with
 |zero=>simp at e;subst e;exact⟨u,rfl,r⟩
 |succ j=>exact h.at_ j q (by simpa using e)
theorem ER.start{K}{H}{m}{s}:∀{vs:List V}{ps:List PV},Reps K H m s vs ps->∀n,ER K H m s (vs.map Za++aR n Zb) (ps.map Za++aR n Zb)
 |_,_,.nil,n=>⟨by simp,λi p e=>by
   have e:(aR n (Zb:Option PV))[i]?=Za (Za p):=by simpa using e
   rw[gK] at e;split at e<;>cases e⟩
 |_,_,.cons a b,n=>(ER.start b n).cons a
def nj(ix:List Nat)(Z:En):En:=ix.map λi=>(Z[i]?).getD Zb
theorem ER.capt{K}{H}{m}{s}{O}{Z}(h:ER K H m s O Z)(ix):ER K H m s (capt ix O) (nj ix Z):=by
 refine⟨by simp[L2.capt,nj],λj q e=>?_⟩;unfold nj at e;unfold L2.capt;rw[aD] at e ⊢;cases c:ix[j]? with
 |none=>rw[c] at e;cases e
 |some i =>
  rw[c] at e;have e:(Z[i]?).getD Zb=Za q:=aO e;cases d:Z[i]? with
  |none=>rw[d] at e;cases e
  |some o =>
   rw[d] at e;have e:o=Za q:=e;subst e;obtain⟨u,h1,h2⟩:=h.at_ i q d;refine⟨u,?_,h2⟩;show Za ((O[i]?).getD Zb)=_;rw[h1];rfl
def TDE(K:aa)(CB:ak)(E:XK)(f:XE):TE:=λO H Q=>∃Z s m,ER K H m s O Z/\SR K CB H m s/\Post K CB (Rep K) E (f Z s) H m s Q
def TDT(K:aa)(CB:ak)(E:XK)(f:XT):TT:=λO H Q=>∃Z s m,ER K H m s O Z/\SR K CB H m s/\Post K CB (λ_ _ _ u v=>u=v) E (f Z s) H m s Q
def TDA(K:aa)(CB:ak)(E:XK)(f:XA):TA:=λO H Q=>∃Z s m,ER K H m s O Z/\SR K CB H m s/\Post K CB (Reps K) E (f Z s) H m s Q
def PostS(K:aa)(CB:ak)(E:XK)(o:SO)(H:Hp)(m:Mp)(s:Sto)(D:Ends):Prop:=match o with
 |.nx ρ' s'=>∀σ' H' m',Ext H m s H' m' s'->SR K CB H' m' s'->ER K H' m' s' σ' ρ'->D.nx σ' H'
 |.rt v s'=>∀u H' m',Ext H m s H' m' s'->SR K CB H' m' s'->Rep K H' m' s' u v->D.rt u H'
 |.bk ρ' s'=>∀σ' H' m',Ext H m s H' m' s'->SR K CB H' m' s'->ER K H' m' s' σ' ρ'->D.bk σ' H'
 |.ct ρ' s'=>∀σ' H' m',Ext H m s H' m' s'->SR K CB H' m' s'->ER K H' m' s' σ' ρ'->D.ct σ' H'
 |.ex c s'=>∀H' m',Ext H m s H' m' s'->SR K CB H' m' s'->E (.ref c) Zb H'
 |.bad=>False
def TDS(K:aa)(CB:ak)(E:XK)(g:XS):TS:=λD O H=>∃Z s m,ER K H m s O Z/\SR K CB H m s/\PostS K CB E (g Z s) H m s D
def oE{K:aa}{CB:ak}{H:Hp}{O:St}{Zj:En->Sto->Mp->Prop}{R:Prop}(k:∀Z s m,ER K H m s O Z->SR K CB H m s->Zj Z s m->R)(h:∃Z s m,ER K H m s O Z/\SR K CB H m s/\Zj Z s m):R:=h.elim λZ h=>h.elim λs h=>h.elim λm h=>k Z s m h.1 h.2.1 h.2.2
structure DE(X:Cx)(CB:ak)(E:XK)(e:bo)(f:XE):Prop where
 pe:PE X e (TDE X.K CB E f)
structure DT(X:Cx)(CB:ak)(E:XK)(e:bo)(f:XT):Prop where
 pt:PT X e (TDT X.K CB E f)
structure DW(X:Cx)(CB:ak)(E:XK)(e:bo)(f:XT):Prop where
 pw:PW X e (TDT X.K CB E f)
structure DA(X:Cx)(CB:ak)(E:XK)(es:List bo)(f:XA):Prop where
 pa:PA X es (TDA X.K CB E f)
structure DS(X:Cx)(CB:ak)(E:XK)(st:bQ)(g:XS):Prop where
 ps:PS X st (TDS X.K CB E g)
structure DSs(X:Cx)(CB:ak)(E:XK)(st:List bQ)(g:XS):Prop where
 pss:PSs X st (TDS X.K CB E g)
def PE.mono(h:PE X e t)(k:∀O H Q,t' O H Q->t O H Q):PE X e t':=λO2 s O H Q I q=>h O2 s O H Q I (k O H Q q)
def PT.mono(h:PT X e t)(k:∀O H Q,t' O H Q->t O H Q):PT X e t':=λO2 s O H Q I q=>h O2 s O H Q I (k O H Q q)
def PW.mono(h:PW X e t)(k:∀O H Q,t' O H Q->t O H Q):PW X e t':=λw O2 s O H Q I q=>h w O2 s O H Q I (k O H Q q)
def PA.mono(h:PA X e t)(k:∀O H Q,t' O H Q->t O H Q):PA X e t':=λpos O2 s O H Q I q=>h pos O2 s O H Q I (k O H Q q)
def PS.mono(h:PS X e t)(k:∀D O H,t' D O H->t D O H):PS X e t':=λO2 s O H D I q=>h O2 s O H D I (k D O H q)
def PSs.mono(h:PSs X e t)(k:∀D O H,t' D O H->t D O H):PSs X e t':=λO2 s O H D I q=>h O2 s O H D I (k D O H q)
def xVar(i:Nat)(Z:En)(s:Sto):Out PV:=match Z[i]? with
 |some (Za p)=>.ok p s
 |_=>.bad
def xC(p:PV)(_:En)(s:Sto):Out PV:=.ok p s
def x1(f:XE)(F:PV->Sto->Out PV)(Z:En)(s:Sto):Out PV:=(f Z s).bind F
def x2(f g:XE)(F:PV->PV->Sto->Out PV)(Z:En)(s:Sto):Out PV:=(f Z s).bind λv s1=>(g Z s1).bind λw s2=>F v w s2
def xNil(_:En)(s:Sto):Out (List PV):=.ok [] s
def xCons(f:XE)(g:XA)(Z:En)(s:Sto):Out (List PV):=(f Z s).bind λv s1=>(g Z s1).bind λvs s2=>.ok (v::vs) s2
section
variable{X:Cx}{CB:ak}{E:XK}{a b c e:bo}{es:List bo}{f g h:XE}{fa:XA}{p pos O4:Pos}{x:Str}
def Op2(K:aa)(CB:ak)(E:XK)(r:R2)(F:PV->PV->Sto->Out PV):Prop:=∀H m s v w x y Q,SR K CB H m s->Rep K H m s x v->Rep K H m s y w->Post K CB (Rep K) E (F v w s) H m s Q->r x y H Q
def Op1(K:aa)(CB:ak)(E:XK)(r:V->Hp->VK->Prop)(F:PV->Sto->Out PV):Prop:=∀H m s v x Q,SR K CB H m s->Rep K H m s x v->Post K CB (Rep K) E (F v s) H m s Q->r x H Q
def OpN(K:aa)(CB:ak)(E:XK)(r:List V->Hp->VK->Prop)(F:List PV->Sto->Out PV):Prop:=∀H m s v x Q,SR K CB H m s->Reps K H m s x v->Post K CB (Rep K) E (F v s) H m s Q->r x H Q
def two{r}{F}(o:Op2 X.K CB E r F){O}{H}{Q}(q:TDE X.K CB E (x2 f g F) O H Q):tOp r (TDE X.K CB E f) (TDE X.K CB E g) O H Q:=by obtain⟨Z,s,m,er,S,P⟩:=q;exact⟨Z,s,m,er,S,P.bind λv s1 u H1 m1 e1 S1 r1 P1=>⟨Z,s1,m1,er.ext e1,S1,P1.bind λw s2 u2 H2 m2 e2 S2 r2 P2=>o H2 m2 s2 v w u u2 Q S2 (r1.ext e2) r2 P2⟩⟩
def lH(i)(hN:X.N[i]?=Za x:=by rfl)(hv:Vis X.env.scope x:=by first|exact eO rfl|exact ig (eO rfl)|exact ig (ig rfl))(hd:NDb x:=by decide)(Ql:(x==("__classdict__":Str))=false:=by decide):DE X CB E (.Name x pos) (xVar i):=⟨(JV hN hv hd Ql).mono λO H Q=>oE λZ s m er S P=>by
 unfold xVar at P;split at P
 ·rename_i q hq;obtain⟨u,h1,h2⟩:=er.at_ i q hq;exact⟨u,h1,P.here S h2⟩
 ·exact P.elim⟩
def lQ{i}{j}:DE X CB E (.Constant (.int i) j pos) (xC (.int i)):=⟨pe_int.mono λO H Q=>oE λZ s m er S P=>P.here S .int⟩
def HU{i}{j}:DE X CB E (.Constant (.bool i) j pos) (xC (.bl i)):=⟨pe_bl.mono λO H Q=>oE λZ s m er S P=>P.here S .bl⟩
def FB{i}{j}:DE X CB E (.Constant (.str i) j pos) (xC (.str i)):=⟨pe_str.mono λO H Q=>oE λZ s m er S P=>P.here S .str⟩
def zk(ho:OpR X (dI op) r)(o:Op2 X.K CB E r F)(ha:DE X CB E a f)(hb:DE X CB E b g):DE X CB E (.BinOp a op b pos) (x2 f g F):=⟨(tF ho ha.pe hb.pe).mono λO H Q q=>two o q⟩
def de_un(ho:UnR X (unaryOp op) r)(o:Op1 X.K CB E r F)(ha:DE X CB E a f):DE X CB E (.UnaryOp op a pos) (x1 f F):=⟨(M5 ho ha.pe).mono λO H Q=>oE λZ s m er S P =>
 ⟨Z,s,m,er,S,P.bind λv s1 u H1 m1 e1 S1 r1 P1=>o H1 m1 s1 v u Q S1 r1 P1⟩⟩
def de_cmp(ho:OpR X (cm op) r)(o:Op2 X.K CB E r F)(ha:DE X CB E a f)(hb:DE X CB E b g)(hm:cT op b=false):DE X CB E (.Compare a [op] [b] pos) (x2 f g F):=⟨(FY ho ha.pe hb.pe hm).mono λO H Q q=>two o q⟩
def xTr(f:XE)(Z:En)(s:Sto):Out Bool:=(f Z s).bind λv s1=>match v with
 |.bl b=>.ok b s1
 |_=>.bad
def TDT.tst{O}{H}{Q}(q:TDT X.K CB E (xTr f) O H Q):TDE X.K CB E f O H λx H1=>∃k,x=.bl k/\Q k H1:=by obtain⟨Z,s,m,er,S,P⟩:=q;refine⟨Z,s,m,er,S,P.bind λv s1 u H1 m1 e1 S1 r1 P1=>?_⟩;cases r1<;>first|exact P1.elim|exact⟨_,rfl,P1.here S1 rfl⟩
def dt_cmp(ho:OpR X (cm op) r)(o:Op2 X.K CB E r F)(ha:DE X CB E a f)(hb:DE X CB E b g)(hm:cT op b=false):DT X CB E (.Compare a [op] [b] pos) (xTr (x2 f g F)):=⟨(uV ho ha.pe hb.pe hm).mono λO H Q q=>two o (TDT.tst q)⟩
def Kh(h:DE X CB E e f)(he:∀whole,isTrue e X.env whole=(do let v <-whole;gv e.pos;holding [v] (truthy v)):=by intro _;rfl):DT X CB E e (xTr f):=⟨(vX h.pe he).mono λO H Q q=>TDT.tst q⟩
def xChain(f g h:XE)(F G:PV->PV->Sto->Out PV)(Z:En)(s:Sto):Out PV:=(f Z s).bind λv s1=>(g Z s1).bind λw s2=>(F v w s2).bind λz s3=>match z with
 |.bl true=>(h Z s3).bind λy s4=>G w y s4
 |.bl false=>.ok (.bl false) s3
 |_=>.bad
def xNot(f:XT)(Z:En)(s:Sto):Out Bool:=(f Z s).bind λb s1=>.ok (!b) s1
def xAnd(f g:XT)(Z:En)(s:Sto):Out Bool:=(f Z s).bind λb s1=>if b=true then g Z s1 else .ok false s1
def xOr(f g:XT)(Z:En)(s:Sto):Out Bool:=(f Z s).bind λb s1=>if b=true then .ok true s1 else g Z s1
variable{t u:XT}{qL:List bo}
def Fy(h:DT X CB E a t):DW X CB E (.BoolOp .Or [a] pos) t:=⟨JS h.pt⟩
def HP(h:DT X CB E a t)(k:DW X CB E (.BoolOp .Or (b::qL) pos) u):DW X CB E (.BoolOp .Or (a::b::qL) pos) (xOr t u):=⟨(M0 h.pt k.pw).mono λO H Q=>oE λZ s m er S P =>
 ⟨Z,s,m,er,S,P.bind λv s1 b H1 m1 e1 S1 r1 P1=>by
  cases r1;refine vA (λc=>?_) λc=>?_
  ·rw[Zc c] at P1;exact P1.here S1 rfl
  ·rw[Zd c] at P1;exact⟨Z,s1,m1,er.ext e1,S1,P1⟩⟩⟩
def DW.dt(h:DW X CB E a t):DT X CB E a t:=⟨h.pw.pt⟩
def xAndV(f g:XE)(Z:En)(s:Sto):Out PV:=(f Z s).bind λv s1=>match v with
 |.bl true=>g Z s1
 |.bl false=>.ok (.bl false) s1
 |_=>.bad
def xOrV(f g:XE)(Z:En)(s:Sto):Out PV:=(f Z s).bind λv s1=>match v with
 |.bl true=>.ok (.bl true) s1
 |.bl false=>g Z s1
 |_=>.bad
def xNotV(f:XE)(Z:En)(s:Sto):Out PV:=(f Z s).bind λv s1=>match v with
 |.bl b=>.ok (.bl (!b)) s1
 |_=>.bad
def OF(h:DE X CB E a f):DE X CB E (.BoolOp op [a] pos) f:=⟨Fp h.pe⟩
def OH(h:DE X CB E a f)(k:DE X CB E (.BoolOp .And (b::qL) pos) g):DE X CB E (.BoolOp .And (a::b::qL) pos) (xAndV f g):=⟨(J0 h.pe k.pe).mono λO H Q=>oE λZ s m er S P =>
 ⟨Z,s,m,er,S,P.bind λv s1 b H1 m1 e1 S1 r1 P1=>by
  cases r1 with
  |bl =>
   rename_i b;cases b
   ·exact⟨_,rfl,L1 (P1.here S1 .bl)⟩
   ·exact⟨_,rfl,L0 ⟨Z,s1,m1,er.ext e1,S1,P1⟩⟩
  |_=>exact P1.elim⟩⟩
def Ay:DA X CB E [] xNil:=⟨pa_nil.mono λO H Q=>oE λZ s m er S P=>P.here S .nil⟩
def lO(ha:DE X CB E e f)(hr:DA X CB E es fa)(hs:SEb X e es:=by rfl):DA X CB E (e::es) (xCons f fa):=⟨(lW ha.pe hr.pa hs).mono λO H Q=>oE λZ s m er S P =>
 ⟨Z,s,m,er,S,P.bind λv s1 u H1 m1 e1 S1 r1 P1=>⟨Z,s1,m1,er.ext e1,S1,P1.bind λw s2 u2 H2 m2 e2 S2 r2 P2=>P2.here S2 (.cons (r1.ext e2) r2)⟩⟩⟩
def lL(ha:DE X CB E e f)(hs:aC [e] X.env=(false,eval e X.env)::aC [] X.env:=by rfl):DA X CB E [e] (xCons f xNil):=lO ha Ay hs
theorem Reps.length{K}{H}{m}{s}:∀{vs:List V}{l:List PV},Reps K H m s vs l->vs.length=l.length
 |_,_,.nil=>rfl
 |_,_,.cons _ b=>congrArg Nat.succ b.length
def sz5(h:n<=100000):n<=aJ:=aI h (by decide)
def sz6(h:n<100000):n<aJ:=ay h (by decide)
def xTup(fa:XA)(Z:En)(s:Sto):Out PV:=(fa Z s).bind λvs s1=>if vs.length<=100000 then .ok (.tup vs) s1 else .bad
def xLst(fa:XA)(Z:En)(s:Sto):Out PV:=(fa Z s).bind λvs s1=>if vs.length<=100000 then .ok (.lst vs) s1 else .bad
def xLstC(fa:XA)(Z:En)(s:Sto):Out PV:=(fa Z s).bind λvs s1=>if vs.length<=100000 then .ok (.ref s1.nx) (s1.add (.lst vs)) else .bad
def og{x1}(h:DA X CB E es fa):DE X CB E (.Tuple es x1 pos) (xTup fa):=⟨(vY h.pa).mono λO H Q=>oE λZ s m er S P =>
 ⟨Z,s,m,er,S,P.bind λv s1 u H1 m1 e1 S1 r1 P1=>by
  split at P1
  ·rename_i hl;exact⟨by rw[r1.length];exact sz5 hl,λp hp=>P1.new S1 hp λex S'=>.tup (.inl ⟨.inl lN,S'.pure_tup lN⟩) (r1.ext ex)⟩
  ·exact P1.elim⟩⟩
def wf(h:DA X CB E es fa):DE X CB E (.List es pos) (xLst fa):=⟨(JY h.pa).mono λO H Q=>oE λZ s m er S P =>
 ⟨Z,s,m,er,S,P.bind λv s1 u H1 m1 e1 S1 r1 P1=>by
  split at P1
  ·rename_i hl;exact⟨by rw[r1.length];exact sz5 hl,λp hp=>P1.new S1 hp λex S'=>.lst lN (S1.pure_none hp) (r1.ext ex)⟩
  ·exact P1.elim⟩⟩
def SR.newL{K}{H}{m}{s}{vs}{l}{p}(S:SR K CB H m s)(hp:H p=Zb)(r:Reps K H m s vs l):SR K CB (upd H p (.lst vs)) (m.add s.nx p [p]) (s.add (.lst l))/\Ext H m s (upd H p (.lst vs)) (m.add s.nx p [p]) (s.add (.lst l)) :=
 S.add _ p [p] (My.qe hp) (λa ha=>by rw[aq.mp ha];exact hp) λex=>by
  have e1:(m.add s.nx p [p]).ad s.nx=p:=by show(if s.nx=s.nx then p else _)=_;rw[Zc rfl]
  have e2:(m.add s.nx p [p]).fp s.nx=[p]:=by show(if s.nx=s.nx then [p] else _)=_;rw[Zc rfl]
  exact⟨by rw[e1,e2],vs,by rw[e1];exact lN,r.ext ex⟩
def SR.newD{K}{H H'}{m}{s}{vs}{l}{p}(S:SR K CB H m s)(hp:H p=Zb)(k:Same H H')(hd:H' p=Za (.dK vs))(r:RepKs K H m s vs l):SR K CB H' (m.add s.nx p [p]) (s.add (.dct l))/\Ext H m s H' (m.add s.nx p [p]) (s.add (.dct l)) :=
 S.add _ p [p] k (λa ha=>by rw[aq.mp ha];exact hp) λex=>by
  have e1:(m.add s.nx p [p]).ad s.nx=p:=by show(if s.nx=s.nx then p else _)=_;rw[Zc rfl]
  have e2:(m.add s.nx p [p]).fp s.nx=[p]:=by show(if s.nx=s.nx then [p] else _)=_;rw[Zc rfl]
  exact⟨by rw[e1,e2],vs,by rw[e1];exact hd,r.ext ex⟩
def Mp.add_ad{m:Mp}{n:Nat}{p:ak}{f:List ak}:(m.add n p f).ad n=p:=by show(if n=n then p else _)=_;rw[Zc rfl]
def Rep.new{K:aa}{H:Hp}{m:Mp}{s:Sto}{p:ak}{f:List ak}{c:Cell}:Rep K H (m.add s.nx p f) (s.add c) (.ref p) (.ref s.nx):=by have h:Rep K H (m.add s.nx p f) (s.add c) (.ref ((m.add s.nx p f).ad s.nx)) (.ref s.nx):=.ref (bT _);rw[Mp.add_ad] at h;exact h
def zl(h:DA X CB E es fa):DE X CB E (.List es pos) (xLstC fa):=⟨(JY h.pa).mono λO H Q=>oE λZ s m er S P =>
 ⟨Z,s,m,er,S,P.bind λv s1 u H1 m1 e1 S1 r1 P1=>by
  split at P1
  ·rename_i hl;refine⟨by rw[r1.length];exact sz5 hl,λp hp=>?_⟩;obtain⟨S2,e2⟩:=S1.newL hp r1;exact P1 _ _ _ e2 S2 .new
  ·exact P1.elim⟩⟩
end
end L2
namespace Fra
def Cop(a b:Int):Prop:=aF a b=1
def Low(q:Int×Int):Prop:=0<q.2/\Cop q.1 q.2
def red(q:Int×Int):Int×Int:=(q.1/(aF q.1 q.2:Int),q.2/(aF q.1 q.2:Int))
def Cop.symm(h:Cop a b):Cop b a:=by unfold Cop at *;rw[Int.gcd_comm];exact h
def qP(d:a∣a')(h:Cop a' b):Cop a b:=Nat.Coprime.coprime_dvd_left (fC.mpr d) h
def zp(h1:Cop a c)(h2:Cop b c):Cop (a*b) c:=by unfold Cop aF at *;rw[iF];exact Nat.Coprime.mul_left h1 h2
def CH(h:Cop a b)(d:a∣b*c):a∣c:=by have d':=fC.mpr d;rw[iF] at d';exact fC.mp (Nat.Coprime.dvd_of_dvd_mul_left h d')
def Gs(h:Cop a b):Cop (a+k*b) b:=by
 unfold Cop at *;have g1:(aF (a+k*b) b:Int)∣a+k*b:=fJ ..;have g2:(aF (a+k*b) b:Int)∣b:=cB ..;have g3:(aF (a+k*b) b:Int)∣a:=by
  have:=Int.dvd_sub g1 (Int.dvd_trans g2 (Int.dvd_mul_left k b));have e:a+k*b-k*b=a:=by lia
  rw[e] at this;exact this
 have g4:=Int.dvd_gcd g3 g2;rw[h] at g4;exact Nat.dvd_one.mp g4
def yX(hp:Low p)(hq:Low q)(h:p.1*q.2=q.1*p.2):p=q:=by obtain⟨a,b⟩:=p;obtain⟨c,d⟩:=q;obtain⟨h1,h2⟩:=hp;obtain⟨h3,h4⟩:=hq;simp only at h h1 h2 h3 h4;have d1:b∣d:=CH h2.symm ⟨c,by rw[h];exact br _ _⟩;have d2:d∣b:=CH h4.symm ⟨a,by rw[<-h];exact br _ _⟩;have e:b=d:=Int.dvd_antisymm (by lia) (by lia) d1 d2;subst e;have:a=c:=ei (by lia) h;rw[this]
def tD(h:0<q.2):Low (red q)/\(red q).1*q.2=q.1*(red q).2:=by
 obtain⟨a,b⟩:=q;simp only at h;have hg:0<aF a b:=bH _ (by lia);obtain⟨u,hu⟩:(aF a b:Int)∣a:=fJ ..;obtain⟨v,hv⟩:(aF a b:Int)∣b:=cB ..;have eu:a/(aF a b:Int)=u:=jO (by lia) hu;have ev:b/(aF a b:Int)=v:=jO (by lia) hv;have hc:Cop u v:=by
  have e:aF ((aF a b:Int)*u) ((aF a b:Int)*v)=aF a b*aF u v:=by rw[jp];rfl
  rw[<-hu,<-hv] at e;unfold Cop;have:aF a b*aF u v=aF a b*1:=by lia
  exact gz hg this
 have hv0:0<v:=by
  by_cases z:0<v
  ·exact z
  ·have:(aF a b:Int)*v<=0:=eX (by lia) (by lia);lia
 unfold red;simp only;rw[eu,ev];refine⟨⟨hv0,hc⟩,?_⟩;show u*b=a*v;have e1:u*b=u*((aF a b:Int)*v):=by rw[<-hv]
 have e2:a*v=(aF a b:Int)*u*v:=by rw[<-hu]
 rw[e1,e2,br (aF a b:Int) u,aU]
def NN(hp:Low p)(hq:0<q.2)(h:p.1*q.2=q.1*p.2):p=red q:=by
 obtain⟨r1,r2⟩:=tD hq;refine yX hp r1 ?_;have e:p.1*(red q).2*q.2=(red q).1*p.2*q.2:=by rw[eV,h,eV q.1,<-r2,eV]
 exact ei (by lia) e
def addK(p q:Int×Int):Int×Int :=
 let d:Int:=aF p.2 q.2;let t:=p.1*(q.2/d)+q.1*(p.2/d);let e:Int:=aF t d
 (t/e,p.2/d*(q.2/e))
def nG(p q:Int×Int):Int×Int:=red (p.1*q.2+q.1*p.2,p.2*q.2)
def MM(hp:Low p)(hq:Low q):addK p q=nG p q:=by
 obtain⟨n1,b1⟩:=p;obtain⟨n2,b2⟩:=q;obtain⟨h1,h2⟩:=hp;obtain⟨h3,h4⟩:=hq;simp only at h1 h2 h3 h4;unfold addK nG;simp only;have hd:0<aF b1 b2:=bH _ (by lia);obtain⟨u,hu⟩:(aF b1 b2:Int)∣b1:=fJ ..;obtain⟨v,hv⟩:(aF b1 b2:Int)∣b2:=cB ..;have huv:Cop u v:=by
  have e:aF ((aF b1 b2:Int)*u) ((aF b1 b2:Int)*v)=aF b1 b2*aF u v:=by rw[jp];rfl
  rw[<-hu,<-hv] at e;have:aF b1 b2*aF u v=aF b1 b2*1:=by lia
  exact gz hd this
 generalize hD:(aF b1 b2:Int)=d at *;have d0:0<d:=by lia
 subst hu;subst hv;rw[cD _ (by lia:d≠0),cD _ (by lia:d≠0)];have pos:∀{x:Int},0<d*x->0<x:=λ{x} hx=>by
  by_cases z:0<x
  ·exact z
  ·have:d*x<=0:=eX (by lia) (by lia);lia
 have u0:=pos h1;have v0:=pos h3;have V5:Cop (n1*v+n2*u) u:=Gs (zp (qP (Int.dvd_refl _) (qP ⟨d,br _ _⟩ h2.symm).symm) huv.symm);have V4:Cop (n1*v+n2*u) v:=by rw[Int.add_comm];exact Gs (zp (qP ⟨d,br _ _⟩ h4.symm).symm huv)
 generalize hT:n1*v+n2*u=t at *;have he:0<aF t d:=bH _ (by lia);obtain⟨t',ht⟩:(aF t d:Int)∣t:=fJ ..;obtain⟨e',hE⟩:(aF t d:Int)∣d:=cB ..;have cte:Cop t' e':=by
  have e:aF ((aF t d:Int)*t') ((aF t d:Int)*e')=aF t d*aF t' e':=by rw[jp];rfl
  rw[<-ht,<-hE] at e;have:aF t d*aF t' e'=aF t d*1:=by lia
  exact gz he this
 generalize hG:(aF t d:Int)=g at *;have g0:0<g:=by lia
 have e0:0<e':=by
  by_cases z:0<e'
  ·exact z
  ·have:g*e'<=0:=eX (by lia) (by lia);lia
 have q1:t/g=t':=by rw[ht];exact cD _ (by lia)
 have q2:d*v/g=e'*v:=by rw[hE,aU];exact cD _ (by lia)
 rw[q1,q2];refine NN ⟨bI u0 (bI e0 v0),?_⟩ (bI h1 h3) ?_
 ·have d1:t'∣t:=⟨g,by rw[ht];exact br _ _⟩;exact(zp (qP d1 V5).symm (zp cte.symm (qP d1 V4).symm)).symm
 ·show t'*(d*u*(d*v))=(n1*(d*v)+n2*(d*u))*(u*(e'*v));have e1:n1*(d*v)+n2*(d*u)=d*t:=by rw[<-hT,Int.mul_add,fu,fu n2]
  rw[e1];have e2:d*t*(u*(e'*v))=d*(g*t')*(u*(e'*v)):=by rw[<-ht]
  have e3:t'*(d*u*(d*v))=t'*(d*u*(g*e'*v)):=by rw[<-hE]
  rw[e2,e3];simp only[aU,fu,br]
def Ek(hp:Low p)(hq:Low q):Low (nG p q):=(tD (bI hp.1 hq.1)).1
end Fra
namespace L2
open PySem PySem.Spec PyProof.Rows
def lsOf(s:Sto):PV->Option (List PV)
 |.lst l=>Za l
 |.seq l=>Za l
 |.ref n=>match s.get n with
  |some (.lst l)=>Za l
  |_=>Zb
 |_=>Zb
def dcOf(s:Sto):PV->Option (List (Key×PV))
 |.dct l=>Za l
 |.ref n=>match s.get n with
  |some (.dct l)=>Za l
  |some (.dfz l)=>Za l
  |_=>Zb
 |_=>Zb
def kyOf:PV->Option Key
 |.int i=>Za (.inl i)
 |.str x=>Za (.inr x)
 |_=>Zb
def toV:PV->Option V
 |.non=>Za .non
 |.bl b=>Za (.bl b)
 |.int i=>Za (.int i)
 |.str x=>Za (.str x)
 |_=>Zb
def toVs:List PV->Option (List V)
 |[]=>Za []
 |p::l=>match toV p,toVs l with
  |some v,Za vs=>Za (v::vs)
  |_,_=>Zb
def qz(l:List (Key×PV))(k:Key):Option PV:=(l.find? λkv=>decide (kv.1=k)).map (·.2)
def yO(l:List (Key×PV))(k:Key)(p:PV):List (Key×PV) :=
 if(l.any λkv=>decide (kv.1=k))=true then l.map (λkv=>if kv.1=k then(kv.1,p) else kv) else l++[(k,p)]
def vP(f:PV->Option jQ):List PV->Option (List jQ)
 |[]=>Za []
 |p::l=>match f p,vP f l with
  |some d,Za ds=>Za (d::ds)
  |_,_=>Zb
def PV.data(s:Sto):Nat->PV->Option jQ
 |0,_=>Zb
 |_+1,.non=>Za .none
 |_+1,.bl b=>Za (.bool b)
 |_+1,.int i=>Za (.int i)
 |_+1,.str x=>if bi x=true then Za (.str x) else Zb
 |k+1,.tup l=>(vP (PV.data s k) l).map .tuple
 |k+1,.lst l=>(vP (PV.data s k) l).map .list
 |k+1,.seq l=>(vP (PV.data s k) l).map .list
 |k+1,.ref n=>match s.get n with
  |some (.lst l)=>(vP (PV.data s k) l).map .list
  |_=>Zb
 |_+1,_=>Zb
section
variable{K:aa}{CB:ak}{H:Hp}{m:Mp}{s:Sto}{x y:V}{v w:PV}
def Rep.ls(S:SR K CB H m s)(r:Rep K H m s x v)(e:lsOf s v=Za l):∃a vs,x=.ref a/\SqL K H a vs/\Reps K H m s vs l:=by
 cases r with
 |lst h _ q=>cases e;exact⟨_,_,rfl,SqL.of h,q⟩
 |seq h q=>cases e;exact⟨_,_,rfl,h.elim (λz=>.inl (.inr z.1)) .inr,q⟩
 |ref h =>
  rename_i n;have e:(match s.get n with|some (.lst l)=>Za l|_=>Zb)=Za l:=e;split at e<;>cases e
  rename_i hg;obtain⟨_,vs,h1,h2⟩:=S.get hg;exact⟨_,vs,rfl,SqL.of h1,h2⟩
 |_=>cases e
def Rep.tp(r:Rep K H m s x (.tup l)):∃a vs,x=.ref a/\SqT K H a vs/\Reps K H m s vs l:=by
 cases r with
 |tup h q=>exact⟨_,_,rfl,h.elim (λz=>.inl z.1) .inr,q⟩
def Rep.dc(S:SR K CB H m s)(r:Rep K H m s x v)(e:dcOf s v=Za l):∃a vs,x=.ref a/\Rd H a (.dK vs)/\RepKs K H m s vs l:=by
 cases r with
 |dct h _ q=>cases e;exact⟨_,_,rfl,h,q⟩
 |ref h =>
  rename_i n;have e:(match s.get n with|some (.dct l)=>Za l|some (.dfz l)=>Za l|_=>Zb)=Za l:=e;split at e<;>cases e
  ·rename_i hg;obtain⟨_,vs,h1,h2⟩:=S.get hg;exact⟨_,vs,rfl,.inl h1,h2⟩
  ·rename_i hg;obtain⟨_,ob,vs,h1,h2⟩:=S.get hg;exact⟨_,vs,rfl,.inr ⟨ob,h1⟩,h2⟩
 |_=>cases e
theorem Rep.toV(r:Rep K H m s x v)(e:L2.toV v=Za z):x=z:=by cases r<;>first|cases e;rfl|cases e
theorem Reps.toVs:∀{vs:List V}{l:List PV}{zs:List V},Reps K H m s vs l->L2.toVs l=Za zs->vs=zs
 |_,_,_,.nil,e=>by cases e;rfl
 |_,_,_,.cons a b,e=>by
  unfold L2.toVs at e;split at e<;>cases e
  rename_i h1 h2;rw[a.toV h1,b.toVs h2]
def zE{v}(e:L2.toV v=Za z):sV z=true:=by cases v<;>first|cases e;rfl|cases e
theorem xg:∀{l:List PV}{zs:List V},L2.toVs l=Za zs->zs.all sV=true
 |[],_,e=>by cases e;rfl
 |p::l,_,e=>by
  unfold L2.toVs at e;split at e<;>cases e
  rename_i h1 h2;rw[iN,zE h1,xg h2];rfl
theorem Reps.get:∀{vs:List V}{l:List PV}{i:Nat}{p:PV},Reps K H m s vs l->l[i]?=Za p->∃u,vs[i]?=Za u/\Rep K H m s u p
 |_,_,_,_,.nil,e=>by simp at e
 |_,_,0,_,.cons a _,e=>by simp at e;subst e;exact⟨_,rfl,a⟩
 |_,_,i+1,p,.cons _ b,e=>by obtain⟨u,h1,h2⟩:=b.get (i:=i) (p:=p) (by simpa using e);exact⟨u,by simpa using h1,h2⟩
theorem Reps.atI(r:Reps K H m s vs l)(e:L2.atI l i=Za p):∃u,L2.atI vs i=Za u/\Rep K H m s u p:=by
 unfold L2.atI at e ⊢;rw[r.length];cases c:ixN l.length i with
 |none=>rw[c] at e;cases e
 |some j=>rw[c] at e;exact r.get e
theorem Reps.append:∀{vs ws:List V}{l k:List PV},Reps K H m s vs l->Reps K H m s ws k->Reps K H m s (vs++ws) (l++k)
 |_,_,_,_,.nil,q=>q
 |_,_,_,_,.cons a b,q=>.cons a (b.append q)
theorem Reps.drop:∀{vs:List V}{l:List PV}(n:Nat),Reps K H m s vs l->Reps K H m s (vs.drop n) (l.drop n)
 |_,_,0,r=>r
 |_,_,_+1,.nil=>.nil
 |_,_,n+1,.cons _ b=>b.drop n
theorem Reps.take:∀{vs:List V}{l:List PV}(n:Nat),Reps K H m s vs l->Reps K H m s (vs.take n) (l.take n)
 |_,_,0,_=>.nil
 |_,_,_+1,.nil=>.nil
 |_,_,n+1,.cons a b=>.cons a (b.take n)
theorem Reps.set:∀{vs:List V}{l:List PV}{u:V}{p:PV}(i:Nat),Reps K H m s vs l->Rep K H m s u p->Reps K H m s (vs.set i u) (l.set i p)
 |_,_,_,_,_,.nil,_=>.nil
 |_,_,_,_,0,.cons _ b,r=>.cons r b
 |_,_,_,_,i+1,.cons a b,r=>.cons a (b.set i r)
theorem Reps.strs:∀{vs:List V}{ss:List Str},Reps K H m s vs (ss.map PV.str)->vs=ss.map V.str
 |_,[],.nil=>rfl
 |_,x::ss,.cons a b=>by cases a;rw[Reps.strs (ss:=ss) b];rfl
theorem Reps.ofStrs:∀(ss:List Str),Reps K H m s (ss.map V.str) (ss.map PV.str)
 |[]=>.nil
 |_::r=>.cons .str (Reps.ofStrs r)
theorem RepKs.keys:∀{vs:List (Key×V)}{l:List (Key×PV)},RepKs K H m s vs l->vs.map (·.1)=l.map (·.1)
 |_,_,.nil=>rfl
 |_,_,.cons _ b=>by simp[b.keys]
theorem RepKs.length(r:RepKs K H m s vs l):vs.length=l.length:=by have:=congrArg cg r.keys;simpa using this
theorem RepKs.val:∀{vs:List (Key×V)}{l:List (Key×PV)}(k:Key),RepKs K H m s vs l->(∀p,qz l k=Za p->∃u,om vs k=Za u/\Rep K H m s u p)/\(qz l k=Zb->om vs k=Zb)
 |_,_,k,.nil=>⟨λp e=>(by cases e),λ_=>rfl⟩
 |_,_,k,.cons (k:=q) (p:=p0) (v:=v0) a b=>by
  by_cases e:q=k
  ·refine⟨λp h=>⟨v0,wk e,?_⟩,λh=>?_⟩
   ·unfold qz at h;simp[e] at h;subst h;exact a
   ·unfold qz at h;simp[e] at h
  ·rw[wl e];have h2:∀{l:List (Key×PV)},qz ((q,p0)::l) k=qz l k:=λ{l}=>by unfold qz;simp[e]
   rw[h2];exact b.val k
theorem RepKs.any(r:RepKs K H m s vs l)(k):(vs.any λkv=>decide (kv.1=k))=l.any λkv=>decide (kv.1=k):=by
 have h:∀{β:Type}(l:List (Key×β)),(l.any λkv=>decide (kv.1=k))=(l.map (·.1)).any λj=>decide (j=k):=λl=>by rw[gX];rfl
 rw[h,h,r.keys]
theorem RepKs.mapput:∀{vs:List (Key×V)}{l:List (Key×PV)}{u:V}{p:PV}(k:Key),RepKs K H m s vs l->Rep K H m s u p->RepKs K H m s (vs.map λkv=>if kv.1=k then(kv.1,u) else kv) (l.map λkv=>if kv.1=k then(kv.1,p) else kv)
 |_,_,_,_,_,.nil,_=>.nil
 |_,_,u,p,k,.cons (k:=q) a b,r=>by
  rw[ao,ao];by_cases e:q=k
  ·rw[Zc e,Zc e];exact .cons r (b.mapput k r)
  ·rw[Zd e,Zd e];exact .cons a (b.mapput k r)
theorem RepKs.append:∀{vs ws:List (Key×V)}{l k:List (Key×PV)},RepKs K H m s vs l->RepKs K H m s ws k->RepKs K H m s (vs++ws) (l++k)
 |_,_,_,_,.nil,q=>q
 |_,_,_,_,.cons a b,q=>.cons a (b.append q)
def RepKs.put(k)(q:RepKs K H m s vs l)(r:Rep K H m s u p):RepKs K H m s (qf vs k u) (yO l k p):=by
 unfold qf yO;rw[q.any];split
 ·exact q.mapput k r
 ·exact q.append (.cons r .nil)
def qj(r:Rep K H m s x v)(e:kyOf v=Za k):x=kV k:=by cases r<;>first|cases e;rfl|cases e
end
section
variable{X:Cx}{CB:ak}{E:XK}
theorem Reps.readss{sh:ax}{H:Hp}{m:Mp}{s:Sto}{k:Nat}(ih:∀{v:V}{p:PV}{u:ah}{d:jQ},Rep X.K H m s v p->RelV v u->PV.data s k p=Za d->(∃as,Reads sh.heap u d as)/\d.canLay0=true/\d.depth<=k) :
  ∀{v:List V}{p:List PV}{u:List ah}{d:List jQ},Reps X.K H m s v p->Vals v u->vP (PV.data s k) p=Za d->(∃as,ReadsAll sh.heap u.toArray.toList d as)/\lc d=true/\PyData.depthAll d<=k
 |_,_,_,_,.nil,.nil,e=>by unfold vP at e;cases e;exact⟨⟨_,.nil⟩,rfl,aX _⟩
 |_,_,_,_,.cons a b,.cons r rs,e=>by
  unfold vP at e;split at e<;>cases e
  rename_i h1 h2;obtain⟨⟨as,r1⟩,r2,r3⟩:=ih a r h1;obtain⟨⟨bs,q1⟩,q2,q3⟩:=Reps.readss ih b rs h2;refine⟨⟨_,.cons r1 (by simpa using q1)⟩,by unfold lc;rw[r2,q2];rfl,?_⟩;unfold PyData.depthAll;lia
theorem Rep.reads(I:Inv X O2 O H sh)(S:SR X.K CB H m s):∀(k:Nat){v:V}{p:PV}{u:ah}{d:jQ},Rep X.K H m s v p->RelV v u->PV.data s k p=Za d ->
  (∃as,Reads sh.heap u d as)/\d.canLay0=true/\d.depth<=k
 |0,_,p,_,_,_,_,e=>by cases p<;>(unfold PV.data at e;cases e)
 |k+1,_,_,_,_,.non,ru,e=>by cases ru;unfold PV.data at e;cases e;exact⟨⟨_,.none⟩,rfl,aX _⟩
 |k+1,_,_,_,_,.bl,ru,e=>by cases ru;unfold PV.data at e;cases e;exact⟨⟨_,.bool _⟩,rfl,aX _⟩
 |k+1,_,_,_,_,.int,ru,e=>by obtain⟨t,rfl⟩:=ru;unfold PV.data at e;cases e;exact⟨⟨_,.int _ _⟩,rfl,aX _⟩
 |k+1,_,_,_,_,.str,ru,e=>by
  obtain⟨t,rfl⟩:=ru;unfold PV.data at e;split at e<;>cases e
  rename_i h;exact⟨⟨_,.str _ _⟩,h,aX _⟩
 |k+1,_,_,_,_,.tup (l:=l) h q,ru,e=>by
  cases ru;unfold PV.data at e;cases c:vP (PV.data s k) l with
  |none=>rw[c] at e;cases e
  |some ds =>
   rw[c] at e;cases e;obtain⟨its,rv,⟨o,g1,g2,n,g3⟩,_⟩:=I.tuple (h.elim (λz=>(.inl z.1:SqT X.K H _ _)) .inr);obtain⟨⟨as,r1⟩,r2,r3⟩:=Reps.readss (Rep.reads I S k) q rv c;exact⟨⟨_,.tuple g1 g2 g3 r1⟩,by unfold ib;exact r2,by unfold iP;lia⟩
 |k+1,_,_,_,_,.lst (l:=l) h _ q,ru,e=>by
  cases ru;unfold PV.data at e;cases c:vP (PV.data s k) l with
  |none=>rw[c] at e;cases e
  |some ds =>
   rw[c] at e;cases e;obtain⟨its,rv,⟨o,n,g1,g2,_,g3⟩,_⟩:=I.list (SqL.of h);obtain⟨⟨as,r1⟩,r2,r3⟩:=Reps.readss (Rep.reads I S k) q rv c;exact⟨⟨_,.list g1 g2 g3 r1⟩,by unfold ib;exact r2,by unfold iP;lia⟩
 |k+1,_,_,_,_,.seq (l:=l) h q,ru,e=>by
  cases ru;unfold PV.data at e;cases c:vP (PV.data s k) l with
  |none=>rw[c] at e;cases e
  |some ds =>
   rw[c] at e;cases e;obtain⟨its,rv,⟨o,n,g1,g2,_,g3⟩,_⟩:=I.list (h.elim (λz=>(.inl (.inr z.1):SqL X.K H _ _)) .inr);obtain⟨⟨as,r1⟩,r2,r3⟩:=Reps.readss (Rep.reads I S k) q rv c;exact⟨⟨_,.list g1 g2 g3 r1⟩,by unfold ib;exact r2,by unfold iP;lia⟩
 |k+1,_,_,_,_,.dct _ _ _,_,e=>by unfold PV.data at e;cases e
 |k+1,_,_,_,_,.exc _ _,_,e=>by unfold PV.data at e;cases e
 |k+1,_,_,_,_,.clo _,_,e=>by unfold PV.data at e;cases e
 |k+1,_,_,_,_,.ref _,ru,e=>by
  cases ru;unfold PV.data at e;split at e<;>first|cases e|skip
  rename_i l hg;cases c:vP (PV.data s k) l with
  |none=>rw[c] at e;cases e
  |some ds =>
   rw[c] at e;cases e;obtain⟨_,vs,h1,q⟩:=S.get hg;obtain⟨its,rv,⟨o,n,g1,g2,_,g3⟩,_⟩:=I.list (SqL.of h1);obtain⟨⟨as,r1⟩,r2,r3⟩:=Reps.readss (Rep.reads I S k) q rv c;exact⟨⟨_,.list g1 g2 g3 r1⟩,by unfold ib;exact r2,by unfold iP;lia⟩
def Bt(k:Nat)(n:Int):Prop:=n.natAbs<2^k
def Bt.mono(h:Bt k n)(hl:k<=l):Bt l n:=ay h (cj (by decide) hl)
def Bt.mul(h:Bt k n)(g:Bt l m):Bt (k+l) (n*m):=by
 unfold Bt at *;rw[iF,ju];by_cases z:m.natAbs=0
 ·rw[z,Nat.mul_zero];exact lg (cq k) (cq l)
 ·exact ay (Nat.mul_lt_mul_of_pos_right h (Nat.pos_of_ne_zero z)) (lC _ (eE g))
def Bt.add(h:Bt k n)(g:Bt k m):Bt (k+1) (n+m):=by unfold Bt at *;have:=Int.natAbs_add_le n m;rw[f6];lia
def Bt.neg(h:Bt k n):Bt k (-n):=by unfold Bt at *;rw[iE];exact h
def Bt.div(h:Bt k n):Bt k (n/d):=aZ (Int.natAbs_ediv_le_natAbs n d) h
def Bt.dvd(h:Bt k n)(hn:n≠0)(hd:d∣n):Bt k d:=aZ (Nat.le_of_dvd (by lia) (fC.mpr hd)) h
def Bt.log(h:Bt 9000 n)(h0:0<n):n.natAbs.log2<9000:=(Nat.log2_lt (by lia)).mpr h
def Ei(h:Bt 20000 i):bW i<=2^20:=by
 unfold bW;split
 ·exact aX _
 ·rename_i z;have z:i≠0:=by simpa using z
  have:=(Nat.log2_lt (by lia:i.natAbs≠0)).mpr h;lia
def op_mulB:OpR X (dI .Mult) (rI (λi j=>Bt 20000 i/\Bt 20000 j) λi j=>.int (i*j)):=opI λ_ _ _ _ _ _ _ hc q=>mul_int q (.of_bits (Ei hc.1) (Ei hc.2))
def KA(K:aa):R2:=λx y H Q=>∃l b xs zs,x=.ref l/\y=.ref b/\SqL K H l xs/\SqL K H b zs/\xs.length+zs.length<=aJ/\∀p,H p=Zb->Q (.ref p) (upd H p (.lst (xs++zs)))
def LB:OpR X (dI .Add) (KA X.K):=by
 intro O2 s O H x y v u Q I rx ry h;obtain⟨l,b,xs,zs,rfl,rfl,hH,hB,hz,q⟩:=h;cases rx;cases ry;obtain⟨its,r,ht,_⟩:=I.list hH;obtain⟨P7,r2,Tf,_⟩:=I.list hB;have l1:=r.length;have l2:=r2.length;obtain⟨⟨cls,dd,data,sl⟩,n,ho,hc,_,hd⟩:=ht;obtain⟨⟨cls2,VX,data2,SN⟩,n2,Ri,RB,_,QD⟩:=Tf;simp only at hc hd RB QD;subst hc hd RB QD;refine concat_meets ⟨_,ho,rfl⟩ ⟨_,Ri,rfl⟩ noFill_list_add seq_list_add PySem.F.slot_list_add PySem.F.entry_list_add (PySem.F.args_list_add_2 _ _) (list_addW l b its.toArray P7.toArray n n2 dd VX sl SN (by rw[aN,aN];lia)) ⟨ho,Ri,?_⟩;have ea:its.toArray++P7.toArray=(its++P7).toArray:=by simp
 rw[ea];exact⟨.ref _,_,I.lnew (t':=s.toks) (r.append r2) (by rw[aM];lia),rfl,q _ I.fresh⟩
def NO:V->List V->Hp->VK->Prop:=λx vs H Q=>∃(l:ak)(ss:List Str)(y:Str)(j:Nat),x=.ref l/\vs=[.str y]/\H l=Za (.lst (ss.map V.str))/\ss[j]?=Za y/\(∀m,m<j->ss[m]?≠Za y)/\ss.length<1000/\Q (.int (j:Nat)) H
def IT:MtM X "list.index" NO:=by
 intro O2 s O H x vs v us Q I rx rv h;obtain⟨l,ss,y,j,rfl,rfl,hH,hj,Qu,O6,q⟩:=h;cases rx;obtain⟨u,rfl,ru⟩:=rv.one;obtain⟨t,rfl⟩:=ru;obtain⟨z,its,n,r,hl,e⟩:=I.lstM hH;rw[ac] at hl;have U6:∀m (hm:m<its.toArray.size),∃z tz,its.toArray[m]=.str z tz/\ss[m]?=Za z:=λm hm=>by
  have Rx:m<ss.length:=by rw[hl];simpa using hm
  obtain⟨u,hu,ru⟩:=r.get (i:=m) (x:=.str ss[m]) (by simp[Rx]);obtain⟨tz,rfl⟩:=ru;refine⟨ss[m],tz,?_,by simp[Rx]⟩;have:its[m]?=Za its.toArray[m]:=by simp[show m<its.length by simpa using hm]
  rw[hu] at this;exact(aO this).symm
 have jl:j<its.toArray.size:=by have:=(aS.mp hj).1;rw[aN];lia
 refine jj jJ ⟨_,e,rfl⟩ PySem.F.entry_list_index (PySem.F.args_list_index_2 _ _)
  (SeqAt.list_indexAt l its.toArray n _ _ (.str y t) (λv=>match v with|.str z _=>decide (z=y)|_=>false) j jl (by rw[aN] at jl;lia) ?_ ?_) ⟨e,λw hw=>?_,⟨.int j,H,I.tok _,⟨_,rfl⟩,q⟩⟩
 ·obtain⟨z',tz,e1,e2⟩:=U6 j jl;rw[e1];rw[hj] at e2;exact Zg (aO e2).symm
 ·intro m hm Pd;obtain⟨z',tz,e1,e2⟩:=U6 m hm;rw[e1];exact Zh λw=>Qu m Pd (by rw[e2,w])
 ·obtain⟨m,hm,rfl⟩:=Array.getElem_of_mem hw;obtain⟨z',tz,e1,e2⟩:=U6 m hm;rw[e1];exact Fx (show RelV (.str z') (.str z' tz) from⟨tz,rfl⟩) (show RelV (.str y) (.str y t) from⟨t,rfl⟩) rfl rfl
def OU:R2:=λx y H Q=>∃a v,x=.ref a/\DGet H a y (Za v)/\Q v H
def LZ(hu:X.A.units+1<fD):IxR X OU:=by
 intro value Pj O2 s O H x y v u Q I rx ry h hs;obtain⟨a,z,rfl,g,q⟩:=h;obtain rfl:v=bj a:=rx;have hT:=xQ I g;unfold jh;refine ap ?_;rw[getitemInPython_of_ne hT.not_modules];refine ap (wpAny_specialOf hT jq.lookup ?_);have Pq:aT (model X.prog X.w) X.A (subscripted Pj false (.ref a) u) (λr O7=>aT (model X.prog X.w) X.A (letTemporaryGo value (.ref a) r >>= λ_=>pure r) (EP X O2 O Q) X.xe O7) X.xe s:=by rw[hs];exact wpAny_operating (bO (Bx hu I g ry λw' s3 I3 PB=>(⟨z,H,I3,PB,q⟩:EP X O2 O Q w' s3)) (λr O7 SA=>ap (wpAny_letTemporaryGo (aL SA))) λ_ _ x=>x)
 first
  |exact aL (ap Pq)
  |exact ap (aL (ap Pq))
  |exact ap Pq
def rInD:R2:=λy x H Q=>∃a o,x=.ref a/\DGet H a y o/\Q (.bl o.isSome) H
def EL(hu:X.A.units+1<fD):OpR X (cm .In) rInD:=by intro O2 s O H y x v u Q I ry rx h;obtain⟨a,o,rfl,g,q⟩:=h;obtain rfl:u=bj a:=rx;exact d_in hu I g ry λs3 I3=>⟨.bl o.isSome,H,I3,rfl,q⟩
def HA:CallR X (.builtin "len") (λxs H Q=>∃a kvs,xs=[V.ref a]/\Rd H a (.dK kvs)/\Q (.int kvs.length) H):=by intro O2 s O H xs us Q I r h;obtain⟨a,kvs,rfl,ha,q⟩:=h;obtain⟨u,rfl,ru⟩:=qp r;cases ru;exact Np I ha λt s' I'=>⟨.int kvs.length,H,I',⟨t,rfl⟩,q⟩
def OV(K:aa)(CB:ak)(neg:Bool):R2:=λx y H Q=>∃m s v w d e,SR K CB H m s/\Rep K H m s x v/\Rep K H m s y w/\PV.data s 12 v=Za d/\PV.data s 12 w=Za e/\Q (.bl (if neg then !bu d e else bu d e)) H
def N6{CB}(hu:X.A.units+12<fD):OpR X (cm .Eq) (OV X.K CB false):=by intro O2 s O H x y v u Q I rx ry h;obtain⟨m,t,p,q,d,e,S,r1,r2,e1,e2,k⟩:=h;obtain⟨⟨as,a1⟩,a2,a3⟩:=r1.reads I S 12 rx e1;obtain⟨⟨bs,b1⟩,b2,b3⟩:=r2.reads I S 12 ry e2;exact SeqAt.rcAt_reads a1 b1 a2 b2 (by lia) _ _ _ _ ⟨.bl _,H,I,rfl,k⟩
def N2{CB}(hu:X.A.units+12<fD):OpR X (cm .NotEq) (OV X.K CB true):=by intro O2 s O H x y v u Q I rx ry h;obtain⟨m,t,p,q,d,e,S,r1,r2,e1,e2,k⟩:=h;obtain⟨⟨as,a1⟩,a2,a3⟩:=r1.reads I S 12 rx e1;obtain⟨⟨bs,b1⟩,b2,b3⟩:=r2.reads I S 12 ry e2;exact SeqAt.rcNeAt_reads a1 b1 a2 b2 (by lia) _ _ _ _ ⟨.bl _,H,I,rfl,k⟩
end
def oF(i j:Int):Prop:=(Bt 20000 i/\Bt 20000 j)\/CMul i j
def zi(j:Int):Prop:=0<j/\Bt 9000 j
noncomputable instance (i j:Int):Decidable (oF i j):=dF _
noncomputable instance (j:Int):Decidable (zi j):=dF _
def fAdd(v w:PV)(s:Sto):Out PV:=match v,w with
 |.int i,.int j=>.ok (.int (i+j)) s
 |.str x,.str y=>if x.length+y.length<=100000 then .ok (.str (x++y)) s else .bad
 |v,w=>match lsOf s v,lsOf s w with
  |some l,Za k=>if l.length+k.length<=100000 then .ok (.lst (l++k)) s else .bad
  |_,_=>.bad
def fSub(v w:PV)(s:Sto):Out PV:=match v,w with
 |.int i,.int j=>.ok (.int (i-j)) s
 |_,_=>.bad
def fMul(v w:PV)(s:Sto):Out PV:=match v,w with
 |.int i,.int j=>if oF i j then .ok (.int (i*j)) s else .bad
 |.lst l,.int k=>if -(2^63)<=k/\k<2^63/\l.length*k.toNat<=100000 then .ok (.lst (aR k.toNat l).flatten) s else .bad
 |_,_=>.bad
def fDiv(v w:PV)(s:Sto):Out PV:=match v,w with
 |.int i,.int j=>if zi j then .ok (.int (i/j)) s else .bad
 |_,_=>.bad
def fMod(v w:PV)(s:Sto):Out PV:=match v,w with
 |.int i,.int j=>if 0<j then .ok (.int (i%j)) s else .bad
 |_,_=>.bad
def fPow(v w:PV)(s:Sto):Out PV:=match v,w with
 |.int i,.int j=>if 0<=j/\j<=1000000/\i.natAbs<2^64 then .ok (.int (i^j.toNat)) s else .bad
 |_,_=>.bad
def fCmp(p:Int->Int->Bool)(v w:PV)(s:Sto):Out PV:=match v,w with
 |.int i,.int j=>.ok (.bl (p i j)) s
 |_,_=>.bad
abbrev fLt:=fCmp λi j=>decide (i<j)
abbrev fGt:=fCmp λi j=>decide (j<i)
abbrev fGe:=fCmp λi j=>decide (j<=i)
def fEqN(neg:Bool)(v w:PV)(s:Sto):Out PV:=match PV.data s 12 v,PV.data s 12 w with
 |some d,Za e=>.ok (.bl (if neg then !bu d e else bu d e)) s
 |_,_=>.bad
abbrev fEq:=fEqN false
abbrev fNe:=fEqN true
def PV.isNon:PV->Bool
 |.non=>true
 |_=>false
def fIs(v w:PV)(s:Sto):Out PV:=match w with
 |.non=>.ok (.bl v.isNon) s
 |_=>.bad
def fIsnt(v w:PV)(s:Sto):Out PV:=match w with
 |.non=>.ok (.bl (!v.isNon)) s
 |_=>.bad
def JB(neg b:Bool):Bool:=if neg then !b else b
def sX(neg:Bool)(v w:PV)(s:Sto):Out PV:=match dcOf s w with
 |some l=>match kyOf v with
  |some k=>.ok (.bl (JB neg (qz l k).isSome)) s
  |none=>.bad
 |none=>match toV v with
  |none=>.bad
  |some x=>match w with
   |.tup l=>match toVs l with
    |some zs=>.ok (.bl (JB neg (inV x zs))) s
    |none=>.bad
   |w=>match lsOf s w with
    |some l=>match toVs l with
     |some zs=>.ok (.bl (JB neg (inV x zs))) s
     |none=>.bad
    |none=>.bad
abbrev fIn:=sX false
def fIx(v w:PV)(s:Sto):Out PV:=match v with
 |.tup l=>match w with
  |.int i=>match atI l i with
   |some p=>.ok p s
   |none=>.bad
  |_=>.bad
 |.str x=>match w with
  |.int i=>match atI x.cps.toList i with
   |some c=>if x.length<=100000 then .ok (.str ⟨#[c]⟩) s else .bad
   |none=>.bad
  |_=>.bad
 |v=>match lsOf s v with
  |some l=>match w with
   |.int i=>match atI l i with
    |some p=>.ok p s
    |none=>.bad
   |_=>.bad
  |none=>match dcOf s v with
   |some l=>match kyOf w with
    |some k=>match qz l k with
     |some p=>.ok p s
     |none=>.bad
    |none=>.bad
   |none=>.bad
def fNeg(v:PV)(s:Sto):Out PV:=match v with
 |.int i=>.ok (.int (-i)) s
 |_=>.bad
section
variable{X:Cx}{CB:ak}{E:XK}
def o_add:Op2 X.K CB E (λx y H Q=>rI0 (λi j=>V.int (i+j)) x y H Q\/(∃i j,x=V.str i/\y=V.str j/\i.length+j.length<=aJ/\Q (V.str (i++j)) H)\/KA X.K x y H Q) fAdd:=by
 intro H m s v w x y Q S rx ry P;unfold fAdd at P;split at P
 ·cases rx;cases ry;exact .inl ⟨_,_,rfl,rfl,P.here S .int⟩
 ·cases rx;cases ry;split at P
  ·rename_i h;exact .inr (.inl ⟨_,_,rfl,rfl,sz5 h,P.here S .str⟩)
  ·exact P.elim
 ·split at P
  ·rename_i l k h1 h2;split at P
   ·rename_i h;obtain⟨a,vs,rfl,q1,r1⟩:=rx.ls S h1;obtain⟨b,ws,rfl,q2,r2⟩:=ry.ls S h2;exact .inr (.inr ⟨a,b,vs,ws,rfl,rfl,q1,q2,by rw[r1.length,r2.length];exact sz5 h,λp hp=>P.new S hp λex S'=>.lst lN (S.pure_none hp) ((r1.append r2).ext ex)⟩)
   ·exact P.elim
  ·exact P.elim
def LC:OpR X (dI .Add) (λx y H Q=>rI0 (λi j=>V.int (i+j)) x y H Q\/(∃i j,x=V.str i/\y=V.str j/\i.length+j.length<=aJ/\Q (V.str (i++j)) H)\/KA X.K x y H Q):=op_add.or (op_add_str.or LB)
def o_sub:Op2 X.K CB E (rI0 λi j=>V.int (i-j)) fSub:=by
 intro H m s v w x y Q S rx ry P;unfold fSub at P;split at P
 ·cases rx;cases ry;exact⟨_,_,rfl,rfl,P.here S .int⟩
 ·exact P.elim
theorem Reps.rep{K}{H}{m}{s}{vs}{l}(r:Reps K H m s vs l):∀n,Reps K H m s (aR n vs).flatten (aR n l).flatten
 |0=>.nil
 |n+1=>by rw[cZ,cZ,dZ,dZ];exact r.append (r.rep n)
def o_mul:Op2 X.K CB E (λx y H Q=>(rI (λi j=>Bt 20000 i/\Bt 20000 j) (λi j=>V.int (i*j)) x y H Q\/rI CMul (λi j=>V.int (i*j)) x y H Q)\/OQ x y H Q) fMul:=by
 intro H m s v w x y Q S rx ry P;unfold fMul at P;split at P
 ·cases rx;cases ry;split at P
  ·rename_i h;rcases h with h|h
   ·exact .inl (.inl ⟨_,_,rfl,rfl,h,P.here S .int⟩)
   ·exact .inl (.inr ⟨_,_,rfl,rfl,h,P.here S .int⟩)
  ·exact P.elim
 ·split at P
  ·rename_i h;cases rx with
   |lst h1 _ r1 =>
    cases ry;exact .inr ⟨_,_,_,rfl,rfl,h1,h.1,h.2.1,by rw[r1.length];exact sz5 h.2.2,λp hp=>P.new S hp λex S'=>.lst lN (S.pure_none hp) ((r1.rep _).ext ex)⟩
  ·exact P.elim
 ·exact P.elim
def Lz:OpR X (dI .Mult) (λx y H Q=>(rI (λi j=>Bt 20000 i/\Bt 20000 j) (λi j=>V.int (i*j)) x y H Q\/rI CMul (λi j=>V.int (i*j)) x y H Q)\/OQ x y H Q):=(op_mulB.or N3).or N0
def o_div:Op2 X.K CB E (rI (λ_ j=>0<j/\j.natAbs.log2<9000) λi j=>V.int (i/j)) fDiv:=by
 intro H m s v w x y Q S rx ry P;unfold fDiv at P;split at P
 ·cases rx;cases ry;split at P
  ·rename_i h;exact⟨_,_,rfl,rfl,⟨h.1,h.2.log h.1⟩,P.here S .int⟩
  ·exact P.elim
 ·exact P.elim
def o_mod:Op2 X.K CB E (rI (λ_ j=>0<j) λi j=>V.int (i%j)) fMod:=by
 intro H m s v w x y Q S rx ry P;unfold fMod at P;split at P
 ·cases rx;cases ry;split at P
  ·rename_i h;exact⟨_,_,rfl,rfl,h,P.here S .int⟩
  ·exact P.elim
 ·exact P.elim
def o_pow:Op2 X.K CB E (rI CPow λi j=>V.int (i^j.toNat)) fPow:=by
 intro H m s v w x y Q S rx ry P;unfold fPow at P;split at P
 ·cases rx;cases ry;split at P
  ·rename_i h;exact⟨_,_,rfl,rfl,h,P.here S .int⟩
  ·exact P.elim
 ·exact P.elim
def KG:Op2 X.K CB E (rI0 λi j=>V.bl (p i j)) (fCmp p):=by
 intro H m s v w x y Q S rx ry P;unfold fCmp at P;split at P
 ·cases rx;cases ry;exact⟨_,_,rfl,rfl,P.here S .bl⟩
 ·exact P.elim
def Na:Op2 X.K CB E (OV X.K CB neg) (fEqN neg):=by
 intro H m s v w x y Q S rx ry P;unfold fEqN at P;split at P
 ·rename_i d e h1 h2;exact⟨m,s,v,w,d,e,S,rx,ry,h1,h2,P.here S .bl⟩
 ·exact P.elim
def rDin(neg:Bool):R2:=λy x H Q=>∃a o,x=.ref a/\DGet H a y o/\Q (.bl (JB neg o.isSome)) H
def o_in:Op2 X.K CB E (λx y H Q=>rDin neg x y H Q\/rIn X.K neg x y H Q) (sX neg):=by
 intro H m s v w x y Q S rx ry P;unfold sX at P;split at P
 ·rename_i l hl;split at P
  ·rename_i k hk;obtain⟨a,vs,rfl,q,r⟩:=ry.dc S hl;refine .inl ⟨a,om vs k,rfl,.inl ⟨vs,k,q,qj rx hk,rfl⟩,?_⟩;obtain⟨r1,r2⟩:=r.val k;cases c:qz l k with
   |none=>rw[r2 c];rw[c] at P;exact P.here S .bl
   |some p=>obtain⟨u,e,_⟩:=r1 p c;rw[e];rw[c] at P;exact P.here S .bl
  ·exact P.elim
 ·split at P
  ·exact P.elim
  ·rename_i z hz;have ez:=rx.toV hz;subst ez;split at P
   ·split at P
    ·rename_i l zs Tb;obtain⟨a,vs,rfl,q,r⟩:=ry.tp;have e:=r.toVs Tb;subst e;exact .inr ⟨a,vs,rfl,.inr q,zE hz,xg Tb,P.here S .bl⟩
    ·exact P.elim
   ·split at P
    ·rename_i l hl;split at P
     ·rename_i zs Tb;obtain⟨a,vs,rfl,q,r⟩:=ry.ls S hl;have e:=r.toVs Tb;subst e;exact .inr ⟨a,vs,rfl,.inl q,zE hz,xg Tb,P.here S .bl⟩
     ·exact P.elim
    ·exact P.elim
def N4(hu:X.A.units+1<fD):OpR X (cm .In) (λx y H Q=>rDin false x y H Q\/rIn X.K false x y H Q):=(EL hu).or GX
def o_ix:Op2 X.K CB E (λx y H Q=>(OR X.K x y H Q\/OS x y H Q)\/(OT X.K x y H Q\/OU x y H Q)) fIx:=by
 intro H m s v w x y Q S rx ry P;unfold fIx at P;split at P
 ·split at P
  ·split at P
   ·rename_i p hp;cases ry;obtain⟨a,vs,rfl,q,r⟩:=rx.tp;obtain⟨u,e,ru⟩:=r.atI hp;exact .inl (.inl ⟨a,vs,_,u,rfl,rfl,q,e,P.here S ru⟩)
   ·exact P.elim
  ·exact P.elim
 ·split at P
  ·split at P
   ·rename_i c hc;split at P
    ·rename_i hl;cases rx;cases ry;exact .inl (.inr ⟨_,_,c,rfl,rfl,sz5 hl,hc,P.here S .str⟩)
    ·exact P.elim
   ·exact P.elim
  ·exact P.elim
 ·split at P
  ·rename_i l hl;split at P
   ·split at P
    ·rename_i p hp;cases ry;obtain⟨a,vs,rfl,q,r⟩:=rx.ls S hl;obtain⟨u,e,ru⟩:=r.atI hp;exact .inr (.inl ⟨a,vs,_,u,rfl,rfl,q,e,P.here S ru⟩)
    ·exact P.elim
   ·exact P.elim
  ·split at P
   ·rename_i l hl;split at P
    ·rename_i k hk;split at P
     ·rename_i p hp;obtain⟨a,vs,rfl,q,r⟩:=rx.dc S hl;obtain⟨u,e,ru⟩:=(r.val k).1 p hp;exact .inr (.inr ⟨a,u,rfl,.inl ⟨vs,k,q,qj ry hk,e.symm⟩,P.here S ru⟩)
     ·exact P.elim
    ·exact P.elim
   ·exact P.elim
def ix_U(hu:X.A.units+1<fD):IxR X (λx y H Q=>(OR X.K x y H Q\/OS x y H Q)\/(OT X.K x y H Q\/OU x y H Q)):=(ix_tup.or yi).or (ix_list.or (LZ hu))
def o_neg:Op1 X.K CB E (rU λi=>V.int (-i)) fNeg:=by
 intro H m s v x Q S rx P;unfold fNeg at P;split at P
 ·cases rx;exact⟨_,rfl,P.here S .int⟩
 ·exact P.elim
variable{a b c e:bo}{es:List bo}{f g h:XE}{fa:XA}{p pos O4 O5:Pos}{x:Str}
def nu(ha:DE X CB E a f)(hb:DE X CB E b g):DE X CB E (.BinOp a .Add b pos) (x2 f g fAdd):=zk LC o_add ha hb
def wc(ha:DE X CB E a f)(hb:DE X CB E b g):DE X CB E (.BinOp a .Sub b pos) (x2 f g fSub):=zk NZ o_sub ha hb
def mT(ha:DE X CB E a f)(hb:DE X CB E b g):DE X CB E (.BinOp a .Mult b pos) (x2 f g fMul):=zk Lz o_mul ha hb
def tK(ha:DE X CB E a f)(hb:DE X CB E b g):DE X CB E (.BinOp a .FloorDiv b pos) (x2 f g fDiv):=zk se o_div ha hb
def we(ha:DE X CB E a f)(hb:DE X CB E b g):DE X CB E (.BinOp a .Mod b pos) (x2 f g fMod):=zk J3 o_mod ha hb
def Ax(ha:DE X CB E a f)(hb:DE X CB E b g):DE X CB E (.BinOp a .Pow b pos) (x2 f g fPow):=zk N1 o_pow ha hb
def OG(ha:DE X CB E a f):DE X CB E (.UnaryOp .USub a pos) (x1 f fNeg):=de_un JG o_neg ha
def hu12(hr:Room k A):A.units+12<fD:=aZ (lE (by decide:12<=64) _) hr.units
def mh(ha:DE X CB E a f)(hb:DE X CB E b g)(hr:Room jr X.A:=by assumption)(hs:GC b:=by exact λ_ _=>rfl):DE X CB E (.Subscript a b pos) (x2 f g fIx):=⟨(rO (ix_U (nQ hr)) ha.pe hb.pe hs).mono λO H Q q=>two o_ix q⟩
structure CmpR(X:Cx)(CB:ak)(E:XK)(op:CmpOp)(F:PV->PV->Sto->Out PV):Prop where
 ex:∃r,OpR X (cm op) r/\Op2 X.K CB E r F
def c_lt:CmpR X CB E .Lt fLt:=⟨_,M6,KG⟩
def OZ:CmpR X CB E .Gt fGt:=⟨_,M8,KG⟩
def c_ge:CmpR X CB E .GtE fGe:=⟨_,KD,KG⟩
def Eh(hr:Room jr X.A:=by assumption):CmpR X CB E .Eq fEq:=⟨_,N6 (hu12 hr),Na⟩
def Ia(hr:Room jr X.A:=by assumption):CmpR X CB E .NotEq fNe:=⟨_,N2 (hu12 hr),Na⟩
def c_in(hr:Room jr X.A:=by assumption):CmpR X CB E .In fIn:=⟨_,N4 (nQ hr),o_in⟩
def HS(r:CmpR X CB E op F)(ha:DE X CB E a f)(hb:DE X CB E b g)(hm:cT op b=false:=by first|exact uY _|with_unfolding_all rfl):DE X CB E (.Compare a [op] [b] pos) (x2 f g F):=let⟨_,r1,r2⟩:=r.ex;L2.de_cmp r1 r2 ha hb hm
def pA(r:CmpR X CB E op F)(ha:DE X CB E a f)(hb:DE X CB E b g)(hm:cT op b=false:=by first|exact uY _|with_unfolding_all rfl):DT X CB E (.Compare a [op] [b] pos) (xTr (x2 f g F)):=let⟨_,r1,r2⟩:=r.ex;L2.dt_cmp r1 r2 ha hb hm
abbrev XO':=En->Sto->Out (Option Int)
def TDO(K:aa)(CB:ak)(E:XK)(f:XO'):TO:=λO H Q=>∃Z s m,ER K H m s O Z/\SR K CB H m s/\Post K CB (λ_ _ _ u v=>u=v) E (f Z s) H m s Q
structure DO(X:Cx)(CB:ak)(E:XK)(e:Option bo)(f:XO'):Prop where
 po:PO X e (TDO X.K CB E f)
def xNoP(_:En)(s:Sto):Out (Option Int):=.ok Zb s
def xPart(f:XE)(Z:En)(s:Sto):Out (Option Int):=(f Z s).bind λv s1=>match v with
 |.int i=>.ok (Za i) s1
 |_=>.bad
def PO.mono{e}{t t':TO}(h:PO X e t)(k:∀O H Q,t' O H Q->t O H Q):PO X e t':=λO2 s O H Q I q=>h O2 s O H Q I (k O H Q q)
def zh:DO X CB E Zb xNoP:=⟨po_none.mono λO H Q=>oE λZ s m er S P=>P.here S rfl⟩
def zg(h:DE X CB E e f):DO X CB E (Za e) (xPart f):=⟨(Lm h.pe).mono λO H Q=>oE λZ s m er S P=>⟨Z,s,m,er,S,P.bind λv s1 u H1 m1 e1 S1 r1 P1=>by cases r1<;>first|exact P1.elim|exact⟨_,rfl,P1.here S1 rfl⟩⟩⟩
def CG(l:List PV)(lo hi:Option Int):List PV:=(l.drop (HT.sIx l.length 0 lo)).take (HT.sIx l.length l.length hi-HT.sIx l.length 0 lo)
def fSl(v:PV)(lo hi:Option Int)(s:Sto):Out PV:=match v with
 |.tup l=>if HT.sIx l.length 0 lo=0/\HT.sIx l.length l.length hi=l.length then .bad else .ok (.tup (CG l lo hi)) s
 |v=>match lsOf s v with
  |some l=>.ok (.lst (CG l lo hi)) s
  |none=>.bad
def xSl(f:XE)(lo hi:XO')(Z:En)(s:Sto):Out PV:=(f Z s).bind λv s1=>(lo Z s1).bind λl s2=>(hi Z s2).bind λu s3=>fSl v l u s3
def Reps.cut{K}{H}{m}{s}{vs}{l}(r:Reps K H m s vs l)(lo hi):Reps K H m s (Gq vs lo hi) (CG l lo hi):=by unfold Gq CG;rw[r.length];exact(r.drop _).take _
def HQ{lo hi}{fl fh:XO'}{p2}(ha:DE X CB E a f)(hl:DO X CB E lo fl)(hh:DO X CB E hi fh):DE X CB E (.Subscript a (.Slice lo hi Zb p2) pos) (xSl f fl fh) :=
 ⟨(ID (sl_list.or NI) ha.pe hl.po hh.po).mono λO H Q=>oE λZ s m er S P=>⟨Z,s,m,er,S,P.bind λv s1 u H1 m1 e1 S1 r1 P1=>⟨Z,s1,m1,er.ext e1,S1,P1.bind λl s2 l' H2 m2 e2 S2 r2 P2=>by
  cases r2;refine⟨Z,s2,m2,(er.ext e1).ext e2,S2,P2.bind λk s3 k' H3 m3 e3 S3 r3 P3=>?_⟩;cases r3;have r1:=(r1.ext e2).ext e3;unfold fSl at P3;split at P3
  ·split at P3
   ·exact P3.elim
   ·rename_i hn;obtain⟨a,vs,rfl,q,r⟩:=r1.tp;exact .inr ⟨a,vs,rfl,q,by rw[r.length];exact hn,λp hp=>P3.new S3 hp λex S'=>.tup (.inl ⟨.inl lN,S'.pure_tup lN⟩) ((r.cut _ _).ext ex)⟩
  ·split at P3
   ·rename_i l hl;obtain⟨a,vs,rfl,q,r⟩:=r1.ls S3 hl;exact .inl ⟨a,vs,rfl,q,λp hp=>P3.new S3 hp λex S'=>.lst lN (S3.pure_none hp) ((r.cut _ _).ext ex)⟩
   ·exact P3.elim⟩⟩⟩
def xB(fa:XA)(F:List PV->Sto->Out PV)(Z:En)(s:Sto):Out PV:=(fa Z s).bind F
def nOf(o:OpN X.K CB E r F)(q:TDE X.K CB E (xB fa F) O H Q):tCB r (TDA X.K CB E fa) O H Q:=by obtain⟨Z,s,m,er,S,P⟩:=q;exact⟨Z,s,m,er,S,P.bind λv s1 u H1 m1 e1 S1 r1 P1=>o H1 m1 s1 v u Q S1 r1 P1⟩
structure BltR(X:Cx)(CB:ak)(E:XK)(fv:ah)(F:List PV->Sto->Out PV):Prop where
 ex:∃r,CallR X fv r/\OpN X.K CB E r F
def mP{id:String}{F}(r:BltR X CB E (.builtin id) F)(ha:DA X CB E (e::es) fa)(hg:Gl X x:=by rfl)(hm:X.mg x=none:=by first|exact T.b_len|exact T.b_str|exact T.b_sorted|exact T.b_tuple|exact T.b_int|exact T.b_list|exact T.b_abs|exact T.b_all|exact T.b_any|exact T.b_max|exact T.b_bool|exact T.b_dict)(hv:bP x=Za (.builtin id):=by first|exact C1|exact uQ|exact OO|exact Kq|exact bt_any|exact bt_max)(hn:x≠"__name__":=by decide)(PL:NDb x:=by decide)(hs:SEb X e es:=by rfl)(Pn:(b8 pos (aC es X.env)).any (·.1)=false:=by rfl):DE X CB E (.Call (.Name x p) (e::es) [] pos) (xB fa F) :=
 let⟨_,r1,r2⟩:=r.ex;⟨(pz r1 hg hm hv ha.pa hn PL hs Pn).mono λO H Q q=>nOf r2 q⟩
def qJ(r:BltR X CB E (.type T) F)(ha:DA X CB E (e::es) fa)(hg:Gl X x:=by rfl)(hm:X.mg x=none:=by first|exact T.b_len|exact T.b_str|exact T.b_sorted|exact T.b_tuple|exact T.b_int|exact T.b_list|exact T.b_abs|exact T.b_all|exact T.b_any|exact T.b_max|exact T.b_bool|exact T.b_dict)(hv:bP x=Za (.type T):=by first|exact OM|exact Jz|exact ON|exact MG|exact bt_dict)(hn:x≠"__name__":=by decide)(PL:NDb x:=by decide)(hs:SEb X e es:=by rfl)(Pn:(b8 pos (aC es X.env)).any (·.1)=false:=by rfl):DE X CB E (.Call (.Name x p) (e::es) [] pos) (xB fa F) :=
 let⟨_,r1,r2⟩:=r.ex;⟨(qF r1 hg hm hv ha.pa hn PL hs Pn).mono λO H Q q=>nOf r2 q⟩
def fLen(vs:List PV)(s:Sto):Out PV:=match vs with
 |[.tup l]=>.ok (.int l.length) s
 |[.str x]=>if x.length<=100000 then .ok (.int x.length) s else .bad
 |[v]=>match lsOf s v with
  |some l=>.ok (.int l.length) s
  |none=>match dcOf s v with
   |some l=>.ok (.int l.length) s
   |none=>.bad
 |_=>.bad
def b_len:BltR X CB E (.builtin "len") fLen:=⟨_,call_len_seq.or (call_len_str.or HA),by
 intro H m s v x Q S rx P;unfold fLen at P;split at P
 ·cases rx with
  |cons r n =>
   cases n;obtain⟨a,vs,rfl,q,r⟩:=r.tp;rw[<-r.length] at P;exact .inl ⟨a,vs,rfl,.inr q,P.here S .int⟩
 ·cases rx with
  |cons r n =>
   cases n;cases r;split at P
   ·rename_i h;exact .inr (.inl ⟨_,rfl,sz5 h,P.here S .int⟩)
   ·exact P.elim
 ·cases rx with
  |cons r n =>
   cases n;split at P
   ·rename_i l hl;obtain⟨a,vs,rfl,q,r⟩:=r.ls S hl;rw[<-r.length] at P;exact .inl ⟨a,vs,rfl,.inl q,P.here S .int⟩
   ·split at P
    ·rename_i l hl;obtain⟨a,vs,rfl,q,r⟩:=r.dc S hl;rw[<-r.length] at P;exact .inr (.inr ⟨a,vs,rfl,q,P.here S .int⟩)
    ·exact P.elim
 ·exact P.elim⟩
def fAbs(vs:List PV)(s:Sto):Out PV:=match vs with
 |[.int i]=>.ok (.int (if i<0 then -i else i)) s
 |_=>.bad
def b_abs:BltR X CB E (.builtin "abs") fAbs:=⟨_,Jx,by
 intro H m s v x Q S rx P;unfold fAbs at P;split at P
 ·cases rx with
  |cons r n=>cases n;cases r;exact⟨_,rfl,P.here S .int⟩
 ·exact P.elim⟩
def fInt(vs:List PV)(s:Sto):Out PV:=match vs with
 |[.int i]=>.ok (.int i) s
 |[.bl b]=>.ok (.int (if b=true then 1 else 0)) s
 |_=>.bad
def b_int:BltR X CB E (.type "int") fInt:=⟨_,HB,by
 intro H m s v x Q S rx P;unfold fInt at P;split at P
 ·cases rx with
  |cons r n=>cases n;cases r;exact .inl ⟨_,rfl,P.here S .int⟩
 ·cases rx with
  |cons r n=>cases n;cases r;exact .inr ⟨_,rfl,P.here S .int⟩
 ·exact P.elim⟩
def fTuple(vs:List PV)(s:Sto):Out PV:=match vs with
 |[v]=>match lsOf s v with
  |some l=>.ok (.tup l) s
  |none=>.bad
 |_=>.bad
def b_tuple:BltR X CB E (.type "tuple") fTuple:=⟨_,Az,by
 intro H m s v x Q S rx P;unfold fTuple at P;split at P
 ·cases rx with
  |cons r n =>
   cases n;split at P
   ·rename_i l hl;obtain⟨a,vs,rfl,q,r⟩:=r.ls S hl;exact⟨a,vs,rfl,.inl ⟨q,λp hp=>P.new S hp λex S'=>.tup (.inl ⟨.inl lN,S'.pure_tup lN⟩) (r.ext ex)⟩⟩
   ·exact P.elim
 ·exact P.elim⟩
def fList(vs:List PV)(s:Sto):Out PV:=match vs with
 |[.tup l]=>.ok (.lst l) s
 |[v]=>match lsOf s v with
  |some l=>.ok (.lst l) s
  |none=>.bad
 |_=>.bad
def b_list:BltR X CB E (.type "list") fList:=⟨_,Ch,by
 intro H m s v x Q S rx P;unfold fList at P;split at P
 ·cases rx with
  |cons r n =>
   cases n;obtain⟨a,vs,rfl,q,r⟩:=r.tp;exact⟨a,vs,rfl,.inr q,λp hp=>P.new S hp λex S'=>.lst lN (S.pure_none hp) (r.ext ex)⟩
 ·cases rx with
  |cons r n =>
   cases n;split at P
   ·rename_i l hl;obtain⟨a,vs,rfl,q,r⟩:=r.ls S hl;exact⟨a,vs,rfl,.inl q,λp hp=>P.new S hp λex S'=>.lst lN (S.pure_none hp) (r.ext ex)⟩
   ·exact P.elim
 ·exact P.elim⟩
def tE:List PV->Option (List Str)
 |[]=>Za []
 |.str x::l=>(tE l).map (x::·)
 |_=>Zb
theorem uM:∀{l:List PV}{ss:List Str},tE l=Za ss->l=ss.map PV.str
 |[],_,e=>by cases e;rfl
 |p::l,ss,e=>by
  unfold tE at e;split at e
  ·rename_i h;cases h
  ·rename_i x l' h;cases h;cases c:tE l with
   |none=>rw[c] at e;cases e
   |some t=>rw[c] at e;cases e;rw[uM c];rfl
  ·cases e
def vq(ss):tE (ss.map PV.str)=Za ss:=by
 induction ss with
 |nil=>rfl
 |cons x r ih=>rw[ao];unfold tE;rw[ih];rfl
def keysOf:List (Key×PV)->Option (List Str)
 |[]=>Za []
 |(.inr x,_)::l=>(keysOf l).map (x::·)
 |_=>Zb
theorem Bl:∀{l:List (Key×PV)}{ss:List Str},keysOf l=Za ss->l.map (·.1)=ss.map ag
 |[],_,e=>by cases e;rfl
 |p::l,ss,e=>by
  unfold keysOf at e;split at e
  ·rename_i h;cases h
  ·rename_i x _ l' h;cases h;cases c:keysOf l with
   |none=>rw[c] at e;cases e
   |some t=>rw[c] at e;cases e;rw[ao,Bl c];rfl
  ·cases e
def ms(vs:List PV)(s:Sto):Out PV:=match vs with
 |[v]=>match lsOf s v with
  |some l=>match tE l with
   |some ss=>if ss.length<64 then .ok (.lst ((srt ss).map PV.str)) s else .bad
   |none=>.bad
  |none=>match dcOf s v with
   |some l=>match keysOf l with
    |some ss=>if ss.length<64 then .ok (.lst ((srt ss).map PV.str)) s else .bad
    |none=>.bad
   |none=>.bad
 |_=>.bad
def b_sorted(hc:X.calm=true):BltR X CB E (.builtin "sorted") ms:=⟨_,call_sortedL.or (qq hc),by
 intro H m s v x Q S rx P;unfold ms at P;split at P
 ·cases rx with
  |cons r n =>
   cases n;split at P
   ·rename_i l hl;split at P
    ·rename_i ss hs;split at P
     ·rename_i RD;obtain⟨a,vs,rfl,q,r⟩:=r.ls S hl;have e:=uM hs;subst e;rw[r.strs] at q;exact .inl ⟨a,ss,rfl,q,RD,λp hp=>P.new S hp λex S'=>.lst lN (S.pure_none hp) (.ofStrs _)⟩
     ·exact P.elim
    ·exact P.elim
   ·split at P
    ·rename_i l hl;split at P
     ·rename_i ss hs;split at P
      ·rename_i RD;obtain⟨a,vs,rfl,q,r⟩:=r.dc S hl;exact .inr ⟨a,vs,ss,rfl,q,r.keys.trans (Bl hs),RD,λp hp=>P.new S hp λex S'=>.lst lN (S.pure_none hp) (.ofStrs _)⟩
      ·exact P.elim
     ·exact P.elim
    ·exact P.elim
 ·exact P.elim⟩
def zA:List PV->Option (List Bool)
 |[]=>Za []
 |.bl x::l=>(zA l).map (x::·)
 |_=>Zb
theorem zy{K}{H}{m}{s}:∀{vs:List V}{l:List PV}{bs:List Bool},Reps K H m s vs l->zA l=Za bs->vs=bs.map V.bl
 |_,_,_,.nil,e=>by cases e;rfl
 |_,_,_,.cons (l:=l) a b,e=>by
  unfold zA at e;split at e
  ·rename_i h;cases h
  ·rename_i h;cases h;cases a;cases c:zA l with
   |none=>rw[c] at e;cases e
   |some t=>rw[c] at e;cases e;rw[zy b c];rfl
  ·cases e
def fAll(vs:List PV)(s:Sto):Out PV:=match vs with
 |[v]=>match lsOf s v with
  |some l=>match zA l with
   |some bs=>.ok (.bl (bs.all id)) s
   |none=>.bad
  |none=>.bad
 |_=>.bad
def b_all(hc:X.calm=true):BltR X CB E (.builtin "all") fAll:=⟨_,Eg,by
 intro H m s v x Q S rx P;unfold fAll at P;split at P
 ·cases rx with
  |cons r n =>
   cases n;split at P
   ·rename_i l hl;split at P
    ·rename_i bs hb;obtain⟨a,vs,rfl,q,r⟩:=r.ls S hl;have e:=zy r hb;subst e;exact⟨a,bs,rfl,q,hc,P.here S .bl⟩
    ·exact P.elim
   ·exact P.elim
 ·exact P.elim⟩
def xJoin(f:XE)(fa:XA)(Z:En)(s:Sto):Out PV:=(f Z s).bind λv s1=>match v with
 |.str z=>(fa Z s1).bind λvs s2=>match vs with
  |[w]=>match lsOf s2 w with
   |some l=>match tE l with
    |some ys=>if(ys.map (·.length)).sum+ys.length*z.length<=16777216 then .ok (.str (Txt.join z ys)) s2 else .bad
    |none=>.bad
   |none=>.bad
  |_=>.bad
 |_=>.bad
def Mz(ho:DE X CB E a f)(ha:DA X CB E (e::es) fa)(Pu:cU a "join" X.env (eval a X.env)=eval a X.env:=by rfl)(Qk:((b8 O5 (aC (e::es) X.env)).all (λx=>!x.1)&&(eK O5 (cY [] X.env)).all (λx=>x.1.isSome)
   && decide ((e::es).length+([]:List fG).length+(if([]:List fG).isEmpty then 0 else 1)<30))=true:=by rfl)(Pt:(O4.endLine==O5.line)=true:=by rfl)(hs:SEb X e es:=by rfl)(Py:(b8 O5 (aC es X.env)).any (·.1)=false:=by rfl) :
  DE X CB E (.Call (.Attribute a "join" O4) (e::es) [] O5) (xJoin f fa) :=
 ⟨(KC PySem.F.plainAttrs_str PySem.F.slot_str_join PySem.F.type_str_join LP ho.pe ha.pa Pu Qk Pt hs Py).mono λO H Q=>oE λZ s m er S P=>⟨Z,s,m,er,S,P.bind λv s1 u H1 m1 e1 S1 r1 P1=>by
  split at P1
  ·cases r1;refine⟨rfl,Z,s1,m1,er.ext e1,S1,P1.bind λvs s2 us H2 m2 e2 S2 r2 P2=>?_⟩;split at P2
   ·cases r2 with
    |cons r n =>
     cases n;split at P2
     ·rename_i l hl;split at P2
      ·rename_i ys hy;split at P2
       ·rename_i hz;obtain⟨b,vs,rfl,q,r⟩:=r.ls S2 hl;have e:=uM hy;subst e;rw[r.strs] at q;exact⟨_,b,ys,rfl,rfl,q,hz,P2.here S2 .str⟩
       ·exact P2.elim
      ·exact P2.elim
     ·exact P2.elim
   ·exact P2.elim
  ·exact P1.elim⟩⟩
def xAppend(f:XE)(fa:XA)(Z:En)(s:Sto):Out PV:=(f Z s).bind λv s1=>match v with
 |.ref n=>match s1.get n with
  |some (.lst _)=>(fa Z s1).bind λvs s2=>match vs with
   |[w]=>match s2.get n with
    |some (.lst l)=>if l.length<100000 then .ok .non (s2.set n (.lst (l++[w]))) else .bad
    |_=>.bad
   |_=>.bad
  |_=>.bad
 |_=>.bad
def SR.putL{K}{H}{m}{s}{n}{l l'}{PH}(S:SR K CB H m s)(hn:s.get n=Za (.lst l))(r:Reps K H m s PH l') :
  SR K CB (upd H (m.ad n) (.lst PH)) (m.fput n [m.ad n]) (s.set n (.lst l'))/\Ext H m s (upd H (m.ad n) (.lst PH)) (m.fput n [m.ad n]) (s.set n (.lst l')):=by
 obtain⟨e1,vs,h1,_⟩:=S.get hn;refine S.put hn (by intro _ z;cases z) _ _ (λa o h ha=>?_) (λa ha=>.inl (by rw[e1];exact ha)) λex=>⟨by show(if n=n then [m.ad n] else m.fp n)=_;rw[Zc rfl];rfl,PH,lN,r.ext0 ex⟩;rw[e1,aq] at ha;rw[lK ha];exact h
def SR.putD{K}{H}{m}{s}{n}{l l'}{PH}(S:SR K CB H m s)(hn:s.get n=Za (.dct l))(r:RepKs K H m s PH l') :
  SR K CB (upd H (m.ad n) (.dK PH)) (m.fput n [m.ad n]) (s.set n (.dct l'))/\Ext H m s (upd H (m.ad n) (.dK PH)) (m.fput n [m.ad n]) (s.set n (.dct l')):=by
 obtain⟨e1,vs,h1,_⟩:=S.get hn;refine S.put hn (by intro _ z;cases z) _ _ (λa o h ha=>?_) (λa ha=>.inl (by rw[e1];exact ha)) λex=>⟨by show(if n=n then [m.ad n] else m.fp n)=_;rw[Zc rfl];rfl,PH,lN,r.ext0 ex⟩;rw[e1,aq] at ha;rw[lK ha];exact h
def Bv(ho:DE X CB E a f)(ha:DA X CB E (e::es) fa)(Pu:cU a "append" X.env (eval a X.env)=eval a X.env:=by rfl)(Qk:((b8 O5 (aC (e::es) X.env)).all (λx=>!x.1)&&(eK O5 (cY [] X.env)).all (λx=>x.1.isSome)
   && decide ((e::es).length+([]:List fG).length+(if([]:List fG).isEmpty then 0 else 1)<30))=true:=by rfl)(Pt:(O4.endLine==O5.line)=true:=by rfl)(hs:SEb X e es:=by rfl)(Py:(b8 O5 (aC es X.env)).any (·.1)=false:=by rfl) :
  DE X CB E (.Call (.Attribute a "append" O4) (e::es) [] O5) (xAppend f fa) :=
 ⟨(KC jK kO PySem.F.type_list_append Bg ho.pe ha.pa Pu Qk Pt hs Py).mono λO H Q=>oE λZ s m er S P=>⟨Z,s,m,er,S,P.bind λv s1 u H1 m1 e1 S1 r1 P1=>by
  split at P1
  ·split at P1
   ·rename_i n _ _ hg;obtain⟨_,Q8,h0,_⟩:=S1.get hg;cases r1 with
    |ref hn =>
    refine⟨.inl ⟨rfl,Q8,SqL.of h0⟩,Z,s1,m1,er.ext e1,S1,P1.bind λvs s2 us H2 m2 e2 S2 r2 P2=>?_⟩;split at P2
    ·cases r2 with
     |cons r n' =>
      cases n';split at P2
      ·rename_i l R7;split at P2
       ·rename_i hl;obtain⟨f1,vs1,h1,q1⟩:=S2.get R7;obtain⟨S3,e3⟩:=S2.putL R7 (q1.append (.cons r .nil));rw[<-e2.ad _ hn];exact⟨_,vs1,_,rfl,rfl,h1,by rw[q1.length];exact sz6 hl,P2 _ _ _ e3 S3 .non⟩
       ·exact P2.elim
      ·exact P2.elim
    ·exact P2.elim
   ·exact P1.elim
  ·exact P1.elim⟩⟩
def xGet(f g h:XE)(Z:En)(s:Sto):Out PV:=(f Z s).bind λv s1=>match dcOf s1 v with
 |some _=>(g Z s1).bind λw s2=>(h Z s2).bind λz s3=>match dcOf s3 v with
  |some l=>match kyOf w with
   |some k=>.ok ((qz l k).getD z) s3
   |none=>.bad
  |none=>.bad
 |none=>.bad
def FD(ho:DE X CB E a f)(he:DE X CB E b g)(hf:DE X CB E c h)(hr:Room jr X.A:=by assumption)(mm:M2 X a "get" O4 b c O5:=by exact⟨rfl,rfl,rfl,rfl⟩):DE X CB E (.Call (.Attribute a "get" O4) [b,c] [] O5) (xGet f g h) :=
 ⟨(zN (nQ hr) ho.pe he.pe hf.pe mm).mono λO H Q=>oE λZ s m er S P=>⟨Z,s,m,er,S,P.bind λv s1 u H1 m1 e1 S1 r1 P1=>by
  split at P1
  ·rename_i l0 R1;obtain⟨a,Q8,rfl,q0,_⟩:=r1.dc S1 R1;refine⟨a,rfl,.inl ⟨Q8,q0⟩,Z,s1,m1,er.ext e1,S1,P1.bind λw s2 u2 H2 m2 e2 S2 r2 P2=>⟨Z,s2,m2,(er.ext e1).ext e2,S2,P2.bind λz s3 u3 H3 m3 e3 S3 r3 P3=>?_⟩⟩;split at P3
   ·rename_i l hl;split at P3
    ·rename_i k hk;obtain⟨a',vs,ea,q,r⟩:=((r1.ext e2).ext e3).dc S3 hl;cases ea;refine⟨om vs k,.inl ⟨vs,k,q,qj (r2.ext e3) hk,rfl⟩,?_⟩;obtain⟨v1,v2⟩:=r.val k;cases cc:qz l k with
     |none=>rw[v2 cc];rw[cc] at P3;exact P3.here S3 r3
     |some p=>obtain⟨u,e,ru⟩:=v1 p cc;rw[e];rw[cc] at P3;exact P3.here S3 ru
    ·exact P3.elim
   ·exact P3.elim
  ·exact P1.elim⟩⟩
def xNewD(_:En)(s:Sto):Out PV:=.ok (.ref s.nx) (s.add (.dct []))
def Gp:DE X CB E (.Dict [] [] pos) xNewD:=⟨pe_dnewK.mono λO H Q=>oE λZ s m er S P p hp=>by obtain⟨S2,e2⟩:=S.newD hp (My.qe hp) lN .nil;exact P _ _ _ e2 S2 .new⟩
end
noncomputable def Out.so{α:Type}(o:Out α)(k:α->Sto->SO):SO:=match o with
 |.ok a s=>k a s
 |.ex c s=>.ex c s
 |.bad=>.bad
def SO.noex:SO->SO
 |.ex _ _=>.bad
 |o=>o
def PostS.shift{K}{CB}{E}{o}{H H1}{m m1}{s s1}{D}(e:Ext H m s H1 m1 s1)(h:PostS K CB E o H m s D):PostS K CB E o H1 m1 s1 D:=by
 cases o with
 |nx=>exact λσ' H' m' x=>h σ' H' m' (e.trans x)
 |rt=>exact λσ' H' m' x=>h σ' H' m' (e.trans x)
 |bk=>exact λσ' H' m' x=>h σ' H' m' (e.trans x)
 |ct=>exact λσ' H' m' x=>h σ' H' m' (e.trans x)
 |ex=>exact λH' m' x=>h H' m' (e.trans x)
 |bad=>exact h
theorem Post.so{α β:Type}{K}{CB}{R}{E}{o:Out α}{k:α->Sto->SO}{H}{m}{s}{D}{Q1:β->Hp->Prop}(h:PostS K CB E (o.so k) H m s D)(f:∀v s1 u H1 m1,Ext H m s H1 m1 s1->SR K CB H1 m1 s1->R H1 m1 s1 u v->PostS K CB E (k v s1) H1 m1 s1 D->Q1 u H1):Post K CB R E o H m s Q1:=by
 cases o with
 |ok v s1=>exact λu H1 m1 x S r=>f v s1 u H1 m1 x S r (PostS.shift x h)
 |ex c s'=>exact h
 |bad=>exact h
def PostS.next{K}{CB}{E}{Z}{H}{m}{s}{D}{O}(h:PostS K CB E (.nx Z s) H m s D)(S:SR K CB H m s)(er:ER K H m s O Z):D.nx O H:=h O H m .refl S er
theorem PostS.noex{K}{CB}{E}{o}{H}{m}{s}{D}(h:PostS K CB E o.noex H m s D):PostS K CB E0 o H m s D:=by cases o<;>first|exact h|exact bS h
def xSet(i:Nat)(f:XE)(Z:En)(s:Sto):SO:=(f Z s).so λv s1=>.nx (Z.set i (Za v)) s1
def xRet(f:XE)(Z:En)(s:Sto):SO:=(f Z s).so λv s1=>.rt v s1
def xRetN(_:En)(s:Sto):SO:=.rt .non s
def xDo(f:XE)(Z:En)(s:Sto):SO:=(f Z s).so λ_ s1=>.nx Z s1
def xIf(t:XT)(g h:XS)(Z:En)(s:Sto):SO:=(t Z s).so λb s1=>if b=true then g Z s1 else h Z s1
def xEnd(Z:En)(s:Sto):SO:=.nx Z s
def xSeq(g h:XS)(Z:En)(s:Sto):SO:=match g Z s with
 |.nx ρ' s'=>h ρ' s'
 |o=>o
section
variable{X:Cx}{CB:ak}{E:XK}{a b c e:bo}{es:List bo}{f g h:XE}{fa:XA}{t:XT}{p pos Ph O4 O5:Pos}{x:Str}{st:bQ}{qL QB Qg:List bQ}{u v:XS}
theorem PS.nox{t}(h:PS X.nox st t):PS X st t:=λO2 s O H D I hw=>bO (h O2 s O H D (I.wish _) hw) (λ_ _ q=>q.unwish) λ_ _ z=>bS z
def ma(i)(he:DE X CB E e f)(hN:X.N.Nodup:=by exact ‹FnScope _ _ _›.nd)(hi:X.N[i]?=Za x:=by rfl)(hx:Loc X.env.scope x:=by first|exact eO rfl|exact ig rfl)(hs:dQ e (Za (.Name x Ph)) pos.line X.env=pure false:=by rfl)(hf:X.fn x=true\/X.env.scope.names.lookup x=Za .local:=by first|exact .inl rfl|exact .inr rfl|assumption):DS X CB E (.Assign [.Name x Ph] e pos) (xSet i f) :=
 ⟨(rm hN hi hx he.pe hs hf).mono λD O H=>oE λZ s m er S P=>⟨Z,s,m,er,S,Post.so P λv s1 u H1 m1 e1 S1 r1 P1=>P1.next S1 ((er.ext e1).set i r1)⟩⟩
def mH(he:DE X CB E e f):DS X CB E (.Return (Za e) pos) (xRet f) :=
 ⟨(qm he.pe).mono λD O H=>oE λZ s m er S P=>⟨Z,s,m,er,S,Post.so P λv s1 u H1 m1 e1 S1 r1 P1=>P1 u H1 m1 .refl S1 r1⟩⟩
def Mi:DS X CB E (.Return Zb pos) xRetN:=⟨ps_retN.mono λD O H=>oE λZ s m er S P=>P .non H m .refl S .non⟩
def vE(he:DE X CB E e f)(hs:dQ e Zb pos.line X.env=pure false:=by rfl):DS X CB E (.Expr e pos) (xDo f) :=
 ⟨(oW he.pe hs).mono λD O H=>oE λZ s m er S P=>⟨Z,s,m,er,S,Post.so P λv s1 u H1 m1 e1 S1 r1 P1=>P1.next S1 (er.ext e1)⟩⟩
def tJ(hc:DT X CB E c t)(ha:DSs X CB E QB u)(hb:DSs X CB E Qg v):DS X CB E (.If c QB Qg pos) (xIf t u v) :=
 ⟨(wq hc.pt ha.pss hb.pss).mono λD O H=>oE λZ s m er S P=>⟨Z,s,m,er,S,Post.so P λv s1 u H1 m1 e1 S1 r1 P1=>by
  cases r1;refine vA (λc=>?_) λc=>?_
  ·rw[Zc c] at P1;exact⟨Z,s1,m1,er.ext e1,S1,P1⟩
  ·rw[Zd c] at P1;exact⟨Z,s1,m1,er.ext e1,S1,P1⟩⟩⟩
def ot:DSs X CB E [] xEnd:=⟨pss_nil.mono λD O H=>oE λZ s m er S P=>P.next S er⟩
def lU(h:DS X CB E st u):DSs X CB E [st] u:=⟨mj h.ps⟩
def lM(h:DS X CB E st u)(k:DSs X CB E qL v):DSs X CB E (st::qL) (xSeq u v) :=
 ⟨(l9 h.ps k.pss).mono λD O H=>oE λZ s m er S P=>⟨Z,s,m,er,S,by
  unfold xSeq at P;cases c:u Z s with
  |nx ρ' s'=>rw[c] at P;exact λσ' H' m' x S' er'=>⟨ρ',s',m',er',S',PostS.shift x P⟩
  |rt=>rw[c] at P;exact P
  |bk=>rw[c] at P;exact P
  |ct=>rw[c] at P;exact P
  |ex=>rw[c] at P;exact P
  |bad=>rw[c] at P;exact P⟩⟩
abbrev XG:=PV->En->Sto->Option En
abbrev XGs:=List PV->En->Sto->Option En
def TDG(K:aa)(CB:ak)(h:XG):TG:=λv O H Q=>∃Z s m q ρ',ER K H m s O Z/\SR K CB H m s/\Rep K H m s v q/\h q Z s=Za ρ'/\∀σ',ER K H m s σ' ρ'->Q σ' H
def TDGs(K:aa)(CB:ak)(h:XGs):TGs:=λv O H Q=>∃Z s m q ρ',ER K H m s O Z/\SR K CB H m s/\Reps K H m s v q/\h q Z s=Za ρ'/\∀σ',ER K H m s σ' ρ'->Q σ' H
structure DG(X:Cx)(CB:ak)(tg:bo)(h:XG):Prop where
 pg:PG X tg (TDG X.K CB h)
structure DGs(X:Cx)(CB:ak)(tg:List bo)(h:XGs):Prop where
 pgs:PGs X tg (TDGs X.K CB h)
def PG.mono{tg}{t t':TG}(h:PG X tg t)(k:∀v O H Q,t' v O H Q->t v O H Q):PG X tg t':=λO2 s O H v u Q I r q=>h O2 s O H v u Q I r (k v O H Q q)
def PGs.mono{tg}{t t':TGs}(h:PGs X tg t)(k:∀v O H Q,t' v O H Q->t v O H Q):PGs X tg t':=λO2 s O H v u Q I r q=>h O2 s O H v u Q I r (k v O H Q q)
def PG.or{tg}{t t':TG}(h:PG X tg t)(h':PG X tg t'):PG X tg (λv O H Q=>t v O H Q\/t' v O H Q):=λO2 s O H v u Q I r q=>q.elim (h O2 s O H v u Q I r) (h' O2 s O H v u Q I r)
def yName(i:Nat)(q:PV)(Z:En)(_:Sto):Option En:=Za (Z.set i (Za q))
def yNil(q:List PV)(Z:En)(_:Sto):Option En:=match q with
 |[]=>Za Z
 |_=>Zb
def yCons(h:XG)(k:XGs)(q:List PV)(Z:En)(s:Sto):Option En:=match q with
 |p::r=>(h p Z s).bind λρ'=>k r ρ' s
 |[]=>Zb
def yTup(n:Nat)(k:XGs)(q:PV)(Z:En)(s:Sto):Option En:=match q with
 |.tup l=>if l.length=n then k l Z s else Zb
 |q=>match lsOf s q with
  |some l=>if l.length=n then k l Z s else Zb
  |none=>Zb
def mB(i)(hN:X.N.Nodup:=by exact ‹FnScope _ _ _›.nd)(hi:X.N[i]?=Za x:=by rfl)(hx:Loc X.env.scope x:=by first|exact eO rfl|exact ig rfl)(hf:X.fn x=true\/X.env.scope.names.lookup x=Za .local:=by first|exact .inl rfl|exact .inr rfl|assumption):DG X CB (.Name x pos) (yName i) :=
 ⟨(Ct hN hi hx hf).mono λv O H Q ⟨Z,s,m,q,ρ',er,S,r,e,k⟩=>by cases e;exact k _ (er.set i r)⟩
def ql:DGs X CB [] yNil:=⟨pgs_nil.mono λv O H Q ⟨Z,s,m,q,ρ',er,S,r,e,k⟩=>by
 unfold yNil at e;split at e<;>cases e
 cases r;exact⟨rfl,k _ er⟩⟩
def mG{h:XG}{k:XGs}(h1:DG X CB e h)(h2:DGs X CB es k)(hs:(cR (e::es) X.env).map (·.2)=assign e X.env::(cR es X.env).map (·.2):=by rfl):DGs X CB (e::es) (yCons h k) :=
 ⟨(IC h1.pg h2.pgs hs).mono λv O H Q ⟨Z,s,m,q,ρ',er,S,r,e,kk⟩=>by
  unfold yCons at e;split at e
  ·rename_i p r';cases r with
   |cons a b =>
    cases c:h p Z s with
    |none=>rw[c] at e;cases e
    |some ρ1 =>
     rw[c] at e;exact⟨_,_,rfl,Z,s,m,p,ρ1,er,S,a,c,λσ1 er1=>⟨ρ1,s,m,r',ρ',er1,S,b,e,kk⟩⟩
  ·cases e⟩
def si{k:XGs}{n k0}(h:DGs X CB es k)(hc:X.calm=true:=by rfl)(hn:(cR es X.env).length=n:=by rfl)(Qt:(cR es X.env).findIdx? (·.1)=none:=by rfl):DG X CB (.Tuple es k0 pos) (yTup n k) :=
 ⟨((NV hc h.pgs hn Qt).or (NX hc h.pgs hn Qt)).mono λv O H Q ⟨Z,s,m,q,ρ',er,S,r,e,kk⟩=>by
  unfold yTup at e;split at e
  ·split at e
   ·rename_i hl;obtain⟨a,vs,rfl,q1,r1⟩:=r.tp;exact .inl ⟨a,vs,rfl,q1,r1.length.trans hl,Z,s,m,_,ρ',er,S,r1,e,kk⟩
   ·cases e
  ·split at e
   ·rename_i l R1;split at e
    ·rename_i hl;obtain⟨a,vs,rfl,q1,r1⟩:=r.ls S R1;exact .inr ⟨a,vs,rfl,q1,r1.length.trans hl,Z,s,m,_,ρ',er,S,r1,e,kk⟩
    ·cases e
   ·cases e⟩
def xAsg(f:XE)(h:XG)(Z:En)(s:Sto):SO:=(f Z s).so λv s1=>match h v Z s1 with
 |some ρ'=>.nx ρ' s1
 |none=>.bad
def Au{h:XG}{tg}(he:DE X CB E e f)(hg:DG X CB tg h)(hs:gY [tg] e pos.line X.env=pure false:=by rfl)(hw:gZ [tg] e X.env=pure none:=by rfl)(h1:(cR [tg] X.env).map (·.2)=[assign tg X.env]:=by rfl):DS X CB E (.Assign [tg] e pos) (xAsg f h) :=
 ⟨(JU he.pe hg.pg hs hw h1).mono λD O H=>oE λZ s m er S P=>⟨Z,s,m,er,S,Post.so P λv s1 u H1 m1 e1 S1 r1 P1=>by
  split at P1
  ·rename_i ρ' hρ;exact⟨Z,s1,m1,v,ρ',er.ext e1,S1,r1,hρ,λσ' er'=>P1.next S1 er'⟩
  ·exact P1.elim⟩⟩
def xPar(i j:Nat)(fa:XA)(Z:En)(s:Sto):SO:=(fa Z s).so λvs s1=>match vs with
 |[v,w]=>.nx ((Z.set i (Za v)).set j (Za w)) s1
 |_=>.bad
def OA{kt k2 pt2}(hc:X.calm=true)(hN:X.N.Nodup)(hi:X.N[i]?=Za x)(hj:X.N[j]?=Za y)(Tv:i≠j)(hx:X.env.scope.names.lookup x=Za .local)(hy:X.env.scope.names.lookup y=Za .local)(ha:DA X CB E [a,b] fa)(hw:gZ [.Tuple [.Name x px,.Name y py] kt pt] (.Tuple [a,b] k2 pt2) X.env=pure (Za [x,y]))(hs:gY [.Tuple [.Name x px,.Name y py] kt pt] (.Tuple [a,b] k2 pt2) pos.line X.env=pure false:=by rfl):DS X CB E (.Assign [.Tuple [.Name x px,.Name y py] kt pt] (.Tuple [a,b] k2 pt2) pos) (xPar i j fa) :=
 ⟨(NR hc hN hi hj Tv hx hy ha.pa hw hs).mono λD O H=>oE λZ s m er S P=>⟨Z,s,m,er,S,Post.so P λv s1 u H1 m1 e1 S1 r1 P1=>by
  split at P1
  ·cases r1 with
   |cons a b =>
    cases b with
    |cons b c=>cases c;exact⟨_,_,rfl,P1.next S1 (((er.ext e1).set i a).set j b)⟩
  ·exact P1.elim⟩⟩
def sW(o i v:PV)(s:Sto):Option Sto:=match o with
 |.ref n=>match s.get n with
  |some (.lst l)=>match i with
   |.int k=>match ixN l.length k with
    |some j=>Za (s.set n (.lst (l.set j v)))
    |none=>Zb
   |_=>Zb
  |some (.dct l)=>match kyOf i with
   |some k=>if l.length<100000 then Za (s.set n (.dct (yO l k v))) else Zb
   |none=>Zb
  |_=>Zb
 |_=>Zb
def xPut(fo fi fv:XE)(Z:En)(s:Sto):SO:=(fv Z s).so λv s1=>(fo Z s1).so λo s2=>(fi Z s2).so λi s3=>match sW o i v s3 with
 |some s4=>.nx Z s4
 |none=>.bad
def MY:V->V->V->Hp->(Hp->Prop)->Prop:=λo i v H Q=>∃a H',o=.ref a/\DPut H a i v H'/\Q H'
def Io(hu:X.A.units+1<fD):PSet X MY:=by intro O2 s O H o i v ov iv u Q I ro ri rv h;obtain⟨a,H',rfl,g,q⟩:=h;obtain rfl:ov=bj a:=ro;exact Bw hu I g ri rv λs4 I4=>⟨H',I4,q⟩
def PSet.or{t t':MN}(h:PSet X t)(h':PSet X t'):PSet X (λo i v H Q=>t o i v H Q\/t' o i v H Q):=λO2 s O H o i v ov iv u Q I r1 r2 r3 q=>q.elim (h O2 s O H o i v ov iv u Q I r1 r2 r3) (h' O2 s O H o i v ov iv u Q I r1 r2 r3)
def NP{K}{H}{m}{s s'}{o i v}{xo xi xv}(S:SR K CB H m s)(ro:Rep K H m s xo o)(ri:Rep K H m s xi i)(rv:Rep K H m s xv v)(e:sW o i v s=Za s'){Q}(hq:∀H' m',Ext H m s H' m' s'->SR K CB H' m' s'->Q H'):MX xo xi xv H Q\/MY xo xi xv H Q:=by
 unfold sW at e;split at e
 ·split at e
  ·rename_i l hg;split at e
   ·split at e
    ·rename_i j hj;cases e;cases ro;cases ri;obtain⟨_,vs,h1,q1⟩:=S.get hg;obtain⟨S2,e2⟩:=S.putL hg (q1.set j rv);exact .inl ⟨_,vs,_,j,rfl,rfl,h1,by rw[q1.length];exact hj,hq _ _ e2 S2⟩
    ·cases e
   ·cases e
  ·rename_i l hg;split at e
   ·rename_i k hk;split at e
    ·rename_i hl;cases e;cases ro;obtain⟨_,vs,h1,q1⟩:=S.get hg;obtain⟨S2,e2⟩:=S.putD hg (q1.put k rv);exact .inr ⟨_,_,rfl,.inl ⟨vs,k,h1,qj ri hk,by rw[q1.length];exact sz6 hl,rfl⟩,hq _ _ e2 S2⟩
    ·cases e
   ·cases e
  ·cases e
 ·cases e
def At{Px}(ho:DE X CB E a f)(hi:DE X CB E b g)(hv:DE X CB E e h){jr}(hr:Room jr X.A:=by assumption)(hs:gY [ir a b Px] e pos.line X.env=pure false:=by rfl)(hw:gZ [ir a b Px] e X.env=pure none:=by rfl)(h1:(cR [ir a b Px] X.env).map (·.2)=[assign (ir a b Px) X.env]:=by rfl)(ha:∀v,assign (.Subscript a b Px) X.env v=(do
   let ov <-holding [v] (eval a X.env);let iv <-holding [v,ov] (eval b X.env)
   gv Px
   holding [v,ov,iv] (kn ov iv v)
   release [v,ov,iv] []):=by intro _;rfl):DS X CB E (.Assign [.Subscript a b Px] e pos) (xPut f g h) :=
 ⟨(JU hv.pe (NW ho.pe hi.pe (set_list.or (Io (nQ hr))) ha) hs hw h1).mono λD O H=>oE λZ s m er S P=>⟨Z,s,m,er,S,Post.so P λv s1 u H1 m1 e1 S1 r1 P1 =>
  ⟨Z,s1,m1,er.ext e1,S1,Post.so P1 λo s2 uo H2 m2 e2 S2 r2 P2=>⟨Z,s2,m2,(er.ext e1).ext e2,S2,Post.so P2 λi s3 ui H3 m3 e3 S3 r3 P3=>by
   split at P3
   ·rename_i s4 h4;exact NP S3 (r2.ext e3) r3 ((r1.ext e2).ext e3) h4 λH' m' x S'=>P3 O H' m' x S' ((((er.ext e1).ext e2).ext e3).ext x)
   ·exact P3.elim⟩⟩⟩⟩
def qo(K:aa)(CB:ak)(J:It)(l:List PV)(H0:Hp)(m0:Mp)(s0:Sto):Prop:=∀i H m s,Ext0 H0 m0 s0 H m s->SR K CB H m s ->
 (∀q,l[i]?=Za q->J.go i H/\∀x H',J.yld i H x H'->Ext H m s H' m s/\SR K CB H' m s/\Rep K H' m s x q)/\(l.length<=i->J.stop i H)
def TDI(K:aa)(CB:ak)(E:XK)(f:XA):TI:=λO H R=>∃Z s m,ER K H m s O Z/\SR K CB H m s/\match f Z s with
 |.ok l s'=>∀J H' m',Ext H m s H' m' s'->SR K CB H' m' s'->qo K CB J l H' m' s'->R J H'
 |.ex c s'=>∀H' m',Ext H m s H' m' s'->SR K CB H' m' s'->E (.ref c) Zb H'
 |.bad=>False
structure DI(X:Cx)(CB:ak)(E:XK)(tg e:bo)(f:XA):Prop where
 pi:PI X tg e (TDI X.K CB E f)
def PI.mono{tg}{t t':TI}(h:PI X tg e t)(k:∀O H R,t' O H R->t O H R):PI X tg e t':=λO2 s O H R I q=>h O2 s O H R I (k O H R q)
end
section
variable{X:Cx}{CB:ak}{E:XK}{a b c e tg:bo}{es:List bo}{f g h:XE}{fa fi:XA}{t:XT}{p pos Ph O4 O5:Pos}{x:Str}{st:bQ}{qL QB Qg:List bQ}{u v:XS}
def xIter(f:XE)(Z:En)(s:Sto):Out (List PV):=(f Z s).bind λv s1=>match v with
 |.lst l=>.ok l s1
 |.seq l=>.ok l s1
 |.tup l=>.ok l s1
 |_=>.bad
def Nh{K}{H0}{m0}{s0}{b}{q}{l}(r:Rep K H0 m0 s0 (.ref b) q)(hl:∀s,lsOf s q=Za l):qo K CB (Itl K b) l H0 m0 s0:=by intro i H m s ex S;obtain⟨b',vs,e,hq,rs⟩:=(r.ext0 ex.toExtR).ls S (hl s);cases e;refine⟨λq' PZ=>?_,λhi=>⟨vs,hq,by rw[rs.length];exact hi⟩⟩;obtain⟨u,hu,ru⟩:=rs.get PZ;refine⟨⟨vs,u,hq,hu⟩,λx H' ⟨e1,e2⟩=>?_⟩;subst e1;have e3:=e2 vs hq;rw[hu] at e3;cases e3;exact⟨.refl,S,ru⟩
def iterT{K}{H0}{m0}{s0}{b}{l}(r:Rep K H0 m0 s0 (.ref b) (.tup l)):qo K CB (Itt K b) l H0 m0 s0:=by intro i H m s ex S;obtain⟨b',vs,e,hq,rs⟩:=(r.ext0 ex.toExtR).tp;cases e;refine⟨λq' PZ=>?_,λhi=>⟨vs,hq,by rw[rs.length];exact hi⟩⟩;obtain⟨u,hu,ru⟩:=rs.get PZ;refine⟨⟨vs,u,hq,hu⟩,λx H' ⟨e1,e2⟩=>?_⟩;subst e1;have e3:=e2 vs hq;rw[hu] at e3;cases e3;exact⟨.refl,S,ru⟩
def iLT(K:aa)(tl:TE):TI:=λO H R=>tl O H λx H1=>(∃a,x=.ref a/\(∃xs,SqL K H1 a xs)/\R (Itl K a) H1)\/(∃a,x=.ref a/\(∃xs,SqT K H1 a xs)/\R (Itt K a) H1)
def pi_lt(hl:PE X e tl):PI X tg e (iLT X.K tl):=by
 intro O2 s O H R I h;refine thn (hl O2 s O H _ I h) λv s1=>e4 λx H1 I1 r1 q1=>?_;rcases q1 with⟨a,e,⟨xs,hq⟩,q⟩|⟨a,e,⟨xs,hq⟩,q⟩
 ·subst e;cases r1;obtain⟨its,rv,p,hz⟩:=I1.list hq;refine gS p.isList ?_;refine⟨s1.heap.objs.size,[s1.heap.objs.size],_,_,H1,rfl,I1.kept (t':=s1.toks) λb o e=>au _ e,AT a _,⟨_,a7 _ rfl,rfl,rfl⟩,λb hb=>?_,q⟩;have e:b=s1.heap.objs.size:=by simpa using hb
  subst e;exact I1.fpOk (am _) (I1.hok.fresh (am _))
 ·subst e;cases r1;obtain⟨its,rv,p,hz⟩:=I1.tuple hq;refine wpAny_pyIter_tuple (show s1.heap.IsTuple a its.toArray from p) ?_;refine⟨s1.heap.objs.size,[s1.heap.objs.size],_,_,H1,rfl,I1.kept (t':=s1.toks) λb o e=>au _ e,Et a _,⟨_,a7 _ rfl,rfl,rfl⟩,λb hb=>?_,q⟩;have e:b=s1.heap.objs.size:=by simpa using hb
  subst e;exact I1.fpOk (am _) (I1.hok.fresh (am _))
theorem TDI.bind(q:TDI X.K CB E (λZ s=>(f Z s).bind F) O H R)(k:∀v s1 u H1 m1,SR X.K CB H1 m1 s1->Rep X.K H1 m1 s1 u v->(match F v s1 with
  |.ok l s'=>∀J H' m',Ext H1 m1 s1 H' m' s'->SR X.K CB H' m' s'->qo X.K CB J l H' m' s'->R J H'
  |.ex c s'=>∀H' m',Ext H1 m1 s1 H' m' s'->SR X.K CB H' m' s'->E (.ref c) Zb H'
  |.bad=>False)->Q u H1):TDE X.K CB E f O H Q:=by
 obtain⟨Z,s,m,er,S,P⟩:=q;refine⟨Z,s,m,er,S,?_⟩;cases c:f Z s with
 |ok v s1 =>
  simp only[c,Out.bind] at P;refine λu H1 m1 e1 S1 r1=>k v s1 u H1 m1 S1 r1 ?_;cases d:F v s1 with
  |ok l s'=>rw[d] at P;exact λJ H' m' x=>P J H' m' (e1.trans x)
  |ex c' s'=>rw[d] at P;exact λH' m' x=>P H' m' (e1.trans x)
  |bad=>rw[d] at P;exact P
 |ex c' s'=>simp only[c,Out.bind] at P;exact P
 |bad=>simp only[c,Out.bind] at P
def qV(hl:DE X CB E e f):DI X CB E tg e (xIter f):=⟨(pi_lt hl.pe).mono λO H R q=>TDI.bind q λv s1 u H1 m1 S1 r1 P=>by
 cases r1 with
 |lst h1 h2 h3=>exact .inl ⟨_,rfl,⟨_,SqL.of h1⟩,P _ _ _ .refl S1 (Nh (.lst h1 h2 h3) λ_=>rfl)⟩
 |seq h1 h3=>exact .inl ⟨_,rfl,⟨_,h1.elim (λz=>.inl (.inr z.1)) .inr⟩,P _ _ _ .refl S1 (Nh (.seq h1 h3) λ_=>rfl)⟩
 |tup h1 h3=>exact .inr ⟨_,rfl,⟨_,h1.elim (λz=>.inl z.1) .inr⟩,P _ _ _ .refl S1 (iterT (.tup h1 h3))⟩
 |_=>exact P.elim⟩
def strP(x:Str):List PV:=x.cps.toList.map λc=>PV.str ⟨#[c]⟩
def xIterS(f:XE)(Z:En)(s:Sto):Out (List PV):=(f Z s).bind λv s1=>match v with
 |.str x=>.ok (strP x) s1
 |_=>.bad
def uT(lo:Int)(n:Nat):List PV:=(bF n).map λ(k:Nat)=>PV.int (lo+k)
def xRng1(fa:XA)(Z:En)(s:Sto):Out (List PV):=(fa Z s).bind λvs s1=>match vs with
 |[.int j]=>if -(2^62)<=j/\j<2^62 then .ok (uT 0 j.toNat) s1 else .bad
 |_=>.bad
def iterR{K}{lo}{n}{H0}{m0}{s0}:qo K CB (Itr lo n) (uT lo n) H0 m0 s0:=by
 intro i H m s ex S;refine⟨λq hq=>?_,λhi=>?_⟩
 ·unfold uT at hq;rw[aD] at hq;by_cases hi:i<n
  ·rw[fT hi] at hq;cases hq;exact⟨hi,λx H' ⟨e1,e2⟩=>by subst e1 e2;exact⟨.refl,S,.int⟩⟩
  ·rw[cM (by simpa using hi)] at hq;cases hq
 ·unfold uT at hi;rw[ac,List.length_range] at hi;exact hi
def TDI.bindA(q:TDI X.K CB E (λZ s=>(fa Z s).bind F) O H R)(k:∀v s1 u H1 m1,SR X.K CB H1 m1 s1->Reps X.K H1 m1 s1 u v->(match F v s1 with
  |.ok l s'=>∀J H' m',Ext H1 m1 s1 H' m' s'->SR X.K CB H' m' s'->qo X.K CB J l H' m' s'->R J H'
  |.ex c s'=>∀H' m',Ext H1 m1 s1 H' m' s'->SR X.K CB H' m' s'->E (.ref c) Zb H'
  |.bad=>False)->Q u H1):TDA X.K CB E fa O H Q:=by
 obtain⟨Z,s,m,er,S,P⟩:=q;refine⟨Z,s,m,er,S,?_⟩;cases c:fa Z s with
 |ok v s1 =>
  simp only[c,Out.bind] at P;refine λu H1 m1 e1 S1 r1=>k v s1 u H1 m1 S1 r1 ?_;cases d:F v s1 with
  |ok l s'=>rw[d] at P;exact λJ H' m' x=>P J H' m' (e1.trans x)
  |ex c' s'=>rw[d] at P;exact λH' m' x=>P H' m' (e1.trans x)
  |bad=>rw[d] at P;exact P
 |ex c' s'=>simp only[c,Out.bind] at P;exact P
 |bad=>simp only[c,Out.bind] at P
def pU(ha:DA X CB E [a] fa)(hg:Gl X "range":=by rfl)(hm:X.mg "range"=none:=by exact T.b_range)(hs:aC [a] X.env=[(false,eval a X.env)]:=by rfl):DI X CB E tg (.Call (.Name "range" p) [a] [] pos) (xRng1 fa) :=
 ⟨(GU hg hm ha.pa hs).mono λO H R q=>TDI.bindA q λv s1 u H1 m1 S1 r1 P=>by
  split at P
  ·rename_i l s' hF;split at hF
   ·split at hF<;>cases hF
    rename_i hj;cases r1 with
    |cons r n=>cases n;cases r;exact⟨_,rfl,hj.1,hj.2,P _ _ _ .refl S1 iterR⟩
   ·cases hF
  ·rename_i hF;split at hF
   ·split at hF<;>cases hF
   ·cases hF
  ·exact P.elim⟩
def Ng:Key->PV
 |.inl i=>.int i
 |.inr x=>.str x
def xIterD(f:XE)(Z:En)(s:Sto):Out (List PV):=(f Z s).bind λv s1=>match v with
 |.dct l=>.ok (l.map λkv=>Ng kv.1) s1
 |_=>.bad
def iDict(tl:TE):TI:=λO H R=>tl O H λx H1=>∃d kvs,x=.ref d/\((H1 d=Za (.dK kvs)/\∀ob,R (Itd d ob kvs) (upd H1 d (.frz ob (.dK kvs))))\/∃ob,H1 d=Za (.frz ob (.dK kvs))/\R (Itd d ob kvs) H1)
def Lo(hl:PE X e tl):PI X tg e (iDict tl):=by
 intro O2 s O H R I h;refine thn (hl O2 s O H _ I h) λv s1=>e4 λx H1 I1 r1 q1=>?_;obtain⟨d,kvs,e,q1⟩:=q1;subst e;cases r1;have hd:Rd H1 d (.dK kvs):=q1.elim (λz=>.inl z.1) λ⟨ob,z,_⟩=>.inr ⟨ob,z⟩;obtain⟨z,RT,vs,rel,dd⟩:=sY I1.hok hd;obtain⟨ep,at_⟩:=dd.dictAt;obtain⟨ob,es,ho,hex,QW,hrest⟩:=id at_;refine wpAny_pyIter_dict RT at_ ?_;have hl:=rel.length;have I2:Inv X O2 O H1 { s1 with heap:=s1.heap.push { cls:=.type "dict_keyiterator",data:=.fields #[.ref d,.int 0 0,.int vs.length 0,.int ep 0] } }:=I1.kept (t':=s1.toks) λb o e=>au _ e;have Po:s1.heap.objs.size≠d:=λz=>by have:=az ho;rw[z] at this;exact dS _ this
 have PY:(0<=kvs.length/\(s1.heap.push { cls:=.type "dict_keyiterator",data:=.fields #[.ref d,.int 0 0,.int vs.length 0,.int ep 0] }).IsKeyIter s1.heap.objs.size d 0 kvs.length ep):=by refine⟨aX _,{ cls:=.type "dict_keyiterator",data:=.fields #[.ref d,.int 0 0,.int vs.length 0,.int ep 0] },a7 _ rfl,rfl,?_⟩;rw[hl];rfl
 rcases q1 with⟨Qx,q⟩|⟨ob',Qx,q⟩
 ·refine⟨s1.heap.objs.size,[s1.heap.objs.size],_,Itd d ob kvs,_,rfl,I2.freeze Qx (au _ ho),AU d _ ob kvs es ep QW,PY,λb hb=>?_,q ob⟩;have e:b=s1.heap.objs.size:=by simpa using hb
  subst e;refine I1.fpOk (am _) ?_;rw[lK Po];exact I1.hok.fresh (am _)
 ·have e0:ob'=ob:=by obtain⟨e1,_⟩:=(show ObjOk X.prog X.w H1 s1.heap d (.frz ob' (.dK kvs)) from I1.hok d _ Qx);rw[ho] at e1;exact(aO e1).symm
  subst e0;refine⟨s1.heap.objs.size,[s1.heap.objs.size],_,Itd d ob' kvs,_,rfl,I2,AU d _ ob' kvs es ep QW,PY,λb hb=>?_,q⟩;have e:b=s1.heap.objs.size:=by simpa using hb
  subst e;exact I1.fpOk (am _) (I1.hok.fresh (am _))
def Oq{K}{H}{m}{s}(k):Rep K H m s (kV k) (Ng k):=by
 cases k with
 |inl i=>exact .int
 |inr x=>exact .str
theorem RepKs.get:∀{K:aa}{H:Hp}{m:Mp}{s:Sto}{vs:List (Key×V)}{l:List (Key×PV)}{i:Nat}{q:Key×PV},RepKs K H m s vs l->l[i]?=Za q->∃w,vs[i]?=Za w/\w.1=q.1
 |_,_,_,_,_,_,_,_,.nil,e=>by simp at e
 |_,_,_,_,_,_,0,_,.cons _ _,e=>by simp at e;subst e;exact⟨_,rfl,rfl⟩
 |_,_,_,_,_,_,i+1,q,.cons _ b,e=>by obtain⟨w,h1,h2⟩:=b.get (i:=i) (q:=q) (by simpa using e);exact⟨w,by simpa using h1,h2⟩
def Ni{K}{H0}{m0}{s0}{d}{ob}{kvs}{l}(hd:∀H m s,Ext0 H0 m0 s0 H m s->SR K CB H m s->H d=Za (.frz ob (.dK kvs)))(r:RepKs K H0 m0 s0 kvs l):qo K CB (Itd d ob kvs) (l.map λkv=>Ng kv.1) H0 m0 s0:=by
 intro i H m s ex S;have h:=hd H m s ex S;refine⟨λq hq=>?_,λhi=>⟨by rw[r.length];simpa using hi,h⟩⟩;rw[aD] at hq;cases c:l[i]? with
 |none=>rw[c] at hq;cases hq
 |some kv =>
  rw[c] at hq;cases hq;obtain⟨w,h1,h2⟩:=r.get c;refine⟨⟨(aS.mp h1).1,h⟩,λx H' ⟨e1,kv',e2,e3⟩=>?_⟩;subst e1 e3;rw[h1] at e2;cases e2;rw[h2];exact⟨.refl,S,Oq _⟩
def Ext.freeze{K}{H}{m}{s}{d}{ob}{kvs}(S:SR K CB H m s)(hd:H d=Za (.dK kvs))(hp:Pur m s d):Ext H m s (upd H d (.frz ob (.dK kvs))) m s:=by
 refine⟨⟨⟨am _,λ_ _=>rfl,λa u h p=>⟨?_,p⟩,λa u h n p=>?_⟩,λj l hj h=>⟨h,λo ho=>?_⟩⟩,rfl,λa ha o h _=>?_⟩
 ·by_cases e:a=d
  ·subst e;rcases h with h|⟨o,h⟩
   ·rw[hd] at h;cases h;exact .inr ⟨ob,lN⟩
   ·rw[hd] at h;cases h
  ·exact h.elim (λh=>.inl (by rw[lK e];exact h)) λ⟨o,h⟩=>.inr ⟨o,by rw[lK e];exact h⟩
 ·rw[lK (CT h hd (n _))];exact h
 ·obtain⟨e1,_⟩:=S.ok _ (oJ h);rw[lK (show m.ad j≠d from λz=>hp.2 j (aj.mpr ⟨_,oJ h,rfl⟩) (by rw[e1,z];simp))];exact ho
 ·rw[lK (show a≠d from λz=>hp.1 (by rw[<-z];exact ha))];exact h
def SR.freezeP{K}{H}{m}{s}{d}{ob}{kvs}(S:SR K CB H m s)(hd:H d=Za (.dK kvs))(hp:Pur m s d):SR K CB (upd H d (.frz ob (.dK kvs))) m s:=by refine⟨S.nd,S.lt,λq hq=>(S.ok q hq).keep S (Ext.freeze S hd hp).toExtR (λa ha o h=>?_) rfl rfl,S.dj,S.hx,S.hsk (Ext.freeze S hd hp).hk (.upd hd EU),S.tbk (.upd hd EU)⟩;have:a≠d:=λz=>hp.2 q.1 (aj.mpr ⟨q,hq,rfl⟩) (z▸ha);rw[lK this];exact h
def Mn(hl:DE X CB E e f):DI X CB E tg e (xIterD f):=⟨(Lo hl.pe).mono λO H R q=>TDI.bind q λv s1 u H1 m1 S1 r1 P=>by
 cases r1 with
 |dct h1 h2 h3 =>
  rename_i d vs l;rcases h1 with h1|⟨ob,h1⟩
  ·refine⟨d,vs,rfl,.inl ⟨h1,λob=>P _ _ m1 (.freeze S1 h1 h2) (S1.freezeP h1 h2) (Ni (λH m s ex S=>ex.el _ _ lN (by intro _ z;cases z) h2) (h3.ext (.freeze S1 h1 h2)))⟩⟩
  ·exact⟨d,vs,rfl,.inr ⟨ob,h1,P _ _ m1 .refl S1 (Ni (λH m s ex S=>ex.el _ _ h1 (by intro _ z;cases z) h2) h3)⟩⟩
 |_=>exact P.elim⟩
def nF(body:PV->XS):List PV->XS
 |[],Z,s=>.nx Z s
 |q::l,Z,s=>match body q Z s with
  |.nx ρ' s'=>nF body l ρ' s'
  |.ct ρ' s'=>nF body l ρ' s'
  |.bk ρ' s'=>.nx ρ' s'
  |o=>o
def mU(y:XG)(u:XS)(q:PV)(Z:En)(s:Sto):SO:=match y q Z s with
 |some ρ'=>u ρ' s
 |none=>.bad
def xFor(fi:XA)(y:XG)(body:XS)(Z:En)(s:Sto):SO:=((fi Z s).so λl s1=>nF (mU y body) l Z s1).noex
def Jj(S1:SR X.K CB H1 m1 s1)(er:ER X.K H1 m1 s1 O Z)(it:qo X.K CB J l H1 m1 s1)(P:PostS X.K CB E0 (nF (mU y u) l Z s1) H1 m1 s1 D) :
  ∃W:Nat->Nat->St->Hp->Prop,(∃m,W 0 m O H1)/\∀i m O H,W i m O H ->
   (J.stop i H/\D.nx O H)\/(J.go i H/\∃N:St->Hp->Prop,(∀σ' H',N σ' H'->∃m',m'<m/\W (i+1) m' σ' H')/\∀x H',J.yld i H x H'->(TDG X.K CB y) x O H' λσ2 H2=>(TDS X.K CB E0 u) { D with nx:=N,ct:=N,bk:=D.nx } σ2 H2):=by
 refine⟨λi k σ' H'=>∃ρ' s' m',ER X.K H' m' s' σ' ρ'/\SR X.K CB H' m' s'/\Ext H1 m1 s1 H' m' s'/\i<=l.length/\k=l.length-i/\PostS X.K CB E0 (nF (mU y u) (l.drop i) ρ' s') H' m' s' D,⟨l.length,Z,s1,m1,er,S1,.refl,aX _,rfl,P⟩,?_⟩
 rintro i k σ' H' ⟨ρ',s',m',er',S',Us,R5,rfl,P'⟩
 obtain⟨RS,Rc⟩:=it i H' m' s' Us.toExt0 S';by_cases Pd:i<l.length
 ·right;have hq:l[i]?=Za l[i]:=aw Pd;obtain⟨go,yl⟩:=RS _ hq;rw[dy Pd] at P';refine⟨go,λσ2 H2=>∃ρ2 s2 m2,ER X.K H2 m2 s2 σ2 ρ2/\SR X.K CB H2 m2 s2/\Ext H1 m1 s1 H2 m2 s2/\PostS X.K CB E0 (nF (mU y u) (l.drop (i+1)) ρ2 s2) H2 m2 s2 D,λσ2 H2 ⟨ρ2,s2,m2,a1,a2,a3,a4⟩=>⟨l.length-(i+1),by omega,ρ2,s2,m2,a1,a2,a3,Pd,rfl,a4⟩,λx H2 hy=>?_⟩;obtain⟨e2,S2,r2⟩:=yl x H2 hy;unfold nF at P';have hbo:mU y u l[i] ρ' s'=match y l[i] ρ' s' with|some ρ'=>u ρ' s'|none=>.bad:=rfl
  rw[hbo] at P';cases hyq:y l[i] ρ' s' with
  |none=>rw[hyq] at P';exact P'.elim
  |some ρ2 =>
   rw[hyq] at P';have P':=PostS.shift e2 P';dsimp only at P';refine⟨ρ',s',m',l[i],ρ2,er'.ext e2,S2,r2,hyq,λσ2 er2=>⟨ρ2,s',m',er2,S2,?_⟩⟩;cases cb:u ρ2 s' with
   |nx ρ3 s3=>rw[cb] at P';exact λσ3 H3 m3 e3 S3 Q6=>⟨ρ3,s3,m3,Q6,S3,(Us.trans e2).trans e3,PostS.shift e3 P'⟩
   |ct ρ3 s3=>rw[cb] at P';exact λσ3 H3 m3 e3 S3 Q6=>⟨ρ3,s3,m3,Q6,S3,(Us.trans e2).trans e3,PostS.shift e3 P'⟩
   |bk ρ3 s3=>rw[cb] at P';exact P'
   |rt v3 s3=>rw[cb] at P';exact P'
   |ex c3 s3=>rw[cb] at P';exact P'
   |bad=>rw[cb] at P';exact P'
 ·left;have P8:l.length<=i:=eC Pd;rw[fg P8] at P';exact⟨Rc P8,P'.next S' er'⟩
def qI(hi:DI X.nox CB E0 tg e fi)(hg:DG X.nox CB tg y)(hb:DSs X.nox CB E0 QB u)(hc:X.calm=true:=by rfl)(hs:∀x,ce e X.env x=pure x:=by intro _;rfl):DS X CB E (.For tg e QB [] pos) (xFor fi y u) :=
 ⟨PS.nox ((JT (X:=X.nox) gD hc hi.pi hg.pg hb.pss hs).mono λD O H=>oE λZ s m er S P=>by
  have P:=PostS.noex P;refine⟨Z,s,m,er,S,?_⟩;cases c:fi Z s with
  |bad=>rw[c] at P;exact P
  |ex c' s'=>rw[c] at P;exact P
  |ok l s1 =>
   rw[c] at P;intro J H1 m1 e1 S1 it;exact Jj (X:=X.nox) S1 (er.ext e1) it (PostS.shift e1 P))⟩
def mS(c:XT)(b:XS):Nat->XS
 |0,_,_=>.bad
 |n+1,Z,s=>(c Z s).so λt s1=>if t=true then(match b Z s1 with
  |.nx ρ' s'=>mS c b n ρ' s'
  |.ct ρ' s'=>mS c b n ρ' s'
  |.bk ρ' s'=>.nx ρ' s'
  |o=>o) else .nx Z s1
open Classical in
def vW(c:XT)(b:XS)(Z:En)(s:Sto):SO:=if h:∃n,mS c b n Z s≠.bad then(mS c b h.choose Z s).noex else .bad
def Ea{c}(hc:DT X.nox CB E0 c t)(hb:DSs X.nox CB E0 QB u):DS X CB E (.While c QB [] pos) (vW t u) :=
 ⟨PS.nox ((DK (X:=X.nox) gD hc.pt hb.pss).mono λD O H=>oE λZ s m er S P=>by
  unfold vW at P;split at P
  ·rename_i h;have P:=PostS.noex P;refine⟨λn σ' H'=>∃ρ' s' m',ER X.K H' m' s' σ' ρ'/\SR X.K CB H' m' s'/\PostS X.K CB E0 (mS t u n ρ' s') H' m' s' D,⟨_,Z,s,m,er,S,P⟩,?_⟩
   rintro n σ' H' ⟨ρ',s',m',er',S',P'⟩
   cases n with
   |zero=>exact P'.elim
   |succ n =>
    refine⟨ρ',s',m',er',S',Post.so P' λb s1 b' H1 m1 e1 S1 r1 P1=>?_⟩;cases r1;refine vA (λcb=>?_) λcb=>?_
    ·rw[Zc cb] at P1;refine⟨λσ2 H2=>∃ρ2 s2 m2,ER X.K H2 m2 s2 σ2 ρ2/\SR X.K CB H2 m2 s2/\PostS X.K CB E0 (mS t u n ρ2 s2) H2 m2 s2 D,λσ2 H2 q=>⟨n,bT _,q⟩,ρ',s1,m1,er'.ext e1,S1,?_⟩;cases cu:u ρ' s1 with
     |nx ρ3 s3=>rw[cu] at P1;exact λσ3 H3 m3 e3 S3 Q6=>⟨ρ3,s3,m3,Q6,S3,PostS.shift e3 P1⟩
     |ct ρ3 s3=>rw[cu] at P1;exact λσ3 H3 m3 e3 S3 Q6=>⟨ρ3,s3,m3,Q6,S3,PostS.shift e3 P1⟩
     |bk ρ3 s3=>rw[cu] at P1;exact P1
     |rt v3 s3=>rw[cu] at P1;exact P1
     |ex c3 s3=>rw[cu] at P1;exact P1
     |bad=>rw[cu] at P1;exact P1
    ·rw[Zd cb] at P1;exact P1.next S1 (er'.ext e1)
  ·exact P.elim)⟩
theorem tN{c}{b}:∀{n:Nat}{Z:En}{s:Sto},mS c b n Z s≠.bad->mS c b (n+1) Z s=mS c b n Z s
 |0,_,_,h=>absurd rfl h
 |n+1,Z,s,h=>by
  unfold mS at h ⊢;cases hc:c Z s with
  |ok t s1 =>
   rw[hc] at h;simp only[Out.so] at h ⊢;by_cases ht:t=true
   ·rw[Zc ht] at h ⊢;rw[Zc ht];cases hb:b Z s1 with
    |nx ρ' s'=>rw[hb] at h;exact tN h
    |ct ρ' s'=>rw[hb] at h;exact tN h
    |_=>rfl
   ·rw[Zd ht,Zd ht]
  |ex=>rfl
  |bad=>rfl
def AO{c}{b}{n k}{Z}{s}(h:mS c b n Z s≠.bad):mS c b (n+k) Z s=mS c b n Z s:=by
 induction k with
 |zero=>rfl
 |succ k ih=>rw[<-km,tN (by rw[ih];exact h),ih]
def AN{c}{b}{n}{Z}{s}{o}(h:mS c b n Z s=o)(ho:o≠.bad):vW c b Z s=o.noex:=by have hx:∃n,mS c b n Z s≠.bad:=⟨n,by rw[h];exact ho⟩;unfold vW;rw[dif_pos hx];have h1:=AO (k:=n) hx.choose_spec;have h2:=AO (k:=hx.choose) (show mS c b n Z s≠.bad by rw[h];exact ho);rw[kR] at h2;rw[<-h1,h2,h]
end
def ny(c:XT)(e:XE)(cap:En):List PV->Sto->Out (List PV)
 |[],s=>.ok [] s
 |q::l,s=>match c (Za q::cap) s with
  |.ok true s1=>match e (Za q::cap) s1 with
   |.ok v s2=>match ny c e cap l s2 with
    |.ok vs s3=>.ok (v::vs) s3
    |_=>.bad
   |_=>.bad
  |.ok false s1=>ny c e cap l s1
  |_=>.bad
def oO:ny c e cap (q::l) s=match c (Za q::cap) s with
  |.ok true s1=>match e (Za q::cap) s1 with
   |.ok v s2=>match ny c e cap l s2 with
    |.ok vs s3=>.ok (v::vs) s3
    |_=>.bad
   |_=>.bad
  |.ok false s1=>ny c e cap l s1
  |_=>.bad:=rfl
theorem zS:∀{l:List PV}{s s':Sto}{k:ak},ny c e cap l s≠.ex k s'
 |[],_,_,_,h=>by cases h
 |q::l,s,s',k,h=>by
  unfold ny at h;split at h
  ·split at h
   ·split at h<;>cases h
   ·cases h
  ·exact zS h
  ·cases h
def mX(_:En)(s:Sto):Out Bool:=.ok true s
def pf(fi:XA)(ix:List Nat)(c:XT)(e:XE)(Z:En)(s:Sto):Out PV:=(fi Z s).bind λl s1=>if l.length<=100000 then(ny c e (nj ix Z) l s1).bind λvs s2=>.ok (.lst vs) s2 else .bad
structure DIfs(X:Cx)(CB:ak)(Pk:List bo)(t:XT):Prop where
 pifs:Ff X Pk (TDT X.K CB E0 t)
section
variable{X:Cx}{CB:ak}{E:XK}{a b c e Pl iter tg:bo}{es Pk:List bo}{f g h:XE}{fa fi:XA}{t:XT}{p px pos Ph O4 O5:Pos}{x:Str}{st:bQ}{qL QB Qg:List bQ}{u v:XS}{scope:dM}{fr:List Str}{ix:List Nat}
def uG:DIfs X CB [] mX:=⟨λO2 s O H Q I ⟨Z,s',m,er,S,P⟩=>zM O2 s O H Q I (P.here S rfl)⟩
def Jn(h:DT X CB E0 c t):DIfs X CB [c] t:=⟨IA h.pt⟩
def Mp.hide(m:Mp)(d:ak):Mp:=⟨m.ad,m.fp,d::m.hid⟩
def Mp.bare(m:Mp)(l:List ak):Mp:=⟨m.ad,m.fp,l⟩
theorem Ext0.hide(hd:H d=Zb):Ext0 H m s (upd H d o) (m.hide d) s :=
 ⟨⟨am _,λ_ _=>rfl,λa u h p=>⟨h.same (My.qe hd),λz=>(af.mp z).elim (h.ne hd) p.1,p.2⟩,λa u h _ _=>My.qe hd _ _ h⟩,λj l _ h=>⟨h,λo ho=>My.qe hd _ _ ho⟩⟩
theorem SR.hide{K}{H}{m}{s}{d}{xs}(S:SR K CB H m s)(hd:H d=Zb):SR K CB (upd H d (.lst xs)) (m.hide d) s:=by
 have k:=My.qe (o:=.lst xs) hd;have S1:=S.same k;have e0:Ext0 H m s (upd H d (.lst xs)) (m.hide d) s:=Ext0.hide hd;have Po:∀n∈s.cs.map (·.1),∀a∈m.fp n,a≠d:=λn hn a ha z=>by obtain⟨q,hq,rfl⟩:=aj.mp hn;obtain⟨o,e,_⟩:=(S.ok q hq).kind ha;rw[z,hd] at e;cases e
 refine⟨S.nd,S.lt,λq hq=>?_,S.dj,λn hn a ha hb=>(af.mp hb).elim (Po n hn a ha) (S.hx n hn a ha),λa ha=>?_,λP q t=>⟨ae _ (S1.tb P q t).1,(S1.tb P q t).2⟩⟩
 ·have:=S.ok q hq;cases c:q.2 with
  |lst l=>rw[c] at this;obtain⟨a1,vs,a2,a3⟩:=this;exact⟨a1,vs,k _ _ a2,a3.ext0 e0.toExtR⟩
  |dct l=>rw[c] at this;obtain⟨a1,vs,a2,a3⟩:=this;exact⟨a1,vs,k _ _ a2,a3.ext0 e0.toExtR⟩
  |dfz l=>rw[c] at this;obtain⟨a1,ob,vs,a2,a3⟩:=this;exact⟨a1,ob,vs,k _ _ a2,a3.ext0 e0.toExtR⟩
  |obj C fs=>rw[c] at this;obtain⟨a1,dx,vs,a2,a3,a4⟩:=this;exact⟨a1,dx,vs,k _ _ a2,a3,a4.ext0 e0.toExtR⟩
  |dtt l=>rw[c] at this;obtain⟨a1,vs,a2,a3,a4⟩:=this;exact⟨a1,vs,k _ _ a2,a3,a4.ext0 e0.toExtR⟩
  |book pp L =>
   have:=S1.ok q hq;rw[c] at this;exact this
 ·rcases af.mp ha with rfl|ha
  ·rw[lN];exact⟨by simp,λ_ _=>⟨by simp,by simp,by simp,by simp⟩⟩
  ·exact S1.hs a ha
def Ext0.redo{K}{H}{m}{s}{d}{o u0}(S:SR K CB H m s)(hd:d∈m.hid)(hu:H d=Za u0)(Qu:¬Odd u0):Ext0 H m s (upd H d o) m s:=by
 have ne:∀a,Pur m s a->a≠d:=λa p z=>p.1 (z▸hd);refine⟨⟨am _,λ_ _=>rfl,λa u h p=>⟨?_,p⟩,λa u h _ p=>by rw[lK (ne a p)];exact h⟩,λj l _ h=>⟨h,λo ho=>?_⟩⟩
 rotate_left
 ·obtain⟨e1,_⟩:=S.ok _ (oJ h);rw[lK (show m.ad j≠d from λz=>S.hx j (aj.mpr ⟨_,oJ h,rfl⟩) (m.ad j) (by rw[e1];simp) (by rw[z];exact hd))];exact ho
 exact h.elim (λh=>.inl (by rw[lK (ne a p)];exact h)) λ⟨o,h⟩=>.inr ⟨o,by rw[lK (ne a p)];exact h⟩
theorem SR.redo{K}{H}{m}{s}{d}{xs ys}(S:SR K CB H m s)(hd:d∈m.hid)(hl:H d=Za (.lst xs)):SR K CB (upd H d (.lst ys)) m s:=by
 have e0:Ext0 H m s (upd H d (.lst ys)) m s:=Ext0.redo S hd hl An;have nt:∀(t:ak)(us:List V),SqT K H t us->SqT K (upd H d (.lst ys)) t us:=λt us h=>by
  rcases h with h|h
  ·refine .inl (e0.pu _ _ h ?_).1;exact h.elim (λh=>S.pure_tup h) λ⟨_,h⟩=>S.pure_frz (.inl h)
  ·exact .inr h
 refine⟨S.nd,S.lt,λq hq=>?_,S.dj,S.hx,λa ha=>?_,S.tbk (.upd hl An)⟩
 ·have hn:q.1∈s.cs.map (·.1):=aj.mpr ⟨q,hq,rfl⟩;have kp:∀a∈m.fp q.1,∀o,H a=Za o->upd H d (.lst ys) a=Za o:=λa ha o h=>by rw[lK (show a≠d from λz=>S.hx _ hn a ha (by rw[z];exact hd))];exact h
  have:=S.ok q hq;cases c:q.2 with
  |lst l=>rw[c] at this;obtain⟨a1,vs,a2,a3⟩:=this;exact⟨a1,vs,kp _ (by rw[a1];simp) _ a2,a3.ext0 e0.toExtR⟩
  |dct l=>rw[c] at this;obtain⟨a1,vs,a2,a3⟩:=this;exact⟨a1,vs,kp _ (by rw[a1];simp) _ a2,a3.ext0 e0.toExtR⟩
  |dfz l=>rw[c] at this;obtain⟨a1,ob,vs,a2,a3⟩:=this;exact⟨a1,ob,vs,kp _ (by rw[a1];simp) _ a2,a3.ext0 e0.toExtR⟩
  |obj C fs=>rw[c] at this;obtain⟨a1,dx,vs,a2,a3,a4⟩:=this;exact⟨a1,dx,vs,kp _ (by rw[a1];simp) _ a2,a3,a4.ext0 e0.toExtR⟩
  |dtt l=>rw[c] at this;obtain⟨a1,vs,a2,a3,a4⟩:=this;exact⟨a1,vs,kp _ (by rw[a1];simp) _ a2,a3,a4.ext0 e0.toExtR⟩
  |book pp L =>
   rw[c] at this;obtain⟨z,L',B,e1,e2⟩:=this;rw[e2] at kp;have kb:∀a∈My.BFp (m.ad q.1) z L',∀o,H a=Za o->upd H d (.lst ys) a=Za o:=kp;refine⟨z,L',⟨kb _ (by simp[My.BFp]) _ B.ob,kb _ (by simp[My.BFp]) _ B.pp,kb _ (by simp[My.BFp]) _ B.tt,kb _ (by simp[My.BFp]) _ B.mm,kb _ (by simp[My.BFp]) _ B.ll,B.hh.keep (λo h=>kb _ (by simp[My.BFp]) _ h),λq' PZ=>?_,B.nd,B.p6,B.h8⟩,e1,e2⟩;obtain⟨ts,h1,h2,h3⟩:=B.he q' PZ;refine⟨ts,h1,kb _ ?_ _ h2,λy hy=>nt _ _ (h3 y hy)⟩;unfold My.BFp;simp only[af];right;right;right;right;right;right;exact aj.mpr ⟨q',PZ,rfl⟩
 ·by_cases e:a=d
  ·subst e;rw[lN];exact⟨by simp,λ_ _=>⟨by simp,by simp,by simp,by simp⟩⟩
  ·rw[lK e];exact S.hs a ha
def Ext0.show(hm:m.hid=d::l):Ext0 H m s H (m.bare l) s :=
 ⟨⟨am _,λ_ _=>rfl,λa u h p=>⟨h,λz=>p.1 (by rw[hm];exact ae _ z),p.2⟩,λa u h _ _=>h⟩,λj l _ h=>⟨h,λo h=>h⟩⟩
theorem SR.show{K}{H}{m}{s}{d}{l}{u0}(S:SR K CB H m s)(hm:m.hid=d::l)(hu:H d=Za u0)(Qu:¬Odd u0):SR K CB H (m.bare l) s:=by
 have e0:Ext0 H m s H (m.bare l) s:=Ext0.show hm;refine⟨S.nd,S.lt,λq hq=>?_,S.dj,λn hn a ha hb=>S.hx n hn a ha (by rw[hm];exact ae _ hb),λa ha=>S.hs a (by rw[hm];exact ae _ ha),λP q t=>⟨?_,(S.tb P q t).2⟩⟩
 rotate_left
 ·obtain⟨h1,ps,h2,_⟩:=S.tb P q t;rw[hm] at h1;rcases af.mp h1 with z|z
  ·rw[z,hu] at h2;cases h2;exact absurd (.inl ⟨_,rfl⟩) Qu
  ·exact z
 have:=S.ok q hq;cases c:q.2 with
 |lst l=>rw[c] at this;obtain⟨a1,vs,a2,a3⟩:=this;exact⟨a1,vs,a2,a3.ext0 e0.toExtR⟩
 |dct l=>rw[c] at this;obtain⟨a1,vs,a2,a3⟩:=this;exact⟨a1,vs,a2,a3.ext0 e0.toExtR⟩
 |dfz l=>rw[c] at this;obtain⟨a1,ob,vs,a2,a3⟩:=this;exact⟨a1,ob,vs,a2,a3.ext0 e0.toExtR⟩
 |obj C fs=>rw[c] at this;obtain⟨a1,dx,vs,a2,a3,a4⟩:=this;exact⟨a1,dx,vs,a2,a3,a4.ext0 e0.toExtR⟩
 |dtt l=>rw[c] at this;obtain⟨a1,vs,a2,a3,a4⟩:=this;exact⟨a1,vs,a2,a3,a4.ext0 e0.toExtR⟩
 |book pp L=>rw[c] at this;exact this
theorem ER.ext0{K}{H H'}{m m'}{s s'}{O}{Z}(h:ER K H m s O Z)(e:ExtR H m s H' m' s'):ER K H' m' s' O Z :=
 ⟨h.len,λi p q=>let⟨u,a,b⟩:=h.at_ i p q;⟨u,a,b.ext0 e⟩⟩
structure Cmp(K:aa)(CB:ak)(D:ak)(H1:Hp)(m1:Mp)(s1:Sto)(cap:St)(Z:En)(ys:List V)(done:List PV)(H2:Hp)(m2:Mp)(s2:Sto):Prop where
 hid:m2.hid=D::m1.hid
 at_:H2 D=Za (.lst ys)
 sr:SR K CB H2 m2 s2
 er:ER K H2 m2 s2 cap Z
 rs:Reps K H2 m2 s2 ys done
 ex:Ext H1 m1 s1 H2 (m2.bare m1.hid) s2
 e0:Ext0 H1 m1 s1 H2 m2 s2
def Cmp.start{K}{D}{H1}{m1}{s1}{cap}{Z}(S:SR K CB H1 m1 s1)(er:ER K H1 m1 s1 cap Z)(hD:H1 D=Zb):Cmp K CB D H1 m1 s1 cap Z [] [] (upd H1 D (.lst [])) (m1.hide D) s1 :=
 ⟨rfl,lN,S.hide hD,er.ext0 (Ext0.hide hD).toExtR,.nil,Ext.same (My.qe hD),Ext0.hide hD⟩
def Ext.into{K}{D}{H1 H2 H5}{m1 m2 m5}{s1 s2 s5}(hid:m2.hid=D::m1.hid)(S2:SR K CB H2 m2 s2)(hD:H1 D=Zb)(a:Ext H1 m1 s1 H2 (m2.bare m1.hid) s2)(b:Ext H2 m2 s2 H5 m5 s5):Ext H1 m1 s1 H5 (m5.bare m1.hid) s5:=by
 have pr:∀c u,Rd H1 c u->Pur m1 s1 c->Rd H2 c u/\Pur m2 s2 c:=λc u h p=>by obtain⟨h1,p1⟩:=a.pu c u h p;refine⟨h1,λz=>?_,p1.2⟩;rw[hid] at z;exact(af.mp z).elim (h.ne hD) p.1
 refine⟨⟨⟨aI a.nx b.nx,λn h=>(b.ad n (ay h a.nx)).trans (a.ad n h),λc u h p=>?_,λc u h n p=>?_⟩,λj l hj h=>?_⟩,rfl,λc hc o h n=>?_⟩
 ·obtain⟨h1,p1⟩:=pr c u h p;obtain⟨h2,p2⟩:=b.pu c u h1 p1;exact⟨h2,p.1,p2.2⟩
 ·obtain⟨_,p1⟩:=pr c _ (.inl h) p;exact b.el c u (a.el c u h n p) n p1
 ·obtain⟨h1,k1⟩:=a.df j l hj h;obtain⟨h2,k2⟩:=b.df j l (ay hj a.nx) h1;have e:m2.ad j=m1.ad j:=a.ad j hj;rw[e] at k2;exact⟨h2,λo h=>k2 o (k1 o h)⟩
 ·exact b.hk c (by rw[hid];exact ae _ hc) o (a.hk c hc o h n) n
def Cmp.step{K}{D}{H1 H2 H5}{m1 m2 m5}{s1 s2 s5}{cap}{Z}{ys}{done}(C:Cmp K CB D H1 m1 s1 cap Z ys done H2 m2 s2)(hD:H1 D=Zb)(b:Ext H2 m2 s2 H5 m5 s5)(S5:SR K CB H5 m5 s5):Cmp K CB D H1 m1 s1 cap Z ys done H5 m5 s5 :=
 ⟨b.hd.trans C.hid,b.hk D (by rw[C.hid];exact ai) _ C.at_ (by intro _ z;cases z),S5,C.er.ext b,C.rs.ext b,Ext.into C.hid C.sr hD C.ex b,C.e0.trans b.toExt0⟩
def Cmp.push{K}{D}{H1 H2}{m1 m2}{s1 s2}{cap}{Z}{ys}{done}{v}{q}(C:Cmp K CB D H1 m1 s1 cap Z ys done H2 m2 s2)(hD:H1 D=Zb)(r:Rep K H2 m2 s2 v q):Cmp K CB D H1 m1 s1 cap Z (ys++[v]) (done++[q]) (upd H2 D (.lst (ys++[v]))) m2 s2:=by
 have hm:D∈m2.hid:=by rw[C.hid];exact ai
 have e0:Ext0 H2 m2 s2 (upd H2 D (.lst (ys++[v]))) m2 s2:=Ext0.redo C.sr hm C.at_ An;refine⟨C.hid,lN,C.sr.redo hm C.at_,C.er.ext0 e0.toExtR,(C.rs.append (.cons r .nil)).ext0 e0.toExtR,⟨⟨⟨C.ex.nx,C.ex.ad,λc u h p=>?_,λc u h n p=>?_⟩,λj l hj h=>⟨(C.ex.df j l hj h).1,λo ho=>?_⟩⟩,rfl,λc hc o h n=>?_⟩,C.e0.trans e0⟩
 ·obtain⟨h1,p1⟩:=C.ex.pu c u h p;have ne:=h.ne hD;exact⟨h1.elim (λh=>.inl (by rw[lK ne];exact h)) λ⟨o,h⟩=>.inr ⟨o,by rw[lK ne];exact h⟩,p1⟩
 ·rw[lK (lR h hD)];exact C.ex.el c u h n p
 ·rw[lK (lR ho hD)];exact(C.ex.df j l hj h).2 o ho
 ·rw[lK (lR h hD)];exact C.ex.hk c hc o h n
theorem Cmp.done{K}{D}{H1 H2}{m1 m2}{s1 s2}{cap}{Z}{ys}{done}(C:Cmp K CB D H1 m1 s1 cap Z ys done H2 m2 s2):SR K CB H2 (m2.bare m1.hid) s2/\(D∉m1.hid->Rep K H2 (m2.bare m1.hid) s2 (.ref D) (.lst done)):=by refine⟨C.sr.show C.hid C.at_ An,λhn=>.lst C.at_ ⟨hn,λn hh z=>C.sr.hx n hh D z (by rw[C.hid];exact ai)⟩ (C.rs.ext0 (Ext0.show C.hid).toExtR)⟩
def Ju{O}{H1}{m1}{s1}{Z}{J:It}{l}{D}{Q}{t}(S1:SR X.K CB H1 m1 s1)(er:ER X.K H1 m1 s1 O Z)(it:qo X.K CB J l H1 m1 s1)(hD:H1 D=Zb)(O6:l.length<=100000)(P:Post X.K CB (Rep X.K) E ((ny t f (nj ix Z) l s1).bind λvs s2=>.ok (.lst vs) s2) H1 m1 s1 Q):CompB J (TDT X.K CB E0 t) (TDE X.K CB E0 f) (capt ix O) D H1 Q:=by
 refine⟨λi k ys H2=>∃done m2 s2,Cmp X.K CB D H1 m1 s1 (capt ix O) (nj ix Z) ys done H2 m2 s2/\i<=l.length/\ys.length<=i/\k=l.length-i/\(ny t f (nj ix Z) l s1).bind (λvs s2=>.ok (PV.lst vs) s2)=(ny t f (nj ix Z) (l.drop i) s2).bind λvs s2=>.ok (.lst (done++vs)) s2,⟨l.length,[],m1.hide D,s1,Cmp.start S1 (er.capt ix) hD,aX _,aX _,rfl,?_⟩,?_⟩
 ·simp
 rintro i k ys H2 ⟨done,m2,s2,C,hi,hy,rfl,eq⟩
 obtain⟨RS,Rc⟩:=it i H2 m2 s2 C.e0 C.sr;by_cases Pd:i<l.length
 ·right;have hq:l[i]?=Za l[i]:=aw Pd;obtain⟨go,yl⟩:=RS _ hq;refine⟨go,λx H3 Tc=>?_⟩;obtain⟨e3,S3,r3⟩:=yl x H3 Tc;have C3:=C.step hD e3 S3;rw[dy Pd] at eq;rw[eq] at P;rw[oO] at P eq;refine⟨Za l[i]::nj ix Z,s2,m2,C3.er.cons r3,S3,?_⟩;cases ct:t (Za l[i]::nj ix Z) s2 with
  |bad=>rw[ct] at P;exact P.elim
  |ex c3 s3=>rw[ct] at P;exact P.elim
  |ok bt s3 =>
   rw[ct] at P eq;intro b4 H4 m4 e4 S4 hb;subst hb;have C4:=C3.step hD e4 S4;cases b4 with
   |false =>
    exact L1 ⟨l.length-(i+1),by omega,done,m4,s3,C4,Pd,by omega,rfl,eq⟩
   |true =>
    refine L0 ⟨Za l[i]::nj ix Z,s3,m4,C4.er.cons (r3.ext e4),S4,?_⟩;dsimp only at P eq;cases cf:f (Za l[i]::nj ix Z) s3 with
    |bad=>rw[cf] at P;exact P.elim
    |ex c5 s5=>rw[cf] at P;exact P.elim
    |ok v s5 =>
     rw[cf] at eq;intro w H5 m5 e5 S5 r5;have C5:=C4.step hD e5 S5;refine⟨C5.at_,aZ (aI hy (aI hi O6)) (by decide),l.length-(i+1),by omega,done++[v],m5,s5,C5.push hD r5,Pd,by simp;omega,rfl,?_⟩;rw[eq];dsimp only;cases hh:ny t f (nj ix Z) (l.drop (i+1)) s5 with
     |ok vs s6=>simp[Out.bind]
     |ex c6 s6=>exact absurd hh zS
     |bad=>rfl
 ·left;have P8:l.length<=i:=eC Pd;rw[fg P8] at eq;rw[eq] at P;unfold ny at P;obtain⟨TV,rd⟩:=C.done;refine⟨Rc P8,C.at_,P (.ref D) H2 (m2.bare m1.hid) C.ex TV ?_⟩;rw[cK];exact rd λz=>(S1.hs D z).1 hD
def zq{t}(q:TDE X.K CB E (pf fi ix t f) O H Q):HI (TDI X.K CB E fi) ix (TDT X.K CB E0 t) (TDE X.K CB E0 f) O H Q:=by
 obtain⟨Z,s,m,er,S,P⟩:=q;refine⟨Z,s,m,er,S,?_⟩;unfold pf at P;cases c:fi Z s with
 |bad=>rw[c] at P;exact P
 |ex c' s'=>rw[c] at P;exact P
 |ok l s1 =>
  rw[c] at P;dsimp only[Out.bind] at P;split at P
  ·rename_i O6;intro J H1 m1 e1 S1 it D hD;exact Ju S1 (er.ext e1) it hD O6 (Post.shift e1 P)
  ·exact P.elim
def qO(hi:DI X CB E (.Name x px) iter fi)(he:∀cl C O7 O9 fp,DE (blk X scope cl C (x::fr) O7 O9 fp) CB E0 Pl f)(ht:∀cl C O7 O9 fp,DIfs (blk X scope cl C (x::fr) O7 O9 fp) CB Pk t:=by exact λ_ _ _ _ _=>uG)(hc:X.calm=true:=by rfl)(S:CompOk X.N X.env.scope scope x fr ix:=by exact OY ‹FnScope _ _ _›)(hs:∀v,ce iter X.env v=pure v:=by intro _;rfl):DE X CB E (.ListComp Pl [⟨.Name x px,iter,Pk,0⟩] scope pos) (pf fi ix t f) :=
 ⟨(Cu hc S hi.pi (λcl C O7 O9 fp=>(ht cl C O7 O9 fp).pifs) (λcl C O7 O9 fp=>(he cl C O7 O9 fp).pe) hs).mono λO H Q q=>zq q⟩
def zf(hi:DI X CB E (.Name x px) iter fi)(he:∀cl C O7 O9 fp,DE (blk X scope cl C (x::fr) O7 O9 fp) CB E0 Pl f)(ht:∀cl C O7 O9 fp,DIfs (blk X scope cl C (x::fr) O7 O9 fp) CB Pk t:=by exact λ_ _ _ _ _=>uG)(hN:X.N.Nodup:=by exact ‹FnScope _ _ _›.nd)(Rl:X.N[i]?=Za y:=by rfl)(QT:X.env.scope.names.lookup y=Za .local:=by rfl)(hc:X.calm=true:=by rfl)(S:CompOk X.N X.env.scope scope x fr ix:=by exact OY ‹FnScope _ _ _›)(Rf:dQ (.ListComp Pl [⟨.Name x px,iter,Pk,0⟩] scope pos) (Za (.Name y py)) spos.line X.env=pure true:=by rfl)(hs:∀v,ce iter X.env v=pure v:=by intro _;rfl):DS X CB E (.Assign [.Name y py] (.ListComp Pl [⟨.Name x px,iter,Pk,0⟩] scope pos) spos) (xSet i (pf fi ix t f)) :=
 ⟨(yP hN Rl QT hc S hi.pi (λcl C O7 O9 fp=>(ht cl C O7 O9 fp).pifs) (λcl C O7 O9 fp=>(he cl C O7 O9 fp).pe) Rf hs).mono λD O H=>oE λZ s m er S P =>
  zq ⟨Z,s,m,er,S,Post.so P λv s1 u H1 m1 e1 S1 r1 P1=>P1.next S1 ((er.ext e1).set i r1)⟩⟩
end
abbrev XF:=List PV->Sto->Out PV
def spD(K:aa)(CB:ak)(n:Nat)(D:XF):Sp:=λvs H Q E=>vs.length=n/\∃ps s m,Reps K H m s vs ps/\SR K CB H m s/\Post K CB (Rep K) E (D ps s) H m s Q
def xCall(n:Nat)(D:XF)(fa:XA)(Z:En)(s:Sto):Out PV:=(fa Z s).bind λvs s1=>if vs.length=n then D vs s1 else .bad
def fnD(N:Nat)(g:XS)(vs:List PV)(s:Sto):Out PV:=match g (vs.map Za++aR (N-vs.length) Zb) s with
 |.nx _ s'=>.ok .non s'
 |.rt v s'=>.ok v s'
 |.ex c s'=>.ex c s'
 |_=>.bad
section
variable{X:Cx}{CB:ak}{E:XK}{a b c e Pl iter tg:bo}{es Pk:List bo}{f g h:XE}{fa fi:XA}{t:XT}{p px py pos Ph O4 O5:Pos}{x y:Str}{st:bQ}{qL QB Qg:List bQ}{u v:XS}{scope:dM}{fr:List Str}{ix:List Nat}{n k:Nat}{D:XF}{ps:List Str}
def mq(F:Fn X.prog X.w X.K X.mg X.base x k ps (spD X.K CB n D))(ha:DA X CB E (e::es) fa)(hr:Room jr X.A:=by assumption)(hk:k<=jr:=by first|decide|lia)(hg:Gl X x:=by rfl)(hx:nO (CXo X.prog X.w) X E:=by first|exact oC|exact qG)(PL:NDb x:=by decide)(he:SEb X e es:=by rfl)(Pn:(b8 pos (aC es X.env)).any (·.1)=false:=by rfl):DE X CB E (.Call (.Name x p) (e::es) [] pos) (xCall n D fa) :=
 ⟨(wu F (hr.mono hk) hg hx ha.pa PL he Pn).mono λO H Q=>oE λZ s m er S P=>⟨Z,s,m,er,S,P.bind λv s1 u H1 m1 e1 S1 r1 P1=>by
  split at P1
  ·rename_i hl;rw[cK];exact⟨by rw[r1.length];exact hl,v,s1,m1,r1,S1,P1⟩
  ·exact P1.elim⟩⟩
def xBM(n:Nat)(D:XF)(f:XE)(fa:XA)(Z:En)(s:Sto):Out PV:=(f Z s).bind λo s1=>match o with
 |.ref k=>match s1.get k with
  |some (.book _ _)=>(fa Z s1).bind λvs s2=>if vs.length+1=n then D (.ref k::vs) s2 else .bad
  |_=>.bad
 |_=>.bad
def wC(ho:DE X CB E a f)(M:Mt X.prog X.w X.K X.mg X.base CB m k ps (spD X.K CB n D))(ha:DA X CB E (e::es) fa)(Qu:∀z,(My.bf z).lookup m=none:=by exact λz=>My.rP z)(hr:Room jr X.A:=by assumption)(hk:k<=jr:=by first|decide|lia)(hx:nO (CXo X.prog X.w) X E:=by first|exact oC|exact qG)(Qt:SEb X e es:=by rfl)(Pn:(b8 pos (aC es X.env)).any (·.1)=false:=by rfl)(ht:eval (.Call (.Attribute a m O4) (e::es) [] pos) X.env=(do
   let ov <-eval a X.env
   gv O4.atName
   let(f,first) <-holding [ov] (fQ ov m pl)
   iT pos f first (b8 pos (aC (e::es) X.env)) (eK pos (cY [] X.env))):=by rfl):DE X CB E (.Call (.Attribute a m O4) (e::es) [] pos) (xBM n D f fa) :=
 ⟨(rN (pl:=pl) ho.pe M (hr.mono hk) hx ha.pa Qt Pn ht).mono λO H Q=>oE λZ s m er S P=>⟨Z,s,m,er,S,P.bind λv s1 u H1 m1 e1 S1 r1 P1=>by
  split at P1
  ·split at P1
   ·rename_i hg;obtain⟨z,L',B,_,_⟩:=S1.get hg;cases r1 with
    |ref hn =>
    refine⟨_,_,_,rfl,B.ob,Qu z,Z,s1,m1,er.ext e1,S1,P1.bind λvs s2 us H2 m2 e2 S2 r2 P2=>?_⟩;split at P2
    ·rename_i hl;rw[cK];refine⟨by rw[bc,r2.length];exact hl,_,s2,m2,.cons ?_ r2,S2,P2⟩;exact(Rep.ref hn).ext e2
    ·exact P2.elim
   ·exact P1.elim
  ·exact P1.elim⟩⟩
def vj(ho:DE X CB E a f)(M:Mt X.prog X.w X.K X.mg X.base CB m k ps (spD X.K CB n D))(Qu:∀z,(My.bf z).lookup m=none:=by exact λz=>My.rP z)(hr:Room jr X.A:=by assumption)(hk:k<=jr:=by first|decide|lia)(hx:nO (CXo X.prog X.w) X E:=by first|exact oC|exact qG)(ht:eval (.Call (.Attribute a m O4) [] [] pos) X.env=(do
   let ov <-eval a X.env
   gv O4.atName
   let(f,first) <-holding [ov] (fQ ov m pl)
   iT pos f first (b8 pos (aC [] X.env)) (eK pos (cY [] X.env))):=by rfl):DE X CB E (.Call (.Attribute a m O4) [] [] pos) (xBM n D f xNil) :=
 ⟨(JW (pl:=pl) ho.pe M (hr.mono hk) hx ht).mono λO H Q=>oE λZ s m er S P=>⟨Z,s,m,er,S,P.bind λv s1 u H1 m1 e1 S1 r1 P1=>by
  split at P1
  ·split at P1
   ·rename_i hg;obtain⟨z,L',B,_,_⟩:=S1.get hg;cases r1 with
    |ref hn =>
    refine⟨_,_,_,rfl,B.ob,Qu z,?_⟩;simp only[xNil,Out.bind] at P1;split at P1
    ·rename_i hl;exact⟨hl,_,s1,m1,.cons (.ref hn) .nil,S1,P1⟩
    ·exact P1.elim
   ·exact P1.elim
  ·exact P1.elim⟩⟩
def xBook(_:En)(s:Sto):Out PV:=.ok (.ref s.nx) (s.add (.book [] []))
def JN(K:aa)(C:ak):Sp:=λvs H Q _=>∃(p dx:ak),vs=[.ref p]/\H p=Za (.ins C dx [])/\∀z H',(∀c∈[z.dp,z.dt,z.dm,z.dl,z.dh],H c=Zb)->My.BookAt K C H' p z [] []->(∀c o,H c=Za o->c≠p->H' c=Za o)->Q .non H'
def MD(M:MkB X.prog X.w X.K X.mg X.base x CB k ps (JN X.K CB))(hr:Room jr X.A:=by assumption)(hk:k+1<=jr:=by first|decide|lia)(hg:Gl X x:=by rfl)(hx:nO (CXo X.prog X.w) X E:=by first|exact oC|exact qG)(PL:NDb x:=by decide):DE X CB E (.Call (.Name x p) [] [] pos) xBook :=
 ⟨(JX M (hr.mono hk) hg hx PL).mono λO H Q=>oE λZ s m er S P b dx hb Vy Po=>by
  refine⟨b,dx,rfl,lN,λz H' hz B kp=>⟨rfl,?_⟩⟩;have hk:Same H H':=λc o h=>by have h1:c≠b:=lR h hb;have h2:c≠dx:=lR h Vy;exact kp c o (by rw[lK h1,lK h2];exact h) h1
  have hzn:∀c∈[z.dp,z.dt,z.dm,z.dl,z.dh],H c=none:=λc hc=>by
   have h:=hz c hc;have n1:c≠b:=λe=>by rw[e,lN] at h;cases h
   have n2:c≠dx:=λe=>by rw[lK n1,e,lN] at h;cases h
   rw[lK n1,lK n2] at h;exact h
  obtain⟨S2,e2⟩:=S.add (c:=.book [] []) H' b (My.BFp b z []) hk (λa ha=>by
   unfold My.BFp at ha;rcases af.mp ha with rfl|ha
   ·exact hb
   ·exact hzn a (by simpa using ha)) λex=>by
    refine⟨z,[],?_,rfl,?_⟩
    ·rw[Mp.add_ad];exact B
    ·rw[Mp.add_ad];show(if s.nx=s.nx then _ else _)=_;rw[Zc rfl]
  exact P _ _ _ e2 S2 .new⟩
def nv{P}{w}{K}{mg}{base}{qual}{fa}{fd}{N}(F:Fun K x qual st fa fd)(S:FnScope N ps (lP st))(hps:ps.length=n)(hb:∀(Pb:ah)(A:cE)(outer:List Env)(s:ax)(H:Hp)(E:XK),Room k (A.deeper (eU qual (lP st) s.heap.objs.size fa Pb))->FnScope N ps (lP st)->DSs (Ec (CXo P w) P w K mg base N qual (lP st) fa Pb A outer s H E) CB E (nq st) u) :
  FnOk P w K mg base (CXo P w) (k+1) fa fd ps (spD K CB n (fnD N.length u)):=by
 refine F.okX S (λvs H Q E h=>by rw[hps];exact h.1) (λPb A outer s H vs Q E hr h=>?_);obtain⟨hl,RM,s',m,r,S',P'⟩:=h;refine⟨_,(hb Pb A outer s H E hr S).pss,RM.map Za++aR (N.length-RM.length) Zb,s',m,?_,S',?_⟩
 ·unfold start;rw[r.length];exact ER.start r _
 ·unfold fnD at P';cases cc:u (RM.map Za++aR (N.length-RM.length) Zb) s' with
  |nx ρ1 s1=>rw[cc] at P';exact λσ' H' m' x S1 er=>P' .non H' m' x S1 .non
  |rt v1 s1=>rw[cc] at P';exact λu' H' m' x S1 r1=>P' u' H' m' x S1 r1
  |ex c1 s1=>rw[cc] at P';exact P'
  |bk=>rw[cc] at P';exact P'.elim
  |ct=>rw[cc] at P';exact P'.elim
  |bad=>rw[cc] at P';exact P'.elim
open Classical in
def Sto.only(s:Sto)(n:Nat):Sto:=⟨s.nx,s.cs.filter λq=>decide (q.1<n)⟩
def xOnly(f:XE)(Z:En)(s:Sto):Out PV:=(f Z s).bind λv s1=>.ok v (s1.only s.nx)
def frz1(v:PV)(s:Sto):Out PV:=match v with
 |.ref n=>match s.get n with
  |some (.lst l)=>.ok (.lst l) (s.del n)
  |some (.dct l)=>.ok (.dct l) (s.del n)
  |_=>.bad
 |_=>.bad
def xFrz(f:XE)(Z:En)(s:Sto):Out PV:=(f Z s).bind frz1
def SR.frz{K}{x}{v w}(S:SR K CB H m s)(r:Rep K H m s x v)(e:frz1 v s=.ok w s'):SR K CB H m s'/\Ext H m s H m s'/\Rep K H m s' x w:=by
 unfold frz1 at e;split at e
 ·rename_i n;have pu:∀c,s.get n=Za c->m.fp n=[m.ad n]->Pur m (s.del n) (m.ad n):=λc hg e1=>by have PD:n∈s.cs.map (·.1):=aj.mpr ⟨_,oJ hg,rfl⟩;refine⟨S.hx n PD _ (by rw[e1];simp),λj hj z=>?_⟩;obtain⟨q,hq,rfl⟩:=aj.mp hj;have Po:=Gn S.nd hq;exact S.dj n PD q.1 (aj.mpr ⟨q,uH hq,rfl⟩) (λz=>Po z.symm) _ (by rw[e1];simp) z
  split at e
  ·rename_i l hg;cases e;cases r;obtain⟨e1,vs,h1,h2⟩:=S.get hg;have hnd:∀l,s.get n≠Za (.dfz l):=λl z=>by rw[hg] at z;cases z
   exact⟨(S.del n hnd).1,(S.del n hnd).2,.lst h1 (pu _ hg e1) (h2.ext (S.del n hnd).2)⟩
  ·rename_i l hg;cases e;cases r;obtain⟨e1,vs,h1,h2⟩:=S.get hg;have hnd:∀l,s.get n≠Za (.dfz l):=λl z=>by rw[hg] at z;cases z
   exact⟨(S.del n hnd).1,(S.del n hnd).2,.dct (.inl h1) (pu _ hg e1) (h2.ext (S.del n hnd).2)⟩
  ·cases e
 ·cases e
def Kn(h:DE X CB E e f):DE X CB E e (xFrz f):=⟨h.pe.mono λO H Q=>oE λZ s m er S P=>⟨Z,s,m,er,S,P.bind λv s1 u H1 m1 e1 S1 r1 P1=>by
 cases cc:frz1 v s1 with
 |ok w s2 =>
  rw[cc] at P1;obtain⟨S2,e2,r2⟩:=S1.frz r1 cc;exact P1 u H1 m1 e2 S2 r2
 |ex c' s' =>
  exfalso;unfold frz1 at cc;split at cc
  ·split at cc<;>cases cc
  ·cases cc
 |bad=>rw[cc] at P1;exact P1.elim⟩⟩
theorem ExtR.trans(a:ExtR H m s H1 m1 s1)(b:ExtR H1 m1 s1 H2 m2 s2):ExtR H m s H2 m2 s2 :=
 ⟨aI a.nx b.nx,λn h=>(b.ad n (ay h a.nx)).trans (a.ad n h),λc u h p=>let⟨h1,p1⟩:=a.pu c u h p;b.pu c u h1 p1,λc x h n p=>b.el c x (a.el c x h n p) n (a.pu c _ (.inl h) p).2⟩
def Lb{s:Sto}{n:Nat}{c c':Cell}(h:s.get n=Za c):(s.set n c').get n=Za c':=by
 have:∀{l:List (Nat×Cell)},qk l n=Za c->qk (tu n c' l) n=Za c':=by
  intro l;induction l with
  |nil=>intro h;cases h
  |cons q r ih =>
   intro h;obtain⟨k,d⟩:=q;unfold tu;split
   ·unfold qk;rw[Zc rfl]
   ·rename_i hk;unfold qk at h ⊢;rw[Zd hk] at h ⊢;exact ih h
 exact this h
end
def erH(H:Hp)(d:ak):Hp:=λb=>if b=d then Zb else H b
def tI(h:a≠d):erH H d a=H a:=by unfold erH;rw[Zd h]
def D8:erH H d d=none:=by unfold erH;rw[Zc rfl]
section
variable{X:Cx}{CB:ak}{E:XK}{a b c e Pl iter tg:bo}{es Pk:List bo}{f g h:XE}{fa fi:XA}{t:XT}{p px py pos Ph O4 O5:Pos}{x y:Str}{st:bQ}{qL QB Qg:List bQ}{u v:XS}{n k:Nat}{D:XF}{ps:List Str}
def SR.hideD{K}{H}{m}{s}{d}{xs}(S:SR K CB H m s)(hd:H d=Zb):SR K CB (upd H d (.dK xs)) (m.hide d) s:=by
 have k:=My.qe (o:=.dK xs) hd;have S1:=S.same k;have e0:Ext0 H m s (upd H d (.dK xs)) (m.hide d) s:=Ext0.hide hd;have Po:∀n∈s.cs.map (·.1),∀a∈m.fp n,a≠d:=λn hn a ha z=>by obtain⟨q,hq,rfl⟩:=aj.mp hn;obtain⟨o,e,_⟩:=(S.ok q hq).kind ha;rw[z,hd] at e;cases e
 refine⟨S.nd,S.lt,λq hq=>(S.ok q hq).keep S e0.toExtR (λa _ o h=>k a o h) rfl rfl,S.dj,λn hn a ha hb=>(af.mp hb).elim (Po n hn a ha) (S.hx n hn a ha),λa ha=>?_,λP q t=>⟨ae _ (S1.tb P q t).1,(S1.tb P q t).2⟩⟩;rcases af.mp ha with rfl|ha
 ·rw[lN];exact⟨by simp,λ_ _=>⟨by simp,by simp,by simp,by simp⟩⟩
 ·exact S1.hs a ha
def L4{K}{H H2}{m m2}{s s2}{d}{xs}(S:SR K CB H m s)(hd:H d=Zb)(e:Ext (upd H d (.dK xs)) (m.hide d) s H2 m2 s2)(S2:SR K CB H2 m2 s2) :
  SR K CB (erH H2 d) (m2.bare m.hid) s2/\Ext H m s (erH H2 d) (m2.bare m.hid) s2/\ExtR H2 m2 s2 (erH H2 d) (m2.bare m.hid) s2/\H2 d=Za (.dK xs):=by
 have hh:m2.hid=d::m.hid:=e.hd;have PD:d∈m2.hid:=by rw[hh];exact ai
 have hD:H2 d=Za (.dK xs):=e.hk d ai _ lN (by intro _ z;cases z);have tbE:TbS H2 (erH H2 d):=.of λa o h od=>by rw[tI (show a≠d from λz=>by rw[z,hD] at h;cases h;exact EU od)];exact h
 have x2:ExtR H2 m2 s2 (erH H2 d) (m2.bare m.hid) s2:=by have ne:∀a,Pur m2 s2 a->a≠d:=λa p z=>p.1 (by rw[z];exact PD);refine⟨am _,λ_ _=>rfl,λa u h p=>⟨?_,λz=>p.1 (by rw[hh];exact ae _ z),p.2⟩,λa u h _ p=>by rw[tI (ne a p)];exact h⟩;exact h.elim (λh=>.inl (by rw[tI (ne a p)];exact h)) λ⟨o,h⟩=>.inr ⟨o,by rw[tI (ne a p)];exact h⟩
 have fne:∀n∈s2.cs.map (·.1),∀a∈m2.fp n,a≠d:=λn hn a ha z=>S2.hx n hn a ha (by rw[z];exact PD);have dn:d∉m.hid:=λz=>(S.hs d z).1 hd;have h2:∀a∈m.hid,a≠d:=λa ha z=>dn (by rw[<-z];exact ha);refine⟨⟨S2.nd,S2.lt,λq hq=>(S2.ok q hq).keep S2 x2 (λa ha o h=>by rw[tI (fne q.1 (aj.mpr ⟨q,hq,rfl⟩) a ha)];exact h) rfl rfl,S2.dj,λn hn a ha hb=>S2.hx n hn a ha (by rw[hh];exact ae _ hb),λa ha=>?_,λP q t=>⟨?_,tbE.2 P q (S2.tb P q t).2⟩⟩,?_,x2,hD⟩
 ·rw[tI (h2 a ha)];exact S2.hs a (by rw[hh];exact ae _ ha)
 ·obtain⟨h1,ps,h3,_⟩:=S2.tb P q t;rw[hh] at h1;rcases af.mp h1 with z|z
  ·rw[z,hD] at h3;cases h3
  ·exact z
 ·have e1:=(Ext0.hide (m:=m) (s:=s) (o:=.dK xs) hd).trans e.toExt0;refine⟨⟨e1.toExtR.trans x2,λj l hj h=>⟨(e1.df j l hj h).1,λo ho=>?_⟩⟩,rfl,λa ha o h n0=>?_⟩
  ·rw[tI (lR ho hd)];exact(e1.df j l hj h).2 o ho
  ·rw[tI (h2 a ha)];exact e.hk a (ae _ ha) o (My.qe hd _ _ h) n0
def xDisp(f g:XE)(Z:En)(s:Sto):Out PV:=match f Z s with
 |.ok v s1=>match g Z s1 with
  |.ok w s2=>match kyOf v with
   |some k=>.ok (.ref s2.nx) (s2.add (.dct [(k,w)]))
   |none=>.bad
  |_=>.bad
 |_=>.bad
def MC(hk:DE X CB E a f)(hv:DE X CB E b g):DE X CB E (.Dict [Za a] [b] pos) (xDisp f g) :=
 ⟨(FX (DM hk.pe hv.pe FV) rfl rfl (by simp) (by simp)).mono λO H Q=>oE λZ s m er S P p0 hp=>by
  have e0:Ext0 H m s (upd H p0 (.dK [])) (m.hide p0) s:=Ext0.hide hp;have hm:SR X.K CB (upd H p0 (.dK [])) (m.hide p0) s:=S.hideD hp;refine⟨Z,s,m.hide p0,er.ext0 e0.toExtR,hm,?_⟩;unfold xDisp at P;cases c1:f Z s with
  |bad=>rw[c1] at P;exact P.elim
  |ex c' s'=>rw[c1] at P;exact P.elim
  |ok v s1 =>
   rw[c1] at P;intro u1 H1 m1 e1 S1 r1;refine⟨Z,s1,m1,(er.ext0 e0.toExtR).ext e1,S1,?_⟩;dsimp only at P;cases c2:g Z s1 with
   |bad=>rw[c2] at P;exact P.elim
   |ex c' s'=>rw[c2] at P;exact P.elim
   |ok w s2 =>
    rw[c2] at P;intro u2 H2 m2 e2 S2 r2;dsimp only at P;split at P
    ·rename_i k hk;obtain⟨S3,e3,x3,hD⟩:=L4 S hp (e1.trans e2) S2;have ek:u1=kV k:=qj r1 hk;refine⟨hD,[(k,u2)],by rw[ek];rfl,by simp,?_⟩;have Uk:Same (erH H2 p0) (upd H2 p0 (.dK [(k,u2)])):=λc o h=>by
      have Po:c≠p0:=λz=>by rw[z,D8] at h;cases h
      rw[lK Po];rw[tI Po] at h;exact h
     obtain⟨S4,e4⟩:=S3.newD (l:=[(k,w)]) D8 Uk lN (.cons (r2.ext0 x3) .nil);exact P _ _ _ (e3.trans e4) S4 .new
    ·exact P.elim⟩
def xIfe(t:XT)(f g:XE)(Z:En)(s:Sto):Out PV:=(t Z s).bind λb s1=>if b=true then f Z s1 else g Z s1
def FC(hc:DT X CB E c t)(ha:DE X CB E a f)(hb:DE X CB E b g):DE X CB E (.IfExp c a b pos) (xIfe t f g) :=
 ⟨(IG hc.pt ha.pe hb.pe).mono λO H Q=>oE λZ s m er S P=>⟨Z,s,m,er,S,P.bind λv s1 b H1 m1 e1 S1 r1 P1=>by
  cases r1;refine vA (λc=>?_) λc=>?_
  ·rw[Zc c] at P1;exact⟨Z,s1,m1,er.ext e1,S1,P1⟩
  ·rw[Zd c] at P1;exact⟨Z,s1,m1,er.ext e1,S1,P1⟩⟩⟩
inductive Ty5 where
 |int|bool|str|tuple|list
inductive Ty7 where
 |int|bool|str|tuple|list|non|dict
def kitT:Ty7->Ty5->Bool
 |.int,.int=>true|.bool,.bool=>true|.bool,.int=>true|.str,.str=>true|.tuple,.tuple=>true|.list,.list=>true
 |_,_=>false
def tyOf(s:Sto):PV->Option Ty7
 |.int _=>Za .int
 |.bl _=>Za .bool
 |.str _=>Za .str
 |.non=>Za .non
 |.tup _=>Za .tuple
 |v=>match lsOf s v with
  |some _=>Za .list
  |none=>Zb
def xIsiT(T:Ty5)(f:XE)(Z:En)(s:Sto):Out PV:=(f Z s).bind λv s1=>match tyOf s1 v with
 |some k=>.ok (.bl (kitT k T)) s1
 |none=>.bad
end
end L2
namespace My
open PySem L2
def top(i:Nat):bQ:=PySem.Challenge.pw_wholeowners_k14_whole_one_thing_more.main.body.getD i (.Pass ⟨0,0,0,0⟩)
structure Adr where
 OwnError:ak
 NoName:ak
 Twice:ak
 TooMany:ak
 NoHolder:ak
 NoHouse:ak
 NoLoss:ak
 NoShare:ak
 NoText:ak
 Whole:ak
 Book:ak
 ZERO:ak
 ONE:ak
 HALF:ak
 t8:Tok
 t6:Tok
 u8:Tok
 kx:ak->ak->Bool
def Tup2(K:aa)(a:ak)(i j:Int):Prop:=∃(o:Obj)(its:Array ah)(n:Nat),K.lookup a=Za o/\o.cls=.type "tuple"/\o.data=.seq its n/\its.size<=aJ/\Vals [.int i,.int j] its.toList
structure Txt(K:aa)(mg:Str->Option ah)(a:Adr):Prop where
 b_len:mg "len"=Zb
 b_range:mg "range"=Zb
 b_all:mg "all"=Zb
 b_int:mg "int"=Zb
 b_abs:mg "abs"=Zb
 b_sorted:mg "sorted"=Zb
 b_tuple:mg "tuple"=Zb
 b_list:mg "list"=Zb
 b_str:mg "str"=Zb
 b_bool:mg "bool"=Zb
 b_isinstance:mg "isinstance"=Zb
 b_ValueError:mg "ValueError"=Zb
 b_any:mg "any"=Zb
 b_set:mg "set"=Zb
 b_max:mg "max"=Zb
 c_OwnError:mg "OwnError"=Za (.ref a.OwnError)
 c_NoName:mg "NoName"=Za (.ref a.NoName)
 c_Twice:mg "Twice"=Za (.ref a.Twice)
 c_TooMany:mg "TooMany"=Za (.ref a.TooMany)
 c_NoHolder:mg "NoHolder"=Za (.ref a.NoHolder)
 c_NoHouse:mg "NoHouse"=Za (.ref a.NoHouse)
 c_NoLoss:mg "NoLoss"=Za (.ref a.NoLoss)
 c_NoShare:mg "NoShare"=Za (.ref a.NoShare)
 c_Whole:mg "Whole"=Za (.ref a.Whole)
 x_OwnError:Exc K a.OwnError
 x_NoName:Exc K a.NoName
 x_Twice:Exc K a.Twice
 x_TooMany:Exc K a.TooMany
 x_NoHolder:Exc K a.NoHolder
 x_NoHouse:Exc K a.NoHouse
 x_NoLoss:Exc K a.NoLoss
 x_NoShare:Exc K a.NoShare
 g_LONGEST_NAME:mg "LONGEST_NAME"=Za (.int 8 a.t8)
 g_MOST_PERSONS:mg "MOST_PERSONS"=Za (.int 6 a.t6)
 g_MOST_HOUSES:mg "MOST_HOUSES"=Za (.int 8 a.u8)
 g_ZERO:mg "ZERO"=Za (.ref a.ZERO)
 g_ONE:mg "ONE"=Za (.ref a.ONE)
 zero:Tup2 K a.ZERO 0 1
 one:Tup2 K a.ONE 1 1
 cl:Cls K a.Book
 nA_people:NoAttr K a.Book "people"
 nA_things_of:NoAttr K a.Book "things_of"
 nA_mark_of:NoAttr K a.Book "mark_of"
 nA_loss_of:NoAttr K a.Book "loss_of"
 nA_held_of:NoAttr K a.Book "held_of"
def Txt.r_LONGEST_NAME{K}(T:Txt K mg a):RelV (.int 8) (.int 8 a.t8):=⟨_,rfl⟩
def Txt.r_MOST_PERSONS{K}(T:Txt K mg a):RelV (.int 6) (.int 6 a.t6):=⟨_,rfl⟩
def Txt.r_MOST_HOUSES{K}(T:Txt K mg a):RelV (.int 8) (.int 8 a.u8):=⟨_,rfl⟩
def Txt.r_ZERO{K}(T:Txt K mg a):RelV (.ref a.ZERO) (.ref a.ZERO):=rfl
def Txt.r_ONE{K}(T:Txt K mg a):RelV (.ref a.ONE) (.ref a.ONE):=rfl
def yesT{te:TE}{cap:St}{H:Hp}{Kt:VK}{Kf:Hp->Prop}(h:te cap H Kt):tYes cap H λb H4=>if b=true then te cap H4 Kt else Kf H4:=by
 show if true=true then te cap H Kt else Kf H
 rw[Zc rfl];exact h
def A9(c):(!decide ((⟨#[c]⟩:Str).cps.toList<(aG "a").cps.toList))=decide (97<=c):=by show(!decide ([c]<[97]))=decide (97<=c);rw[bZ];simp[kS]
def GK(c):(!decide ((aG "z").cps.toList<(⟨#[c]⟩:Str).cps.toList))=decide (c<=122):=by show(!decide ([122]<[c]))=decide (c<=122);rw[bZ];simp[kS]
def zZ{x:Str}{i c:Nat}{g:Nat->V}(hc:x.cps[i]?=Za c):(x.cps.toList.take i).map g++[g c]=(x.cps.toList.take (i+1)).map g:=by
 have hc:x.cps.toList[i]?=Za c:=by simpa using hc
 rw[dC,hc,aB];rfl
section
variable{P:aK}{w:a6}{K:aa}{mg:Str->Option ah}{base:bx}{a:Adr}{f:ak}{fd:cz}
abbrev uN:bQ:=top 38
def ED:FnScope ["text"] ["text"] (lP uN):=fsc
def low(c:Nat):Bool:=decide (97<=c)&&decide (c<=122)
def vR(x:Str):Bool:=decide (1<=x.length)&&decide (x.length<=8)&&x.cps.toList.all low
def yJ:Sp:=λvs H Q _=>∃x,vs=[.str x]/\Nm x/\∀H',Same H H'->Q (.bl (vR x)) H'
def EQ(F:Fun K "is_name" "is_name" uN f fd)(T:Txt K mg a):FnOk P w K mg base (CXo P w) 1 f fd ["text"] yJ:=by
 refine F.okN ED (λvs H Q E h=>?_) (λPb A outer s H vs Q E hr h=>?_)
 ·obtain⟨x,rfl,_⟩:=h;rfl
 ·obtain⟨x,rfl,nm,k⟩:=h;have hu:=nQ hr;refine⟨_,(@mj _ _ _ (@qm _ _ _ _ (@J0 _ _ _ _ _ _ _ (DQ M7 M7 pe_int (@pz _ _ _ _ _ _ _ _ _ call_len_str rfl T.b_len C1 (@lW _ _ _ _ _ (pv 0) pa_nil (by rfl)) (by decide) (by decide) (by rfl) (by rfl)) (rE rfl T.g_LONGEST_NAME T.r_LONGEST_NAME)) (@Fp _ _ _ _ _ (@pz _ _ _ _ _ _ _ _ _ Eg rfl T.b_all Kq (@lW _ _ _ _ _ (Cu (fr:=[]) (ix:=[]) rfl (by exact(show CompOk ["text"] (lP uN) _ _ _ _ from cok)) (NU (pv 0)) (λ_ _ _ _ _=>zM) (λ_ _ _ _ _=>(DQ Be Be pe_str (pv 0) pe_str))) pa_nil (by rfl)) (by decide) (by decide) (by rfl) (by rfl)))))),?_⟩;have O6:x.length<=aJ:=aI nm.1 (by decide);refine⟨_,rfl,_,rfl,O6,_,_,rfl,rfl,_,rfl,vA (λh=>?_) (λh=>?_)⟩
  ·have h1:(1:Int)<=(x.length:Int):=Zf h;refine⟨_,_,rfl,rfl,_,rfl,vA (λh=>?_) (λh=>?_)⟩
   ·have h2:(x.length:Int)<=8:=Zf h;refine⟨_,rfl,x,rfl,λD hD=>?_⟩;refine Gu (J:=Its x) x.cps.size (λi ys H'=>H'=upd H D (.lst ys)/\ys=(x.cps.toList.take i).map λc=>V.bl (low c)) ⟨rfl,rfl⟩ O6 (λi ys H' r=>by rw[r.1];exact lN) (λi ys H' hi _=>hi) ?_ ?_
    ·rintro i ys H' v H'' hi ⟨rfl,rfl⟩ ⟨rfl,c,hc,rfl⟩ Kt Kf k1 k2
     have Pq:∀b,b=low c->Kt (V.bl b) (upd H D (.lst ((x.cps.toList.take i).map λc=>V.bl (low c)))):=λb hb=>by refine k1 _ _ lN ⟨by rw[wI],?_⟩;rw[hb,zZ hc]
     refine yesT ⟨_,rfl,_,_,rfl,rfl,_,rfl,vA (λh=>?_) (λh=>?_)⟩
     ·refine⟨_,_,rfl,rfl,Pq _ ?_⟩;rw[A9] at h;rw[GK];unfold low;rw[h,iO]
     ·refine Pq _ ?_;rw[A9] at h;unfold low;rw[gA.mpr h,fj]
    ·rintro ys H' hl ⟨rfl,rfl⟩
     have e:List.take x.cps.size x.cps.toList=x.cps.toList:=gW (by simp);rw[e];refine⟨am _,D,x.cps.toList.map low,rfl,SqL.of (by rw[lN,aA];rfl),rfl,?_⟩;have e2:(x.cps.toList.map low).all id=vR x:=by
      have h1:1<=x.length:=by lia
      have h2:x.length<=8:=by lia
      unfold vR;rw[Zg h1,Zg h2,kI,iO,iO];rfl
     rw[e2];exact k _ (qe hD)
   ·have h2:¬x.length<=8:=λz=>h (Zg (by lia));have e2:false=vR x:=by unfold vR;rw[Zh h2,Bool.and_false,fj]
    show Q (.bl false) H;rw[e2];exact k _ λ_ _ z=>z
  ·have h2:¬ 1<=x.length:=λz=>h (Zg (by lia));have e2:false=vR x:=by unfold vR;rw[Zh h2,fj,fj]
   refine⟨_,rfl,L1 ?_⟩;show Q (.bl false) H;rw[e2];exact k _ λ_ _ z=>z
abbrev tR:bQ:=top 39
def BN:FnScope ["number"] ["number"] (lP tR):=fsc
def vN(a:Adr):Sp:=λvs H Q E=>∃n,vs=[.int n]/\(n<0->E (.ref a.NoLoss) Zb H)/\(0<=n->Q .non H)
def BX(F:Fun K "need_loss" "need_loss" tR f fd)(T:Txt K mg a):FnOk P w K mg base (CXo P w) 1 f fd ["number"] (vN a):=by
 refine F.okX BN (λvs H Q E h=>?_) (λPb A outer s H vs Q E hr h=>?_)
 ·obtain⟨x,rfl,_⟩:=h;rfl
 ·obtain⟨n,rfl,k1,k2⟩:=h;have hu:=nQ hr;refine⟨_,(@mj _ _ _ (@wq _ _ _ _ _ _ _ _ (@uV _ _ _ _ _ _ _ _ M6 (pv 0) pe_int (uY _)) (@mj _ _ _ (qg T.x_NoLoss rfl T.c_NoLoss rfl pe_str yW)) pss_nil)),?_⟩;refine⟨_,rfl,_,_,rfl,rfl,_,rfl,vA (λh=>?_) (λh=>?_)⟩
  ·exact k1 (Zf h)
  ·exact k2 (Int.not_lt.mp λz=>h (Zg z))
abbrev uc:bQ:=m7 (top 40) 0
def BW:FnScope ["self"] ["self"] (lP uc):=fsc
def Ix(dp dt dm dl dh dx):putF "held_of" (.ref dh) (putF "loss_of" (.ref dl) (putF "mark_of" (.ref dm) (putF "things_of" (.ref dt) (putF "people" (.ref dp) []))))=bf ⟨dx,dp,dt,dm,dl,dh⟩:=by simp only[putF,Zd (show ¬((aG "people")=aG "things_of") by decide +kernel),Zd (show ¬((aG "people")=aG "mark_of") by decide +kernel),Zd (show ¬((aG "people")=aG "loss_of") by decide +kernel),Zd (show ¬((aG "people")=aG "held_of") by decide +kernel),Zd (show ¬((aG "things_of")=aG "mark_of") by decide +kernel),Zd (show ¬((aG "things_of")=aG "loss_of") by decide +kernel),Zd (show ¬((aG "things_of")=aG "held_of") by decide +kernel),Zd (show ¬((aG "mark_of")=aG "loss_of") by decide +kernel),Zd (show ¬((aG "mark_of")=aG "held_of") by decide +kernel),Zd (show ¬((aG "loss_of")=aG "held_of") by decide +kernel)];rfl
structure IniAt(C:ak)(H0 H:Hp)(p dx:ak)(fs:List (Str×V))(ds:List ak):Prop where
 ob:H p=Za (.ins C dx fs)
 dd:∀c∈ds,H c=Za (.dK [])
 fr:∀c∈ds,H0 c=Zb
 nd:(p::ds).Nodup
 kp:∀c o,H0 c=Za o->c≠p->H c=Za o
 len:fs.length<=ds.length
def IniAt.at_(I:IniAt C H0 H p dx fs ds)(h:H d=Zb):(upd H d (.dK [])) p=Za (.ins C dx fs):=by rw[lK (lR I.ob h)];exact I.ob
def IniAt.step{C}{H0 H}{p dx d}{fs}{ds}{f}(I:IniAt C H0 H p dx fs ds)(h:H d=Zb) :
  IniAt C H0 (upd (upd H d (.dK [])) p (.ins C dx (putF f (.ref d) fs))) p dx (putF f (.ref d) fs) (ds++[d]):=by
 have n1:p≠d:=lR I.ob h;obtain⟨m1,m2⟩:=ar.mp I.nd;have m3:d∉ds:=λz=>by rw[I.dd d z] at h;cases h
 refine⟨lN,λc hc=>?_,λc hc=>?_,?_,λc o e hc=>?_,?_⟩
 ·rcases aP.mp hc with hc|hc
  ·have c1:c≠p:=λz=>m1 (by rw[<-z];exact hc);have c2:c≠d:=λz=>m3 (by rw[<-z];exact hc);rw[lK c1,lK c2];exact I.dd c hc
  ·rw[aq.mp hc,lK n1.symm,lN]
 ·rcases aP.mp hc with hc|hc
  ·exact I.fr c hc
  ·rw[aq.mp hc];cases q:H0 d with
   |none=>rfl
   |some o=>rw[I.kp d o q n1.symm] at h;cases h
 ·refine ar.mpr ⟨λz=>?_,uZ m2 m3⟩;rcases aP.mp z with z|z
  ·exact m1 z
  ·exact n1 (aq.mp z)
 ·rw[lK hc,lK (λz=>by rw[z] at e;rw[I.kp d o e (z▸hc)] at h;cases h)];exact I.kp c o e hc
 ·rw[aM];exact aI (ue _ _ _) (Nat.add_le_add_right I.len 1)
def FM(K:aa)(C:ak):Sp:=λvs H Q _=>∃(p dx:ak),vs=[.ref p]/\H p=Za (.ins C dx [])/\∀z H',(∀c∈[z.dp,z.dt,z.dm,z.dl,z.dh],H c=Zb)->BookAt K C H' p z [] []->(∀c o,H c=Za o->c≠p->H' c=Za o)->Q .non H'
def LK(F:Fun K "__init__" "Book.__init__" uc f fd)(T:Txt K mg a):FnOk P w K mg base (CXo P w) 1 f fd ["self"] (FM K a.Book):=by
 refine F.okN BW (λvs H Q E h=>?_) (λPb A outer s H vs Q E hr h=>?_)
 ·obtain⟨p,dx,rfl,_⟩:=h;rfl
 ·obtain⟨p,dx,rfl,hp,k⟩:=h;have hu:=nQ hr;refine⟨_,(@l9 _ _ _ _ _ (sd (pv 0) pe_dnewK rfl) (@l9 _ _ _ _ _ (sd (pv 0) pe_dnewK rfl) (@l9 _ _ _ _ _ (sd (pv 0) pe_dnewK rfl) (@l9 _ _ _ _ _ (sd (pv 0) pe_dnewK rfl) (@mj _ _ _ (sd (pv 0) pe_dnewK rfl)))))),?_⟩;have I0:IniAt a.Book H H p dx [] []:=⟨hp,by simp,by simp,by simp,λc o e _=>e,am _⟩;intro dp h1;refine⟨_,rfl,p,_,dx,_,rfl,I0.at_ h1,T.cl,T.nA_people,aZ I0.len (show 0<1000 by decide),?_⟩;have I1:=I0.step (f:="people") h1;intro dt h2;refine⟨_,rfl,p,_,dx,_,rfl,I1.at_ h2,T.cl,T.nA_things_of,aZ I1.len (show 1<1000 by decide),?_⟩;have I2:=I1.step (f:="things_of") h2;intro dm h3;refine⟨_,rfl,p,_,dx,_,rfl,I2.at_ h3,T.cl,T.nA_mark_of,aZ I2.len (show 2<1000 by decide),?_⟩;have I3:=I2.step (f:="mark_of") h3;intro dl h4;refine⟨_,rfl,p,_,dx,_,rfl,I3.at_ h4,T.cl,T.nA_loss_of,aZ I3.len (show 3<1000 by decide),?_⟩;have I4:=I3.step (f:="loss_of") h4;intro dh h5;refine⟨_,rfl,p,_,dx,_,rfl,I4.at_ h5,T.cl,T.nA_held_of,aZ I4.len (show 4<1000 by decide),?_⟩;have I5:=I4.step (f:="held_of") h5;refine k ⟨dx,dp,dt,dm,dl,dh⟩ _ (λc hc=>I5.fr c (by simpa using hc)) ⟨?_,I5.dd dp (by simp),I5.dd dt (by simp),I5.dd dm (by simp),I5.dd dl (by simp),⟨[],I5.dd dh (by simp),.nil,gc⟩,λe he=>(by cases he),I5.nd,aX _,aX _⟩ I5.kp;rw[<-Ix];exact I5.ob
abbrev p7:bQ:=m7 (top 40) 1
def wO:FnScope ["self","name"] ["self","name"] (lP p7):=fsc
def tQ(K:aa)(C:ak):Sp:=λvs H Q _=>∃b z O3 L x,vs=[.ref b,.str x]/\BookAt K C H b z O3 L/\Q (.bl (oI L x)) H
def De(F:Fun K "is_house" "Book.is_house" p7 f fd)(T:Txt K mg a):FnOk P w K mg base (CXo P w) 1 f fd ["self","name"] (tQ K a.Book):=by
 refine F.okN wO (λvs H Q E h=>?_) (λPb A outer s H vs Q E hr h=>?_)
 ·obtain⟨b,z,O3,L,x,rfl,_⟩:=h;rfl
 ·obtain⟨b,z,O3,L,x,rfl,B,k⟩:=h;have hu:=nQ hr;refine⟨_,(@mj _ _ _ (@qm _ _ _ _ (JZ (J1 hu (pv 1) (m6 (pv 0) rfl))))),?_⟩;refine⟨_,rfl,_,rfl,b,_,_,_,_,rfl,B.ob,T.cl,T.nA_held_of,rK z,_,_,rfl,B.hh.dget x,?_⟩;rw[p8,cS];exact k
abbrev pE:bQ:=m7 (top 40) 2
def vK:FnScope ["self","name"] ["self","name"] (lP pE):=fsc
def sx(K:aa)(C:ak):Sp:=λvs H Q _=>∃b z O3 L x,vs=[.ref b,.str x]/\BookAt K C H b z O3 L/\Q (.bl (oH O3 x||oI L x)) H
def BY(F:Fun K "is_holder" "Book.is_holder" pE f fd)(T:Txt K mg a)(Pz:Mt P w K mg base a.Book "is_house" 1 ["self","name"] (tQ K a.Book)):FnOk P w K mg base (CXo P w) 2 f fd ["self","name"] (sx K a.Book):=by
 refine F.okN vK (λvs H Q E h=>?_) (λPb A outer s H vs Q E hr h=>?_)
 ·obtain⟨b,z,O3,L,x,rfl,_⟩:=h;rfl
 ·obtain⟨b,z,O3,L,x,rfl,B,k⟩:=h;have hu:=nQ hr;refine⟨_,(@mj _ _ _ (@qm _ _ _ _ (@pe_or _ _ _ _ _ _ _ (JZ (J1 hu (pv 1) (m6 (pv 0) rfl))) (@Fp _ _ _ _ _ (rN (pv 0) Pz (hr.mono (by first|decide|lia)) qG (@lW _ _ _ _ _ (pv 1) pa_nil (by rfl))))))),?_⟩;refine⟨_,rfl,_,rfl,b,_,_,_,_,rfl,B.ob,T.cl,T.nA_people,rX z,_,_,rfl,DGet.k (k:=ag x) B.pp,_,rfl,vA (λh=>?_) (λh=>?_)⟩
  ·rw[p8 (key:=λn=>n),cS] at h;unfold oH at k;rw[h] at k;exact k
  ·rw[p8 (key:=λn=>n),cS] at h;unfold oH at k;rw[gA.mpr h] at k;exact⟨_,rfl,b,_,_,rfl,B.ob,rP z,_,rfl,b,z,O3,L,x,rfl,B,k⟩
abbrev oY:bQ:=m7 (top 40) 3
def vo:FnScope ["self","name"] ["self","name"] (lP oY):=fsc
def nM(K:aa)(a:Adr):Sp:=λvs H Q E=>∃b z O3 L x,vs=[.ref b,.str x]/\BookAt K a.Book H b z O3 L/\Nm x/\(oI L x=true->Q .non H)/\(oI L x=false->E (.ref a.NoHouse) Zb H)
def Ah(F:Fun K "need_house" "Book.need_house" oY f fd)(T:Txt K mg a)(Pz:Mt P w K mg base a.Book "is_house" 1 ["self","name"] (tQ K a.Book)):FnOk P w K mg base (CXo P w) 2 f fd ["self","name"] (nM K a):=by
 refine F.okX vo (λvs H Q E h=>?_) (λPb A outer s H vs Q E hr h=>?_)
 ·obtain⟨b,z,O3,L,x,rfl,_⟩:=h;rfl
 ·obtain⟨b,z,O3,L,x,rfl,B,nm,k1,k2⟩:=h;have hu:=nQ hr;refine⟨_,(@mj _ _ _ (@wq _ _ _ _ _ _ _ _ (CQ (vX (rN (pv 0) Pz (hr.mono (by first|decide|lia)) oC (@lW _ _ _ _ _ (pv 1) pa_nil (by rfl))))) (@mj _ _ _ (qg T.x_NoHouse rfl T.c_NoHouse rfl (EJ (Ad (yh (pv 1) Ae))) yW)) pss_nil)),?_⟩;refine⟨_,rfl,b,_,_,rfl,B.ob,rP z,_,rfl,b,z,O3,L,x,rfl,B,_,rfl,vA (λh=>?_) (λh=>?_)⟩
  ·exact⟨_,rfl,⟨x,rfl,nm⟩,λy=>k2 (nbT h)⟩
  ·exact k1 (nbF h)
abbrev oG:bQ:=m7 (top 40) 4
def uz:FnScope ["self","name"] ["self","name"] (lP oG):=fsc
def oZ(K:aa)(a:Adr):Sp:=λvs H Q E=>∃b z O3 L x,vs=[.ref b,.str x]/\BookAt K a.Book H b z O3 L/\Nm x/\((oH O3 x||oI L x)=true->Q .non H)/\((oH O3 x||oI L x)=false->E (.ref a.NoHolder) Zb H)
def yx(F:Fun K "need_holder" "Book.need_holder" oG f fd)(T:Txt K mg a)(Pw:Mt P w K mg base a.Book "is_holder" 2 ["self","name"] (sx K a.Book)):FnOk P w K mg base (CXo P w) 3 f fd ["self","name"] (oZ K a):=by
 refine F.okX uz (λvs H Q E h=>?_) (λPb A outer s H vs Q E hr h=>?_)
 ·obtain⟨b,z,O3,L,x,rfl,_⟩:=h;rfl
 ·obtain⟨b,z,O3,L,x,rfl,B,nm,k1,k2⟩:=h;have hu:=nQ hr;refine⟨_,(@mj _ _ _ (@wq _ _ _ _ _ _ _ _ (CQ (vX (rN (pv 0) Pw (hr.mono (by first|decide|lia)) oC (@lW _ _ _ _ _ (pv 1) pa_nil (by rfl))))) (@mj _ _ _ (qg T.x_NoHolder rfl T.c_NoHolder rfl (EJ (Ad (yh (pv 1) Ae))) yW)) pss_nil)),?_⟩;refine⟨_,rfl,b,_,_,rfl,B.ob,rP z,_,rfl,b,z,O3,L,x,rfl,B,_,rfl,vA (λh=>?_) (λh=>?_)⟩
  ·exact⟨_,rfl,⟨x,rfl,nm⟩,λy=>k2 (nbT h)⟩
  ·exact k1 (nbF h)
abbrev nV:bQ:=m7 (top 40) 5
def tf:FnScope ["self","name"] ["self","name"] (lP nV):=fsc
def rn(a:Adr)(O3:List Str)(L:List (Ent×ak))(x:Str):Option ak:=if vR x=false then Za a.NoName else if(oH O3 x||oI L x)=true then Za a.Twice else Zb
def tP(K:aa)(a:Adr):Sp:=λvs H Q E=>∃b z O3 L x,vs=[.ref b,.str x]/\BookAt K a.Book H b z O3 L/\Nm x/\(rn a O3 L x=Zb->∀H',Same H H'->Q .non H')/\(∀c,rn a O3 L x=Za c->∀H',Same H H'->E (.ref c) Zb H')
def Dd(F:Fun K "need_new_name" "Book.need_new_name" nV f fd)(T:Txt K mg a)(QI:Fn P w K mg base "is_name" 1 ["text"] yJ)(Pw:Mt P w K mg base a.Book "is_holder" 2 ["self","name"] (sx K a.Book)):FnOk P w K mg base (CXo P w) 3 f fd ["self","name"] (tP K a):=by
 refine F.okX tf (λvs H Q E h=>?_) (λPb A outer s H vs Q E hr h=>?_)
 ·obtain⟨b,z,O3,L,x,rfl,_⟩:=h;rfl
 ·obtain⟨b,z,O3,L,x,rfl,B,nm,k1,k2⟩:=h;have hu:=nQ hr;refine⟨_,(@l9 _ _ _ _ _ (@wq _ _ _ _ _ _ _ _ (CQ (vX (@wu _ _ _ _ _ _ _ _ _ _ _ QI (hr.mono (by first|decide|lia)) rfl oC (@lW _ _ _ _ _ (pv 1) pa_nil (by rfl)) (by decide) (by rfl) (by rfl)))) (@mj _ _ _ (qg T.x_NoName rfl T.c_NoName rfl (EJ (Ad (yh (pv 1) Ae))) yW)) pss_nil) (@mj _ _ _ (@wq _ _ _ _ _ _ _ _ (vX (rN (pv 0) Pw (hr.mono (by first|decide|lia)) oC (@lW _ _ _ _ _ (pv 1) pa_nil (by rfl)))) (@mj _ _ _ (qg T.x_Twice rfl T.c_Twice rfl (EJ (Ad (yh (pv 1) Ae))) yW)) pss_nil))),?_⟩;refine⟨_,rfl,x,rfl,nm,λH1 s1=>⟨_,rfl,vA (λh=>?_) (λh=>?_)⟩⟩
  ·refine⟨_,rfl,⟨x,rfl,nm⟩,λy=>k2 _ ?_ H1 s1⟩;have h:vR x=false:=nbT h;unfold rn;rw[Zc h]
  ·have h:vR x=true:=nbF h;have B1:=B.same s1;refine⟨_,rfl,b,_,_,rfl,B1.ob,rP z,_,rfl,b,z,O3,L,x,rfl,B1,_,rfl,vA (λh2=>?_) (λh2=>?_)⟩
   ·refine⟨_,rfl,⟨x,rfl,nm⟩,λy=>k2 _ ?_ H1 s1⟩;unfold rn;rw[Zd (by rw[h];decide),Zc h2]
   ·refine k1 ?_ H1 s1;unfold rn;rw[Zd (by rw[h];decide),Zd h2]
end
mutual
inductive D where
 |i (n:Int)
 |s (x:Str)
 |l (xs:DL)
 |t (xs:DL)
inductive DL where
 |nil
 |cons (x:D) (xs:DL)
end
mutual
def DAt(K:aa)(H:Hp):D->V->Prop
 |.i n,v=>v=.int n
 |.s x,v=>v=.str x
 |.l xs,v=>∃a vs,v=.ref a/\SqL K H a vs/\DLAt K H xs vs
 |.t xs,v=>∃a vs,v=.ref a/\SqT K H a vs/\DLAt K H xs vs
def DLAt(K:aa)(H:Hp):DL->List V->Prop
 |.nil,vs=>vs=[]
 |.cons x xs,vs=>∃v r,vs=v::r/\DAt K H x v/\DLAt K H xs r
end
def Is{K}(s:Same H H')(h:SqL K H a xs):SqL K H' a xs:=Same.seq s h
def DD{K}(s:Same H H')(h:SqT K H a xs):SqT K H' a xs:=tm h λc o e _=>s c o e
mutual
theorem DAt.same{K}(s:Same H H'):∀(d:D)(v:V),DAt K H d v->DAt K H' d v
 |.i n,v,h=>h
 |.s x,v,h=>h
 |.l xs,v,h=>by
  obtain⟨a,vs,e,q,r⟩:=h;exact⟨a,vs,e,Is s q,DLAt.same s xs vs r⟩
 |.t xs,v,h=>by obtain⟨a,vs,e,q,r⟩:=h;exact⟨a,vs,e,DD s q,DLAt.same s xs vs r⟩
theorem DLAt.same{K}(s:Same H H'):∀(d:DL)(vs:List V),DLAt K H d vs->DLAt K H' d vs
 |.nil,vs,h=>h
 |.cons x xs,vs,h=>by obtain⟨v,r,e,h1,h2⟩:=h;exact⟨v,r,e,DAt.same s x v h1,DLAt.same s xs r h2⟩
end
def mD(l:List (Str×Int×Int))(n:Str):Str×Int×Int:=(l.find? λq=>decide (q.1=n)).getD (n,0,1)
def nR(L:List (Ent×ak))(n:Str):Option (Ent×ak):=L.find? λe=>decide (e.1.nm=n)
def qH(h:nR L n=Za e):e∈L:=eI h
section
variable{P:aK}{w:a6}{K:aa}{mg:Str->Option ah}{base:bx}{a:Adr}{f:ak}{fd:cz}
abbrev rh:bQ:=m7 (top 40) 6
def yu:FnScope ["self","name"] ["self","name"] (lP rh):=fsc
def uW(a:Adr)(O3:List Str)(L:List (Ent×ak))(x:Str):Option ak:=match rn a O3 L x with
 |some c=>Za c
 |none=>if 6<=O3.length then Za a.TooMany else Zb
def AZ(K:aa)(a:Adr):Sp:=λvs H Q E=>∃b z O3 L x,vs=[.ref b,.str x]/\BookAt K a.Book H b z O3 L/\Nm x /\
 (uW a O3 L x=Zb->∀H',BookAt K a.Book H' b z (O3++[x]) L->(∀c o,H c=Za o->c≠z.dp->H' c=Za o)->Q .non H')/\(∀c,uW a O3 L x=Za c->∀H',Same H H'->E (.ref c) Zb H')
def xI(h:rn a O3 L x=Zb):vR x=true/\oH O3 x=false/\oI L x=false:=by
 unfold rn at h;split at h
 ·cases h
 ·split at h
  ·cases h
  ·rename_i h1 h2;have h2:¬(oH O3 x||oI L x)=true:=h2;refine⟨by simpa using h1,?_,?_⟩
   ·cases q:oH O3 x with
    |false=>rfl
    |true=>rw[q] at h2;exact absurd rfl h2
   ·cases q:oI L x with
    |false=>rfl
    |true=>rw[q,Bool.or_true] at h2;exact absurd rfl h2
def G8(F:Fun K "person" "Book.person" rh f fd)(T:Txt K mg a)(Pi:Mt P w K mg base a.Book "need_new_name" 3 ["self","name"] (tP K a)):FnOk P w K mg base (CXo P w) 4 f fd ["self","name"] (AZ K a):=by
 refine F.okX yu (λvs H Q E h=>?_) (λPb A outer s H vs Q E hr h=>?_)
 ·obtain⟨b,z,O3,L,x,rfl,_⟩:=h;rfl
 ·obtain⟨b,z,O3,L,x,rfl,B,nm,k1,k2⟩:=h;have hu:=nQ hr;refine⟨_,(@l9 _ _ _ _ _ (@oW _ _ _ _ (rN (pv 0) Pi (hr.mono (by first|decide|lia)) oC (@lW _ _ _ _ _ (pv 1) pa_nil (by rfl))) (by rfl)) (@l9 _ _ _ _ _ (@wq _ _ _ _ _ _ _ _ (@uV _ _ _ _ _ _ _ _ KD (@pz _ _ _ _ _ _ _ _ _ BE rfl T.b_len C1 (@lW _ _ _ _ _ (m6 (pv 0) rfl) pa_nil (by rfl)) (by decide) (by decide) (by rfl) (by rfl)) (rE rfl T.g_MOST_PERSONS T.r_MOST_PERSONS) (uY _)) (@mj _ _ _ (qg T.x_TooMany rfl T.c_TooMany rfl pe_str yW)) pss_nil) (@mj _ _ _ (qh hu (m6 (pv 0) rfl) (pv 1) pe_bl rfl)))),?_⟩;refine⟨_,rfl,b,_,_,rfl,B.ob,rP z,_,rfl,b,z,O3,L,x,rfl,B,nm,λhd H1 s1=>?_,λc hc H1 s1=>?_⟩
  ·have B1:=B.same s1;refine⟨_,rfl,b,_,_,_,_,rfl,B1.ob,T.cl,T.nA_people,rX z,_,_,rfl,B1.pp,_,_,rfl,rfl,_,rfl,vA (λh=>?_) (λh=>?_)⟩
   ·refine k2 _ ?_ H1 s1;unfold uW;rw[hd];have h:(6:Int)<=((O3.map λn=>((ag n:Key),V.bl true)).length:Int):=Zf h;rw[ac] at h;exact Zc (by lia)
   ·have h:¬(6:Int)<=((O3.map λn=>((ag n:Key),V.bl true)).length:Int):=λz=>h (Zg z);rw[ac] at h;have hl:O3.length<6:=by lia
    have Qu:om (O3.map λn=>((ag n:Key),V.bl true)) (ag x)=none:=by rw[p8 (key:=λn=>n)];have:=(xI hd).2.1;unfold oH at this;rw[gI];exact d6.mp this |> ee.mp
    refine⟨_,rfl,b,_,_,_,_,rfl,B1.ob,T.cl,T.nA_people,rX z,_,rfl,_,_,rfl,DPut.k (k:=ag x) B1.pp (by rw[ac];exact ay hl (by decide)),?_⟩;have Sa:uW a O3 L x=none:=by unfold uW;rw[hd];exact Zd (by lia)
    refine k1 Sa _ ?_ λc o e hc=>by rw[lK hc];exact s1 c o e
    obtain⟨hb,Ti⟩:=ar.mp B1.nd;obtain⟨hp,hr2⟩:=ar.mp Ti;have ne:∀c,c∈z.dt::z.dm::z.dl::z.dh::L.map (·.2)->c≠z.dp:=λc hc e=>hp (e▸hc);refine⟨?_,?_,?_,?_,?_,?_,λe he=>?_,B1.nd,by rw[aM];simp;lia,B1.h8⟩
    ·rw[lK (λe=>hb (by rw[e];simp))];exact B1.ob
    ·rw[lN,rZ _ Qu,aB];rfl
    ·rw[lK (ne _ (by simp))];exact B1.tt
    ·rw[lK (ne _ (by simp))];exact B1.mm
    ·rw[lK (ne _ (by simp))];exact B1.ll
    ·exact B1.hh.keep λo h=>by rw[lK (ne _ (by simp))];exact h
    ·refine(B1.he e he).keep (λo h=>?_) λc o h x=>?_
     ·rw[lK (ne _ (by simp only[af];right;right;right;right;exact aj.mpr ⟨e,he,rfl⟩))];exact h
     ·rw[lK (CT h B1.pp (by rcases x with⟨xs,rfl|⟨ob,rfl⟩⟩<;>intro z<;>cases z))];exact h
  ·refine k2 c ?_ H1 s1;unfold uW;rw[hc]
abbrev sI:bQ:=m7 (top 40) 7
def Ac:FnScope ["self","name","owner","things","mark","loss"] ["self","name","owner","things","mark","loss"] (lP sI):=fsc
def sf(a:Adr)(O3:List Str)(L:List (Ent×ak))(x o:Str)(l:Int):Option ak:=match rn a O3 L x with
 |some c=>Za c
 |none=>if(oH O3 o||oI L o)=false then Za a.NoHolder else if l<0 then Za a.NoLoss else if 8<=L.length then Za a.TooMany else Zb
def Dx(K:aa)(a:Adr):Sp:=λvs H Q E=>∃b z O3 L x o t m l,vs=[.ref b,.str x,.str o,.int t,.int m,.int l]/\BookAt K a.Book H b z O3 L/\Nm x/\Nm o /\
 (sf a O3 L x o l=Zb->∀p H',H p=Zb->BookAt K a.Book H' b z O3 (L++[(⟨x,t,m,l,[(o,1,1)]⟩,p)])->(∀c u,H c=Za u->c∉[z.dt,z.dm,z.dl,z.dh]->H' c=Za u)->Q .non H')/\(∀c,sf a O3 L x o l=Za c->∀H',Same H H'->E (.ref c) Zb H')
def pX(v:Ent×ak->V)(h:oI L x=false):om (L.map λe=>((ag e.1.nm:Key),v e)) (ag x)=none:=by rw[p8 (key:=λe:Ent×ak=>e.1.nm)];unfold oI at h;rw[gI];exact d6.mp h |> ee.mp
def IL(F:Fun K "house" "Book.house" sI f fd)(T:Txt K mg a)(Pi:Mt P w K mg base a.Book "need_new_name" 3 ["self","name"] (tP K a))(Pe:Mt P w K mg base a.Book "need_holder" 3 ["self","name"] (oZ K a))(Qc:Fn P w K mg base "need_loss" 1 ["number"] (vN a)):FnOk P w K mg base (CXo P w) 4 f fd ["self","name","owner","things","mark","loss"] (Dx K a):=by
 refine F.okX Ac (λvs H Q E h=>?_) (λPb A outer s H vs Q E hr h=>?_)
 ·obtain⟨b,z,O3,L,x,o,t,m,l,rfl,_⟩:=h;rfl
 ·obtain⟨b,z,O3,L,x,o,t,m,l,rfl,B,nm,no,k1,k2⟩:=h;have hu:=nQ hr;refine⟨_,(@l9 _ _ _ _ _ (@oW _ _ _ _ (rN (pv 0) Pi (hr.mono (by first|decide|lia)) oC (@lW _ _ _ _ _ (pv 1) pa_nil (by rfl))) (by rfl)) (@l9 _ _ _ _ _ (@oW _ _ _ _ (rN (pv 0) Pe (hr.mono (by first|decide|lia)) oC (@lW _ _ _ _ _ (pv 2) pa_nil (by rfl))) (by rfl)) (@l9 _ _ _ _ _ (@oW _ _ _ _ (@wu _ _ _ _ _ _ _ _ _ _ _ Qc (hr.mono (by first|decide|lia)) rfl oC (@lW _ _ _ _ _ (pv 5) pa_nil (by rfl)) (by decide) (by rfl) (by rfl)) (by rfl)) (@l9 _ _ _ _ _ (@wq _ _ _ _ _ _ _ _ (@uV _ _ _ _ _ _ _ _ KD (@pz _ _ _ _ _ _ _ _ _ BE rfl T.b_len C1 (@lW _ _ _ _ _ (m6 (pv 0) rfl) pa_nil (by rfl)) (by decide) (by decide) (by rfl) (by rfl)) (rE rfl T.g_MOST_HOUSES T.r_MOST_HOUSES) (uY _)) (@mj _ _ _ (qg T.x_TooMany rfl T.c_TooMany rfl pe_str yW)) pss_nil) (@l9 _ _ _ _ _ (qh hu (m6 (pv 0) rfl) (pv 1) (pv 3) rfl) (@l9 _ _ _ _ _ (qh hu (m6 (pv 0) rfl) (pv 1) (pv 4) rfl) (@l9 _ _ _ _ _ (qh hu (m6 (pv 0) rfl) (pv 1) (pv 5) rfl) (@mj _ _ _ (qh hu (m6 (pv 0) rfl) (pv 1) (FX (DM (pv 2) (rE rfl T.g_ONE T.r_ONE) FV) rfl rfl (by decide) (by decide)) rfl))))))))),?_⟩;refine⟨_,rfl,b,_,_,rfl,B.ob,rP z,_,rfl,b,z,O3,L,x,rfl,B,nm,λhd H1 s1=>?_,λc hc H1 s1=>?_⟩
  ·have B1:=B.same s1;refine⟨_,rfl,b,_,_,rfl,B1.ob,rP z,_,rfl,b,z,O3,L,o,rfl,B1,no,λho=>?_,λho=>?_⟩
   ·refine⟨_,rfl,l,rfl,λhl=>?_,λhl=>?_⟩
    ·refine k2 _ ?_ H1 s1;unfold sf;rw[hd];show(if(oH O3 o||oI L o)=false then Za a.NoHolder else _)=_;rw[Zd (by rw[ho];decide),Zc hl]
    ·obtain⟨Th,eh,ph,nh⟩:=B1.hh;have U4:Th.length=L.length:=by rw[ph.length_eq,ac]
     refine⟨_,rfl,b,_,_,_,_,rfl,B1.ob,T.cl,T.nA_held_of,rK z,_,_,rfl,eh,_,_,rfl,rfl,_,rfl,vA (λh=>?_) (λh=>?_)⟩
     ·refine k2 _ ?_ H1 s1;have h:(8:Int)<=(Th.length:Int):=Zf h;rw[U4] at h;unfold sf;rw[hd];show(if(oH O3 o||oI L o)=false then Za a.NoHolder else _)=_;rw[Zd (by rw[ho];decide),Zd (by lia),Zc (by lia)]
     ·have h:¬(8:Int)<=(Th.length:Int):=λz=>h (Zg z);rw[U4] at h;have Vq:L.length<8:=by lia
      have Sa:sf a O3 L x o l=none:=by unfold sf;rw[hd];show(if(oH O3 o||oI L o)=false then Za a.NoHolder else _)=_;rw[Zd (by rw[ho];decide),Zd (by lia),Zd (by lia)]
      have hx:=(xI hd).2.2;have sz:∀{v:Ent×ak->V},(L.map λe=>((ag e.1.nm:Key),v e)).length<aJ:=λ{v}=>by rw[ac];exact ay Vq (by decide)
      obtain⟨hb,r1⟩:=ar.mp B1.nd;obtain⟨hp,r2⟩:=ar.mp r1;obtain⟨ht,r3⟩:=ar.mp r2;obtain⟨hm,r4⟩:=ar.mp r3;obtain⟨Uj,r5⟩:=ar.mp r4;obtain⟨hh,r6⟩:=ar.mp r5;refine⟨_,rfl,_,rfl,b,_,_,_,_,rfl,B1.ob,T.cl,T.nA_things_of,uR z,_,rfl,_,_,rfl,DPut.k (k:=ag x) B1.tt sz,?_⟩;have Ux:b≠z.dt:=λe=>hb (by rw[e];simp);have V9:b≠z.dm:=λe=>hb (by rw[e];simp);have b_l:b≠z.dl:=λe=>hb (by rw[e];simp);have b_h:b≠z.dh:=λe=>hb (by rw[e];simp);have p_t:z.dp≠z.dt:=λe=>hp (by rw[e];simp);have p_m:z.dp≠z.dm:=λe=>hp (by rw[e];simp);have p_l:z.dp≠z.dl:=λe=>hp (by rw[e];simp);have p_h:z.dp≠z.dh:=λe=>hp (by rw[e];simp);have UH:z.dt≠z.dm:=λe=>ht (by rw[e];simp);have UI:z.dt≠z.dl:=λe=>ht (by rw[e];simp);have t_h:z.dt≠z.dh:=λe=>ht (by rw[e];simp);have UZ:z.dm≠z.dl:=λe=>hm (by rw[e];simp);have m_h:z.dm≠z.dh:=λe=>hm (by rw[e];simp);have l_h:z.dl≠z.dh:=λe=>Uj (by rw[e];simp);refine⟨_,rfl,_,rfl,b,_,_,_,_,rfl,(by rw[lK Ux];exact B1.ob),T.cl,T.nA_mark_of,CI z,_,rfl,_,_,rfl,DPut.k (k:=ag x) (by rw[lK UH.symm];exact B1.mm) sz,?_⟩;refine⟨_,rfl,_,rfl,b,_,_,_,_,rfl,(by rw[lK V9,lK Ux];exact B1.ob),T.cl,T.nA_loss_of,CJ z,_,rfl,_,_,rfl,DPut.k (k:=ag x) (by rw[lK UZ.symm,lK UI.symm];exact B1.ll) sz,?_⟩;intro p QK;have e0:∀c,c≠z.dt->c≠z.dm->c≠z.dl->∀A B C,(upd (upd (upd H1 z.dt A) z.dm B) z.dl C) c=H1 c:=λc c1 c2 c3 A B C=>by rw[lK c3,lK c2,lK c1]
      have T2:p≠z.dt:=λe=>by rw[e,lK UI,lK UH,lN] at QK;cases QK
      have T3:p≠z.dm:=λe=>by rw[e,lK UZ,lN] at QK;cases QK
      have T4:p≠z.dl:=λe=>by rw[e,lN] at QK;cases QK
      have QL:H1 p=none:=by rw[e0 p T2 T3 T4] at QK;exact QK
      have hp0:H p=none:=s1.free QL;have T5:p≠z.dh:=λe=>by rw[e,eh] at QL;cases QL
      have T7:p≠b:=λe=>by rw[e,B1.ob] at QL;cases QL
      have q_p:p≠z.dp:=λe=>by rw[e,B1.pp] at QL;cases QL
      refine⟨_,rfl,lN,[(ag o,.ref a.ONE)],rfl,(show 1<=15 by decide),_,rfl,b,_,_,_,_,rfl,(by rw[lK T7.symm,lK T7.symm,e0 b Ux V9 b_l];exact B1.ob),T.cl,T.nA_held_of,rK z,_,rfl,_,_,rfl,DPut.k (k:=ag x) (by rw[lK T5.symm,lK T5.symm,e0 z.dh t_h.symm m_h.symm l_h.symm];exact eh) (by rw[U4];exact ay Vq (by decide)),?_⟩;have TL:∀c,c≠p->c≠z.dh->c≠z.dt->c≠z.dm->c≠z.dl->∀A B C D E F,(upd (upd (upd (upd (upd (upd H1 z.dt A) z.dm B) z.dl C) p D) p E) z.dh F) c=H1 c:=λc c1 c2 c3 c4 c5 A B C D E F=>by rw[lK c2,lK c1,lK c1,lK c5,lK c4,lK c3]
      refine k1 Sa p _ hp0 ?_ λc u e hc=>?_
      ·refine⟨?_,?_,?_,?_,?_,?_,λe he=>?_,?_,B1.p6,by rw[aM];exact Vq⟩
       ·rw[TL b T7.symm b_h Ux V9 b_l];exact B1.ob
       ·rw[TL z.dp q_p.symm p_h p_t p_m p_l];exact B1.pp
       ·rw[lK t_h,lK T2.symm,lK T2.symm,lK UI,lK UH,lN,rZ _ (pX _ hx),aB];rfl
       ·rw[lK m_h,lK T3.symm,lK T3.symm,lK UZ,lN,rZ _ (pX _ hx),aB];rfl
       ·rw[lK l_h,lK T4.symm,lK T4.symm,lN,rZ _ (pX _ hx),aB];rfl
       ·have hv:om Th (ag x)=none:=by rw[Dq ph nh];exact pX _ hx
        refine⟨_,lN,?_,?_⟩
        ·rw[rZ _ hv,aB];exact ph.append_right _
        ·rw[aB,aB,ao,cP];refine uZ nh λhq=>?_;obtain⟨kv,Vr,ekv⟩:=aj.mp hq;have e1:=(yC (k:=kv.1) (v:=kv.2) nh).mpr Vr;rw[ekv,pX _ hx] at e1;cases e1
       ·rcases aP.mp he with he|he
        ·have Ul:e.2∈L.map (·.2):=aj.mpr ⟨e,he,rfl⟩;have d1:e.2≠z.dh:=λq=>hh (q▸Ul);have d2:e.2≠z.dt:=λq=>ht (by rw[<-q];simp only[af];right;right;right;exact Ul);have d3:e.2≠z.dm:=λq=>hm (by rw[<-q];simp only[af];right;right;exact Ul);have d4:e.2≠z.dl:=λq=>Uj (by rw[<-q];simp only[af];right;exact Ul);have d5:e.2≠p:=λq=>by obtain⟨ts,_,q2,_⟩:=B1.he e he;rw[q,QL] at q2;cases q2
         refine(B1.he e he).keep (λu h=>?_) λc u h y=>?_
         ·rw[TL e.2 d5 d1 d2 d3 d4];exact h
         ·have nt:∀{q:ak}{kv:List (Key×V)},H1 q=Za (.dK kv)->c≠q:=λhq=>CT h hq (by rcases y with⟨xs,rfl|⟨ob,rfl⟩⟩<;>intro z<;>cases z);rw[TL c (lR h QL) (nt eh) (nt B1.tt) (nt B1.mm) (nt B1.ll)];exact h
        ·rw[aq.mp he];refine⟨[a.ONE],rfl,?_,λq hq=>?_⟩
         ·rw[lK T5,lN];rfl
         ·rw[aq.mp hq];exact .inr T.one
       ·have hpL:p∉L.map (·.2):=λhq=>by obtain⟨e,he,rfl⟩:=aj.mp hq;obtain⟨ts,_,q2,_⟩:=B1.he e he;rw[QL] at q2;cases q2
        have:=uZ (k:=p) B1.nd (by
         intro hq;simp only[af] at hq;rcases hq with e|e|e|e|e|e|e
         ·exact T7 e
         ·exact q_p e
         ·exact T2 e
         ·exact T3 e
         ·exact T4 e
         ·exact T5 e
         ·exact hpL e)
        rw[aB];exact this
      ·have e1:=s1 c u e;have c0:c≠p:=lR e1 QL;simp only[af,cN,or_false,not_or] at hc;rw[TL c c0 hc.2.2.2 hc.1 hc.2.1 hc.2.2.1];exact e1
   ·refine k2 _ ?_ H1 s1;unfold sf;rw[hd];exact Zc ho
  ·refine k2 c ?_ H1 s1;unfold sf;rw[hc]
def PairAt(K:aa)(H:Hp)(q:Str×Int×Int)(v:V):Prop:=∃t u,v=.ref t/\SqT K H t [.str q.1,.ref u]/\SqT K H u [.int q.2.1,.int q.2.2]
def PairAt.keep{K}(h:PairAt K H q v)(k:∀c o,H c=Za o->(∃xs,o=.tup xs\/∃ob,o=.frz ob (.tup xs))->H' c=Za o):PairAt K H' q v:=by obtain⟨t,u,e,h1,h2⟩:=h;exact⟨t,u,e,tm h1 k,tm h2 k⟩
def KY(hp:H p=Za (.lst xs)):∀c o,H c=Za o->(∃xs,o=.tup xs\/∃ob,o=.frz ob (.tup xs))->(upd H p o') c=Za o:=λc o h x=>by rw[lK (CT h hp (by rcases x with⟨xs,rfl|⟨ob,rfl⟩⟩<;>intro z<;>cases z))];exact h
def Ib{l:List (Str×Int×Int)}{ts:List ak}(hl:ts.length=l.length){n:Str}(hn:n∈l.map (·.1)):∃q,(l.zip ts).find? (λq=>decide (q.1.1=n))=Za q/\q∈l.zip ts/\q.1=mD l n/\(mD l n).1=n:=by
 have e:(l.zip ts).map (·.1)=l:=ji (by lia);cases h:(l.zip ts).find? (λq=>decide (q.1.1=n)) with
 |none =>
  exfalso;rw[ci] at h;rw[<-e,aA] at hn;obtain⟨q,hq,e2⟩:=aj.mp hn;exact h q hq (Zg e2)
 |some q =>
  have e2:l.find? (λq=>decide (q.1=n))=Za q.1:=by rw[<-e,fc];show((l.zip ts).find? (λq=>decide (q.1.1=n))).map (·.1)=Za q.1;rw[h];rfl
  have e3:mD l n=q.1:=by unfold mD;rw[e2];rfl
  exact⟨q,rfl,eI h,e3.symm,by rw[e3];simpa using eQ h⟩
def yI(K:aa)(C:ak):Sp:=λvs H Q _=>∃b z O3 L,vs=[.ref b]/\BookAt K C H b z O3 L/\∀l,H l=Zb->Q (.ref l) (upd H l (.lst ((srt O3).map V.str)))
abbrev qB:bQ:=m7 (top 40) 12
def xW:FnScope ["self"] ["self"] (lP qB):=fsc
def EO(F:Fun K "persons" "Book.persons" qB f fd)(T:Txt K mg a):FnOk P w K mg base (CXo P w) 1 f fd ["self"] (yI K a.Book):=by
 refine F.okN xW (λvs H Q E h=>?_) (λPb A outer s H vs Q E hr h=>?_)
 ·obtain⟨b,z,O3,L,rfl,_⟩:=h;rfl
 ·obtain⟨b,z,O3,L,rfl,B,k⟩:=h;have hu:=nQ hr;refine⟨_,(@mj _ _ _ (@qm _ _ _ _ (@pz _ _ _ _ _ _ _ _ _ (qq rfl) rfl T.b_sorted uQ (@lW _ _ _ _ _ (m6 (pv 0) rfl) pa_nil (by rfl)) (by decide) (by decide) (by rfl) (by rfl)))),?_⟩;exact⟨_,rfl,b,_,_,_,_,rfl,B.ob,T.cl,T.nA_people,rX z,_,_,O3,rfl,.inl B.pp,by rw[aA];rfl,aZ B.p6 (by decide),k⟩
def xj(K:aa)(C:ak):Sp:=λvs H Q _=>∃b z O3 L,vs=[.ref b]/\BookAt K C H b z O3 L/\∀l,H l=Zb->Q (.ref l) (upd H l (.lst ((srt (L.map (·.1.nm))).map V.str)))
abbrev rj:bQ:=m7 (top 40) 13
def yv:FnScope ["self"] ["self"] (lP rj):=fsc
def Hc(F:Fun K "houses" "Book.houses" rj f fd)(T:Txt K mg a):FnOk P w K mg base (CXo P w) 1 f fd ["self"] (xj K a.Book):=by
 refine F.okN yv (λvs H Q E h=>?_) (λPb A outer s H vs Q E hr h=>?_)
 ·obtain⟨b,z,O3,L,rfl,_⟩:=h;rfl
 ·obtain⟨b,z,O3,L,rfl,B,k⟩:=h;have hu:=nQ hr;refine⟨_,(@mj _ _ _ (@qm _ _ _ _ (@pz _ _ _ _ _ _ _ _ _ (qq rfl) rfl T.b_sorted uQ (@lW _ _ _ _ _ (m6 (pv 0) rfl) pa_nil (by rfl)) (by decide) (by decide) (by rfl) (by rfl)))),?_⟩;obtain⟨Th,ss,eh,ek,ps⟩:=B.hh.keys;rw[<-C6 ps] at k;exact⟨_,rfl,b,_,_,_,_,rfl,B.ob,T.cl,T.nA_held_of,rK z,_,_,ss,rfl,.inl eh,ek,by rw[ps.length_eq,ac];exact aZ B.h8 (by decide),k⟩
abbrev xn:bQ:=m7 (top 40) 15
def EG:FnScope ["self","house"] ["self","house"] (lP xn):=fsc
def MT(K:aa)(a:Adr):Sp:=λvs H Q E=>∃b z O3 L x,vs=[.ref b,.str x]/\BookAt K a.Book H b z O3 L/\Nm x/\(∀e,nR L x=Za e->∀t,H t=Zb->Q (.ref t) (upd H t (.tup [.int e.1.th,.int e.1.mr,.int e.1.ls])))/\(nR L x=Zb->E (.ref a.NoHouse) Zb H)
def yg(v:Ent×ak->V)(h:nR L x=Za e):om (L.map λe=>((ag e.1.nm:Key),v e)) (ag x)=Za (v e):=by rw[p8 (key:=λe:Ent×ak=>e.1.nm)];unfold nR at h;rw[h];rfl
def ok_of(F:Fun K "of" "Book.of" xn f fd)(T:Txt K mg a)(O8:Mt P w K mg base a.Book "need_house" 2 ["self","name"] (nM K a)):FnOk P w K mg base (CXo P w) 3 f fd ["self","house"] (MT K a):=by
 refine F.okX EG (λvs H Q E h=>?_) (λPb A outer s H vs Q E hr h=>?_)
 ·obtain⟨b,z,O3,L,x,rfl,_⟩:=h;rfl
 ·obtain⟨b,z,O3,L,x,rfl,B,nm,k1,k2⟩:=h;have hu:=nQ hr;refine⟨_,(@l9 _ _ _ _ _ (@oW _ _ _ _ (rN (pv 0) O8 (hr.mono (by first|decide|lia)) oC (@lW _ _ _ _ _ (pv 1) pa_nil (by rfl))) (by rfl)) (@mj _ _ _ (@qm _ _ _ _ (@vY _ _ _ _ _ (@lW _ _ _ _ _ (@qM _ _ _ _ _ _ hu (m6 (pv 0) rfl) (pv 1) (λ_ _=>rfl)) (@lW _ _ _ _ _ (@qM _ _ _ _ _ _ hu (m6 (pv 0) rfl) (pv 1) (λ_ _=>rfl)) (@lW _ _ _ _ _ (@qM _ _ _ _ _ _ hu (m6 (pv 0) rfl) (pv 1) (λ_ _=>rfl)) pa_nil (by rfl)) (by rfl)) (by rfl)))))),?_⟩;refine⟨_,rfl,b,_,_,rfl,B.ob,rP z,_,rfl,b,z,O3,L,x,rfl,B,nm,λh=>?_,λh=>k2 ?_⟩
  ·cases he:nR L x with
   |none=>unfold oI at h;unfold nR at he;rw[he] at h;cases h
   |some e =>
    refine⟨_,rfl,b,_,_,_,_,rfl,B.ob,T.cl,T.nA_things_of,uR z,_,rfl,_,_,rfl,?_,_,rfl,b,_,_,_,_,rfl,B.ob,T.cl,T.nA_mark_of,CI z,_,rfl,_,_,rfl,?_,_,rfl,b,_,_,_,_,rfl,B.ob,T.cl,T.nA_loss_of,CJ z,_,rfl,_,_,rfl,?_,(show 3<=aJ by decide),λt ht=>k1 e he t ht⟩
    ·have:=DGet.k (k:=ag x) B.tt;rw[yg _ he] at this;exact this
    ·have:=DGet.k (k:=ag x) B.mm;rw[yg _ he] at this;exact this
    ·have:=DGet.k (k:=ag x) B.ll;rw[yg _ he] at this;exact this
  ·unfold oI at h;unfold nR;exact d6.mp h |> ee.mp
abbrev pK:bQ:=m7 (top 40) 14
def sc_Book_shares:FnScope ["self","house","held"] ["self","house"] (lP pK):=fsc
def AY(K:aa)(a:Adr):Sp:=λvs H Q E=>∃b z O3 L x,vs=[.ref b,.str x]/\BookAt K a.Book H b z O3 L/\Nm x /\
 (∀e,nR L x=Za e->e.1.held.length<64/\∀l ys H',H l=Zb->Same H H'->H' l=Za (.lst ys)->eT (PairAt K H') ((srt (e.1.held.map (·.1))).map (mD e.1.held)) ys->Q (.ref l) H')/\(nR L x=Zb->E (.ref a.NoHouse) Zb H)
def G5(F:Fun K "shares" "Book.shares" pK f fd)(T:Txt K mg a)(O8:Mt P w K mg base a.Book "need_house" 2 ["self","name"] (nM K a)):FnOk P w K mg base (CXo P w) 3 f fd ["self","house"] (AY K a):=by
 refine F.okX sc_Book_shares (λvs H Q E h=>?_) (λPb A outer s H vs Q E hr h=>?_)
 ·obtain⟨b,z,O3,L,x,rfl,_⟩:=h;rfl
 ·obtain⟨b,z,O3,L,x,rfl,B,nm,k1,k2⟩:=h;have hu:=nQ hr;refine⟨_,(@l9 _ _ _ _ _ (@oW _ _ _ _ (rN (pv 0) O8 (hr.mono (by first|decide|lia)) oC (@lW _ _ _ _ _ (pv 1) pa_nil (by rfl))) (by rfl)) (@l9 _ _ _ _ _ (@rm _ _ (2) _ _ _ _ sc_Book_shares.nd rfl (ig rfl) (@qM _ _ _ _ _ _ hu (m6 (pv 0) rfl) (pv 1) (λ_ _=>rfl)) (by rfl) (by first|exact .inl rfl|exact .inr rfl|assumption)) (@mj _ _ _ (@qm _ _ _ _ (Cu (fr:=["held"]) (ix:=[2]) rfl (by exact(show CompOk ["self","house","held"] (lP pK) _ _ _ _ from cok)) (FW (@pz _ _ _ _ _ _ _ _ _ (qq rfl) rfl T.b_sorted uQ (@lW _ _ _ _ _ (pv 2) pa_nil (by rfl)) (by decide) (by decide) (by rfl) (by rfl))) (λ_ _ _ _ _=>zM) (λ_ _ _ _ _=>(vY (lW (pv 0) (lW (qM hu (pv 1) (pv 0) (λ_ _=>rfl)) pa_nil))))))))),?_⟩;refine⟨_,rfl,b,_,_,rfl,B.ob,rP z,_,rfl,b,z,O3,L,x,rfl,B,nm,λh=>?_,λh=>k2 ?_⟩
  ·cases he:nR L x with
   |none=>unfold oI at h;unfold nR at he;rw[he] at h;cases h
   |some e =>
    obtain⟨RD,k1⟩:=k1 e he;obtain⟨ts,hl,hd,hts⟩:=B.he e (qH he);have Tt:(((e.1.held.zip ts).map λq=>((ag q.1.1:Key),V.ref q.2)).map (·.1))=(e.1.held.map (·.1)).map ag:=by
     rw[aA,aA];have e1:(e.1.held.zip ts).map (·.1)=e.1.held:=ji (by lia)
     conv=>rhs;rw[<-e1,aA]
     rfl
    refine⟨_,rfl,b,_,_,_,_,rfl,B.ob,T.cl,T.nA_held_of,rK z,_,rfl,_,.ref e.2,rfl,?_,_,rfl,e.2,_,e.1.held.map (·.1),rfl,.inl hd,Tt,by rw[ac];exact RD,λl R1=>?_⟩
    ·have:=B.hh.dget x;rw[yg _ he] at this;exact this
    ·refine⟨l,rfl,⟨_,SqL.of lN⟩,λD hD=>?_⟩;have lD:l≠D:=lR lN hD;have Ur:H D=none:=by rw[lK lD.symm] at hD;exact hD
     have hDp:e.2≠D:=lR hd Ur;refine Gu (J:=Itl K l) (srt (e.1.held.map (·.1))).length (λi ys H'=>Same H H'/\H' D=Za (.lst ys)/\H' l=Za (.lst ((srt (e.1.held.map (·.1))).map V.str))/\eT (PairAt K H') (((srt (e.1.held.map (·.1))).take i).map (mD e.1.held)) ys)
      ⟨?_,lN,?_,.nil⟩ ?_ (λi ys H' r=>r.2.1) (λi ys H' hi r=>⟨_,.str ((srt (e.1.held.map (·.1)))[i]),SqL.of r.2.2.1,by simp[hi]⟩) ?_ ?_
     ·exact(qe R1).trans (qe hD)
     ·rw[lK lD,lN]
     ·rw[sS,ac];exact aI (eE RD) (by decide)
     ·rintro i ys Hx v H' hi ⟨s1,h1,h2,h3⟩ ⟨rfl,hy⟩ Kt Kf q1 q2
      have hv:=hy _ (SqL.of h2);have ev:v=.str ((srt (e.1.held.map (·.1)))[i]):=by rw[aD,aw hi] at hv;exact(aO hv).symm
      subst ev;have RZ:(srt (e.1.held.map (·.1)))[i]∈e.1.held.map (·.1):=(lZ _).mem_iff.mp (b5 hi);obtain⟨q,f1,f2,f3,f4⟩:=Ib hl RZ;have Re:om ((e.1.held.zip ts).map λq=>((ag q.1.1:Key),V.ref q.2)) (ag ((srt (e.1.held.map (·.1)))[i]))=Za (.ref q.2):=by rw[p8 (key:=λq:(Str×Int×Int)×ak=>q.1.1),f1];rfl
      refine yesT ⟨_,rfl,_,rfl,_,rfl,e.2,.ref q.2,rfl,?_,(show 2<=aJ by decide),λp hp=>?_⟩
      ·have:=DGet.k (k:=ag ((srt (e.1.held.map (·.1)))[i])) (s1 _ _ hd);rw[Re] at this;exact this
      ·have pD:D≠p:=lR h1 hp;have pl:l≠p:=lR h2 hp;refine q1 _ _ (by rw[lK pD];exact h1) ⟨?_,lN,?_,?_⟩
       ·intro c o hc;rw[lK (λz=>by rw[z] at hc;rw[Ur] at hc;cases hc),lK (lR (s1 c o hc) hp)];exact s1 c o hc
       ·rw[lK lD,lK pl];exact h2
       ·have kp:∀c o,H' c=Za o->(∃xs,o=.tup xs\/∃ob,o=.frz ob (.tup xs))->(upd (upd H' p (.tup [.str ((srt (e.1.held.map (·.1)))[i]),.ref q.2])) D (.lst (ys++[.ref p]))) c=Za o:=λc o hc x=>by rw[KY (xs:=ys) (by rw[lK pD];exact h1) c o (by rw[lK (lR hc hp)];exact hc) x]
        have e5:((srt (e.1.held.map (·.1))).take (i+1)).map (mD e.1.held)=((srt (e.1.held.map (·.1))).take i).map (mD e.1.held)++[mD e.1.held ((srt (e.1.held.map (·.1)))[i])]:=by rw[dC,aw hi,aB];rfl
        rw[e5];refine ku (eT.mapP h3 λq v hq=>hq.keep kp) ⟨p,q.2,rfl,?_,?_⟩
        ·refine SqT.of ?_;rw[lK pD.symm,lN,f4]
        ·rw[<-f3];exact tm (hts q f2) λc o hc x=>kp c o (s1 c o hc) x
     ·rintro ys H' hy ⟨s1,h1,h2,h3⟩
      refine⟨⟨_,SqL.of h2,by rw[ac];exact am _⟩,k1 D ys H' Ur s1 h1 ?_⟩;rw[fB] at h3;exact h3
  ·unfold oI at h;unfold nR;exact d6.mp h |> ee.mp
end
end My
namespace L2
open PySem PySem.Spec PyProof.Rows
section
variable{X:Cx}
def rEqT(K:aa):R2:=λx y H Q=>∃p q xs ys,x=.ref p/\y=.ref q/\SqT K H p xs/\SqT K H q ys/\xs.length=ys.length/\xs.all sV=true/\ys.all sV=true/\Q (.bl (Mf xs ys)) H
def N5(hu:X.A.units<fD):OpR X (cm .Eq) (rEqT X.K):=by
 intro O2 s O H x y v u Q I rx ry h;obtain⟨p,q,xs,ys,rfl,rfl,hp,hq,hl,fx,fy,k⟩:=h;cases rx;cases ry;obtain⟨its,r,pl,_⟩:=I.tuple hp;obtain⟨P7,r2,pl2,_⟩:=I.tuple hq;have e1:=r.length;have e2:=r2.length;refine SeqAt.eq_tupleAt pl pl2 hu (EY r r2 hl fx fy) ⟨.bl _,H,I,rfl,?_⟩;have e3:its.toArray.size=P7.toArray.size:=by simp;lia
 rw[e3,Nat.min_self,beq_self_eq_true,Bool.and_true,aN,<-e2,<-hl,<-D9 hl];exact k
end
end L2
namespace My
open PySem L2 Fra
def DZ(x y)(h:0<y):aF y (x%y)=aF x y:=by
 have e:x%y=x-(x/y)*y:=by rw[Int.emod_def,br]
 rw[e,Int.gcd_comm,Int.gcd_sub_mul_right_left]
def Jh(h:0<=x):(aF x 0:Int)=x:=by rw[Int.gcd_zero_right];lia
structure Sz(q:Int×Int):Prop where
 low:Low q
 bt:Bt 8900 q.1
 bb:Bt 8900 q.2
def FrAt(K:aa)(H:Hp)(p:ak)(q:Int×Int):Prop:=SqT K H p [.int q.1,.int q.2]
def FrAt.same{K}(h:FrAt K H p q)(s:Same H H'):FrAt K H' p q:=DD s h
section
variable{P:aK}{w:a6}{K:aa}{mg:Str->Option ah}{base:bx}{a:Adr}{f:ak}{fd:cz}
abbrev pC:bQ:=top 16
def sc_common_divisor:FnScope ["number","other","rest"] ["number","other"] (lP pC):=fsc
def Fl:Sp:=λvs H Q _=>∃n m,vs=[.int n,.int m]/\0<m/\Q (.int (aF n m)) H
def N9(F:Fun K "common_divisor" "common_divisor" pC f fd)(T:Txt K mg a):FnOk P w K mg base (CXo P w) 1 f fd ["number","other"] Fl:=by
 refine F.okN sc_common_divisor (λvs H Q E h=>?_) (λPb A outer s H vs Q E hr h=>?_)
 ·obtain⟨n,m,rfl,_⟩:=h;rfl
 ·obtain⟨n,m,rfl,hm,k⟩:=h;have hu:=nQ hr;refine⟨_,(@l9 _ _ _ _ _ (DK gD (@uV _ _ _ _ _ _ _ _ op_ne (pv 1) pe_int (uY _)) (@l9 _ _ _ _ _ (@rm _ _ (2) _ _ _ _ sc_common_divisor.nd rfl (eO rfl) (@tF _ _ _ _ _ _ _ _ J3 (pv 0) (pv 1)) (by rfl) (by first|exact .inl rfl|exact .inr rfl|assumption)) (@l9 _ _ _ _ _ (@rm _ _ (0) _ _ _ _ sc_common_divisor.nd rfl (eO rfl) (pv 1) (by rfl) (by first|exact .inl rfl|exact .inr rfl|assumption)) (@mj _ _ _ (@rm _ _ (1) _ _ _ _ sc_common_divisor.nd rfl (eO rfl) (pv 2) (by rfl) (by first|exact .inl rfl|exact .inr rfl|assumption)))))) (@mj _ _ _ (@qm _ _ _ _ (pv 0)))),?_⟩;refine⟨λc O H'=>H'=H/\∃x y v,O=[Za (.int x),Za (.int y),v]/\0<=y/\c=y.toNat/\aF x y=aF n m/\(y=0->0<=x),⟨_,rfl,n,m,_,rfl,by lia,rfl,rfl,by lia⟩,?_⟩
  rintro c O H' ⟨rfl,x,y,v,rfl,hy,rfl,hg,hx⟩
  refine⟨_,rfl,rfl,_,rfl,vA (λh=>?_) (λh=>?_)⟩
  ·have Td:0<y:=by have:¬(V.int y=V.int 0):=of_decide_eq_false (nbT h);have:y≠0:=λz=>this (by rw[z]);lia
   refine⟨λσ' H''=>H''=H'/\∃v',σ'=[Za (.int y),Za (.int (x%y)),v'],?_,?_⟩
   ·rintro σ' H'' ⟨rfl,v',rfl⟩
    have m0:=dE x (show y≠0 by lia);have m1:=cO x Td;exact⟨(x%y).toNat,by lia,rfl,_,_,_,rfl,m0,rfl,(DZ x y Td).trans hg,λ_=>hy⟩
   ·exact⟨_,rfl,_,rfl,_,_,rfl,rfl,Td,_,rfl,_,rfl,rfl,_,rfl⟩
  ·have Td:y=0:=V.int.inj (Zf (nbF h));subst Td;refine⟨_,rfl,?_⟩;rw[Jh (hx rfl) |>.symm,hg];exact k
abbrev Fm:bQ:=top 18
def sc_plus:FnScope ["first","second","common","top","shared"] ["first","second"] (lP Fm):=fsc
def yH(K:aa):Sp:=λvs H Q _=>∃p1 p2 q1 q2,vs=[.ref p1,.ref p2]/\FrAt K H p1 q1/\FrAt K H p2 q2/\Sz q1/\Sz q2/\∀x,H x=Zb->Q (.ref x) (upd H x (.tup [.int (nG q1 q2).1,.int (nG q1 q2).2]))
def LJ(F:Fun K "plus" "plus" Fm f fd)(T:Txt K mg a)(Pm:Fn P w K mg base "common_divisor" 1 ["number","other"] Fl):FnOk P w K mg base (CXo P w) 2 f fd ["first","second"] (yH K):=by
 refine F.okN sc_plus (λvs H Q E h=>?_) (λPb A outer s H vs Q E hr h=>?_)
 ·obtain⟨p1,p2,q1,q2,rfl,_⟩:=h;rfl
 ·obtain⟨p1,p2,⟨t1,b1⟩,⟨t2,b2⟩,rfl,h1,h2,s1,s2,k⟩:=h;have hu:=nQ hr;refine⟨_,(@l9 _ _ _ _ _ (@rm _ _ (2) _ _ _ _ sc_plus.nd rfl (eO rfl) (@wu _ _ _ _ _ _ _ _ _ _ _ Pm (hr.mono (by first|decide|lia)) rfl qG (@lW _ _ _ _ _ (@rO _ _ _ _ _ _ _ ix_tup (pv 0) pe_int (λ_ _=>rfl)) (@lW _ _ _ _ _ (@rO _ _ _ _ _ _ _ ix_tup (pv 1) pe_int (λ_ _=>rfl)) pa_nil (by rfl)) (by rfl)) (by decide) (by rfl) (by rfl)) (by rfl) (by first|exact .inl rfl|exact .inr rfl|assumption)) (@l9 _ _ _ _ _ (@rm _ _ (3) _ _ _ _ sc_plus.nd rfl (eO rfl) (@tF _ _ _ _ _ _ _ _ op_add (@tF _ _ _ _ _ _ _ _ op_mulB (@rO _ _ _ _ _ _ _ ix_tup (pv 0) pe_int (λ_ _=>rfl)) (@tF _ _ _ _ _ _ _ _ se (@rO _ _ _ _ _ _ _ ix_tup (pv 1) pe_int (λ_ _=>rfl)) (pv 2))) (@tF _ _ _ _ _ _ _ _ op_mulB (@rO _ _ _ _ _ _ _ ix_tup (pv 1) pe_int (λ_ _=>rfl)) (@tF _ _ _ _ _ _ _ _ se (@rO _ _ _ _ _ _ _ ix_tup (pv 0) pe_int (λ_ _=>rfl)) (pv 2)))) (by rfl) (by first|exact .inl rfl|exact .inr rfl|assumption)) (@l9 _ _ _ _ _ (@rm _ _ (4) _ _ _ _ sc_plus.nd rfl (eO rfl) (@wu _ _ _ _ _ _ _ _ _ _ _ Pm (hr.mono (by first|decide|lia)) rfl qG (@lW _ _ _ _ _ (pv 3) (@lW _ _ _ _ _ (pv 2) pa_nil (by rfl)) (by rfl)) (by decide) (by rfl) (by rfl)) (by rfl) (by first|exact .inl rfl|exact .inr rfl|assumption)) (@mj _ _ _ (@qm _ _ _ _ (@vY _ _ _ _ _ (@lW _ _ _ _ _ (@tF _ _ _ _ _ _ _ _ se (pv 3) (pv 4)) (@lW _ _ _ _ _ (@tF _ _ _ _ _ _ _ _ op_mulB (@tF _ _ _ _ _ _ _ _ se (@rO _ _ _ _ _ _ _ ix_tup (pv 0) pe_int (λ_ _=>rfl)) (pv 2)) (@tF _ _ _ _ _ _ _ _ se (@rO _ _ _ _ _ _ _ ix_tup (pv 1) pe_int (λ_ _=>rfl)) (pv 4))) pa_nil (by rfl)) (by rfl)))))))),?_⟩;rw[<-MM s1.low s2.low] at k;have b10:0<b1:=s1.low.1;have b20:0<b2:=s2.low.1;have hd:0<aF b1 b2:=bH _ (by lia);have Tx:(0:Int)<(aF b1 b2:Int):=by lia
  have bd:Bt 8900 (aF b1 b2:Int):=s1.bb.dvd (show b1≠0 by lia) (fJ ..);have ld:=(bd.mono (by decide)).log Tx;refine⟨_,rfl,p1,_,1,_,rfl,rfl,h1,mQ (j:=1) rfl,_,rfl,p2,_,1,_,rfl,rfl,h2,mQ (j:=1) rfl,b1,b2,rfl,b20,?_⟩;refine⟨_,rfl,p1,_,0,_,rfl,rfl,h1,mQ (j:=0) rfl,_,rfl,p2,_,1,_,rfl,rfl,h2,mQ (j:=1) rfl,_,rfl,_,_,rfl,rfl,⟨Tx,ld⟩,_,_,rfl,rfl,⟨s1.bt.mono (by decide),(s2.bb.div).mono (by decide)⟩,?_⟩;refine⟨_,rfl,p2,_,0,_,rfl,rfl,h2,mQ (j:=0) rfl,_,rfl,p1,_,1,_,rfl,rfl,h1,mQ (j:=1) rfl,_,rfl,_,_,rfl,rfl,⟨Tx,ld⟩,_,_,rfl,rfl,⟨s2.bt.mono (by decide),(s1.bb.div).mono (by decide)⟩,_,_,rfl,rfl,?_⟩;have he:0<aF (t1*(b2/(aF b1 b2:Int))+t2*(b1/(aF b1 b2:Int))) (aF b1 b2:Int):=bH _ (by lia);have Vx:(0:Int)<(aF (t1*(b2/(aF b1 b2:Int))+t2*(b1/(aF b1 b2:Int))) (aF b1 b2:Int):Int):=by lia
  have be:Bt 8900 (aF (t1*(b2/(aF b1 b2:Int))+t2*(b1/(aF b1 b2:Int))) (aF b1 b2:Int):Int):=bd.dvd (by lia) (cB ..);have le:=(be.mono (by decide)).log Vx;refine⟨_,rfl,_,rfl,_,_,rfl,Tx,?_⟩;refine⟨_,rfl,_,rfl,_,_,rfl,rfl,⟨Vx,le⟩,_,rfl,p1,_,1,_,rfl,rfl,h1,mQ (j:=1) rfl,_,rfl,_,_,rfl,rfl,⟨Tx,ld⟩,_,rfl,p2,_,1,_,rfl,rfl,h2,mQ (j:=1) rfl,_,rfl,_,_,rfl,rfl,⟨Vx,le⟩,_,_,rfl,rfl,⟨(s1.bb.div).mono (by decide),(s2.bb.div).mono (by decide)⟩,(show 2<=aJ by decide),λx hx=>?_⟩;exact k x hx
abbrev Cq:bQ:=top 19
def Ir:FnScope ["first","second"] ["first","second"] (lP Cq):=fsc
def Dw(K:aa):Sp:=λvs H Q _=>∃p1 p2 q1 q2,vs=[.ref p1,.ref p2]/\FrAt K H p1 q1/\FrAt K H p2 q2/\Sz q1/\Sz q2/\∀x H',H x=Zb->Same H H'->H' x=Za (.tup [.int (nG q1 (-q2.1,q2.2)).1,.int (nG q1 (-q2.1,q2.2)).2])->Q (.ref x) H'
theorem Sz.neg(h:Sz q):Sz (-q.1,q.2):=⟨⟨h.low.1,by have:=h.low.2;unfold Cop aF at *;simp only[iE];exact this⟩,h.bt.neg,h.bb⟩
def IK(F:Fun K "minus" "minus" Cq f fd)(T:Txt K mg a)(Qp:Fn P w K mg base "plus" 2 ["first","second"] (yH K)):FnOk P w K mg base (CXo P w) 3 f fd ["first","second"] (Dw K):=by
 refine F.okN Ir (λvs H Q E h=>?_) (λPb A outer s H vs Q E hr h=>?_)
 ·obtain⟨p1,p2,q1,q2,rfl,_⟩:=h;rfl
 ·obtain⟨p1,p2,⟨t1,b1⟩,⟨t2,b2⟩,rfl,h1,h2,s1,s2,k⟩:=h;have hu:=nQ hr;refine⟨_,(@mj _ _ _ (@qm _ _ _ _ (@wu _ _ _ _ _ _ _ _ _ _ _ Qp (hr.mono (by first|decide|lia)) rfl qG (@lW _ _ _ _ _ (pv 0) (@lW _ _ _ _ _ (@vY _ _ _ _ _ (@lW _ _ _ _ _ (@M5 _ _ _ _ _ _ JG (@rO _ _ _ _ _ _ _ ix_tup (pv 1) pe_int (λ_ _=>rfl))) (@lW _ _ _ _ _ (@rO _ _ _ _ _ _ _ ix_tup (pv 1) pe_int (λ_ _=>rfl)) pa_nil (by rfl)) (by rfl))) pa_nil (by rfl)) (by rfl)) (by decide) (by rfl) (by rfl)))),?_⟩;refine⟨_,rfl,_,rfl,p2,_,0,_,rfl,rfl,h2,mQ (j:=0) rfl,_,rfl,_,rfl,p2,_,1,_,rfl,rfl,h2,mQ (j:=1) rfl,(show 2<=aJ by decide),λy hy=>?_⟩;have sy:=qe (o:=.tup [.int (-t2),.int b2]) hy;refine⟨p1,y,(t1,b1),(-t2,b2),rfl,h1.same sy,SqT.of lN,s1,s2.neg,λx hx=>?_⟩;refine k x _ (sy.free hx) (sy.trans (qe hx)) lN
abbrev vv:bQ:=top 20
def C8:FnScope ["first","second"] ["first","second"] (lP vv):=fsc
def Dy(K:aa):Sp:=λvs H Q _=>∃p1 p2 q1 q2,vs=[.ref p1,.ref p2]/\FrAt K H p1 q1/\FrAt K H p2 q2/\Sz q1/\Sz q2/\Q (.bl (decide (q1.1*q2.2>q2.1*q1.2))) H
def IM(F:Fun K "is_above" "is_above" vv f fd)(T:Txt K mg a):FnOk P w K mg base (CXo P w) 1 f fd ["first","second"] (Dy K):=by
 refine F.okN C8 (λvs H Q E h=>?_) (λPb A outer s H vs Q E hr h=>?_)
 ·obtain⟨p1,p2,q1,q2,rfl,_⟩:=h;rfl
 ·obtain⟨p1,p2,⟨t1,b1⟩,⟨t2,b2⟩,rfl,h1,h2,s1,s2,k⟩:=h;have hu:=nQ hr;refine⟨_,(@mj _ _ _ (@qm _ _ _ _ (@FY _ _ _ _ _ _ _ _ M8 (@tF _ _ _ _ _ _ _ _ op_mulB (@rO _ _ _ _ _ _ _ ix_tup (pv 0) pe_int (λ_ _=>rfl)) (@rO _ _ _ _ _ _ _ ix_tup (pv 1) pe_int (λ_ _=>rfl))) (@tF _ _ _ _ _ _ _ _ op_mulB (@rO _ _ _ _ _ _ _ ix_tup (pv 1) pe_int (λ_ _=>rfl)) (@rO _ _ _ _ _ _ _ ix_tup (pv 0) pe_int (λ_ _=>rfl))) (uY _)))),?_⟩;refine⟨_,rfl,p1,_,0,_,rfl,rfl,h1,mQ (j:=0) rfl,_,rfl,p2,_,1,_,rfl,rfl,h2,mQ (j:=1) rfl,_,_,rfl,rfl,⟨s1.bt.mono (by decide),s2.bb.mono (by decide)⟩,_,rfl,p2,_,0,_,rfl,rfl,h2,mQ (j:=0) rfl,_,rfl,p1,_,1,_,rfl,rfl,h1,mQ (j:=1) rfl,_,_,rfl,rfl,⟨s2.bt.mono (by decide),s1.bb.mono (by decide)⟩,_,_,rfl,rfl,?_⟩;exact k
end
structure Two(q1 q2:Int×Int):Prop where
 p1:0<q1.2
 p2:0<q2.2
 t1:Bt 9000 q1.1
 t2:Bt 9000 q2.1
 b1:Bt 9000 q1.2
 b2:Bt 9000 q2.2
 bb:Bt 9000 (q1.2*q2.2)
abbrev Hl:=List (Str×Int×Int)
def l7(l:Hl)(n:Str):Int×Int:=(mD l n).2
def nz(l:Hl)(n:Str)(q:Int×Int):Hl:=if(l.any λx=>decide (x.1=n))=true then l.map (λx=>if x.1=n then(n,q) else x) else l++[(n,q)]
def mZ(l:Hl)(n:Str):Hl:=l.filter λx=>decide (x.1≠n)
def HeldZ(K:aa)(H:Hp)(p:ak)(l:Hl)(z:List ((Str×Int×Int)×ak)):Prop :=
 z.map (·.1)=l/\H p=Za (.dK (z.map λq=>(ag q.1.1,V.ref q.2)))/\∀q∈z,FrAt K H q.2 q.1.2
def HeldAt.toZ{K}(h:HeldAt K H p l):∃z,HeldZ K H p l z:=by obtain⟨ts,hl,hd,ht⟩:=h;exact⟨l.zip ts,ji (by lia),hd,ht⟩
theorem xf:∀z:List (α×β),(z.map (·.1)).zip (z.map (·.2))=z
 |[]=>rfl
 |x::r=>congrArg (x::·) (xf r)
def HeldZ.held{K}(h:HeldZ K H p l z):HeldAt K H p l:=by
 obtain⟨rfl,hd,ht⟩:=h;refine⟨z.map (·.2),by rw[ac,ac],?_,?_⟩
 ·rw[xf];exact hd
 ·rw[xf];exact ht
def CW{K}(hp:H p=Za (.dK kvs))(h:FrAt K H x q):FrAt K (upd H p o) x q :=
 tm h λc u e y=>by rw[lK (CT e hp (by rcases y with⟨xs,rfl|⟨ob,rfl⟩⟩<;>intro z<;>cases z))];exact e
def HeldZ.val{K}(h:HeldZ K H p l z)(n) :
  (n∉l.map (·.1)/\om (z.map λq=>((ag q.1.1:Key),V.ref q.2)) (ag n)=Zb/\l7 l n=(0,1))\/(n∈l.map (·.1)/\∃x,om (z.map λq=>((ag q.1.1:Key),V.ref q.2)) (ag n)=Za (.ref x)/\FrAt K H x (l7 l n)):=by
 obtain⟨rfl,hd,ht⟩:=h;rw[p8 (key:=λq:(Str×Int×Int)×ak=>q.1.1)];unfold l7 mD;rw[fc];have e:((λq:Str×Int×Int=>decide (q.1=n))∘λx:(Str×Int×Int)×ak=>x.1)=λx=>decide (x.1.1=n):=rfl;rw[e];cases hf:z.find? (λx=>decide (x.1.1=n)) with
 |none =>
  left;refine⟨λhn=>?_,rfl,rfl⟩;rw[ci] at hf;rw[aA] at hn;obtain⟨q,hq,e2⟩:=aj.mp hn;exact hf q hq (Zg e2)
 |some q =>
  right;have hq:=eI hf;refine⟨?_,q.2,rfl,ht q hq⟩;rw[aA];exact aj.mpr ⟨q,hq,by simpa using eQ hf⟩
def HeldZ.put{K}(h:HeldZ K H p l z)(hx:FrAt K H x q) :
  ∃z',HeldZ K (upd H p (.dK (qf (z.map λq=>((ag q.1.1:Key),V.ref q.2)) (ag n) (.ref x)))) p (nz l n q) z':=by
 obtain⟨rfl,hd,ht⟩:=h;refine⟨if(z.any λy=>decide (y.1.1=n))=true then z.map (λy=>if y.1.1=n then((n,q),x) else y) else z++[((n,q),x)],?_,?_,?_⟩
 ·unfold nz;rw[gX];by_cases hb:(z.any λy=>decide (y.1.1=n))=true
  ·rw[Zc hb,Zc (by exact hb),aA,aA];refine aQ λy _=>?_;show(if y.1.1=n then((n,q),x) else y).1=if y.1.1=n then(n,q) else y.1
   by_cases e:y.1.1=n
   ·rw[Zc e,Zc e]
   ·rw[Zd e,Zd e]
  ·rw[Zd hb,Zd (by exact hb),aB];rfl
 ·rw[lN];unfold qf;rw[gX];have eb:((λkv:Key×V=>decide (kv.1=ag n))∘λq:(Str×Int×Int)×ak=>((ag q.1.1:Key),V.ref q.2))=λy=>decide (y.1.1=n):=by
   funext y
   show decide ((ag y.1.1:Key)=ag n)=_;rw[Ar]
  rw[eb];by_cases hb:(z.any λy=>decide (y.1.1=n))=true
  ·rw[Zc hb,Zc hb,aA,aA]
   congr 2
   refine aQ λy _=>?_;show(if(ag y.1.1:Key)=ag n then((ag y.1.1:Key),V.ref x) else((ag y.1.1:Key),V.ref y.2))=((ag (if y.1.1=n then((n,q),x) else y).1.1:Key),V.ref (if y.1.1=n then((n,q),x) else y).2);by_cases e:y.1.1=n
   ·rw[Zc (by rw[e]),Zc e,e]
   ·rw[Zd (λw=>e (du w)),Zd e]
  ·rw[Zd hb,Zd hb,aB];rfl
 ·intro y hy;refine CW hd ?_;by_cases hb:(z.any λy=>decide (y.1.1=n))=true
  ·rw[Zc hb] at hy;obtain⟨u,hu,rfl⟩:=aj.mp hy;by_cases e:u.1.1=n
   ·rw[Zc e];exact hx
   ·rw[Zd e];exact ht u hu
  ·rw[Zd hb] at hy;rcases aP.mp hy with hy|hy
   ·exact ht y hy
   ·rw[aq.mp hy];exact hx
def HeldZ.drop{K}(h:HeldZ K H p l z) :
  ∃z',HeldZ K (upd H p (.dK (x8 (z.map λq=>((ag q.1.1:Key),V.ref q.2)) (ag n)))) p (mZ l n) z':=by
 obtain⟨rfl,hd,ht⟩:=h;refine⟨z.filter (λy=>decide (y.1.1≠n)),?_,?_,λy hy=>CW hd (ht y (bK.mp hy).1)⟩
 ·unfold mZ;rw[fN];rfl
 ·rw[lN];unfold x8;rw[fN];have eb:((λkv:Key×V=>decide (kv.1≠ag n))∘λq:(Str×Int×Int)×ak=>((ag q.1.1:Key),V.ref q.2))=λy=>decide (y.1.1≠n):=by
   funext y
   show decide ((ag y.1.1:Key)≠ag n)=_;rw[bZ,decide_eq_true_iff,decide_eq_true_iff];exact⟨λh w=>h (by rw[w]),λh w=>h (du w)⟩
  rw[eb]
def Ht(l)(n):mD l n=(n,l7 l n):=by
 unfold l7 mD;cases h:l.find? λq=>decide (q.1=n) with
 |none=>rfl
 |some q =>
  have:q.1=n:=by simpa using eQ h
  show q=(n,q.2);rw[<-this]
def mV(l)(n m)(q):l7 (nz l n q) m=if m=n then q else l7 l m:=by
 unfold l7 mD nz;by_cases hb:(l.any λx=>decide (x.1=n))=true
 ·rw[Zc hb];induction l with
  |nil=>cases hb
  |cons x r ih =>
   rw[ao,bG,bG];by_cases e:x.1=n
   ·rw[Zc e];by_cases em:m=n
    ·subst em;rw[Zc rfl,Zg (show m=m from rfl)];rfl
    ·rw[Zd em];have e1:decide ((n,q).1=m)=false:=Zh λz=>em z.symm;have e2:decide (x.1=m)=false:=Zh λz=>em (z.symm.trans e);rw[e1,e2];by_cases hr:(r.any λx=>decide (x.1=n))=true
     ·have:=ih hr;rw[Zd em] at this;exact this
     ·have er:r.map (λx=>if x.1=n then(n,q) else x)=r:=by
       conv=>rhs;rw[<-jo r]
       refine aQ λy hy=>Zd λz=>hr (de.mpr ⟨y,hy,Zg z⟩)
      show(Option.getD ((r.map λx=>if x.1=n then(n,q) else x).find? λq=>decide (q.1=m)) (m,0,1)).2=_;rw[er]
   ·rw[Zd e];have hr:(r.any λx=>decide (x.1=n))=true:=by rw[cQ,Zh e,kh] at hb;exact hb
    by_cases em:x.1=m
    ·rw[Zg em];have:¬m=n:=λz=>e (em.trans z);rw[Zd this]
    ·rw[Zh em];exact ih hr
 ·rw[Zd hb,i8];by_cases em:m=n
  ·subst em;rw[Zc rfl];have:l.find? (λq=>decide (q.1=m))=none:=by rw[ci];intro x hx z;exact hb (de.mpr ⟨x,hx,z⟩)
   rw[this,Option.none_or,bG,Zg (show(m,q).1=m from rfl)];rfl
  ·rw[Zd em];have:[(n,q)].find? (λq=>decide (q.1=m))=none:=by rw[bG,Zh (show ¬(n,q).1=m from λz=>em z.symm)];rfl
   rw[this,Option.or_none]
def pT(l)(n m):l7 (mZ l n) m=if m=n then(0,1) else l7 l m:=by
 unfold l7 mD mZ;rw[List.find?_filter];by_cases em:m=n
 ·subst em;rw[Zc rfl];have:l.find? (λa=>decide (decide (a.1≠m)=true/\decide (a.1=m)=true))=none:=by rw[ci];intro x hx z;have z:=Zf z;exact Zf z.1 (Zf z.2)
  rw[this];rfl
 ·rw[Zd em];have:(λa:Str×Int×Int=>decide (decide (a.1≠n)=true/\decide (a.1=m)=true))=λa=>decide (a.1=m):=by
   funext x
   rw[bZ];simp only[decide_eq_true_iff];exact⟨λh=>h.2,λh=>⟨λz=>em (h.symm.trans z),h⟩⟩
  rw[this]
def m9(l)(n)(q):(nz l n q).map (·.1)=if n∈l.map (·.1) then l.map (·.1) else l.map (·.1)++[n]:=by
 unfold nz;by_cases hb:(l.any λx=>decide (x.1=n))=true
 ·have:n∈l.map (·.1):=by obtain⟨x,hx,e⟩:=de.mp hb;exact aj.mpr ⟨x,hx,Zf e⟩
  rw[Zc hb,Zc this,aA];refine aQ λx _=>?_;show(if x.1=n then(n,q) else x).1=x.1;by_cases e:x.1=n
  ·rw[Zc e,e]
  ·rw[Zd e]
 ·have:¬n∈l.map (·.1):=λz=>by obtain⟨x,hx,e⟩:=aj.mp z;exact hb (de.mpr ⟨x,hx,Zg e⟩)
  rw[Zd hb,Zd this,aB];rfl
def vZ(n)(q)(h:(l.map (·.1)).Nodup):((nz l n q).map (·.1)).Nodup:=by
 rw[m9];by_cases hn:n∈l.map (·.1)
 ·rw[Zc hn];exact h
 ·rw[Zd hn];exact uZ h hn
def yV(l)(n):(mZ l n).map (·.1)=(l.map (·.1)).filter λx=>decide (x≠n):=by unfold mZ;rw[fN];rfl
def Cw(n)(h:(l.map (·.1)).Nodup):((mZ l n).map (·.1)).Nodup:=by rw[yV];exact h.filter _
def F6(l)(n)(q):(nz l n q).length<=l.length+1:=by
 have:=congrArg cg (m9 l n q);rw[ac] at this;rw[this];split
 ·rw[ac];lia
 ·rw[aM,ac];exact am _
def DU(l)(n):(mZ l n).length<=l.length:=fA _ _
def sold(l:Hl)(o1 o2:Str)(q:Int×Int):Hl :=
 let r:=nG (l7 l o1) (-q.1,q.2);let l1:=if r=(0,1) then mZ l o1 else nz l o1 r
 nz l1 o2 (nG (l7 l1 o2) q)
def HL(l:Hl)(o1 o2:Str)(q:Int×Int):Hl :=
 let l1:=nz l o1 (nG (l7 l o1) (-q.1,q.2))
 nz l1 o2 (nG (l7 l1 o2) q)
def uS{β:Type}(L:List (Ent×β))(h:Str)(g:Ent->Ent):List (Ent×β):=L.map λx=>if x.1.nm=h then(g x.1,x.2) else x
def pj(v:Ent×β->γ)(hv:∀x,v (g x.1,x.2)=v x):(uS L h g).map v=L.map v:=by
 unfold uS;rw[aA];refine aQ λx _=>?_;show v (if x.1.nm=h then(g x.1,x.2) else x)=v x;by_cases e:x.1.nm=h
 ·rw[Zc e,hv]
 ·rw[Zd e]
def Dz(hy:y∈uS L h g):∃x∈L,(x.1.nm=h/\y=(g x.1,x.2))\/(¬x.1.nm=h/\y=x):=by
 unfold uS at hy;obtain⟨x,hx,rfl⟩:=aj.mp hy;refine⟨x,hx,?_⟩;by_cases e:x.1.nm=h
 ·rw[Zc e];exact .inl ⟨e,rfl⟩
 ·rw[Zd e];exact .inr ⟨e,rfl⟩
theorem Fq:∀{l:List α}{x y:α},(l.map key).Nodup->x∈l->y∈l->key x=key y->x=y
 |[],_,_,_,hx,_,_=>by cases hx
 |z::r,x,y,h,hx,hy,e=>by
  obtain⟨h1,h2⟩:=ar.mp h;rcases af.mp hx with ex|QJ
  ·rcases af.mp hy with ey|hy'
   ·exact ex.trans ey.symm
   ·rw[ex] at e;exact absurd (aj.mpr ⟨y,hy',e.symm⟩) h1
  ·rcases af.mp hy with ey|hy'
   ·rw[ey] at e;exact absurd (aj.mpr ⟨x,QJ,e⟩) h1
   ·exact Fq h2 QJ hy' e
def DV(he:nR L h=Za e):e.1.nm=h:=by unfold nR at he;simpa using eQ he
def Bn(nd:(L.map (·.1.nm)).Nodup)(he:nR L h=Za e)(hx:x∈L)(hn:x.1.nm=h):x=e :=
 Fq (key:=λx:Ent×ak=>x.1.nm) nd hx (qH he) (hn.trans (DV he).symm)
def BookAt.reheld{K:aa}(B:BookAt K C H b z O3 L)(nd:(L.map (·.1.nm)).Nodup)(he:nR L h=Za e)(hg:∀x,g x={ x with held:=(g x).held })(hH:HeldAt K H' e.2 (g e.1).held)(kp:∀c o,H c=Za o->c≠e.2->H' c=Za o):BookAt K C H' b z O3 (uS L h g):=by
 have R9:=qH he;have e2:e.2∈L.map (·.2):=aj.mpr ⟨e,R9,rfl⟩;obtain⟨n1,r1⟩:=ar.mp B.nd;obtain⟨n2,r2⟩:=ar.mp r1;obtain⟨n3,r3⟩:=ar.mp r2;obtain⟨n4,r4⟩:=ar.mp r3;obtain⟨n5,r5⟩:=ar.mp r4;obtain⟨n6,r6⟩:=ar.mp r5;have g1:∀x,(g x).nm=x.nm:=λx=>by rw[hg x]
 have g2:∀x,(g x).th=x.th:=λx=>by rw[hg x]
 have g3:∀x,(g x).mr=x.mr:=λx=>by rw[hg x]
 have g4:∀x,(g x).ls=x.ls:=λx=>by rw[hg x]
 refine⟨kp _ _ B.ob λq=>n1 (q▸by simp only[af];right;right;right;right;right;exact e2),kp _ _ B.pp λq=>n2 (q▸by simp only[af];right;right;right;right;exact e2),?_,?_,?_,?_,?_,?_,B.p6,by unfold uS;rw[ac];exact B.h8⟩
 ·rw[pj (v:=λe=>((ag e.1.nm:Key),V.int e.1.th)) λx=>by rw[g1,g2]];exact kp _ _ B.tt λq=>n3 (q▸by simp only[af];right;right;right;exact e2)
 ·rw[pj (v:=λe=>((ag e.1.nm:Key),V.int e.1.mr)) λx=>by rw[g1,g3]];exact kp _ _ B.mm λq=>n4 (q▸by simp only[af];right;right;exact e2)
 ·rw[pj (v:=λe=>((ag e.1.nm:Key),V.int e.1.ls)) λx=>by rw[g1,g4]];exact kp _ _ B.ll λq=>n5 (q▸by simp only[af];right;exact e2)
 ·rw[pj (v:=λe=>((ag e.1.nm:Key),V.ref e.2)) λx=>by rw[g1]];exact B.hh.keep λo h=>kp _ _ h λq=>n6 (q▸e2)
 ·intro y hy;obtain⟨x,hx,⟨hn,rfl⟩|⟨hn,rfl⟩⟩:=Dz hy
  ·rw[Bn nd he hx hn];exact hH
  ·have hy2:y.2≠e.2:=λq=>hn (by rw[Fq (key:=λx:Ent×ak=>x.2) r6 hx R9 q];exact DV he);obtain⟨kvs,hk⟩:∃kvs,H e.2=Za (.dK kvs):=by obtain⟨ts,_,q,_⟩:=B.he e R9;exact⟨_,q⟩
   refine(B.he y hx).keep (λo ho=>kp _ _ ho hy2) λc o ho x=>kp c o ho λq=>?_;rw[q,hk] at ho;cases ho;rcases x with⟨xs,z|⟨ob,z⟩⟩<;>cases z
 ·rw[pj (v:=λe=>e.2) λx=>rfl];exact B.nd
def BookAt.renum{K:aa}(B:BookAt K C H b z O3 L)(hd:d=z.dt\/d=z.dm\/d=z.dl)(g1:∀x,(g x).nm=x.nm)(g2:∀x,(g x).held=x.held)(tt:H' z.dt=Za (.dK ((uS L h g).map λe=>(ag e.1.nm,.int e.1.th))))(mm:H' z.dm=Za (.dK ((uS L h g).map λe=>(ag e.1.nm,.int e.1.mr))))(ll:H' z.dl=Za (.dK ((uS L h g).map λe=>(ag e.1.nm,.int e.1.ls))))(kp:∀c o,H c=Za o->c≠d->H' c=Za o):BookAt K C H' b z O3 (uS L h g):=by
 obtain⟨n1,r1⟩:=ar.mp B.nd;obtain⟨n2,r2⟩:=ar.mp r1;obtain⟨n3,r3⟩:=ar.mp r2;obtain⟨n4,r4⟩:=ar.mp r3;obtain⟨n5,r5⟩:=ar.mp r4;obtain⟨n6,r6⟩:=ar.mp r5;obtain⟨kvs,hk⟩:∃kvs,H d=Za (.dK kvs):=by
  rcases hd with rfl|rfl|rfl
  ·exact⟨_,B.tt⟩
  ·exact⟨_,B.mm⟩
  ·exact⟨_,B.ll⟩
 refine⟨kp _ _ B.ob λq=>n1 ?_,kp _ _ B.pp λq=>n2 ?_,tt,mm,ll,?_,?_,?_,B.p6,by unfold uS;rw[ac];exact B.h8⟩
 ·rcases hd with e|e|e<;>(rw[q,e];simp)
 ·rcases hd with e|e|e<;>(rw[q,e];simp)
 ·rw[pj (v:=λe=>((ag e.1.nm:Key),V.ref e.2)) λx=>by rw[g1]];refine B.hh.keep λo h=>kp _ _ h λq=>?_;rcases hd with e|e|e
  ·exact n3 (by rw[<-e,<-q];simp)
  ·exact n4 (by rw[<-e,<-q];simp)
  ·exact n5 (by rw[<-e,<-q];simp)
 ·intro y hy;have:∃x∈L,x.2=y.2/\x.1.held=y.1.held:=by
   obtain⟨x,hx,⟨hn,rfl⟩|⟨hn,rfl⟩⟩:=Dz hy
   ·exact⟨x,hx,rfl,(g2 _).symm⟩
   ·exact⟨y,hx,rfl,rfl⟩
  obtain⟨x,hx,e1,e2⟩:=this;rw[<-e1,<-e2];have Vb:x.2∈L.map (·.2):=aj.mpr ⟨x,hx,rfl⟩;refine(B.he x hx).keep (λo ho=>kp _ _ ho λq=>?_) λc o ho w=>kp c o ho λq=>?_
  ·rcases hd with e|e|e
   ·exact n3 (by rw[<-e,<-q];simp only[af];right;right;right;exact Vb)
   ·exact n4 (by rw[<-e,<-q];simp only[af];right;right;exact Vb)
   ·exact n5 (by rw[<-e,<-q];simp only[af];right;exact Vb)
  ·rw[q,hk] at ho;cases ho;rcases w with⟨xs,z|⟨ob,z⟩⟩<;>cases z
 ·rw[pj (v:=λe=>e.2) λx=>rfl];exact B.nd
def BookAt.ne{K}(B:BookAt K C H b z O3 L):z.dt≠z.dm/\z.dt≠z.dl/\z.dm≠z.dl:=by obtain⟨n1,r1⟩:=ar.mp B.nd;obtain⟨n2,r2⟩:=ar.mp r1;obtain⟨n3,r3⟩:=ar.mp r2;obtain⟨n4,r4⟩:=ar.mp r3;exact⟨λq=>n3 (by rw[q];simp),λq=>n3 (by rw[q];simp),λq=>n4 (by rw[q];simp)⟩
def Li(v:Ent->Int)(hh:oI L h=true)(g1:∀x,(g x).nm=x.nm)(hv:∀x,v (g x)=n) :
  qf (L.map λe=>((ag e.1.nm:Key),V.int (v e.1))) (ag h) (.int n)=(uS L h g).map λe=>((ag e.1.nm:Key),V.int (v e.1)):=by
 have hs:(om (L.map λe=>((ag e.1.nm:Key),V.int (v e.1))) (ag h)).isSome=true:=by rw[p8 (key:=λe:Ent×ak=>e.1.nm),cS];exact hh
 unfold qf;rw[wm,Zc hs];unfold uS;rw[aA,aA];refine aQ λx _=>?_;show(if(ag x.1.nm:Key)=ag h then((ag x.1.nm:Key),V.int n) else((ag x.1.nm:Key),V.int (v x.1)))=((ag (if x.1.nm=h then(g x.1,x.2) else x).1.nm:Key),V.int (v (if x.1.nm=h then(g x.1,x.2) else x).1));by_cases e:x.1.nm=h
 ·rw[Zc (by rw[e]),Zc e,g1,hv]
 ·rw[Zd (λw=>e (du w)),Zd e]
section
variable{P:aK}{w:a6}{K:aa}{mg:Str->Option ah}{base:bx}{a:Adr}{f:ak}{fd:cz}
def Fk(K:aa)(a:Adr)(ad:BA->ak)(g:Int->Ent->Ent)(neg:Bool):Sp:=λvs H Q E=>∃b z O3 L h n,vs=[.ref b,.str h,.int n]/\BookAt K a.Book H b z O3 L/\Nm h /\
 (oI L h=false->E (.ref a.NoHouse) Zb H)/\(oI L h=true->neg=true->n<0->E (.ref a.NoLoss) Zb H) /\
 (oI L h=true->(neg=true->0<=n)->∀H',BookAt K a.Book H' b z O3 (uS L h (g n))->(∀c o,H c=Za o->c≠ad z->H' c=Za o)->Q .non H')
abbrev rg:bQ:=m7 (top 40) 9
def yt:FnScope ["self","house","number"] ["self","house","number"] (lP rg):=fsc
def GZ(F:Fun K "things" "Book.things" rg f fd)(T:Txt K mg a)(O8:Mt P w K mg base a.Book "need_house" 2 ["self","name"] (nM K a)):FnOk P w K mg base (CXo P w) 3 f fd ["self","house","number"] (Fk K a (·.dt) (λn x=>{ x with th:=n }) false):=by
 refine F.okX yt (λvs H Q E h=>?_) (λPb A outer s H vs Q E hr h=>?_)
 ·obtain⟨b,z,O3,L,h,n,rfl,_⟩:=h;rfl
 ·obtain⟨b,z,O3,L,h,n,rfl,B,nm,k1,k2,k3⟩:=h;have hu:=nQ hr;refine⟨_,(@l9 _ _ _ _ _ (@oW _ _ _ _ (rN (pv 0) O8 (hr.mono (by first|decide|lia)) oC (@lW _ _ _ _ _ (pv 1) pa_nil (by rfl))) (by rfl)) (@mj _ _ _ (qh hu (m6 (pv 0) rfl) (pv 1) (pv 2) rfl))),?_⟩;refine⟨_,rfl,b,_,_,rfl,B.ob,rP z,_,rfl,b,z,O3,L,h,rfl,B,nm,λhh=>?_,λhh=>k1 hh⟩;refine⟨_,rfl,_,rfl,b,_,_,_,_,rfl,B.ob,T.cl,T.nA_things_of,uR z,_,rfl,z.dt,_,rfl,DPut.k (k:=ag h) B.tt ?_,?_⟩
  ·rw[ac];exact aZ B.h8 (by decide)
  ·have hb:=B.renum (h:=h) (g:=λx=>{ x with th:=n }) (H':=upd H z.dt (.dK (qf (L.map λe=>((ag e.1.nm:Key),V.int e.1.th)) (ag h) (.int n)))) (.inl rfl) (λ_=>rfl) (λ_=>rfl) ?_ ?_ ?_ (λc o hc hn=>by rw[lK hn];exact hc)
   ·exact k3 hh (λz=>by cases z) _ hb λc o hc hn=>by rw[lK hn];exact hc
   ·rw[lN,Li (g:=λx=>{ x with th:=n }) (λx=>x.th) hh (λ_=>rfl) (λ_=>rfl)]
   ·rw[lK (B.ne.1.symm),pj (v:=λe=>((ag e.1.nm:Key),V.int e.1.mr)) λx=>rfl];exact B.mm
   ·rw[lK (B.ne.2.1.symm),pj (v:=λe=>((ag e.1.nm:Key),V.int e.1.ls)) λx=>rfl];exact B.ll
end
def No(i j):Mf [V.int i,V.int j] [V.int 0,V.int 1]=decide ((i,j)=((0:Int),(1:Int))):=by show(eqV (.int i) (.int 0)&&(eqV (.int j) (.int 1)&&true))=_;have e1:∀i j:Int,eqV (.int i) (.int j)=decide (i=j):=λi j=>rfl;rw[e1,e1,Bool.and_true,bZ,cx,decide_eq_true_iff,decide_eq_true_iff,decide_eq_true_iff,Prod.mk.injEq]
def bt0(k):Bt k 0:=cq k
def bt1(h:k≠0):Bt k 1:=Nat.one_lt_two_pow h
def sz0:Sz (0,1):=⟨⟨by decide,(rfl:aF 0 1=1)⟩,bt0 _,bt1 (by decide)⟩
theorem HeldZ.same{K}(h:HeldZ K H p l z)(s:Same H H'):HeldZ K H' p l z :=
 ⟨h.1,s _ _ h.2.1,λq hq=>(h.2.2 q hq).same s⟩
def HeldZ.get{K}(h:HeldZ K H p l z)(ho:FrAt K H o (0,1))(n) :
  ∃x,(om (z.map λq=>((ag q.1.1:Key),V.ref q.2)) (ag n)).getD (.ref o)=.ref x/\FrAt K H x (l7 l n):=by
 rcases h.val n with⟨_,hv,hg⟩|⟨_,x,hv,hx⟩
 ·exact⟨o,by rw[hv];rfl,by rw[hg];exact ho⟩
 ·exact⟨x,by rw[hv];rfl,hx⟩
def oV(l:Hl)(o:Str)(q:Int×Int):Prop:=¬ 0<q.1\/q.1*(l7 l o).2>(l7 l o).1*q.2
instance (l:Hl) (o:Str) (q:Int×Int):Decidable (oV l o q):=by unfold oV;infer_instance
section
variable{P:aK}{w:a6}{K:aa}{mg:Str->Option ah}{base:bx}{a:Adr}{f:ak}{fd:cz}
abbrev ua:bQ:=m7 (top 40) 8
def sc_Book_sale:FnScope ["self","house","one","other","share","held","rest"] ["self","house","one","other","share"] (lP ua):=fsc
structure SaleOk(l:Hl)(o1:Str)(q:Int×Int):Prop where
 len:l.length<1000
 sz:∀n,Sz (l7 l n)
 rs:¬oV l o1 q->Sz (nG (l7 l o1) (-q.1,q.2))
def FL(K:aa)(a:Adr):Sp:=λvs H Q E=>∃b z O3 L h o1 o2 sp q,vs=[.ref b,.str h,.str o1,.str o2,.ref sp]/\BookAt K a.Book H b z O3 L/\(L.map (·.1.nm)).Nodup/\Nm h/\Nm o1/\Nm o2/\FrAt K H sp q/\Sz q /\
 (∀e,nR L h=Za e->SaleOk e.1.held o1 q) /\
 (oI L h=false->E (.ref a.NoHouse) Zb H) /\
 (oI L h=true->(oH O3 o1||oI L o1)=false->E (.ref a.NoHolder) Zb H) /\
 (oI L h=true->(oH O3 o1||oI L o1)=true->(oH O3 o2||oI L o2)=false->E (.ref a.NoHolder) Zb H) /\
 (∀e,nR L h=Za e->(oH O3 o1||oI L o1)=true->(oH O3 o2||oI L o2)=true->oV e.1.held o1 q->E (.ref a.NoShare) Zb H) /\
 (∀e,nR L h=Za e->(oH O3 o1||oI L o1)=true->(oH O3 o2||oI L o2)=true->¬oV e.1.held o1 q->∀H',BookAt K a.Book H' b z O3 (uS L h λx=>{ x with held:=sold x.held o1 o2 q })->(∀c o,H c=Za o->c≠e.2->H' c=Za o)->Q .non H')
def LH(F:Fun K "sale" "Book.sale" ua f fd)(T:Txt K mg a)(O8:Mt P w K mg base a.Book "need_house" 2 ["self","name"] (nM K a))(Pe:Mt P w K mg base a.Book "need_holder" 3 ["self","name"] (oZ K a))(PU:Fn P w K mg base "is_above" 1 ["first","second"] (Dy K))(Rs:Fn P w K mg base "minus" 3 ["first","second"] (Dw K))(Qp:Fn P w K mg base "plus" 2 ["first","second"] (yH K)) :
  FnOk P w K mg base (CXo P w) 4 f fd ["self","house","one","other","share"] (FL K a):=by
 refine F.okX sc_Book_sale (λvs H Q E h=>?_) (λPb A outer s H vs Q E hr h=>?_)
 ·obtain⟨b,z,O3,L,h,o1,o2,sp,q,rfl,_⟩:=h;rfl
 ·obtain⟨b,z,O3,L,h,o1,o2,sp,q,rfl,B,nd,nh,n1,n2,hq,sq,hok,k1,k2,k3,k4,k5⟩:=h;have hu:=nQ hr;refine⟨_,(@l9 _ _ _ _ _ (@oW _ _ _ _ (rN (pv 0) O8 (hr.mono (by first|decide|lia)) oC (@lW _ _ _ _ _ (pv 1) pa_nil (by rfl))) (by rfl)) (@l9 _ _ _ _ _ (@oW _ _ _ _ (rN (pv 0) Pe (hr.mono (by first|decide|lia)) oC (@lW _ _ _ _ _ (pv 2) pa_nil (by rfl))) (by rfl)) (@l9 _ _ _ _ _ (@oW _ _ _ _ (rN (pv 0) Pe (hr.mono (by first|decide|lia)) oC (@lW _ _ _ _ _ (pv 3) pa_nil (by rfl))) (by rfl)) (@l9 _ _ _ _ _ (@rm _ _ (5) _ _ _ _ sc_Book_sale.nd rfl (eO rfl) (@qM _ _ _ _ _ _ hu (m6 (pv 0) rfl) (pv 1) (λ_ _=>rfl)) (by rfl) (by first|exact .inl rfl|exact .inr rfl|assumption)) (@l9 _ _ _ _ _ (@wq _ _ _ _ _ _ _ _ (PW.pt (M0 (CQ (vX (@wu _ _ _ _ _ _ _ _ _ _ _ PU (hr.mono (by first|decide|lia)) rfl oC (@lW _ _ _ _ _ (pv 4) (@lW _ _ _ _ _ (rE rfl T.g_ZERO T.r_ZERO) pa_nil (by rfl)) (by rfl)) (by decide) (by rfl) (by rfl)))) (JS (vX (@wu _ _ _ _ _ _ _ _ _ _ _ PU (hr.mono (by first|decide|lia)) rfl oC (@lW _ _ _ _ _ (pv 4) (@lW _ _ _ _ _ (@zN _ _ _ _ _ _ _ _ _ hu (pv 5) (pv 2) (rE rfl T.g_ZERO T.r_ZERO) ⟨rfl,rfl,rfl,rfl⟩) pa_nil (by rfl)) (by rfl)) (by decide) (by rfl) (by rfl)))))) (@mj _ _ _ (qg T.x_NoShare rfl T.c_NoShare rfl (EJ (yh (pv 2) (Ad (yh (pv 1) Ae)))) yW)) pss_nil) (@l9 _ _ _ _ _ (@rm _ _ (6) _ _ _ _ sc_Book_sale.nd rfl (eO rfl) (@wu _ _ _ _ _ _ _ _ _ _ _ Rs (hr.mono (by first|decide|lia)) rfl oC (@lW _ _ _ _ _ (@qM _ _ _ _ _ _ hu (pv 5) (pv 2) (λ_ _=>rfl)) (@lW _ _ _ _ _ (pv 4) pa_nil (by rfl)) (by rfl)) (by decide) (by rfl) (by rfl)) (by rfl) (by first|exact .inl rfl|exact .inr rfl|assumption)) (@l9 _ _ _ _ _ (@wq _ _ _ _ _ _ _ _ (@uV _ _ _ _ _ _ _ _ (N5 (Nat.lt_of_succ_lt hu)) (pv 6) (rE rfl T.g_ZERO T.r_ZERO) (uY _)) (@mj _ _ _ (@oW _ _ _ _ (DP (pv 5) (pv 2) ⟨rfl,rfl,rfl,rfl⟩) (by rfl))) (@mj _ _ _ (qh hu (pv 5) (pv 2) (pv 6) rfl))) (@mj _ _ _ (qh hu (pv 5) (pv 3) (@wu _ _ _ _ _ _ _ _ _ _ _ Qp (hr.mono (by first|decide|lia)) rfl oC (@lW _ _ _ _ _ (@zN _ _ _ _ _ _ _ _ _ hu (pv 5) (pv 3) (rE rfl T.g_ZERO T.r_ZERO) ⟨rfl,rfl,rfl,rfl⟩) (@lW _ _ _ _ _ (pv 4) pa_nil (by rfl)) (by rfl)) (by decide) (by rfl) (by rfl)) rfl))))))))),?_⟩;have bn:∀{m:Str},¬m="people"->¬m="things_of"->¬m="mark_of"->¬m="loss_of"->¬m="held_of"->(bf z).lookup m=none:=λa b c d e=>rP z a b c d e;refine⟨_,rfl,b,_,_,rfl,B.ob,rP z,_,rfl,b,z,O3,L,h,rfl,B,nh,λhh=>?_,λhh=>k1 hh⟩;refine⟨_,rfl,b,_,_,rfl,B.ob,rP z,_,rfl,b,z,O3,L,o1,rfl,B,n1,λh1=>?_,λh1=>k2 hh h1⟩;refine⟨_,rfl,b,_,_,rfl,B.ob,rP z,_,rfl,b,z,O3,L,o2,rfl,B,n2,λh2=>?_,λh2=>k3 hh h1 h2⟩;cases he:nR L h with
  |none=>unfold oI at hh;unfold nR at he;rw[he] at hh;cases hh
  |some e =>
  have R9:=qH he;have ok:=hok e he;obtain⟨zz,Zj⟩:=(B.he e R9).toZ;have Re:=B.hh.dget h;rw[yg _ he] at Re;have Qe:∀H,FrAt K H a.ZERO (0,1):=λH=>.inr T.zero;refine⟨_,rfl,b,_,_,_,_,rfl,B.ob,T.cl,T.nA_held_of,rK z,_,rfl,_,_,rfl,Re,?_⟩;refine⟨_,rfl,sp,a.ZERO,q,(0,1),rfl,hq,Qe H,sq,sz0,_,rfl,vA (λh3=>?_) (λh3=>?_)⟩
  ·have h3:=of_decide_eq_false (nbT h3);exact L0 ⟨_,rfl,⟨o1,rfl,n1⟩,_,rfl,⟨h,rfl,nh⟩,λy=>k4 e he h1 h2 (.inl (by simp only at h3;lia))⟩
  have q0:0<q.1:=by have:=Zf (nbF h3);simp only at this;lia
  obtain⟨x0,Te,fx0⟩:=Zj.get (Qe H) o1;refine⟨_,rfl,_,rfl,e.2,rfl,.inl ⟨_,.inl Zj.2.1⟩,_,rfl,_,DGet.k (k:=ag o1) Zj.2.1,?_⟩;rw[Te];refine⟨sp,x0,q,_,rfl,hq,fx0,sq,ok.sz o1,_,rfl,vA (λh4=>?_) (λh4=>?_)⟩
  ·have h4:=Zf h4;exact⟨_,rfl,⟨o1,rfl,n1⟩,_,rfl,⟨h,rfl,nh⟩,λy=>k4 e he h1 h2 (.inr h4)⟩
  have h4:¬q.1*(l7 e.1.held o1).2>(l7 e.1.held o1).1*q.2:=λz=>h4 (Zg z);have ntm:¬oV e.1.held o1 q:=λz=>z.elim (λy=>y q0) h4;rcases Zj.val o1 with⟨_,_,hg⟩|⟨hn,x,hv,hx⟩
  ·exfalso;rw[hg] at h4;simp only at h4;lia
  have R6:DGet H e.2 (.str o1) (Za (.ref x)):=by have:=DGet.k (k:=ag o1) Zj.2.1;rw[hv] at this;exact this
  refine⟨_,rfl,_,rfl,e.2,_,rfl,R6,_,rfl,x,sp,_,_,rfl,hx,hq,ok.sz o1,sq,λr H1 hr0 s1 Ti=>?_⟩;have Z1:=Zj.same s1;have Pq:∀H2 l1 z2,HeldZ K H2 e.2 l1 z2->sold e.1.held o1 o2 q=nz l1 o2 (nG (l7 l1 o2) q)->(∀c o,H c=Za o->c≠e.2->H2 c=Za o)->Sz (l7 l1 o2)->l1.length<=e.1.held.length->FrAt K H2 sp q ->
    MU (HX 5) (HX 3) (Kw (yH K) [] E (Kv (JJ (HX 5) (HX 3) (tC (V.ref a.ZERO))) (Kv (HX 4) JI))) { nx:=λx H'=>Q V.non H',rt:=Q } [Za (V.ref b),Za (V.str h),Za (V.str o1),Za (V.str o2),Za (V.ref sp),Za (V.ref e.2),Za (V.ref r)] H2:=by
   intro H2 l1 z2 Z2 es kp szl len fq;obtain⟨y,hy,fy⟩:=Z2.get (Qe H2) o2;refine⟨_,rfl,e.2,rfl,.inl ⟨_,.inl Z2.2.1⟩,_,rfl,_,DGet.k (k:=ag o2) Z2.2.1,?_⟩;rw[hy];refine⟨_,rfl,y,sp,_,_,rfl,fy,fq,szl,sq,λt ht=>?_⟩;have st:=qe (o:=.tup [.int (nG (l7 l1 o2) q).1,.int (nG (l7 l1 o2) q).2]) ht;have Z3:=Z2.same st;refine⟨_,rfl,_,rfl,e.2,_,rfl,DPut.k (k:=ag o2) Z3.2.1 ?_,?_⟩
   ·rw[ac,<-ac (f:=(·.1)),Z2.1];exact aZ len (g7 ok.len (by decide))
   ·obtain⟨z4,Z4⟩:=Z3.put (n:=o2) (x:=t) (q:=nG (l7 l1 o2) q) (SqT.of lN);have kp':∀c o,H c=Za o->c≠e.2->(upd (upd H2 t (.tup [.int (nG (l7 l1 o2) q).1,.int (nG (l7 l1 o2) q).2])) e.2 (.dK (qf (z2.map λq=>((ag q.1.1:Key),V.ref q.2)) (ag o2) (.ref t)))) c=Za o:=λc o hc hn=>by rw[lK hn];exact st c o (kp c o hc hn)
    refine k5 e he h1 h2 ntm _ (B.reheld nd he (λx=>rfl) ?_ kp') kp';show HeldAt K _ e.2 (sold e.1.held o1 o2 q);rw[es];exact Z4.held
  refine⟨_,rfl,r,a.ZERO,_,_,rfl,rfl,SqT.of Ti,.inr T.zero,rfl,rfl,rfl,_,rfl,vA (λh5=>?_) (λh5=>?_)⟩
  ·rw[No] at h5;have h5:nG (l7 e.1.held o1) (-q.1,q.2)=(0,1):=Zf h5;refine⟨_,rfl,e.2,rfl,.inl ⟨_,.inl Z1.2.1⟩,_,rfl,_,ag o1,.ref x,Z1.2.1,rfl,hv,?_⟩;obtain⟨z2,Z2⟩:=Z1.drop (n:=o1);refine Pq _ _ z2 Z2 ?_ (λc o hc hn=>by rw[lK hn];exact s1 c o hc) ?_ (DU _ _) (CW Z1.2.1 (hq.same s1))
   ·unfold sold;simp only[h5,if_true]
   ·rw[pT];by_cases e2:o2=o1
    ·rw[Zc e2];exact sz0
    ·rw[Zd e2];exact ok.sz o2
  ·rw[No] at h5;have h5:¬nG (l7 e.1.held o1) (-q.1,q.2)=(0,1):=λz=>h5 (Zg z);refine⟨_,rfl,_,rfl,_,rfl,e.2,_,rfl,DPut.k (k:=ag o1) Z1.2.1 ?_,?_⟩
   ·rw[ac,<-ac (f:=(·.1)),Zj.1];exact g7 ok.len (by decide)
   ·obtain⟨z2,Z2⟩:=Z1.put (n:=o1) (x:=r) (q:=nG (l7 e.1.held o1) (-q.1,q.2)) (SqT.of Ti);refine Pq _ _ z2 Z2 ?_ (λc o hc hn=>by rw[lK hn];exact s1 c o hc) ?_ ?_ (CW Z1.2.1 (hq.same s1))
    ·unfold sold;simp only[h5,if_false]
    ·rw[mV];by_cases e2:o2=o1
     ·rw[Zc e2];exact ok.rs ntm
     ·rw[Zd e2];exact ok.sz o2
    ·have:=congrArg cg (m9 e.1.held o1 (nG (l7 e.1.held o1) (-q.1,q.2)));rw[Zc hn,ac,ac] at this;exact kQ this
end
def mI(L:List Ent)(n:Str):Option Ent:=L.find? λe=>decide (e.nm=n)
def mv(L:List Ent)(n:Str):Bool:=(mI L n).isSome
def mW(L:List Ent)(h:Str)(g:Ent->Ent):List Ent:=L.map λx=>if x.nm=h then g x else x
def Bo(L)(n):(nR L n).map (·.1)=mI (L.map (·.1)) n:=by unfold nR mI;rw[fc];rfl
def nU(L)(n):oI L n=mv (L.map (·.1)) n:=by unfold mv;rw[<-Bo];unfold oI nR;rw[cS]
def DB(L:List (Ent×ak))(h:Str)(g:Ent->Ent):(uS L h g).map (·.1)=mW (L.map (·.1)) h g:=by
 unfold uS mW;rw[aA,aA];refine aQ λx _=>?_;show(if x.1.nm=h then(g x.1,x.2) else x).1=if x.1.nm=h then g x.1 else x.1
 split<;>rfl
def rF(a:Adr)(pp:List Str)(L:List Ent)(x:Str):Option ak:=if vR x=false then Za a.NoName else if(oH pp x||mv L x)=true then Za a.Twice else Zb
def wQ(a:Adr)(pp:List Str)(L:List Ent)(x:Str):Option ak:=match rF a pp L x with
 |some c=>Za c
 |none=>if 6<=pp.length then Za a.TooMany else Zb
def wW(a:Adr)(pp:List Str)(L:List Ent)(x o:Str)(l:Int):Option ak:=match rF a pp L x with
 |some c=>Za c
 |none=>if(oH pp o||mv L o)=false then Za a.NoHolder else if l<0 then Za a.NoLoss else if 8<=L.length then Za a.TooMany else Zb
def yT(a)(pp)(L)(x):rn a pp L x=rF a pp (L.map (·.1)) x:=by unfold rn rF;rw[nU]
def yQ(a)(pp)(L)(x):uW a pp L x=wQ a pp (L.map (·.1)) x:=by unfold uW wQ;rw[yT];try (cases rF a pp (L.map (·.1)) x<;>rfl)
def y9(a)(pp)(L)(x o)(l):sf a pp L x o l=wW a pp (L.map (·.1)) x o l:=by unfold sf wW;rw[yT,nU,ac];try (cases rF a pp (L.map (·.1)) x<;>rfl)
noncomputable instance (x:Str):Decidable (Nm x):=dF _
def mM(vs:List PV)(s:Sto)(k:Nat->List Str->List Ent->List PV->Out PV):Out PV:=match vs with
 |.ref n::r=>match s.get n with
  |some (.book pp L)=>k n pp L r
  |_=>.bad
 |_=>.bad
def uJ(a:Adr)(vs:List PV)(s:Sto):Out PV:=mM vs s λn pp L r=>match r with
 |[.str x]=>if Nm x then(match wQ a pp L x with
  |none=>.ok .non (s.set n (.book (pp++[x]) L))
  |some c=>.ex c s) else .bad
 |_=>.bad
def wZ(a:Adr)(vs:List PV)(s:Sto):Out PV:=mM vs s λn pp L r=>match r with
 |[.str x,.str o,.int t,.int m,.int l]=>if Nm x/\Nm o then(match wW a pp L x o l with
  |none=>.ok .non (s.set n (.book pp (L++[⟨x,t,m,l,[(o,1,1)]⟩])))
  |some c=>.ex c s) else .bad
 |_=>.bad
def oX(_:Adr)(vs:List PV)(s:Sto):Out PV:=mM vs s λ_ pp _ r=>match r with
 |[]=>.ok (.lst ((srt pp).map .str)) s
 |_=>.bad
def nl(_:Adr)(vs:List PV)(s:Sto):Out PV:=mM vs s λ_ _ L r=>match r with
 |[]=>.ok (.lst ((srt (L.map (·.nm))).map .str)) s
 |_=>.bad
def frP(q:Int×Int):PV:=.tup [.int q.1,.int q.2]
def tG(q:Str×Int×Int):PV:=.tup [.str q.1,frP q.2]
def qK(l:List (Str×Int×Int)):PV:=.lst ((srt (l.map (·.1))).map λn=>tG (mD l n))
def oj(a:Adr)(vs:List PV)(s:Sto):Out PV:=mM vs s λ_ _ L r=>match r with
 |[.str x]=>if Nm x then(match mI L x with
  |none=>.ex a.NoHouse s
  |some e=>if e.held.length<64 then .ok (qK e.held) s else .bad) else .bad
 |_=>.bad
def Ks(a:Adr)(vs:List PV)(s:Sto):Out PV:=mM vs s λ_ _ L r=>match r with
 |[.str x]=>if Nm x then(match mI L x with
  |none=>.ex a.NoHouse s
  |some e=>.ok (.tup [.int e.th,.int e.mr,.int e.ls]) s) else .bad
 |_=>.bad
def o7(a:Adr)(vs:List PV)(s:Sto):Out PV:=mM vs s λ_ _ L r=>match r with
 |[.str x]=>if Nm x then(if mv L x=true then .ok .non s else .ex a.NoHouse s) else .bad
 |_=>.bad
def oB(a:Adr)(vs:List PV)(s:Sto):Out PV:=mM vs s λ_ pp L r=>match r with
 |[.str x]=>if Nm x then(if(oH pp x||mv L x)=true then .ok .non s else .ex a.NoHolder s) else .bad
 |_=>.bad
structure SaleE(L:List Ent)(h o1 o2:Str)(q:Int×Int):Prop where
 nd:(L.map (·.nm)).Nodup
 nm:Nm h/\Nm o1/\Nm o2
 sz:Sz q
 ok:∀e,mI L h=Za e->SaleOk e.held o1 q
noncomputable instance (L:List Ent) (h o1 o2:Str) (q:Int×Int):Decidable (SaleE L h o1 o2 q):=dF _
def wg(a:Adr)(vs:List PV)(s:Sto):Out PV:=mM vs s λn pp L r=>match r with
 |[.str h,.str o1,.str o2,.tup [.int t,.int b]]=>if SaleE L h o1 o2 (t,b) then(match mI L h with
  |none=>.ex a.NoHouse s
  |some e=>if(oH pp o1||mv L o1)=false then .ex a.NoHolder s else if(oH pp o2||mv L o2)=false then .ex a.NoHolder s
   else if oV e.held o1 (t,b) then .ex a.NoShare s else .ok .non (s.set n (.book pp (mW L h λx=>{ x with held:=sold x.held o1 o2 (t,b) })))) else .bad
 |_=>.bad
section
variable{K:aa}{H:Hp}{m:Mp}{s:Sto}{a:Adr}
def M4(S:SR K CB H m s)(hg:s.get n=Za (.book pp L))(eF:m.fp n=BFp (m.ad n) z L')(B':BookAt K CB H' (m.ad n) z pp' L2)(k:∀a o,H a=Za o->a∉BFp (m.ad n) z L'->H' a=Za o)(P0:∀a∈BFp (m.ad n) z L2,a∈BFp (m.ad n) z L'\/H a=Zb) :
  SR K CB H' (m.fput n (BFp (m.ad n) z L2)) (s.set n (.book pp' (L2.map (·.1))))/\Ext H m s H' (m.fput n (BFp (m.ad n) z L2)) (s.set n (.book pp' (L2.map (·.1)))) :=
 S.put hg (by intro _ z;cases z) H' _ (by rw[eF];exact k) (by rw[eF];exact P0) λ_=>⟨z,L2,B',rfl,by show(if n=n then _ else _)=_;rw[Zc rfl];rfl⟩
def onB(S:SR K CB H m s)(r:Reps K H m s xs vs)(P:Post K CB (Rep K) E (mM vs s k) H m s Q) :
  ∃n pp L z L' us ys,s.get n=Za (.book pp L)/\BookAt K CB H (m.ad n) z pp L'/\L'.map (·.1)=L/\m.fp n=BFp (m.ad n) z L'/\xs=.ref (m.ad n)::us/\Reps K H m s us ys/\Post K CB (Rep K) E (k n pp L ys) H m s Q:=by
 unfold mM at P;split at P
 ·rename_i n r';split at P
  ·rename_i pp L hg;obtain⟨z,L',B,e1,e2⟩:=S.get hg;cases r with
   |cons r1 r2 =>
    cases r1;exact⟨n,pp,L,z,L',_,_,hg,B,e1,e2,rfl,r2,P⟩
  ·exact P.elim
 ·exact P.elim
def L5(h:e∈L):e.2∈BFp b z L:=by unfold BFp;simp only[af];right;right;right;right;right;right;exact aj.mpr ⟨e,h,rfl⟩
def Ip(L:List (Ent×ak))(h:Str)(g:Ent->Ent):(uS L h g).map (·.2)=L.map (·.2):=by unfold uS;rw[aA];refine aQ λx _=>?_;show(if x.1.nm=h then(g x.1,x.2) else x).2=x.2;split<;>rfl
def FO(b)(z)(L)(h)(g):BFp b z (uS L h g)=BFp b z L:=by unfold BFp;rw[Ip]
def wR(r:Reps K H m s us [.str x]):us=[.str x]:=by
 cases r with
 |cons a b=>cases a;cases b;rfl
def Ey(vs)(H)(Q)(E)(h:spD K a.Book 2 (uJ a) vs H Q E):AZ K a vs H Q E:=by
 obtain⟨_,ps,s,m,r,S,P⟩:=h;obtain⟨n,pp,L,z,L',us,ys,hg,B,e1,e2,rfl,r',P⟩:=onB S r P;split at P
 ·split at P
  ·rename_i x hx;cases wR r';refine⟨_,z,pp,L',x,rfl,B,hx,λhd H' B' k=>?_,λc hd H' k=>?_⟩
   ·rw[yQ,e1] at hd;rw[hd] at P;obtain⟨S2,x2⟩:=M4 S hg e2 B' (λc o h hc=>k c o h λz=>hc (by rw[z];simp[BFp])) (λc hc=>.inl hc);rw[e1] at S2 x2;exact P _ _ _ x2 S2 .non
   ·rw[yQ,e1] at hd;rw[hd] at P;exact P _ m (.same k) (S.same k)
  ·exact P.elim
 ·exact P.elim
def GI(vs)(H)(Q)(E)(h:spD K a.Book 6 (wZ a) vs H Q E):Dx K a vs H Q E:=by
 obtain⟨_,ps,s,m,r,S,P⟩:=h;obtain⟨n,pp,L,z,L',us,ys,hg,B,e1,e2,rfl,r',P⟩:=onB S r P;split at P
 ·split at P
  ·rename_i x o t mm l hx;cases r' with
   |cons q1 r'=>cases r' with
    |cons q2 r'=>cases r' with
     |cons q3 r'=>cases r' with
      |cons q4 r'=>cases r' with
       |cons q5 r' =>
        cases r';cases q1;cases q2;cases q3;cases q4;cases q5;refine⟨_,z,pp,L',x,o,t,mm,l,rfl,B,hx.1,hx.2,λhd p H' hp B' k=>?_,λc hd H' k=>?_⟩
        ·rw[y9,e1] at hd;rw[hd] at P;obtain⟨S2,x2⟩:=M4 S hg e2 B' (λc o h hc=>k c o h λz=>hc (by unfold BFp;simp only[af,cN,or_false] at z ⊢;rcases z with z|z|z|z<;>simp[z])) (λc hc=>by
          unfold BFp at hc ⊢;rw[aB] at hc;simp only[af,aP,ao,cP,cN,or_false] at hc ⊢;rcases hc with h|h|h|h|h|h|h|h
          ·exact .inl (.inl h)
          ·exact .inl (.inr (.inl h))
          ·exact .inl (.inr (.inr (.inl h)))
          ·exact .inl (.inr (.inr (.inr (.inl h))))
          ·exact .inl (.inr (.inr (.inr (.inr (.inl h)))))
          ·exact .inl (.inr (.inr (.inr (.inr (.inr (.inl h))))))
          ·exact .inl (.inr (.inr (.inr (.inr (.inr (.inr h))))))
          ·rw[h];exact .inr hp)
         rw[aB,e1] at S2 x2;exact P _ _ _ x2 S2 .non
        ·rw[y9,e1] at hd;rw[hd] at P;exact P _ m (.same k) (S.same k)
  ·exact P.elim
 ·exact P.elim
def C7(vs)(H)(Q)(E)(h:spD K a.Book 1 (oX a) vs H Q E):yI K a.Book vs H Q E:=by
 obtain⟨_,ps,s,m,r,S,P⟩:=h;obtain⟨n,pp,L,z,L',us,ys,hg,B,e1,e2,rfl,r',P⟩:=onB S r P;split at P
 ·cases r';exact⟨_,z,pp,L',rfl,B,λl hl=>P.new S hl λex S'=>.lst lN (S.pure_none hl) (.ofStrs _)⟩
 ·exact P.elim
def Ez(vs)(H)(Q)(E)(h:spD K a.Book 1 (nl a) vs H Q E):xj K a.Book vs H Q E:=by
 obtain⟨_,ps,s,m,r,S,P⟩:=h;obtain⟨n,pp,L,z,L',us,ys,hg,B,e1,e2,rfl,r',P⟩:=onB S r P;split at P
 ·cases r';refine⟨_,z,pp,L',rfl,B,λl hl=>P.new S hl λex S'=>.lst lN (S.pure_none hl) ?_⟩;rw[<-e1,aA];exact .ofStrs _
 ·exact P.elim
def vC(e:L'.map (·.1)=L):(∀q,nR L' x=Za q->mI L x=Za q.1)/\(nR L' x=Zb->mI L x=Zb):=by have:=Bo L' x;rw[e] at this;refine⟨λq h=>?_,λh=>?_⟩<;>(rw[h] at this;exact this.symm)
theorem Bc:∀{l:List (Str×Int×Int)}{vs:List V}{m:Mp}{s:Sto}{CB:ak}{H:Hp},SR K CB H m s->eT (PairAt K H) l vs->Reps K H m s vs (l.map tG)
 |_,_,_,_,_,_,_,.nil=>.nil
 |_,_,m,s,CB,H,S,.cons r t=>by obtain⟨p,q,rfl,h1,h2⟩:=r;have tp:∀{c:ak}{xs:List V},SqT K H c xs->(Rd H c (.tup xs)/\Pur m s c\/KT' K c xs):=λh=>h.elim (λz=>.inl ⟨z,z.elim (λz=>S.pure_tup z) λ⟨_,z⟩=>S.pure_frz (.inl z)⟩) .inr;exact .cons (.tup (tp h1) (.cons .str (.cons (.tup (tp h2) (.cons .int (.cons .int .nil))) .nil))) (Bc S t)
def Ex(vs)(H)(Q)(E)(h:spD K a.Book 2 (oj a) vs H Q E):AY K a vs H Q E:=by
 obtain⟨_,ps,s,m,r,S,P⟩:=h;obtain⟨n,pp,L,z,L',us,ys,hg,B,e1,e2,rfl,r',P⟩:=onB S r P;split at P
 ·split at P
  ·rename_i x hx;cases wR r';obtain⟨f1,f2⟩:=vC (x:=x) e1;refine⟨_,z,pp,L',x,rfl,B,hx,λe he=>?_,λhe=>?_⟩
   ·rw[f1 e he] at P;dsimp only at P;split at P
    ·rename_i RD;refine⟨RD,λl SH H' hl k h' pr=>?_⟩;have S':=S.same k;refine P _ H' m (.same k) S' (.lst h' ?_ ?_)
     ·have:=S.pure_none hl;exact this
     ·have:=Bc (m:=m) (s:=s) S' pr;rw[aA] at this;exact this
    ·exact P.elim
   ·rw[f2 he] at P;exact P H m .refl S
  ·exact P.elim
 ·exact P.elim
def NH(vs)(H)(Q)(E)(h:spD K a.Book 2 (Ks a) vs H Q E):MT K a vs H Q E:=by
 obtain⟨_,ps,s,m,r,S,P⟩:=h;obtain⟨n,pp,L,z,L',us,ys,hg,B,e1,e2,rfl,r',P⟩:=onB S r P;split at P
 ·split at P
  ·rename_i x hx;cases wR r';obtain⟨f1,f2⟩:=vC (x:=x) e1;refine⟨_,z,pp,L',x,rfl,B,hx,λe he t ht=>?_,λhe=>?_⟩
   ·rw[f1 e he] at P;exact P.new S ht λex S'=>.tup (.inl ⟨.inl lN,S'.pure_tup lN⟩) (.cons .int (.cons .int (.cons .int .nil)))
   ·rw[f2 he] at P;exact P H m .refl S
  ·exact P.elim
 ·exact P.elim
def yn(vs)(H)(Q)(E)(h:spD K a.Book 2 (o7 a) vs H Q E):nM K a vs H Q E:=by
 obtain⟨_,ps,s,m,r,S,P⟩:=h;obtain⟨n,pp,L,z,L',us,ys,hg,B,e1,e2,rfl,r',P⟩:=onB S r P;split at P
 ·split at P
  ·rename_i x hx;cases wR r';refine⟨_,z,pp,L',x,rfl,B,hx,λh=>?_,λh=>?_⟩
   ·rw[nU,e1] at h;rw[Zc h] at P;exact P.here S .non
   ·rw[nU,e1] at h;rw[Zd (by rw[h];decide)] at P;exact P H m .refl S
  ·exact P.elim
 ·exact P.elim
def xU(vs)(H)(Q)(E)(h:spD K a.Book 2 (oB a) vs H Q E):oZ K a vs H Q E:=by
 obtain⟨_,ps,s,m,r,S,P⟩:=h;obtain⟨n,pp,L,z,L',us,ys,hg,B,e1,e2,rfl,r',P⟩:=onB S r P;split at P
 ·split at P
  ·rename_i x hx;cases wR r';refine⟨_,z,pp,L',x,rfl,B,hx,λh=>?_,λh=>?_⟩
   ·rw[nU,e1] at h;rw[Zc h] at P;exact P.here S .non
   ·rw[nU,e1] at h;rw[Zd (by rw[h];decide)] at P;exact P H m .refl S
  ·exact P.elim
 ·exact P.elim
def Il(vs)(H)(Q)(E)(h:spD K a.Book 5 (wg a) vs H Q E):FL K a vs H Q E:=by
 obtain⟨_,ps,s,m,r,S,P⟩:=h;obtain⟨n,pp,L,z,L',us,ys,hg,B,e1,e2,rfl,r',P⟩:=onB S r P;split at P
 ·split at P
  ·rename_i h o1 o2 t b hs;cases r' with
   |cons q1 r'=>cases r' with
    |cons q2 r'=>cases r' with
     |cons q3 r'=>cases r' with
      |cons q4 r' =>
       cases r';cases q1;cases q2;cases q3;obtain⟨p,ws,rfl,ht,PB⟩:=q4.tp;cases PB with
       |cons w1 w2=>cases w2 with
        |cons w2 w3 =>
         cases w3;cases w1;cases w2;obtain⟨f1,f2⟩:=vC (x:=h) e1;have hh:oI L' h=(mI L h).isSome:=by rw[nU,e1];rfl
         have h1:(oH pp o1||oI L' o1)=(oH pp o1||mv L o1):=by rw[nU,e1]
         have h2:(oH pp o2||oI L' o2)=(oH pp o2||mv L o2):=by rw[nU,e1]
         refine⟨_,z,pp,L',h,o1,o2,p,(t,b),rfl,B,by rw[show L'.map (λx=>x.1.nm)=L.map (·.nm) by rw[<-e1,aA];rfl];exact hs.nd,hs.nm.1,hs.nm.2.1,hs.nm.2.2,ht,hs.sz,λe he=>hs.ok _ (f1 e he),λq=>?_,λq g1=>?_,λq g1 g2=>?_,λe he g1 g2 g3=>?_,λe he g1 g2 g3 H' B' k=>?_⟩
         ·rw[hh] at q;cases c:mI L h with
          |none=>rw[c] at P;exact P H m .refl S
          |some e=>rw[c] at q;cases q
         ·rw[hh] at q;cases c:mI L h with
          |none=>rw[c] at q;cases q
          |some e=>rw[c] at P;dsimp only at P;rw[Zc (by rw[<-h1];exact g1)] at P;exact P H m .refl S
         ·rw[hh] at q;cases c:mI L h with
          |none=>rw[c] at q;cases q
          |some e=>rw[c] at P;dsimp only at P;rw[Zd (by rw[<-h1,g1];decide),Zc (by rw[<-h2];exact g2)] at P;exact P H m .refl S
         ·rw[f1 e he] at P;dsimp only at P;rw[Zd (by rw[<-h1,g1];decide),Zd (by rw[<-h2,g2];decide),Zc g3] at P;exact P H m .refl S
         ·rw[f1 e he] at P;dsimp only at P;rw[Zd (by rw[<-h1,g1];decide),Zd (by rw[<-h2,g2];decide),Zd g3] at P;obtain⟨S2,x2⟩:=M4 S hg e2 B' (λc o hc hn=>k c o hc λz=>hn (by rw[z];exact L5 (qH he))) (λc hc=>.inl (by rw[FO] at hc;exact hc));rw[DB,e1] at S2 x2;exact P _ _ _ x2 S2 .non
  ·exact P.elim
 ·exact P.elim
def KQ(a:Adr)(g:Int->Ent->Ent)(neg:Bool)(vs:List PV)(s:Sto):Out PV:=mM vs s λn pp L r=>match r with
 |[.str h,.int v]=>if Nm h then(if mv L h=true then(if neg=true/\v<0 then .ex a.NoLoss s else .ok .non (s.set n (.book pp (mW L h (g v))))) else .ex a.NoHouse s) else .bad
 |_=>.bad
def K3{ad:BA->ak}(had:∀b z L,ad z∈BFp b z L)(vs)(H)(Q)(E)(h:spD K a.Book 3 (KQ a g neg) vs H Q E):Fk K a ad g neg vs H Q E:=by
 obtain⟨_,ps,s,m,r,S,P⟩:=h;obtain⟨n,pp,L,z,L',us,ys,hg,B,e1,e2,rfl,r',P⟩:=onB S r P;split at P
 ·split at P
  ·rename_i h v hx;cases r' with
   |cons q1 r'=>cases r' with
    |cons q2 r' =>
     cases r';cases q1;cases q2;refine⟨_,z,pp,L',h,v,rfl,B,hx,λhh=>?_,λhh hn hv=>?_,λhh hv H' B' k=>?_⟩
     ·rw[nU,e1] at hh;rw[Zd (by rw[hh];decide)] at P;exact P H m .refl S
     ·rw[nU,e1] at hh;rw[Zc hh,Zc ⟨hn,hv⟩] at P;exact P H m .refl S
     ·rw[nU,e1] at hh;rw[Zc hh,Zd (λy=>absurd (hv y.1) (by have:=y.2;lia))] at P;obtain⟨S2,x2⟩:=M4 S hg e2 B' (λc o h hc=>k c o h λy=>hc (by rw[y];exact had _ _ _)) (λc hc=>.inl (by rw[FO] at hc;exact hc));rw[DB,e1] at S2 x2;exact P _ _ _ x2 S2 .non
  ·exact P.elim
 ·exact P.elim
noncomputable abbrev su(a:Adr):XF:=KQ a (λn x=>{ x with th:=n }) false
def Ew(vs)(H)(Q)(E)(h:spD K a.Book 3 (su a) vs H Q E):Fk K a (·.dt) (λn x=>{ x with th:=n }) false vs H Q E:=K3 (λb z L=>by simp[BFp]) vs H Q E h
theorem Mt.imp(M:Mt P w K mg base C mm k ps sp)(h:∀vs H Q E,Sk vs H Q E->sp vs H Q E):Mt P w K mg base C mm k ps Sk :=
 let⟨f,fd,F,b⟩:=M;⟨f,fd,F.imp h,b⟩
theorem Fn.imp(M:Fn P w K mg base x k ps sp)(h:∀vs H Q E,Sk vs H Q E->sp vs H Q E):Fn P w K mg base x k ps Sk :=
 let⟨f,fd,F,b⟩:=M;⟨f,fd,F.imp h,b⟩
noncomputable instance (q:Int×Int):Decidable (Sz q):=dF _
end
end My
namespace L2
open PySem PySem.Spec PyProof.Rows
section
variable{X:Cx}
def rDC:List V->Hp->VK->Prop:=λxs H Q=>∃a kvs,xs=[.ref a]/\Rd H a (.dK kvs)/\∀p,H p=Zb->Q (.ref p) (upd H p (.dK kvs))
def wX:CallR X (.type "dict") rDC:=by intro O2 s O H xs us Q I r h;obtain⟨a,kvs,rfl,ha,q⟩:=h;obtain⟨u,rfl,rx⟩:=qp r;cases rx;exact Jq I ha λp s' hp I'=>⟨.ref p,_,I',rfl,q p hp⟩
def bt_dict:bP "dict"=Za (.type "dict"):=by decide +kernel
end
end L2
namespace My
open PySem L2 Fra
def Db(z:BA)(d:ak):putF "people" (.ref d) (bf z)=bf { z with dp:=d }:=by simp only[bf,putF,Zc]
def Da(z:BA)(d:ak):putF "things_of" (.ref d) (bf z)=bf { z with dt:=d }:=by simp only[bf,putF,Zd (show ¬((aG "people")=aG "things_of") by decide +kernel),Zc]
def GR(z:BA)(d:ak):putF "mark_of" (.ref d) (bf z)=bf { z with dm:=d }:=by simp only[bf,putF,Zd (show ¬((aG "people")=aG "mark_of") by decide +kernel),Zd (show ¬((aG "things_of")=aG "mark_of") by decide +kernel),Zc]
def GS(z:BA)(d:ak):putF "loss_of" (.ref d) (bf z)=bf { z with dl:=d }:=by simp only[bf,putF,Zd (show ¬((aG "people")=aG "loss_of") by decide +kernel),Zd (show ¬((aG "things_of")=aG "loss_of") by decide +kernel),Zd (show ¬((aG "mark_of")=aG "loss_of") by decide +kernel),Zc]
def wz{H3:Hp}{b2 d C dx:ak}{fs fs':List (Str×V)}{o:HO}(ob:H3 b2=Za (.ins C dx fs))(hd:H3 d=Zb):(upd (upd H3 d o) b2 (.ins C dx fs')) b2=Za (.ins C dx fs')/\(∀c u,H3 c=Za u->c≠b2->(upd (upd H3 d o) b2 (.ins C dx fs')) c=Za u)/\(upd (upd H3 d o) b2 (.ins C dx fs')) d=Za o/\d≠b2:=by
 have db:d≠b2:=(lR ob hd).symm;refine⟨lN,λc u e hc=>?_,?_,db⟩
 ·rw[lK hc,lK (lR e hd)];exact e
 ·rw[lK db,lN]
def upF(g:Str->ak)(n:Str)(p:ak)(m:Str):ak:=if m=n then p else g m
def Nw{g:Str->ak}{n m:Str}{p:ak}(h:m≠n):upF g n p m=g m:=Zd h
def Fh{g:Str->ak}{n:Str}{p:ak}:upF g n p n=p:=Zc rfl
def TwF(f:Str->ak)(n:Str):Key×V:=(ag n,.ref (f n))
def TwR(K:aa)(H8:Hp)(b b2 dh:ak)(ns:List Str)(L:List (Ent×ak))(j:Nat)(O:St)(H':Hp):Prop :=
 ∃(v:Option V)(f:Str->ak),O=[Za (.ref b),Za (.ref b2),v]/\(∀c o,H8 c=Za o->c≠dh->H' c=Za o)/\H' dh=Za (.dK ((ns.take j).map (TwF f)))/\(∀n∈ns.take j,H8 (f n)=Zb/\∀e∈L,e.1.nm=n->HeldAt K H' (f n) e.1.held)/\((ns.take j).map f).Nodup
def Nv{f:Str->ak}{l:List Str}{n:Str}(h:n∉l):om (l.map (TwF f)) (ag n)=none:=by
 have e:=p8 l (λm=>m) (λm=>V.ref (f m)) n;have e2:l.map (TwF f)=l.map λm=>((ag m:Key),V.ref (f m)):=rfl;rw[e2,e];have:l.find? (λm=>decide (m=n))=none:=by rw[ci];intro x hx z;exact h (Zf z▸hx)
 rw[this];rfl
section
variable{P:aK}{w:a6}{K:aa}{mg:Str->Option ah}{base:bx}{a:Adr}{f:ak}{fd:cz}
abbrev tZ:bQ:=m7 (top 40) 16
def sc_Book_twin:FnScope ["self","book","house"] ["self"] (lP tZ):=fsc
def FK(K:aa)(C:ak):Sp:=λvs H Q _=>∃b z O3 L,vs=[.ref b]/\BookAt K C H b z O3 L /\
 ∀b2 z2 L2 H',L2.map (·.1)=L.map (·.1)->BookAt K C H' b2 z2 O3 L2->Same H H'->(∀c∈BFp b2 z2 L2,H c=Zb)->Q (.ref b2) H'
def LG(F:Fun K "twin" "Book.twin" tZ f fd)(T:Txt K mg a)(TW:mg "dict"=Zb)(Si:MkB P w K mg base "Book" a.Book 1 ["self"] (FM K a.Book))(Q2:Mt P w K mg base a.Book "houses" 1 ["self"] (xj K a.Book)) :
  FnOk P w K mg base (CXo P w) 3 f fd ["self"] (FK K a.Book):=by
 refine F.okN sc_Book_twin (λvs H Q E h=>?_) (λPb A outer s H vs Q E hr h=>?_)
 ·obtain⟨b,z,O3,L,rfl,_⟩:=h;rfl
 ·obtain⟨b,z,O3,L,rfl,B,k⟩:=h;have hu:=nQ hr;refine⟨_,(@l9 _ _ _ _ _ (@rm _ _ (1) _ _ _ _ sc_Book_twin.nd rfl (eO rfl) (JX Si (hr.mono (by first|decide|lia)) rfl qG) (by rfl) (by first|exact .inl rfl|exact .inr rfl|assumption)) (@l9 _ _ _ _ _ (sd (pv 1) (@qF _ _ _ _ _ _ _ _ _ wX rfl TW bt_dict (@lW _ _ _ _ _ (m6 (pv 0) rfl) pa_nil (by rfl)) (by decide) (by decide) (by rfl) (by rfl)) rfl) (@l9 _ _ _ _ _ (sd (pv 1) (@qF _ _ _ _ _ _ _ _ _ wX rfl TW bt_dict (@lW _ _ _ _ _ (m6 (pv 0) rfl) pa_nil (by rfl)) (by decide) (by decide) (by rfl) (by rfl)) rfl) (@l9 _ _ _ _ _ (sd (pv 1) (@qF _ _ _ _ _ _ _ _ _ wX rfl TW bt_dict (@lW _ _ _ _ _ (m6 (pv 0) rfl) pa_nil (by rfl)) (by decide) (by decide) (by rfl) (by rfl)) rfl) (@l9 _ _ _ _ _ (sd (pv 1) (@qF _ _ _ _ _ _ _ _ _ wX rfl TW bt_dict (@lW _ _ _ _ _ (m6 (pv 0) rfl) pa_nil (by rfl)) (by decide) (by decide) (by rfl) (by rfl)) rfl) (@l9 _ _ _ _ _ (JT gD rfl (FW (JW (pv 0) Q2 (hr.mono (by first|decide|lia)) qG)) (Ct (i:=2) sc_Book_twin.nd rfl (eO rfl)) (@mj _ _ _ (qh hu (m6 (pv 1) rfl) (pv 2) (@qF _ _ _ _ _ _ _ _ _ wX rfl TW bt_dict (@lW _ _ _ _ _ (@qM _ _ _ _ _ _ hu (m6 (pv 0) rfl) (pv 2) (λ_ _=>rfl)) pa_nil (by rfl)) (by decide) (by decide) (by rfl) (by rfl)) rfl))) (@mj _ _ _ (@qm _ _ _ _ (pv 1))))))))),?_⟩;intro b2 dx nb ndx nex;refine⟨b2,dx,rfl,lN,λz2 H3 fz BK kp=>⟨rfl,?_⟩⟩;have s3:Same H H3:=λc o e=>by refine kp c o ?_ (lR e nb);rw[lK (lR e nb),lK (lR e ndx)];exact e
  have B3:=B.same s3;have noM:∀{x:Str},¬x="people"->¬x="things_of"->¬x="mark_of"->¬x="loss_of"->¬x="held_of"->(bf z).lookup x=none:=λh1 h2 h3 h4 h5=>rP z h1 h2 h3 h4 h5;have TD:H b2=none:=nb;have few:∀z:BA,(bf z).length<1000:=λz=>(show 5<1000 by decide);refine⟨_,rfl,b,_,_,_,_,rfl,B3.ob,T.cl,T.nA_people,rX z,z.dp,_,rfl,.inl B3.pp,λd1 Qx=>?_⟩;refine⟨_,rfl,b2,_,_,_,rfl,(by rw[lK (lR BK.ob Qx)];exact BK.ob),T.cl,T.nA_people,few _,?_⟩;rw[Db];obtain⟨SX,Ue,e1,n1⟩:=wz (o:=.dK (O3.map λn=>(ag n,.bl true))) (fs':=bf { z2 with dp:=d1 }) BK.ob Qx;generalize upd (upd H3 d1 (.dK (O3.map λn=>(ag n,.bl true)))) b2 (.ins a.Book z2.dx (bf { z2 with dp:=d1 }))=H4 at SX Ue e1 ⊢;have s4:Same H H4:=λc o e=>Ue c o (s3 _ _ e) (lR e TD);have B4:=B.same s4;refine⟨_,rfl,b,_,_,_,_,rfl,B4.ob,T.cl,T.nA_things_of,uR z,z.dt,_,rfl,.inl B4.tt,λd2 QD=>?_⟩;refine⟨_,rfl,b2,_,_,_,rfl,(by rw[lK (lR SX QD)];exact SX),T.cl,T.nA_things_of,few _,?_⟩;rw[Da];obtain⟨SW,RR,e2,n2⟩:=wz (o:=.dK (L.map λe=>(ag e.1.nm,.int e.1.th))) (fs':=bf { z2 with dp:=d1,dt:=d2 }) SX QD;generalize upd (upd H4 d2 (.dK (L.map λe=>(ag e.1.nm,.int e.1.th)))) b2 (.ins a.Book z2.dx (bf { z2 with dp:=d1,dt:=d2 }))=H5 at SW RR e2 ⊢;have s5:Same H H5:=λc o e=>RR c o (s4 _ _ e) (lR e TD);have B5:=B.same s5;refine⟨_,rfl,b,_,_,_,_,rfl,B5.ob,T.cl,T.nA_mark_of,CI z,z.dm,_,rfl,.inl B5.mm,λd3 Ro=>?_⟩;refine⟨_,rfl,b2,_,_,_,rfl,(by rw[lK (lR SW Ro)];exact SW),T.cl,T.nA_mark_of,few _,?_⟩;rw[GR];obtain⟨SV,Rv,e3,n3⟩:=wz (o:=.dK (L.map λe=>(ag e.1.nm,.int e.1.mr))) (fs':=bf { z2 with dp:=d1,dt:=d2,dm:=d3 }) SW Ro;generalize upd (upd H5 d3 (.dK (L.map λe=>(ag e.1.nm,.int e.1.mr)))) b2 (.ins a.Book z2.dx (bf { z2 with dp:=d1,dt:=d2,dm:=d3 }))=H6 at SV Rv e3 ⊢;have s6:Same H H6:=λc o e=>Rv c o (s5 _ _ e) (lR e TD);have B6:=B.same s6;refine⟨_,rfl,b,_,_,_,_,rfl,B6.ob,T.cl,T.nA_loss_of,CJ z,z.dl,_,rfl,.inl B6.ll,λd4 RA=>?_⟩;refine⟨_,rfl,b2,_,_,_,rfl,(by rw[lK (lR SV RA)];exact SV),T.cl,T.nA_loss_of,few _,?_⟩;rw[GS];obtain⟨UU,RQ,e4,n4⟩:=wz (o:=.dK (L.map λe=>(ag e.1.nm,.int e.1.ls))) (fs':=bf { z2 with dp:=d1,dt:=d2,dm:=d3,dl:=d4 }) SV RA;generalize upd (upd H6 d4 (.dK (L.map λe=>(ag e.1.nm,.int e.1.ls)))) b2 (.ins a.Book z2.dx (bf { z2 with dp:=d1,dt:=d2,dm:=d3,dl:=d4 }))=H7 at UU RQ e4 ⊢;have s7:Same H H7:=λc o e=>RQ c o (s6 _ _ e) (lR e TD);have B7:=B.same s7;obtain⟨T0,Uv,ph0,_⟩:=BK.hh;have eT0:T0=[]:=List.Perm.eq_nil ph0;rw[eT0] at Uv;obtain⟨UY,_⟩:=ar.mp BK.nd;have Sy:z2.dh≠b2:=λq=>UY (by rw[<-q];simp);have c1:H7 d1=_:=RQ _ _ (Rv _ _ (RR _ _ e1 n1) n1) n1;have c2:H7 d2=_:=RQ _ _ (Rv _ _ e2 n2) n2;have c3:H7 d3=_:=RQ _ _ e3 n3;have V8:=Ue _ _ Uv Sy;have V7:=RR _ _ V8 Sy;have V6:=Rv _ _ V7 Sy;have ch:H7 z2.dh=Za (.dK []):=RQ _ _ V6 Sy;have V3:d1≠d2:=lR e1 QD;have V2:d1≠d3:=lR (RR _ _ e1 n1) Ro;have V1:d1≠d4:=lR (Rv _ _ (RR _ _ e1 n1) n1) RA;have RF:d2≠d3:=lR e2 Ro;have V0:d2≠d4:=lR (Rv _ _ e2 n2) RA;have VZ:d3≠d4:=lR e3 RA;have h1:z2.dh≠d1:=lR Uv Qx;have h2:z2.dh≠d2:=lR V8 QD;have h3:z2.dh≠d3:=lR V7 Ro;have h4:z2.dh≠d4:=lR V6 RA;have f1:H d1=none:=s3.free Qx;have f2:H d2=none:=s4.free QD;have f3:H d3=none:=s5.free Ro;have f4:H d4=none:=s6.free RA;have fh:H z2.dh=none:=by
   have:=fz z2.dh (by simp);cases q:H z2.dh with
   |none=>rfl
   |some o =>
    rw[lK (lR q nb),lK (lR q ndx),q] at this;cases this
  clear Ue RR Rv RQ SX SW SV Qx QD Ro RA e1 e2 e3 s3 s4 s5 s6 B3 B4 B5 B6 kp fz Uv V8 V7 V6 ph0 eT0;refine⟨_,rfl,b,_,_,rfl,B7.ob,noM (by decide +kernel) (by decide +kernel) (by decide +kernel) (by decide +kernel) (by decide +kernel),b,z,O3,L,rfl,B7,λhl Vt=>?_⟩;have t8:=qe (o:=.lst ((srt (L.map (·.1.nm))).map V.str)) Vt;have Uu:(upd H7 hl (.lst ((srt (L.map (·.1.nm))).map V.str))) hl=_:=lN;have s8:=s7.trans t8;have hlh:hl≠z2.dh:=(lR ch Vt).symm;have Ua:=t8 _ _ UU;have c1:=t8 _ _ c1;have c2:=t8 _ _ c2;have c3:=t8 _ _ c3;have c4:=t8 _ _ e4;have TU:=t8 _ _ ch;generalize upd H7 hl (.lst ((srt (L.map (·.1.nm))).map V.str))=H8 at Uu s8 Ua c1 c2 c3 c4 TU ⊢;clear t8 Vt ch e4 s7 B7 UU;obtain⟨_,_,_,Ud⟩:=B.hh;have ndL:(L.map (·.1.nm)).Nodup:=by rw[aA] at Ud;exact i6.mpr ((i6.mp Ud).imp λ{x y} h e=>h (congrArg ag e))
  have RO:(srt (L.map (·.1.nm))).Perm (L.map (·.1.nm)):=lZ _;have ndn:(srt (L.map (·.1.nm))).Nodup:=RO.nodup_iff.mpr ndL;have lns:(srt (L.map (·.1.nm))).length<=8:=by rw[sS,ac];exact B.h8
  generalize srt (L.map (·.1.nm))=ns at Uu RO ndn lns;have B8:=B.same s8;have bd8:∀c,c∈BFp b z L->c≠z2.dh:=λc hc q=>by
   have:=q▸hc;unfold BFp at this;simp only[af] at this;have Qj:∀{o:HO},H z2.dh=Za o->False:=λe=>by rw[fh] at e;cases e
   rcases this with e|e|e|e|e|e|e
   ·exact Qj (e▸B.ob)
   ·exact Qj (e▸B.pp)
   ·exact Qj (e▸B.tt)
   ·exact Qj (e▸B.mm)
   ·exact Qj (e▸B.ll)
   ·obtain⟨T1,e1,_⟩:=B.hh;exact Qj (e▸e1)
   ·obtain⟨x,hx,e⟩:=aj.mp e;obtain⟨ts,_,e1,_⟩:=B.he x hx;exact Qj (e▸e1)
  refine⟨hl,rfl,⟨_,SqL.of Uu⟩,Ji (K:=K) (a:=hl) (xs:=ns.map V.str) (TwR K H8 b b2 z2.dh ns L)
   ⟨Zb,λ_=>0,rfl,λc o e _=>e,TU,λn hn=>(by cases hn),gc⟩ (λi O H' _ ⟨_,_,_,h,_⟩=>SqL.of (h _ _ Uu hlh)) ?_ ?_⟩
  ·rintro j v O H' hv ⟨v0,g,rfl,kp,edh,hf,ndf⟩
   rw[aD] at hv;obtain⟨n,hn,rfl⟩:=kg.mp hv;obtain⟨hj,en⟩:=aS.mp hn;have BH:BookAt K a.Book H' b z O3 L:=B8.keep λc o h x=>kp c o h (by
    rcases x with x|x
    ·exact bd8 c x
    ·intro q;rw[q,TU] at h;cases h;rcases x with⟨xs,y|⟨ob,y⟩⟩<;>cases y)
   have hnL:n∈L.map (·.1.nm):=RO.mem_iff.mp (en▸b5 hj);obtain⟨e,he⟩:∃e,nR L n=Za e:=by obtain⟨x,hx,ex⟩:=aj.mp hnL;exact dB.mp (i7.mpr ⟨x,hx,Zg ex⟩)
   have R9:=qH he;obtain⟨ts,l1,Vr,Ve⟩:=BH.he e R9;have R6:DGet H' z.dh (.str n) (Za (.ref e.2)):=by have:=BH.hh.dget n;rw[yg _ he] at this;exact this
   have nin:n∉ns.take j:=λhq=>by have h0:=ndn;rw[<-ii j ns,bN] at h0;refine h0.2.2 n hq n ?_ rfl;rw[dy hj,en];exact ai
   have VD:=kp _ _ Ua Sy.symm;refine⟨_,rfl,b,_,_,_,_,rfl,BH.ob,T.cl,T.nA_held_of,rK z,_,rfl,z.dh,_,rfl,R6,e.2,_,rfl,.inl Vr,λp hp=>?_⟩;have tp:=qe (o:=.dK ((e.1.held.zip ts).map λq=>(ag q.1.1,V.ref q.2))) hp;have pdh:p≠z2.dh:=(lR edh hp).symm;refine⟨_,rfl,b2,_,_,_,_,rfl,tp _ _ VD,T.cl,T.nA_held_of,rK _,_,rfl,z2.dh,_,rfl,DPut.k (k:=ag n) (tp _ _ edh) (by rw[ac,dJ];exact ay (show min j ns.length<9 by omega) (by decide)),?_⟩;rw[rZ _ (Nv nin)];have hp8:H8 p=none:=by
    cases q:H8 p with
    |none=>rfl
    |some o=>rw[kp p o q pdh] at hp;cases hp
   have tk:ns.take (j+1)=ns.take j++[n]:=by rw[dC,hn];rfl
   have VQ:∀m∈ns.take j,upF g n p m=g m:=λm hm=>Nw λq=>nin (by rw[<-q];exact hm);refine⟨_,upF g n p,rfl,λc o h hc=>?_,?_,λm hm=>?_,?_⟩
   ·rw[lK hc];exact tp _ _ (kp c o h hc)
   ·rw[lN,tk,aB];have e1:(ns.take j).map (TwF (upF g n p))=(ns.take j).map (TwF g):=aQ λm hm=>by unfold TwF;rw[VQ m hm]
    have e2:[n].map (TwF (upF g n p))=[(ag n,V.ref p)]:=by rw[ao,cP];unfold TwF;rw[Fh]
    rw[e1,e2]
   ·have S9:∀{q:ak}{l:Hl},q≠z2.dh->HeldAt K H' q l->HeldAt K (upd (upd H' p (.dK ((e.1.held.zip ts).map λq=>(ag q.1.1,V.ref q.2)))) z2.dh (.dK ((ns.take j).map (TwF g)++[(ag n,V.ref p)]))) q l:=λ{q l} hq h=>by
     refine h.keep (λo e=>?_) λc o e x=>?_
     ·rw[lK hq];exact tp _ _ e
     ·rw[lK (λz=>by rw[z,edh] at e;cases e;rcases x with⟨xs,y|⟨ob,y⟩⟩<;>cases y)];exact tp _ _ e
    rw[tk] at hm;rcases aP.mp hm with hm|hm
    ·rw[VQ m hm];obtain⟨a1,a2⟩:=hf m hm;refine⟨a1,λx hx ex=>S9 (λq=>?_) (a2 x hx ex)⟩;rw[q,TU] at a1;cases a1
    ·have em:m=n:=aq.mp hm;subst em;rw[Fh];refine⟨hp8,λx hx ex=>?_⟩;rw[Bn ndL he hx ex];refine⟨ts,l1,by rw[lK pdh,lN],λq hq=>?_⟩;refine tm (Ve q hq) λc o e y=>?_;rw[lK (λz=>by rw[z,edh] at e;cases e;rcases y with⟨xs,y|⟨ob,y⟩⟩<;>cases y)];exact tp _ _ e
   ·rw[tk,aB];have e1:(ns.take j).map (upF g n p)=(ns.take j).map g:=aQ VQ;have e2:[n].map (upF g n p)=[p]:=by rw[ao,cP,Fh]
    rw[e1,e2];refine uZ ndf λhq=>?_;obtain⟨m,hm,em⟩:=aj.mp hq;obtain⟨_,a2⟩:=hf m hm;have hmL:m∈L.map (·.1.nm):=RO.mem_iff.mp (iu hm);obtain⟨x,hx,ex⟩:=aj.mp hmL;obtain⟨_,_,q2,_⟩:=a2 x hx ex;rw[em,hp] at q2;cases q2
  ·rintro O H' ⟨v0,g,rfl,kp,edh,hf,ndf⟩
   rw[ac,fB] at edh hf ndf;have em:(L.map λe=>(e.1,g e.1.nm)).map (·.2)=(L.map (·.1.nm)).map g:=by rw[aA,aA];rfl
   have nL:∀x∈L.map (·.1.nm),x∈ns:=λx hx=>RO.mem_iff.mpr hx;have RE:∀c,c∈(L.map (·.1.nm)).map g->H8 c=none:=λc hc=>by obtain⟨x,hx,rfl⟩:=aj.mp hc;exact(hf x (nL x hx)).1
   have gL:∀{c:ak}{o:HO},H8 c=Za o->c∉(L.map (·.1.nm)).map g:=λ{c o} e hc=>by rw[RE c hc] at e;cases e
   have bh:b2≠z2.dh:=Sy.symm;refine⟨_,rfl,k b2 { z2 with dp:=d1,dt:=d2,dm:=d3,dl:=d4 } (L.map λe=>(e.1,g e.1.nm)) H' (by rw[aA];rfl) ⟨kp _ _ Ua bh,kp _ _ c1 h1.symm,?_,?_,?_,?_,?_,?_,B.p6,by rw[ac];exact B.h8⟩ (λc o e=>kp c o (s8 _ _ e) (lR e fh)) ?_⟩
   ·rw[aA];exact kp _ _ c2 h2.symm
   ·rw[aA];exact kp _ _ c3 h3.symm
   ·rw[aA];exact kp _ _ c4 h4.symm
   ·refine⟨_,edh,?_,?_⟩
    ·have:=RO.map (TwF g);rw[aA] at this ⊢;exact this
    ·rw[aA,aA];rw[aA] at Ud;exact Ud
   ·intro e he;obtain⟨x,hx,rfl⟩:=aj.mp he;exact(hf x.1.nm (nL _ (aj.mpr ⟨x,hx,rfl⟩))).2 x hx rfl
   ·rw[em];have ndg:((L.map (·.1.nm)).map g).Nodup:=(RO.map g).nodup_iff.mp ndf;refine ar.mpr ⟨?_,ar.mpr ⟨?_,ar.mpr ⟨?_,ar.mpr ⟨?_,ar.mpr ⟨?_,ar.mpr ⟨?_,ndg⟩⟩⟩⟩⟩⟩
    ·simp only[af,not_or];exact⟨n1.symm,n2.symm,n3.symm,n4.symm,bh,gL Ua⟩
    ·simp only[af,not_or];exact⟨V3,V2,V1,h1.symm,gL c1⟩
    ·simp only[af,not_or];exact⟨RF,V0,h2.symm,gL c2⟩
    ·simp only[af,not_or];exact⟨VZ,h3.symm,gL c3⟩
    ·simp only[af,not_or];exact⟨h4.symm,gL c4⟩
    ·exact gL TU
   ·intro c hc;have hc:c∈b2::d1::d2::d3::d4::z2.dh::(L.map λe=>(e.1,g e.1.nm)).map (·.2):=hc;rw[em] at hc;simp only[af] at hc;rcases hc with rfl|rfl|rfl|rfl|rfl|rfl|hc
    ·exact TD
    ·exact f1
    ·exact f2
    ·exact f3
    ·exact f4
    ·exact fh
    ·exact s8.free (RE c hc)
def AD(_:Adr)(vs:List PV)(s:Sto):Out PV:=mM vs s λ_ pp L r=>match r with
 |[]=>.ok (.ref s.nx) (s.add (.book pp L))
 |_=>.bad
def Ik(vs:List V)(H:Hp)(Q:VK)(E:XK)(h:spD K a.Book 1 (AD a) vs H Q E):FK K a.Book vs H Q E:=by
 obtain⟨_,ps,s,m,r,S,P⟩:=h;obtain⟨n,pp,L,z,L',us,ys,hg,B,e1,e2,rfl,r',P⟩:=onB S r P;split at P
 ·cases r';refine⟨_,z,pp,L',rfl,B,λb2 z2 M2 H' eM B2 k fr=>?_⟩;obtain⟨S2,x2⟩:=S.add (c:=.book pp L) H' b2 (BFp b2 z2 M2) k fr λ_=>⟨z2,M2,(by show BookAt K a.Book H' (if _=_ then b2 else _) z2 pp M2;rw[Zc rfl];exact B2),eM.trans e1,(by show(if _=_ then _ else _)=BFp (if _=_ then b2 else _) z2 M2;rw[Zc rfl,Zc rfl])⟩;have:=P (.ref ((m.add s.nx b2 (BFp b2 z2 M2)).ad s.nx)) _ _ x2 S2 (.ref (bT _));have ea:(m.add s.nx b2 (BFp b2 z2 M2)).ad s.nx=b2:=by show(if _=_ then b2 else _)=_;rw[Zc rfl]
  rw[ea] at this;exact this
 ·exact P.elim
end
end My
namespace L2
open PySem PySem.Spec PyProof.Rows
def NOw(u:HO):Prop:=∀o x,u≠.frz o (.own x)
section
variable{K:aa}{CB:ak}{H H':Hp}{m:Mp}{s:Sto}
mutual
theorem Rep.now(k:∀a u,H a=Za u->NOw u->H' a=Za u):∀{v:V}{p:PV},Rep K H m s v p->Rep K H' m s v p
 |_,_,.non=>.non
 |_,_,.bl=>.bl
 |_,_,.int=>.int
 |_,_,.str=>.str
 |_,_,.tup h r=>.tup (h.imp (λz=>⟨z.1.imp (λh=>k _ _ h (by intro _ _ z;cases z)) λ⟨o,h⟩=>⟨o,k _ _ h (by intro _ _ z;cases z)⟩,z.2⟩) λz=>z) (Reps.now k r)
 |_,_,.lst h p r=>.lst (k _ _ h (by intro _ _ z;cases z)) p (Reps.now k r)
 |_,_,.seq h r=>.seq (h.imp (λ⟨⟨o,z⟩,p⟩=>⟨⟨o,k _ _ z (by intro _ _ z;cases z)⟩,p⟩) λz=>z) (Reps.now k r)
 |_,_,.dct h p r=>.dct (h.imp (λh=>k _ _ h (by intro _ _ z;cases z)) λ⟨o,h⟩=>⟨o,k _ _ h (by intro _ _ z;cases z)⟩) p (RepKs.now k r)
 |_,_,.ref h=>.ref h
 |_,_,.exc h p=>.exc (k _ _ h (by intro _ _ z;cases z)) p
 |_,_,.clo r=>.clo (Reps.now k r)
theorem Reps.now(k:∀a u,H a=Za u->NOw u->H' a=Za u):∀{v:List V}{p:List PV},Reps K H m s v p->Reps K H' m s v p
 |_,_,.nil=>.nil
 |_,_,.cons a b=>.cons (Rep.now k a) (Reps.now k b)
theorem RepKs.now(k:∀a u,H a=Za u->NOw u->H' a=Za u):∀{v:List (Key×V)}{p:List (Key×PV)},RepKs K H m s v p->RepKs K H' m s v p
 |_,_,.nil=>.nil
 |_,_,.cons a b=>.cons (Rep.now k a) (RepKs.now k b)
end
variable{cs:List (ak×Obj)}
end
def Fro(H H':Hp):Prop:=∀a o u,H a=Za (.frz o u)->H' a=Za (.frz o u)
structure CloC(P:aK)(w:a6)(K:aa)(mg:Str->Option ah)(base:bx)(k:Nat)(CB f:ak)(vs:List V)(H:Hp)(dr:List PV->PV->Sto->Out PV):Prop where
 ex:∃of fd0 fd ps sp,H f=Za (fzO of)/\of.data=.func fd0/\FnOk P w K mg base (CXo P w) k f fd ps sp/\Binds K fd ps [] /\
  ∀H' m s v p l Q,Fro H H'->SR K CB H' m s->Reps K H' m s vs l->Rep K H' m s v p->Post K CB (Rep K) E0 (dr l p s) H' m s Q->sp [v] H' Q E0
open Classical in
section
variable{X:Cx}{CB:ak}{E:XK}{k i:Nat}{x:Str}{p pos:Pos}{e:bo}{g:XE}{f:ak}{vs:List V}{dr:List PV->PV->Sto->Out PV}
end
open Classical in
section
variable{X:Cx}{CB:ak}{E:XK}{k kb:Nat}{fn y q:Str}{p pos lpos:Pos}{g:XE}{params:jT}{body:bo}{scope:dM}{fr:List Str}{ix:List Nat}{cd P:ak}{D:ak->List V->(List PV->PV->Sto->Out PV)->XF}{pn:Str}
end
def yf(fi:XA)(ix:List Nat)(c:XT)(e:XE)(Z:En)(s:Sto):Out PV:=(fi Z s).bind λl s1=>if l.length<=100000 then(ny c e (nj ix Z) l s1).bind λvs s2=>.ok (.ref s2.nx) (s2.add (.lst vs)) else .bad
section
variable{X:Cx}{CB:ak}{E:XK}{a b c e Pl iter tg:bo}{es Pk:List bo}{f g h:XE}{fa fi:XA}{t:XT}{p px pos Ph O4 O5:Pos}{x:Str}{st:bQ}{qL QB Qg:List bQ}{u v:XS}{scope:dM}{fr:List Str}{ix:List Nat}
def Cmp.cell{K}{D}{H1 H2}{m1 m2}{s1 s2}{cap}{Z}{ys}{done}(C:Cmp K CB D H1 m1 s1 cap Z ys done H2 m2 s2)(hD:H1 D=Zb)(hn:D∉m1.hid) :
  SR K CB H2 ((m2.bare m1.hid).add s2.nx D [D]) (s2.add (.lst done))/\Ext H1 m1 s1 H2 ((m2.bare m1.hid).add s2.nx D [D]) (s2.add (.lst done)):=by
 have S:=C.sr;have PD:D∈m2.hid:=by rw[C.hid];exact ai
 have Pd:∀j∈s2.cs.map (·.1),j≠s2.nx:=λj hj=>aE (S.lt j hj);have Qw:∀j∈s2.cs.map (·.1),((m2.bare m1.hid).add s2.nx D [D]).fp j=m2.fp j:=λj hj=>Zd (Pd j hj);have QC:((m2.bare m1.hid).add s2.nx D [D]).fp s2.nx=[D]:=Zc rfl;have had:((m2.bare m1.hid).add s2.nx D [D]).ad s2.nx=D:=Zc rfl;have nD:∀j∈s2.cs.map (·.1),D∉m2.fp j:=λj hj z=>S.hx j hj D z PD;have hk:∀{j:Nat},j∈(s2.add (.lst done)).cs.map (·.1)->j=s2.nx\/j∈s2.cs.map (·.1):=λ{j} hj=>af.mp (show j∈s2.nx::s2.cs.map (·.1) from hj);have RU:∀a,a∈m1.hid->a∈m2.hid:=λa ha=>by rw[C.hid];exact ae _ ha
 have pur:∀a,a≠D->a∉m1.hid->(∀n∈s2.cs.map (·.1),a∉m2.fp n)->Pur ((m2.bare m1.hid).add s2.nx D [D]) (s2.add (.lst done)) a:=λa h1 h2 h3=>⟨h2,λj hj ha=>by
  rcases hk hj with rfl|hj
  ·rw[QC,aq] at ha;exact h1 ha
  ·rw[Qw j hj] at ha;exact h3 j hj ha⟩
 have x:ExtR H2 m2 s2 H2 ((m2.bare m1.hid).add s2.nx D [D]) (s2.add (.lst done)):=⟨fL _,λj hj=>Zd (aE hj),λa u h p=>⟨h,pur a (λz=>p.1 (z▸PD)) (λz=>p.1 (RU a z)) p.2⟩,λa u h _ _=>h⟩;have e1:s1.nx<=s2.nx:=C.ex.nx;refine⟨⟨?_,?_,λq hq=>?_,λj hj i hi Po a ha hb=>?_,λj hj a ha hb=>?_,λa ha=>S.hs a (RU a ha),λP q t=>⟨?_,(S.tb P q t).2⟩⟩,⟨⟨⟨Nat.le_succ_of_le e1,λn hn=>?_,λa u h p=>?_,C.ex.el⟩,λn l hn h=>?_⟩,rfl,C.ex.hk⟩⟩
 ·exact ar.mpr ⟨λz=>Pd _ z rfl,S.nd⟩
 ·intro j hj;rcases hk hj with rfl|hj
  ·exact bT _
  ·exact cA (S.lt j hj)
 ·rcases af.mp (show q∈(s2.nx,Cell.lst done)::s2.cs from hq) with rfl|hq
  ·exact⟨by rw[QC,had],ys,by rw[had];exact C.at_,C.rs.ext0 x⟩
  ·have Tj:q.1∈s2.cs.map (·.1):=aj.mpr ⟨q,hq,rfl⟩;exact(S.ok q hq).keep S x (λa _ o h=>h) (x.ad _ (S.lt _ Tj)) (Qw _ Tj)
 ·rcases hk hj with e|hj<;>rcases hk hi with e'|hi
  ·exact Po (e.trans e'.symm)
  ·rw[e,QC,aq] at ha;rw[Qw i hi,ha] at hb;exact nD i hi hb
  ·rw[e',QC,aq] at hb;rw[Qw j hj,hb] at ha;exact nD j hj ha
  ·rw[Qw j hj] at ha;rw[Qw i hi] at hb;exact S.dj j hj i hi Po a ha hb
 ·have hb:a∈m1.hid:=hb;rcases hk hj with e|hj
  ·rw[e,QC,aq] at ha;rw[ha] at hb;exact hn hb
  ·rw[Qw j hj] at ha;exact S.hx j hj a ha (RU a hb)
 ·obtain⟨h1,ps,h2,_⟩:=S.tb P q t;rw[C.hid] at h1;rcases af.mp h1 with z|z
  ·rw[z,C.at_] at h2;cases h2
  ·exact z
 ·have:n≠s2.nx:=aE (ay hn e1);exact(Zd this).trans (C.ex.ad n hn)
 ·obtain⟨h1,p1⟩:=C.ex.pu a u h p;exact⟨h1,pur a (h.ne hD) p1.1 p1.2⟩
 ·obtain⟨h1,h2⟩:=C.ex.df n l hn h;refine⟨?_,h2⟩;show qk ((s2.nx,Cell.lst done)::s2.cs) n=_;unfold qk;rw[Zd (λz=>aE (ay hn e1) z.symm)];exact h1
def Hv{t}(S1:SR X.K CB H1 m1 s1)(er:ER X.K H1 m1 s1 O Z)(it:qo X.K CB J l H1 m1 s1)(hD:H1 D=Zb)(O6:l.length<=100000)(P:Post X.K CB (Rep X.K) E ((ny t f (nj ix Z) l s1).bind λvs s2=>.ok (.ref s2.nx) (s2.add (.lst vs))) H1 m1 s1 Q):CompB J (TDT X.K CB E0 t) (TDE X.K CB E0 f) (capt ix O) D H1 Q:=by
 refine⟨λi k ys H2=>∃done m2 s2,Cmp X.K CB D H1 m1 s1 (capt ix O) (nj ix Z) ys done H2 m2 s2/\i<=l.length/\ys.length<=i/\k=l.length-i/\(ny t f (nj ix Z) l s1).bind (λvs s2=>.ok (PV.ref s2.nx) (s2.add (.lst vs)))=(ny t f (nj ix Z) (l.drop i) s2).bind λvs s2=>.ok (.ref s2.nx) (s2.add (.lst (done++vs))),⟨l.length,[],m1.hide D,s1,Cmp.start S1 (er.capt ix) hD,aX _,aX _,rfl,?_⟩,?_⟩
 ·simp
 rintro i k ys H2 ⟨done,m2,s2,C,hi,hy,rfl,eq⟩
 obtain⟨RS,Rc⟩:=it i H2 m2 s2 C.e0 C.sr;by_cases Pd:i<l.length
 ·right;have hq:l[i]?=Za l[i]:=aw Pd;obtain⟨go,yl⟩:=RS _ hq;refine⟨go,λx H3 Tc=>?_⟩;obtain⟨e3,S3,r3⟩:=yl x H3 Tc;have C3:=C.step hD e3 S3;rw[dy Pd] at eq;rw[eq] at P;rw[oO] at P eq;refine⟨Za l[i]::nj ix Z,s2,m2,C3.er.cons r3,S3,?_⟩;cases ct:t (Za l[i]::nj ix Z) s2 with
  |bad=>rw[ct] at P;exact P.elim
  |ex c3 s3=>rw[ct] at P;exact P.elim
  |ok bt s3 =>
   rw[ct] at P eq;intro b4 H4 m4 e4 S4 hb;subst hb;have C4:=C3.step hD e4 S4;cases b4 with
   |false =>
    exact L1 ⟨l.length-(i+1),by omega,done,m4,s3,C4,Pd,by omega,rfl,eq⟩
   |true =>
    refine L0 ⟨Za l[i]::nj ix Z,s3,m4,C4.er.cons (r3.ext e4),S4,?_⟩;dsimp only at P eq;cases cf:f (Za l[i]::nj ix Z) s3 with
    |bad=>rw[cf] at P;exact P.elim
    |ex c5 s5=>rw[cf] at P;exact P.elim
    |ok v s5 =>
     rw[cf] at eq;intro w H5 m5 e5 S5 r5;have C5:=C4.step hD e5 S5;refine⟨C5.at_,aZ (aI hy (aI hi O6)) (by decide),l.length-(i+1),by omega,done++[v],m5,s5,C5.push hD r5,Pd,by simp;omega,rfl,?_⟩;rw[eq];dsimp only;cases hh:ny t f (nj ix Z) (l.drop (i+1)) s5 with
     |ok vs s6=>simp[Out.bind]
     |ex c6 s6=>exact absurd hh zS
     |bad=>rfl
 ·left;have P8:l.length<=i:=eC Pd;rw[fg P8] at eq;rw[eq] at P;unfold ny at P;obtain⟨TV,PX⟩:=C.cell hD λz=>(S1.hs D z).1 hD;have P:Post X.K CB (Rep X.K) E (.ok (.ref s2.nx) (s2.add (.lst (done++[])))) H1 m1 s1 Q:=P;rw[cK] at P;refine⟨Rc P8,C.at_,?_⟩;have P:=P (.ref D) H2 ((m2.bare m1.hid).add s2.nx D [D]) PX TV;have e0:((m2.bare m1.hid).add s2.nx D [D]).ad s2.nx=D:=Zc rfl;refine P ?_;have r:=Rep.ref (K:=X.K) (H:=H2) (m:=(m2.bare m1.hid).add s2.nx D [D]) (s:=s2.add (.lst done)) (n:=s2.nx) (bT _);rw[e0] at r;exact r
def Dk{t}(q:TDE X.K CB E (yf fi ix t f) O H Q):HI (TDI X.K CB E fi) ix (TDT X.K CB E0 t) (TDE X.K CB E0 f) O H Q:=by
 obtain⟨Z,s,m,er,S,P⟩:=q;refine⟨Z,s,m,er,S,?_⟩;unfold yf at P;cases c:fi Z s with
 |bad=>rw[c] at P;exact P
 |ex c' s'=>rw[c] at P;exact P
 |ok l s1 =>
  rw[c] at P;dsimp only[Out.bind] at P;split at P
  ·rename_i O6;intro J H1 m1 e1 S1 it D hD;exact Hv S1 (er.ext e1) it hD O6 (Post.shift e1 P)
  ·exact P.elim
def Dj(hi:DI X CB E (.Name x px) iter fi)(he:∀cl C O7 O9 fp,DE (blk X scope cl C (x::fr) O7 O9 fp) CB E0 Pl f)(ht:∀cl C O7 O9 fp,DIfs (blk X scope cl C (x::fr) O7 O9 fp) CB Pk t:=by exact λ_ _ _ _ _=>uG)(hN:X.N.Nodup:=by exact ‹FnScope _ _ _›.nd)(Rl:X.N[i]?=Za y:=by rfl)(QT:X.env.scope.names.lookup y=Za .local:=by rfl)(hc:X.calm=true:=by rfl)(S:CompOk X.N X.env.scope scope x fr ix:=by exact OY ‹FnScope _ _ _›)(Rf:dQ (.ListComp Pl [⟨.Name x px,iter,Pk,0⟩] scope pos) (Za (.Name y py)) spos.line X.env=pure true:=by rfl)(hs:∀v,ce iter X.env v=pure v:=by intro _;rfl):DS X CB E (.Assign [.Name y py] (.ListComp Pl [⟨.Name x px,iter,Pk,0⟩] scope pos) spos) (xSet i (yf fi ix t f)) :=
 ⟨(yP hN Rl QT hc S hi.pi (λcl C O7 O9 fp=>(ht cl C O7 O9 fp).pifs) (λcl C O7 O9 fp=>(he cl C O7 O9 fp).pe) Rf hs).mono λD O H=>oE λZ s m er S P =>
  Dk ⟨Z,s,m,er,S,Post.so P λv s1 u H1 m1 e1 S1 r1 P1=>P1.next S1 ((er.ext e1).set i r1)⟩⟩
end
section
variable{prog:aK}{w:a6}{A:cE}{R:Result->ax->Prop}{I:ak}{fp wr:List ak}{G:Array GenState->Array GenState->Prop}{n:Nat}{P:Nat->ah->Prop}{St:Nat->ax->Prop}
end
section
variable{prog:aK}{w:a6}{A:cE}{E:ah->ax->Prop}{s:ax}
end
section
variable{X:Cx}{x y:Str}{p q pos US:Pos}{e:bo}{te:TE}
end
section
variable{X:Cx}{e st:bo}{te:TE}{ts:TO}{pos p2:Pos}
end
section
variable{X:Cx}{CB:ak}{E:XK}{a b c e st:bo}{es:List bo}{f g h:XE}{fa:XA}{t:XT}{p q p2 pos US:Pos}{x y:Str}
end
section
variable{X:Cx}{Pl iter tg:bo}{Pk:List bo}{pos:Pos}{scope:dM}{wi:TI}{tc:TT}{te:TE}{gt:TG}{xs fr:List Str}{ix:List Nat}
def IH(hc:X.calm=true)(S:CompOkG X.N X.env.scope scope xs fr ix)(hi:PI X tg iter wi)(hg:∀cl C O7 O9 fp,PG (blk X scope cl C (xs++fr) O7 O9 fp) tg gt)(ht:∀cl C O7 O9 fp,Ff (blk X scope cl C (xs++fr) O7 O9 fp) Pk tc)(he:∀cl C O7 O9 fp,PE (blk X scope cl C (xs++fr) O7 O9 fp) Pl te)(hs:∀v,ce iter X.env v=pure v:=by intro _;rfl):PE X (.ListComp Pl [⟨tg,iter,Pk,0⟩] scope pos) (Fj wi ix gt xs.length tc te):=by
 intro O2 s O H Q I h;have Pa:∀y∈scope.names,y.2=.free->∃c,X.env.cells.lookup y.1=Za c:=λy hy hf=>I.ok.has y.1 (.inl (S.free y hy hf));rw[eval_ListComp];refine eZ (use:=Zb) rfl hs (pL Pa) S.kind S.nm (thn (hi O2 s O H _ I h) λv s1 h1=>thn h1 λSs s2 h2=>?_);obtain⟨it,fp,tn,J,H2,e,I2,T,PY,f2,q2⟩:=h2;subst e;refine vG (PR:=λPc C r s'=>compPost (model X.prog X.w) X.A X.xe Zb (EP X O2 O Q) Pc C r s') hc S hg ht he Pa I2 T PY f2 q2 λD C H' s' I' Sf ⟨b1,b2,b3,b4⟩ Q4 q'=>?_;obtain⟨m',QS⟩:=Q4;refine⟨m',QS,λh' RV=>⟨.ref D,H',?_,rfl,q'⟩⟩;exact I'.turned (t':=s'.toks) (it:=C) (λb o hb e=>RV.extBut b o hb e) Sf b1 (.inr b2) b3 b4
def Dc(hN:X.N.Nodup)(Rl:X.N[i]?=Za y)(QT:X.env.scope.names.lookup y=Za .local)(hc:X.calm=true)(S:CompOkG X.N X.env.scope scope xs fr ix)(hi:PI X tg iter wi)(hg:∀cl C O7 O9 fp,PG (blk X scope cl C (xs++fr) O7 O9 fp) tg gt)(ht:∀cl C O7 O9 fp,Ff (blk X scope cl C (xs++fr) O7 O9 fp) Pk tc)(he:∀cl C O7 O9 fp,PE (blk X scope cl C (xs++fr) O7 O9 fp) Pl te)(Rf:dQ (.ListComp Pl [⟨tg,iter,Pk,0⟩] scope pos) (Za (.Name y py)) spos.line X.env=pure true:=by rfl)(hs:∀v,ce iter X.env v=pure v:=by intro _;rfl):PS X (.Assign [.Name y py] (.ListComp Pl [⟨tg,iter,Pk,0⟩] scope pos) spos) (MS (Fj wi ix gt xs.length tc te) (E7 i)):=by
 intro O2 s O H D0 I h;have Pa:∀y∈scope.names,y.2=.free->∃c,X.env.cells.lookup y.1=Za c:=λy hy hf=>I.ok.has y.1 (.inl (S.free y hy hf));rw[exec_Assign_Name_used _ _ _ _ Rf];refine ap (fV (ap ?_));show aT _ X.A (do let _ <-comprehension (.ListComp Pl [⟨tg,iter,Pk,0⟩] scope pos) scope X.env _ (newList []) false (eval iter X.env) (Za (assign (.Name y py) X.env))) _ _ s;refine ap (bO (eZ (use:=Za (assign (.Name y py) X.env)) (Q:=λ_ s'=>SP X O2 D0 .next s') rfl hs (pL Pa) S.kind S.nm
  (thn (hi O2 s O H _ I h) λv s1 h1=>thn h1 λSs s2 h2=>?_)) (λ_ s' hq=>aL (aL hq)) λ_ _ e=>e)
 obtain⟨it,fp,tn,J,H2,e,I2,T,PY,f2,q2⟩:=h2;subst e;refine vG (PR:=λPc C r s'=>compPost (model X.prog X.w) X.A X.xe (Za (assign (.Name y py) X.env)) (λ_ s'=>SP X O2 D0 .next s') Pc C r s') hc S hg ht he Pa I2 T PY f2 q2 λD C H' s' I' Sf ⟨b1,b2,b3,b4⟩ Q4 q'=>?_;obtain⟨m',QS⟩:=Q4;refine jy (xh (v:=.ref D) I' hN Rl (.inl QT) rfl (λs5 I5 sb=>?_) (.inr QT));obtain⟨a5,sb,VF⟩:=sb;have VM:C≠a5:=by
  rcases VF with z|z
  ·rw[z];exact b1
  ·exact(b3 _ _ z).symm
 refine⟨m',QS.sameBut sb VM,λh' RV=>⟨_,H',?_,q'⟩⟩;exact I5.turned (t':=s5.toks) (it:=C) (λb o hb e=>RV.extBut b o hb e) Sf b1 (.inr b2) b3 b4
end
def CS(q:PV)(s:Sto):Option (PV×PV):=match q with
 |.tup [p1,p2]=>Za (p1,p2)
 |_=>Zb
def y2:XG:=yTup 2 (yCons (yName 0) (yCons (yName 1) yNil))
def y2_of(h:CS q s=Za (p1,p2)):y2 q (Zb::Zb::cap) s=Za (Za p1::Za p2::cap):=by
 unfold CS at h;split at h
 ·cases h;rfl
 ·cases h
def mF(c:XT)(e:XE)(cap:En):List PV->Sto->Out (List PV)
 |[],s=>.ok [] s
 |q::l,s=>match CS q s with
  |none=>.bad
  |some p=>match c (Za p.1::Za p.2::cap) s with
   |.ok true s1=>match e (Za p.1::Za p.2::cap) s1 with
    |.ok v s2=>match mF c e cap l s2 with
     |.ok vs s3=>.ok (v::vs) s3
     |_=>.bad
    |_=>.bad
   |.ok false s1=>mF c e cap l s1
   |_=>.bad
def xS:mF c e cap (q::l) s=match CS q s with
  |none=>.bad
  |some p=>match c (Za p.1::Za p.2::cap) s with
   |.ok true s1=>match e (Za p.1::Za p.2::cap) s1 with
    |.ok v s2=>match mF c e cap l s2 with
     |.ok vs s3=>.ok (v::vs) s3
     |_=>.bad
    |_=>.bad
   |.ok false s1=>mF c e cap l s1
   |_=>.bad:=rfl
theorem BB:∀{l:List PV}{s s':Sto}{k:ak},mF c e cap l s≠.ex k s'
 |[],_,_,_,h=>by cases h
 |q::l,s,s',k,h=>by
  unfold mF at h;split at h
  ·cases h
  ·split at h
   ·split at h
    ·split at h<;>cases h
    ·cases h
   ·exact BB h
   ·cases h
def oP(fi:XA)(ix:List Nat)(c:XT)(e:XE)(Z:En)(s:Sto):Out PV:=(fi Z s).bind λl s1=>if l.length<=100000 then(mF c e (nj ix Z) l s1).bind λvs s2=>.ok (.lst vs) s2 else .bad
section
variable{X:Cx}{CB:ak}{E:XK}{Pl iter tg:bo}{Pk:List bo}{f:XE}{fi:XA}{t:XT}{pos:Pos}{scope:dM}{xs fr:List Str}{ix:List Nat}
def ER.weak2{K}{H}{m}{s}{O}{p1 p2}{cap}(h:ER K H m s O (Za p1::Za p2::cap)):ER K H m s O (Zb::Zb::cap) :=
 ⟨h.len,λi p q=>by
  match i,q with
  |0,q=>cases q
  |1,q=>cases q
  |i+2,q=>exact h.at_ (i+2) p q⟩
def ER.none2{K}{H}{m}{s}{O}{cap}(h:ER K H m s O cap):ER K H m s (aR 2 Zb++O) (Zb::Zb::cap) :=
 ⟨by have:=h.len;simp at this ⊢;omega,λi p q=>by
  match i,q with
  |0,q=>cases q
  |1,q=>cases q
  |i+2,q=>exact h.at_ i p q⟩
def Cmp.env{K}{D}{H1 H2}{m1 m2}{s1 s2}{cap cap'}{Z ρ'}{ys}{done}(C:Cmp K CB D H1 m1 s1 cap Z ys done H2 m2 s2)(er:ER K H2 m2 s2 cap' ρ'):Cmp K CB D H1 m1 s1 cap' ρ' ys done H2 m2 s2:=⟨C.hid,C.at_,C.sr,er,C.rs,C.ex,C.e0⟩
def Hw{O}{H1}{m1}{s1}{Z}{J:It}{l}{D}{Q}{t}(S1:SR X.K CB H1 m1 s1)(er:ER X.K H1 m1 s1 O Z)(it:qo X.K CB J l H1 m1 s1)(hD:H1 D=Zb)(O6:l.length<=100000)(P:Post X.K CB (Rep X.K) E ((mF t f (nj ix Z) l s1).bind λvs s2=>.ok (.lst vs) s2) H1 m1 s1 Q):C2 J (TDG X.K CB y2) 2 (TDT X.K CB E0 t) (TDE X.K CB E0 f) (capt ix O) D H1 Q:=by
 refine⟨λi k ys σ2 H2=>∃done m2 s2,Cmp X.K CB D H1 m1 s1 σ2 (Zb::Zb::nj ix Z) ys done H2 m2 s2/\i<=l.length/\ys.length<=i/\k=l.length-i/\(mF t f (nj ix Z) l s1).bind (λvs s2=>.ok (PV.lst vs) s2)=(mF t f (nj ix Z) (l.drop i) s2).bind λvs s2=>.ok (.lst (done++vs)) s2,⟨l.length,[],m1.hide D,s1,(Cmp.start S1 (er.capt ix) hD).env ((er.capt ix).none2.ext0 (Ext0.hide hD).toExtR),aX _,aX _,rfl,?_⟩,?_⟩
 ·simp
 rintro i k ys σ2 H2 ⟨done,m2,s2,C,hi,hy,rfl,eq⟩
 obtain⟨RS,Rc⟩:=it i H2 m2 s2 C.e0 C.sr;by_cases Pd:i<l.length
 ·right;have hq:l[i]?=Za l[i]:=aw Pd;obtain⟨go,yl⟩:=RS _ hq;refine⟨go,λx H3 Tc=>?_⟩;obtain⟨e3,S3,r3⟩:=yl x H3 Tc;have C3:=C.step hD e3 S3;rw[dy Pd] at eq;rw[eq] at P;rw[xS] at P eq;cases hp:CS l[i] s2 with
  |none=>rw[hp] at P;exact P.elim
  |some pq =>
   obtain⟨p1,p2⟩:=pq;rw[hp] at P eq;dsimp only at P eq;refine⟨_,s2,m2,l[i],_,C3.er,S3,r3,y2_of hp,λσ3 Q6=>?_⟩;have C3:=C3.env Q6;refine⟨_,s2,m2,Q6,S3,?_⟩;cases ct:t (Za p1::Za p2::nj ix Z) s2 with
   |bad=>rw[ct] at P;exact P.elim
   |ex c3 s3=>rw[ct] at P;exact P.elim
   |ok bt s3 =>
    rw[ct] at P eq;intro b4 H4 m4 e4 S4 hb;subst hb;have C4:=C3.step hD e4 S4;cases b4 with
    |false =>
     exact L1 ⟨l.length-(i+1),by omega,done,m4,s3,C4.env C4.er.weak2,Pd,by omega,rfl,eq⟩
    |true =>
     refine L0 ⟨_,s3,m4,C4.er,S4,?_⟩;dsimp only at P eq;cases cf:f (Za p1::Za p2::nj ix Z) s3 with
     |bad=>rw[cf] at P;exact P.elim
     |ex c5 s5=>rw[cf] at P;exact P.elim
     |ok v s5 =>
      rw[cf] at eq;intro w H5 m5 e5 S5 r5;have C5:=C4.step hD e5 S5;refine⟨C5.at_,aZ (aI hy (aI hi O6)) (by decide),l.length-(i+1),by omega,done++[v],m5,s5,(C5.push hD r5).env (C5.push hD r5).er.weak2,Pd,by simp;omega,rfl,?_⟩;rw[eq];dsimp only;cases hh:mF t f (nj ix Z) (l.drop (i+1)) s5 with
      |ok vs s6=>simp[Out.bind]
      |ex c6 s6=>exact absurd hh BB
      |bad=>rfl
 ·left;have P8:l.length<=i:=eC Pd;rw[fg P8] at eq;rw[eq] at P;unfold mF at P;obtain⟨TV,rd⟩:=C.done;refine⟨Rc P8,C.at_,P (.ref D) H2 (m2.bare m1.hid) C.ex TV ?_⟩;rw[cK];exact rd λz=>(S1.hs D z).1 hD
def xT{t}(q:TDE X.K CB E (oP fi ix t f) O H Q):Fj (TDI X.K CB E fi) ix (TDG X.K CB y2) 2 (TDT X.K CB E0 t) (TDE X.K CB E0 f) O H Q:=by
 obtain⟨Z,s,m,er,S,P⟩:=q;refine⟨Z,s,m,er,S,?_⟩;unfold oP at P;cases c:fi Z s with
 |bad=>rw[c] at P;exact P
 |ex c' s'=>rw[c] at P;exact P
 |ok l s1 =>
  rw[c] at P;dsimp only[Out.bind] at P;split at P
  ·rename_i O6;intro J H1 m1 e1 S1 it D hD;exact Hw S1 (er.ext e1) it hD O6 (Post.shift e1 P)
  ·exact P.elim
variable{PF PX:Str}{q1 q2 q3:Pos}{kt:Nat}
def Gk(hN:([PF,PX]++fr).Nodup)(h1:scope.names.lookup PF=Za .local)(h2:scope.names.lookup PX=Za .local):DG (blk X scope cl C ([PF,PX]++fr) O7 O9 fp) CB (.Tuple [.Name PF q1,.Name PX q2] kt q3) y2 :=
 si (mG (mB 0 hN rfl (.inl (dH h1)) (.inr (dH h1))) (mG (mB 1 hN rfl (.inl (dH h2)) (.inr (dH h2))) ql))
def zR(hi:DI X CB E (.Tuple [.Name PF q1,.Name PX q2] kt q3) iter fi)(he:∀cl C O7 O9 fp,DE (blk X scope cl C ([PF,PX]++fr) O7 O9 fp) CB E0 Pl f)(ht:∀cl C O7 O9 fp,DIfs (blk X scope cl C ([PF,PX]++fr) O7 O9 fp) CB Pk t:=by exact λ_ _ _ _ _=>uG)(hc:X.calm=true:=by rfl)(S:CompOkG X.N X.env.scope scope [PF,PX] fr ix:=by exact cokG ‹FnScope _ _ _›)(h1:scope.names.lookup PF=Za .local:=by rfl)(h2:scope.names.lookup PX=Za .local:=by rfl)(hs:∀v,ce iter X.env v=pure v:=by intro _;rfl):DE X CB E (.ListComp Pl [⟨.Tuple [.Name PF q1,.Name PX q2] kt q3,iter,Pk,0⟩] scope pos) (oP fi ix t f) :=
 ⟨(IH hc S hi.pi (λcl C O7 O9 fp=>(Gk (CB:=CB) S.nd h1 h2).pg) (λcl C O7 O9 fp=>(ht cl C O7 O9 fp).pifs) (λcl C O7 O9 fp=>(he cl C O7 O9 fp).pe) hs).mono λO H Q q=>xT q⟩
def xP(hi:DI X CB E (.Tuple [.Name PF q1,.Name PX q2] kt q3) iter fi)(he:∀cl C O7 O9 fp,DE (blk X scope cl C ([PF,PX]++fr) O7 O9 fp) CB E0 Pl f)(ht:∀cl C O7 O9 fp,DIfs (blk X scope cl C ([PF,PX]++fr) O7 O9 fp) CB Pk t:=by exact λ_ _ _ _ _=>uG)(hN:X.N.Nodup:=by exact ‹FnScope _ _ _›.nd)(Rl:X.N[i]?=Za y:=by rfl)(QT:X.env.scope.names.lookup y=Za .local:=by rfl)(hc:X.calm=true:=by rfl)(S:CompOkG X.N X.env.scope scope [PF,PX] fr ix:=by exact cokG ‹FnScope _ _ _›)(h1:scope.names.lookup PF=Za .local:=by rfl)(h2:scope.names.lookup PX=Za .local:=by rfl)(Rf:dQ (.ListComp Pl [⟨.Tuple [.Name PF q1,.Name PX q2] kt q3,iter,Pk,0⟩] scope pos) (Za (.Name y py)) spos.line X.env=pure true:=by rfl)(hs:∀v,ce iter X.env v=pure v:=by intro _;rfl):DS X CB E (.Assign [.Name y py] (.ListComp Pl [⟨.Tuple [.Name PF q1,.Name PX q2] kt q3,iter,Pk,0⟩] scope pos) spos) (xSet i (oP fi ix t f)) :=
 ⟨(Dc hN Rl QT hc S hi.pi (λcl C O7 O9 fp=>(Gk (CB:=CB) S.nd h1 h2).pg) (λcl C O7 O9 fp=>(ht cl C O7 O9 fp).pifs) (λcl C O7 O9 fp=>(he cl C O7 O9 fp).pe) Rf hs).mono λD O H=>oE λZ s m er S P =>
  xT ⟨Z,s,m,er,S,Post.so P λv s1 u H1 m1 e1 S1 r1 P1=>P1.next S1 ((er.ext e1).set i r1)⟩⟩
end
def numS(i:Int):Str:=aG (toString i)
section
variable{X:Cx}{CB:ak}{E:XK}{a b e:bo}{f g:XE}{pos p1 p2 p3:Pos}
def Hz:CallR X (.type "str") (λxs H Q=>(∃i,xs=[.int i]/\i.natAbs.log2<1920/\Q (.str (numS i)) H)\/∃x,xs=[.str x]/\Q (.str x) H):=by
 intro O2 s O H xs us Q I r h;rcases h with⟨i,rfl,hz,q⟩|⟨x,rfl,q⟩
 ·obtain⟨u,rfl,t,rfl⟩:=qp r;exact PySem.P.str_of_int hz ⟨.str _,H,I.tok _,⟨_,rfl⟩,q⟩
 ·obtain⟨u,rfl,t,rfl⟩:=qp r;exact PySem.P.str_of_str ⟨.str _,H,I,⟨_,rfl⟩,q⟩
def fStr(vs:List PV)(s:Sto):Out PV:=match vs with
 |[.int i]=>if i.natAbs.log2<1920 then .ok (.str (numS i)) s else .bad
 |[.str x]=>.ok (.str x) s
 |_=>.bad
def b_str:BltR X CB E (.type "str") fStr:=⟨_,Hz,by
 intro H m s v x Q S rx P;unfold fStr at P;split at P
 ·split at P
  ·rename_i hz;cases rx with
   |cons r n=>cases n;cases r;exact .inl ⟨_,rfl,hz,P.here S .str⟩
  ·exact P.elim
 ·cases rx with
  |cons r n=>cases n;cases r;exact .inr ⟨_,rfl,P.here S .str⟩
 ·exact P.elim⟩
end
structure DEx(X:Cx)(CB:ak)(e:bo)(f:XE):Prop where
 pex:PEx X e (λE=>TDE X.K CB E f)
structure DSx(X:Cx)(CB:ak)(st:bQ)(u:XS):Prop where
 psx:PSx X st (λE=>TDS X.K CB E u)
section
variable{X:Cx}{CB:ak}{E:XK}{a b c e:bo}{es:List bo}{f g h:XE}{fa:XA}{t:XT}{p pos Ph O4 O5 np hp:Pos}{x y:Str}{st ba0:bQ}{bs QB:List bQ}{u v:XS}{n k:Nat}{D:XF}{ps:List Str}
open Classical in
def zY(f:XE)(fa:XA)(Z:En)(s:Sto):Out PV:=(f Z s).bind λv s1=>match v with
 |.lst l=>(fa Z s1).bind λvs s2=>match vs with
  |[.str y]=>match tE l with
   |some ss=>match ss.findIdx? λz=>decide (z=y) with
    |some j=>if ss.length<1000 then .ok (.int (j:Nat)) s2 else .bad
    |none=>.bad
   |none=>.bad
  |_=>.bad
 |_=>.bad
def Jo(ho:DE X CB E a f)(ha:DA X CB E (e::es) fa)(Pu:cU a "index" X.env (eval a X.env)=eval a X.env:=by rfl)(Qk:((b8 O5 (aC (e::es) X.env)).all (λx=>!x.1)&&(eK O5 (cY [] X.env)).all (λx=>x.1.isSome)
   && decide ((e::es).length+([]:List fG).length+(if([]:List fG).isEmpty then 0 else 1)<30))=true:=by rfl)(Pt:(O4.endLine==O5.line)=true:=by rfl)(hs:SEb X e es:=by rfl)(Py:(b8 O5 (aC es X.env)).any (·.1)=false:=by rfl) :
  DE X CB E (.Call (.Attribute a "index" O4) (e::es) [] O5) (zY f fa) :=
 ⟨(KC jK jJ PySem.F.type_list_index IT ho.pe ha.pa Pu Qk Pt hs Py).mono λO H Q=>oE λZ s m er S P=>⟨Z,s,m,er,S,P.bind λv s1 u H1 m1 e1 S1 r1 P1=>by
  split at P1
  ·rename_i l;cases r1 with
   |@lst ad Q8 _ h0 pu q0 =>
   refine⟨.inl ⟨rfl,Q8,SqL.of h0⟩,Z,s1,m1,er.ext e1,S1,P1.bind λvs s2 us H2 m2 e2 S2 r2 P2=>?_⟩;split at P2
   ·rename_i y;split at P2
    ·rename_i ss hss;split at P2
     ·rename_i j hj;split at P2
      ·rename_i hl;cases r2 with
       |cons r n' =>
        cases n';cases r;have ev:Q8=ss.map V.str:=by have e9:=uM hss;rw[e9] at q0;exact q0.strs
        obtain⟨Pd,hp,Qu⟩:=iW.mp hj;refine⟨ad,ss,y,j,rfl,rfl,?_,?_,λi hi z=>?_,hl,P2.here S2 .int⟩
        ·rw[<-ev];exact e2.el ad _ h0 (by intro kvs z;cases z) pu
        ·rw[aw Pd,Zf hp]
        ·have:=Qu i hi;have R5:i<ss.length:=by lia
         rw[aw R5] at z;rw[aO z] at this;simp at this
      ·exact P2.elim
     ·exact P2.elim
    ·exact P2.elim
   ·exact P2.elim
  ·exact P1.elim⟩⟩
open Classical in
end
open PySem.Builtin.Str
section
variable{X:Cx}{CB:ak}{E:XK}{a b c e:bo}{es:List bo}{f g h:XE}{fa:XA}{t:XT}{p pos Ph O4 O5 np hp:Pos}{x y:Str}{st ba0:bQ}{bs QB:List bQ}{u v:XS}{n k:Nat}{D:XF}{ps:List Str}
def xBad:XS:=λ_ _=>.bad
def OB:DS X CB E st xBad:=⟨λO2 s O H D I ⟨_,_,_,_,_,P⟩=>P.elim⟩
end
def Cm{x y:Str}(h:x.cps.toList=y.cps.toList):x=y:=by obtain⟨⟨l⟩⟩:=x;obtain⟨⟨k⟩⟩:=y;cases h;rfl
open PySem.NumText PySem.W in
section
variable{X:Cx}
variable{CB:ak}{E:XK}{a b c e:bo}{f g h:XE}{p pos:Pos}
end
section
variable{X:Cx}{CB:ak}{E:XK}{x:Str}{k n:Nat}{ps:List Str}{D:XF}{p pos:Pos}
end
def sem:=al @fnD.eq_1 <|al @xSeq.eq_1 <|al @xSet.eq_1 <|al @xRet.eq_1 <|al @xRetN.eq_1 <|al @xDo.eq_1 <|al @xIf.eq_1 <|al @xEnd.eq_1 <|al @xPut.eq_1 <|al @xPar.eq_1 <|al @xAsg.eq_1 <|al @x1.eq_1 <|al @x2.eq_1 <|al @xVar.eq_1 <|al @xC.eq_1 <|al @xB.eq_1 <|al @xCall.eq_1 <|al @xBM.eq_1 <|al @xCons.eq_1 <|al @xNil.eq_1 <|al @xTup.eq_1 <|al @xLst.eq_1 <|al @xLstC.eq_1 <|al @xTr.eq_1 <|al @xNot.eq_1 <|al @xAnd.eq_1 <|al @xOr.eq_1 <|al @xAndV.eq_1 <|al @xOrV.eq_1 <|al @xNotV.eq_1 <|al @xSl.eq_1 <|al @xNoP.eq_1 <|al @xPart.eq_1 <|al @xIter.eq_1 <|al @xRng1.eq_1 <|al @xIterS.eq_1 <|al @xIterD.eq_1 <|al @xFor.eq_1 <|al @xFrz.eq_1 <|al @frz1.eq_1 <|al @frz1.eq_2 <|al @xAppend.eq_1 <|al @xGet.eq_1 <|al @xJoin.eq_1 <|al @xNewD.eq_1 <|al @xDisp.eq_1 <|al @xIsiT.eq_1 <|al @xIfe.eq_1 <|al @xChain.eq_1 <|al @xBook.eq_1 <|al @Out.bind.eq_1 <|al @Out.bind.eq_2 <|al @Out.bind.eq_3 <|al @Out.so.eq_1 <|al @Out.so.eq_2 <|al @Out.so.eq_3 <|al @SO.noex.eq_1 <|al @SO.noex.eq_2 <|al @fAdd.eq_1 <|al @fAdd.eq_2 <|al @fAdd.eq_3 <|al @fSub.eq_1 <|al @fSub.eq_2 <|al @fMul.eq_1 <|al @fMul.eq_2 <|al @fMul.eq_3 <|al @fDiv.eq_1 <|al @fDiv.eq_2 <|al @fMod.eq_1 <|al @fMod.eq_2 <|al @fPow.eq_1 <|al @fPow.eq_2 <|al @fCmp.eq_1 <|al @fCmp.eq_2 <|al @fEqN.eq_1 <|al @fIs.eq_1 <|al @fIs.eq_2 <|al @fIsnt.eq_1 <|al @fIsnt.eq_2 <|al @fIx.eq_1 <|al @fIx.eq_2 <|al @fIx.eq_3 <|al @fIx.eq_4 <|al @fIx.eq_5 <|al @fNeg.eq_1 <|al @fNeg.eq_2 <|al @fSl.eq_1 <|al @fSl.eq_2 <|al @fLen.eq_1 <|al @fLen.eq_2 <|al @fLen.eq_3 <|al @fLen.eq_4 <|al @fAbs.eq_1 <|al @fAbs.eq_2 <|al @fInt.eq_1 <|al @fInt.eq_2 <|al @fInt.eq_3 <|al @fTuple.eq_1 <|al @fTuple.eq_2 <|al @fList.eq_1 <|al @fList.eq_2 <|al @fList.eq_3 <|al @fAll.eq_1 <|al @fAll.eq_2 <|al @lsOf.eq_1 <|al @lsOf.eq_2 <|al @lsOf.eq_3 <|al @lsOf.eq_4 <|al @dcOf.eq_1 <|al @dcOf.eq_2 <|al @dcOf.eq_3 <|al @kyOf.eq_1 <|al @kyOf.eq_2 <|al @kyOf.eq_3 <|al @toV.eq_1 <|al @toV.eq_2 <|al @toV.eq_3 <|al @toV.eq_4 <|al @toV.eq_5 <|al @toVs.eq_1 <|al @toVs.eq_2 <|al @yName.eq_1 <|al @yNil.eq_1 <|al @yNil.eq_2 <|al @yCons.eq_1 <|al @yCons.eq_2 <|al @yTup.eq_1 <|al @yTup.eq_2 <|@xOnly.eq_1
section
variable{P:aK}{w:a6}{K:aa}{mg:Str->Option ah}{base h:bx}{x q:Str}{st:bQ}{f C:ak}{fd:cz}{ps:List Str}{sp:Sp}{k:Nat}{oc kV dc pm cd ct:ah}{od an:Option ak}{sl:Array (Option ah)}
def Bd(x q:Str)(st:bQ)(ps:List Str):Prop:=∀(kV dc pm:ah)(an:Option ak)(cd ct:ah)(us:List ah),us.length=ps.length->fZ (b6 x q (n8 st) (nq st) (lP st) .none kV dc pm an cd ct) ⟨us,[]⟩=pure (ps.zip us)
def uC:∀{us:List ah},us.length=n+1->∃v r,us=v::r/\r.length=n
 |v::r,h=>⟨v,r,rfl,jM h⟩
def bd0(e:ps.length=0:=by rfl)(h:∀kV dc pm an cd ct,fZ (b6 x q (n8 st) (nq st) (lP st) .none kV dc pm an cd ct) ⟨[],[]⟩=pure (ps.zip []):=by intros;rfl):Bd x q st ps:=λ_ _ _ _ _ _ us hl=>by have l0:=hl.trans e;cases bV l0;exact h _ _ _ _ _ _
def bd1(e:ps.length=1:=by rfl)(h:∀kV dc pm an cd ct (v0:ah),fZ (b6 x q (n8 st) (nq st) (lP st) .none kV dc pm an cd ct) ⟨[v0],[]⟩=pure (ps.zip [v0]):=by intros;rfl):Bd x q st ps:=λ_ _ _ _ _ _ us hl=>by have l0:=hl.trans e;obtain⟨_,us,rfl,l1⟩:=uC l0;cases bV l1;exact h _ _ _ _ _ _ _
def bd2(e:ps.length=2:=by rfl)(h:∀kV dc pm an cd ct (v0 v1:ah),fZ (b6 x q (n8 st) (nq st) (lP st) .none kV dc pm an cd ct) ⟨[v0,v1],[]⟩=pure (ps.zip [v0,v1]):=by intros;rfl):Bd x q st ps:=λ_ _ _ _ _ _ us hl=>by have l0:=hl.trans e;obtain⟨_,us,rfl,l1⟩:=uC l0;obtain⟨_,us,rfl,l2⟩:=uC l1;cases bV l2;exact h _ _ _ _ _ _ _ _
def bd3(e:ps.length=3:=by rfl)(h:∀kV dc pm an cd ct (v0 v1 v2:ah),fZ (b6 x q (n8 st) (nq st) (lP st) .none kV dc pm an cd ct) ⟨[v0,v1,v2],[]⟩=pure (ps.zip [v0,v1,v2]):=by intros;rfl):Bd x q st ps:=λ_ _ _ _ _ _ us hl=>by have l0:=hl.trans e;obtain⟨_,us,rfl,l1⟩:=uC l0;obtain⟨_,us,rfl,l2⟩:=uC l1;obtain⟨_,us,rfl,l3⟩:=uC l2;cases bV l3;exact h _ _ _ _ _ _ _ _ _
def bd4(e:ps.length=4:=by rfl)(h:∀kV dc pm an cd ct (v0 v1 v2 v3:ah),fZ (b6 x q (n8 st) (nq st) (lP st) .none kV dc pm an cd ct) ⟨[v0,v1,v2,v3],[]⟩=pure (ps.zip [v0,v1,v2,v3]):=by intros;rfl):Bd x q st ps:=λ_ _ _ _ _ _ us hl=>by have l0:=hl.trans e;obtain⟨_,us,rfl,l1⟩:=uC l0;obtain⟨_,us,rfl,l2⟩:=uC l1;obtain⟨_,us,rfl,l3⟩:=uC l2;obtain⟨_,us,rfl,l4⟩:=uC l3;cases bV l4;exact h _ _ _ _ _ _ _ _ _ _
def bd5(e:ps.length=5:=by rfl)(h:∀kV dc pm an cd ct (v0 v1 v2 v3 v4:ah),fZ (b6 x q (n8 st) (nq st) (lP st) .none kV dc pm an cd ct) ⟨[v0,v1,v2,v3,v4],[]⟩=pure (ps.zip [v0,v1,v2,v3,v4]):=by intros;rfl):Bd x q st ps:=λ_ _ _ _ _ _ us hl=>by have l0:=hl.trans e;obtain⟨_,us,rfl,l1⟩:=uC l0;obtain⟨_,us,rfl,l2⟩:=uC l1;obtain⟨_,us,rfl,l3⟩:=uC l2;obtain⟨_,us,rfl,l4⟩:=uC l3;obtain⟨_,us,rfl,l5⟩:=uC l4;cases bV l5;exact h _ _ _ _ _ _ _ _ _ _ _
def bd6(e:ps.length=6:=by rfl)(h:∀kV dc pm an cd ct (v0 v1 v2 v3 v4 v5:ah),fZ (b6 x q (n8 st) (nq st) (lP st) .none kV dc pm an cd ct) ⟨[v0,v1,v2,v3,v4,v5],[]⟩=pure (ps.zip [v0,v1,v2,v3,v4,v5]):=by intros;rfl):Bd x q st ps:=λ_ _ _ _ _ _ us hl=>by have l0:=hl.trans e;obtain⟨_,us,rfl,l1⟩:=uC l0;obtain⟨_,us,rfl,l2⟩:=uC l1;obtain⟨_,us,rfl,l3⟩:=uC l2;obtain⟨_,us,rfl,l4⟩:=uC l3;obtain⟨_,us,rfl,l5⟩:=uC l4;obtain⟨_,us,rfl,l6⟩:=uC l5;cases bV l6;exact h _ _ _ _ _ _ _ _ _ _ _ _
structure Gx(K:aa)(x:Str):Prop where
 ex:∃X,bR K ba x=Za (Za (.ref X))/\Exc K X
def gx(n:bR K ba x=Za (Za (.ref X)))(a:jD K X bmV "ValueError.__new__"=true)(b:aW K (.ref X) "__getattribute__"=Za (Za (.builtin "BaseException.__getattribute__")))(c:aW K (.ref X) "__getattr__"=Za Zb)(d:aW K (.ref X) "__class__"=Za (Za (.builtin "object.__class__")))(e:f8 K (.builtin "object.__class__") "__get__"=Za (Za (.builtin "getset_descriptor.__get__")))(f:jc K (.builtin "object.__class__")=Za true)(g:gh K X (.type "object")=Za true)(h:gh K X (.type "BaseException")=Za true):Gx K x:=⟨X,n,a,b,c,d,e,f,g,h⟩
structure Gb(K:aa)(C:ak):Prop where
 n:bR K ba "Book"=Za (Za (.ref C))
 p:d8 K C cC=true
 h:eS K C=true
 o:f9 K C=true
 s:aW K (.ref C) "__setattr__"=Za (Za (.builtin "object.__setattr__"))
 m:fE K C=true
 k:cF K (.ref C)=true
 a:aW K (.ref C) "people"=Za Zb
 b:aW K (.ref C) "things_of"=Za Zb
 c:aW K (.ref C) "mark_of"=Za Zb
 d:aW K (.ref C) "loss_of"=Za Zb
 e:aW K (.ref C) "held_of"=Za Zb
structure Gt(K:aa)(x:Str)(u v:Int):Prop where
 ex:∃(f:ak)(od:Option ak)(a b:Tok)(n:Nat)(sl:Array (Option ah)),bR K ba x=Za (Za (.ref f))/\K.lookup f=Za ⟨.type "tuple",od,.seq #[.int u a,.int v b] n,sl⟩
def gt(h:bR K ba x=Za (Za (.ref f)))(l:K.lookup f=Za ⟨.type "tuple",od,.seq #[.int u a,.int v b] n,sl⟩):Gt K x u v:=⟨f,od,a,b,n,sl,h,l⟩
structure Gi(K:aa)(x:Str)(u:Int):Prop where
 ex:∃t,bR K ba x=Za (Za (.int u t))
def gi(h:bR K ba x=Za (Za (.int u t))):Gi K x u:=⟨t,h⟩
structure Gz(K:aa)(x:Str):Prop where
 z:bR K ba x=Za Zb
def Gz.at_(c:Gz K x)(X:K.In h)(G:h.Ns ba mg):mg x=none:=PySem.W.mg_none_of X G c.z
structure Gf(K:aa)(x:Str)(st:bQ):Prop where
 ex:∃f fd,bR K ba x=Za (Za (.ref f))/\Fun K x x st f fd
structure Gm(K:aa)(C:ak)(x q:Str)(st:bQ):Prop where
 ex:∃f fd,aW K (.ref C) x=Za (Za (.ref f))/\gF K (.ref f)=true/\Fun K x q st f fd
def gf(h:bR K ba x=Za (Za (.ref f)))(l:K.lookup f=Za ⟨oc,od,.func (b6 x x (n8 st) (nq st) (lP st) .none kV dc pm an cd ct),sl⟩)(c:fR K cd x=true)(k:cF K (.ref f)=true):Gf K x st:=⟨f,_,h,Kc l c k⟩
def gm(h:aW K (.ref C) x=Za (Za (.ref f)))(i:gF K (.ref f)=true)(l:K.lookup f=Za ⟨oc,od,.func (b6 x q (n8 st) (nq st) (lP st) .none kV dc pm an cd ct),sl⟩)(c:fR K cd q=true)(k:cF K (.ref f)=true):Gm K C x q st:=⟨f,_,h,i,Kc l c k⟩
def Gf.fn(X:K.In h)(G:h.Ns ba mg)(c:Gf K x st)(o:∀{f:ak}{fd:cz},Fun K x x st f fd->FnOk P w K mg base (CXo P w) k f fd ps sp)(b:Bd x x st ps:=by first|exact bd1|exact bd2|exact bd3|exact bd4|exact bd5|exact bd6|exact bd0):Fn P w K mg base x k ps sp :=
 let⟨f,fd,n,U⟩:=c.ex;⟨f,fd,o U,jC X G n,U.kp,U.binds b⟩
def Gm.mt(cl:Cls K C)(c:Gm K C x q st)(o:∀{f:ak}{fd:cz},Fun K x q st f fd->FnOk P w K mg base (CXo P w) k f fd ps sp)(b:Bd x q st ps:=by first|exact bd1|exact bd2|exact bd3|exact bd4|exact bd5|exact bd6|exact bd0):Mt P w K mg base C x k ps sp :=
 let⟨f,fd,n,i,U⟩:=c.ex;⟨f,fd,o U,⟨n,i,U.kp⟩,cl,U.binds b⟩
def Gm.bk(c:Gm K C "__init__" q st)(X:K.In h)(G:h.Ns ba mg)(g:Gb K C)(o:∀{f:ak}{fd:cz},Fun K "__init__" q st f fd->FnOk P w K mg base (CXo P w) k f fd ["self"] sp)(b:Bd "__init__" q st ["self"]:=by exact bd1):MkB P w K mg base "Book" C k ["self"] sp :=
 let⟨f,fd,n,i,U⟩:=c.ex;⟨f,fd,o U,jC X G g.n,⟨g.m,n,i,g.k⟩,U.binds b⟩
end
section
variable{X:Cx}{CB:ak}{E:XK}{a b:bo}{f g:XE}{pos O4 O5:Pos}
def Ly:OpR X (dI .Mult) (rI iV λi j=>.int (i*j)):=opI λ_ _ _ _ _ _ _ hc q=>mul_int q hc
open Classical in
def E8(v w:PV)(s:Sto):Out PV:=match v,w with
 |.int i,.int j=>if iV i j then .ok (.int (i*j)) s else .bad
 |_,_=>.bad
def Oc:Op2 X.K CB E (rI iV λi j=>V.int (i*j)) E8:=by
 intro H m s v w x y Q S rx ry P;unfold E8 at P;split at P
 ·cases rx;cases ry;split at P
  ·rename_i h;exact⟨_,_,rfl,rfl,h,P.here S .int⟩
  ·exact P.elim
 ·exact P.elim
def Mx(ha:DE X CB E a f)(hb:DE X CB E b g):DE X CB E (.BinOp a .Mult b pos) (x2 f g E8):=zk Ly Oc ha hb
def ze(v w:PV)(s:Sto):Out PV:=match v,w with
 |.str x,.int n=>if n=0 then .ok (.str cC) s else if n=1 then .ok (.str x) s else .bad
 |_,_=>.bad
def Lx:OpR X (dI .Mult) (λx y H Q=>∃z n,x=.str z/\y=.int n/\((n=0/\Q (.str cC) H)\/(n=1/\Q (.str z) H))):=by
 intro O2 s O H x y v u Q I rx ry h;obtain⟨z,n,rfl,rfl,h⟩:=h;obtain⟨t,rfl⟩:=rx;obtain⟨t',rfl⟩:=ry;rcases h with⟨rfl,q⟩|⟨rfl,q⟩
 ·exact PySem.P.mul_str_none (by decide) (by decide) ⟨.str cC,H,I.tok _,⟨_,rfl⟩,q⟩
 ·refine PySem.P.mul_str (by decide) (λ_ z=>absurd z (by simp)) (λ_ z=>absurd z (by simp)) ?_;rw[Zd (by decide),Zc (by simp)];exact⟨.str z,H,I,⟨_,rfl⟩,q⟩
def Ob:Op2 X.K CB E (λx y H Q=>∃z n,x=.str z/\y=.int n/\((n=0/\Q (.str cC) H)\/(n=1/\Q (.str z) H))) ze:=by
 intro H m s v w x y Q S rx ry P;unfold ze at P;split at P
 ·cases rx;cases ry;split at P
  ·rename_i h;exact⟨_,_,rfl,rfl,.inl ⟨h,P.here S .str⟩⟩
  ·split at P
   ·rename_i h;exact⟨_,_,rfl,rfl,.inr ⟨h,P.here S .str⟩⟩
   ·exact P.elim
 ·exact P.elim
def Mv(ha:DE X CB E a f)(hb:DE X CB E b g):DE X CB E (.BinOp a .Mult b pos) (x2 f g ze):=zk Lx Ob ha hb
def C0(l:List (Key×PV))(k:Key):List (Key×PV):=l.filter λkv=>decide (kv.1≠k)
theorem RepKs.drop{K:aa}{H:Hp}{m:Mp}{s:Sto}{k:Key}:∀{vs:List (Key×V)}{l:List (Key×PV)},RepKs K H m s vs l->RepKs K H m s (x8 vs k) (C0 l k)
 |_,_,.nil=>.nil
 |_,_,.cons (k:=k') r rs=>by
  unfold x8 C0;rw[gO,gO];by_cases h:k'=k
  ·rw[Zd (by simp[h]),Zd (by simp[h])];exact rs.drop
  ·rw[Zc (by simp[h]),Zc (by simp[h])];exact .cons r rs.drop
def Es(f g:XE)(Z:En)(s:Sto):Out PV:=(f Z s).bind λv s1=>match v with
 |.ref n=>match s1.get n with
  |some (.dct _)=>(g Z s1).bind λw s2=>match s2.get n with
   |some (.dct l)=>match kyOf w with
    |some k=>match qz l k with
     |some p=>.ok p (s2.set n (.dct (C0 l k)))
     |none=>.bad
    |none=>.bad
   |_=>.bad
  |_=>.bad
 |_=>.bad
def MB(ho:DE X CB E a f)(he:DE X CB E b g)(mm:M1 X a "pop" O4 b O5:=by exact⟨rfl,rfl,rfl,rfl⟩):DE X CB E (.Call (.Attribute a "pop" O4) [b] [] O5) (Es f g) :=
 ⟨(DP ho.pe he.pe mm).mono λO H Q=>oE λZ s m er S P=>⟨Z,s,m,er,S,P.bind λv s1 u H1 m1 e1 S1 r1 P1=>by
  split at P1
  ·split at P1
   ·rename_i n _ l0 hg;obtain⟨_,Q8,h0,r0⟩:=S1.get hg;cases r1 with
    |ref hn =>
    refine⟨_,rfl,.inl ⟨Q8,.inl h0⟩,Z,s1,m1,er.ext e1,S1,P1.bind λw s2 u2 H2 m2 e2 S2 r2 P2=>?_⟩;split at P2
    ·rename_i l R7;split at P2
     ·rename_i k hk;split at P2
      ·rename_i p hv;obtain⟨_,vs,h1,r⟩:=S2.get R7;obtain⟨u,eu,ru⟩:=(r.val k).1 p hv;obtain⟨S3,e3⟩:=S2.putD R7 (r.drop (k:=k));rw[<-e2.ad _ hn];exact⟨vs,k,u,h1,qj r2 hk,eu,P2 _ _ _ e3 S3 (ru.ext e3)⟩
      ·exact P2.elim
     ·exact P2.elim
    ·exact P2.elim
   ·exact P1.elim
  ·exact P1.elim⟩⟩
def Ite(K:aa)(a:ak):It :=
 ⟨λi H=>∃xs x,SqL K H a xs/\xs[i]?=Za x,λi H x H'=>∃p,H p=Zb/\x=.ref p/\∀xs,SqL K H a xs->∃y,xs[i]?=Za y/\H'=upd H p (.tup [.int i,y]),λi H=>∃xs,SqL K H a xs/\xs.length<=i⟩
def Inv.turned2(I:Inv X O2 O H s)(k:∀b o,b≠e->b≠it->s.heap.get? b=Za o->h'.get? b=Za o)(fe:zC X O2 H e)(fi:zC X O2 H it)(hn:s.heap.objs.size<=n)(new:ObjOk X.prog X.w (upd H n (.tup xs)) h' n (.tup xs)):Inv X O2 O (upd H n (.tup xs)) { s with heap:=h',toks:=t' }:=by
 have nH:H n=none:=I.hok.fresh hn;have nn:∀b u,H b=Za u->b≠n:=λb u q z=>by rw[z,nH] at q;cases q
 have QR:∀b u,H b=Za u->b≠e/\b≠it:=λb u q=>⟨λz=>(by rw[z,fe.1] at q;cases q),λz=>(by rw[z,fi.1] at q;cases q)⟩;have k':∀b o,b∉[e,it]->s.heap.get? b=Za o->h'.get? b=Za o:=λb o hc q=>k b o (λz=>hc (by simp[z])) (λz=>hc (by simp[z])) q;refine I.step (g':=s.gens) (d':=s.drawn) (ch:=[e,it]) (λb hb=>?_) (λb o _ _ hc e _=>k' b o hc e) (λb o _ _ hc e _=>⟨o.slots,k' b o hc e⟩) (λb o _ q z=>?_)
  (λb o hc e=>⟨o,k' b o hc e⟩) (λb _ q=>?_) (λb _ _ q=>?_) (λb ps q=>⟨#[],?_⟩) (λm hm=>?_) (λb u q=>?_) I.bare
 ·rcases af.mp hb with z|z
  ·subst z;exact⟨fe.2.2.2.1,fe.2.1,fe.2.2.2.2.1,fe.2.2.2.2.2⟩
  ·have z:=aq.mp z;subst z;exact⟨fi.2.2.2.1,fi.2.1,fi.2.2.2.2.1,fi.2.2.2.2.2⟩
 ·rw[lK (aE (ay (az q) hn))];exact z
 ·rw[lK (nn b _ q)];exact q
 ·rw[lK (nn b _ q)];exact q
 ·rw[lK (nn b _ q),q];simp
 ·obtain⟨o,es,ep,ho,r⟩:=hm;exact⟨o,es,ep,k _ o (bX fe.2.1) (bX fi.2.1) ho,r⟩
 ·by_cases hb:b=n
  ·subst hb;rw[lN] at q;cases q;exact new
  ·rw[lK hb] at q;refine(I.hok b u q).stay (λc v hc w=>?_) (λc w=>by rw[lK (nn c _ w)];exact w) λc xs w=>by rw[lK (nn c _ w)];exact w
   have:c≠e/\c≠it:=by
    rcases hc with z|z
    ·rw[z];exact QR b u q
    ·exact QR c _ z
   exact k c v this.1 this.2 w
def GE{P:aK}{w:a6}{K:aa}{es:List bo}{x1:_}{px:Pos}(a e it:ak)(Po:e≠it):Turn P w K (.Tuple es x1 px) (Ite K a) [e,it] e (λi h=>(∃old,IsEnum h e it i old)/\h.IsListIter it a i) where
 mem:=by simp
 obj:=λi h st b hb=>by
  obtain⟨⟨old,he⟩,o,e1,c,d⟩:=st;rcases af.mp hb with z|z
  ·subst z;exact⟨_,he,λv z=>by cases z⟩
  ·have z:=aq.mp z;subst z;exact⟨o,e1,λv z=>by rw[d] at z;cases z⟩
 keep:=λi h h' st k=>⟨let⟨old,he⟩:=st.1;⟨old,k e (by simp) _ he⟩,st.2.at λo e=>k it (by simp) o e⟩
 item:=by
  intro X hP hw hK hc i O2 s O H E I hf st hg;subst hP hw hK;obtain⟨xs,x,hq,hx⟩:=hg;obtain⟨its,rv,p,hz⟩:=I.list hq;obtain⟨u,hu,ru⟩:=rv.get hx;obtain⟨⟨old,he⟩,st⟩:=st;refine wpAny_pyNext_enum_item he st p.isList (x:=u) (by simpa using hu) Po λh' eo Qd ht hs kp=>⟨_,rfl,?_⟩;refine wpAny_letOwnedTupleGo_enum eo λh2 e2 sb=>?_;have hel:e<s.heap.objs.size:=az he;have Tf:h2.get? s.heap.objs.size=Za { cls:=.type "tuple",data:=.seq #[.int i s.toks,u] }:=(sb.2 _ (f7 hel)).trans ht;have U5:∀b o,b≠e->b≠it->s.heap.get? b=Za o->h2.get? b=Za o:=λb o b1 b2 q=>(sb.2 b b1).trans (kp b o b1 b2 q);have I1:Inv X O2 O (upd H s.heap.objs.size (.tup [.int i,x])) { s with heap:=h2,toks:=s.toks+1 } :=
   I.turned2 U5 (hf e (by simp)) (hf it (by simp)) (am _) ⟨(show 2<=aJ by decide),[.int i s.toks,u],.cons ⟨_,rfl⟩ (.cons ru .nil),_,Tf,rfl,0,rfl⟩
  refine⟨.ref s.heap.objs.size,_,I1,rfl,⟨_,I.fresh,rfl,λys hy=>⟨x,by rw[I.list_inj hy hq];exact hx,rfl⟩⟩,⟨⟨u,by simpa using e2⟩,Qd.at λo q=>(sb.2 it (bX Po)).trans q⟩,λb hb=>?_⟩;have Pd:b≠s.heap.objs.size:=by
   rcases af.mp hb with z|z
   ·rw[z];exact aE hel
   ·rw[aq.mp z];obtain⟨o,q,_⟩:=st;exact aE (az q)
  rw[lK Pd];exact(hf b hb).1
 done:=by intro X hP hw hK hc i O2 s O H E I hf st hg;subst hP hw hK;obtain⟨xs,hq,hx⟩:=hg;obtain⟨its,rv,p,hz⟩:=I.list hq;obtain⟨f0,f1,f2,f3,f4,f5⟩:=hf it (by simp);obtain⟨⟨old,he⟩,st⟩:=st;have hl:=rv.length;exact wpAny_pyNext_enum_end (I.ok.hd hc) he st p.isList (by simp;lia) λh' eb=>⟨rfl,I.turned (t':=s.toks) (λb o hb e=>eb b o hb e) f0 f1 f3 f4 f5⟩
 self:=λ_ _ _ _ _ st h=>let⟨_,he⟩:=st.1;wpAny_pyIter_enum he h
def qU(k:Nat):List PV->List PV
 |[]=>[]
 |p::r=>.tup [.int k,p]::qU (k+1) r
theorem xx:∀(l:List PV)(k i:Nat),(qU k l)[i]?=(l[i]?).map λp=>PV.tup [.int (k+i:Nat),p]
 |[],_,_=>rfl
 |p::r,k,0=>rfl
 |p::r,k,i+1=>by have:=xx r (k+1) i;rw[show k+1+i=k+(i+1) by lia] at this;exact this
theorem rT:∀(l:List PV)(k:Nat),(qU k l).length=l.length
 |[],_=>rfl
 |p::r,k=>congrArg (·+1) (rT r (k+1))
def wj(fa:XA)(Z:En)(s:Sto):Out (List PV):=(fa Z s).bind λvs s1=>match vs with
 |[.lst l]=>.ok (qU 0 l) s1
 |_=>.bad
def Ci:bP "enumerate"=Za (.type "enumerate"):=by decide +kernel
def iEnum(K:aa)(ta:TA):TI:=λO H R=>ta O H λxs H1=>∃a ys,xs=[.ref a]/\SqL K H1 a ys/\R (Ite K a) H1
def Ln{es:List bo}{x1:_}{px p:Pos}{ta:TA}(hg:Gl X "enumerate")(hm:X.mg "enumerate"=Zb)(ha:PA X [a] ta)(hs:aC [a] X.env=[(false,eval a X.env)]:=by rfl):PI X (.Tuple es x1 px) (.Call (.Name "enumerate" p) [a] [] pos) (iEnum X.K ta):=by
 intro O2 s O H R I h;refine Call_ (Aq I hg hm Ci (dL (thn (ha pos O2 s O H _ I h) λus s1=>e4 λvs H1 I1 r1 q1=>?_) hs rfl));obtain⟨b,ys,e,hq,q⟩:=q1;subst e;cases r1 with
 |cons r rr =>
  cases rr;cases r;obtain⟨its,rv,pl,hz⟩:=I1.list hq;refine call_enumerate_list pl.isList λh' he hi hsz kp=>?_;refine wpAny_pyIter_enum he ⟨s1.heap.objs.size+1,[s1.heap.objs.size+1,s1.heap.objs.size],_,_,H1,rfl,I1.kept (t':=s1.toks) kp,GE b (s1.heap.objs.size+1) s1.heap.objs.size (Nat.succ_ne_self _),⟨⟨_,he⟩,hi⟩,λc hc=>?_,q⟩;have RB:s1.heap.objs.size<=c:=by
   rcases af.mp hc with z|z
   ·rw[z];lia
   ·rw[aq.mp z];exact am _
  exact I1.fpOk RB (I1.hok.fresh RB)
def iterE{K:aa}{H0:Hp}{m0:Mp}{s0:Sto}{b:ak}{l:List PV}(r:Rep K H0 m0 s0 (.ref b) (.lst l)):qo K CB (Ite K b) (qU 0 l) H0 m0 s0:=by
 intro i H m s ex S;obtain⟨b',vs,e,hq,rs⟩:=(r.ext0 ex.toExtR).ls S (show lsOf s (.lst l)=Za l from rfl);cases e;refine⟨λq' PZ=>?_,λhi=>⟨vs,hq,by rw[rs.length,<-rT l 0];exact hi⟩⟩;rw[xx] at PZ;cases cl:l[i]? with
 |none=>rw[cl] at PZ;cases PZ
 |some q0 =>
  rw[cl] at PZ;cases PZ;obtain⟨u,hu,ru⟩:=rs.get cl;refine⟨⟨vs,u,hq,hu⟩,λx H' ⟨p,hp,e1,e2⟩=>?_⟩;obtain⟨y,hy,e3⟩:=e2 vs hq;subst e1 e3;rw[hu] at hy;cases hy;have k:=My.qe (o:=.tup [.int (i:Int),u]) hp;have S':=S.same k;exact⟨.same k,S',.tup (.inl ⟨.inl lN,S'.pure_tup lN⟩) (by rw[ft];exact .cons .int (.cons (ru.ext (.same k)) .nil))⟩
def CD{es:List bo}{x1:_}{px p:Pos}{fa:XA}(ha:DA X CB E [a] fa)(hg:Gl X "enumerate":=by rfl)(hm:X.mg "enumerate"=none:=by assumption)(hs:aC [a] X.env=[(false,eval a X.env)]:=by rfl):DI X CB E (.Tuple es x1 px) (.Call (.Name "enumerate" p) [a] [] pos) (wj fa) :=
 ⟨(Ln hg hm ha.pa hs).mono λO H R q=>TDI.bindA q λv s1 u H1 m1 S1 r1 P=>by
  split at P
  ·rename_i l s' hF;split at hF
   ·cases hF;cases r1 with
    |cons r n =>
     cases n;cases r with
     |lst h1 h2 h3=>exact⟨_,_,rfl,SqL.of h1,P _ _ _ .refl S1 (iterE (.lst h1 h2 h3))⟩
   ·cases hF
  ·rename_i hF;split at hF<;>cases hF
  ·exact P.elim⟩
def OX(v:PV)(s:Sto):Out PV:=match v with
 |.lst l=>.ok (.lst l) s
 |v=>frz1 v s
def Er(f:XE)(Z:En)(s:Sto):Out PV:=(f Z s).bind OX
def MA(h:DE X CB E a f):DE X CB E a (Er f):=⟨h.pe.mono λO H Q=>oE λZ s m er S P=>⟨Z,s,m,er,S,P.bind λv s1 u H1 m1 e1 S1 r1 P1=>by
 unfold OX at P1;split at P1
 ·exact P1.here S1 r1
 ·cases c:frz1 v s1 with
  |ok w s2 =>
   rw[c] at P1;obtain⟨S2,e2,r2⟩:=S1.frz r1 c;exact P1 u H1 m1 e2 S2 r2
  |ex c' s' =>
   unfold frz1 at c
   repeat' split at c
   all_goals cases c
  |bad=>rw[c] at P1;exact P1.elim⟩⟩
end
end L2
namespace Att
open PySem PySem.W PySem.Calls PyProof.Rows
def WtOk(ns:List Int):Prop:=∀n∈ns,bW n<=1048576
theorem JD:∀{ns:List Int},gT (ns.map gG)<=2^20->WtOk ns
 |[],_,_,h=>nomatch h
 |m::r,h,n,hn=>by
  have e:gT ((m::r).map gG)=bW m+1+gT (r.map gG):=rfl;rw[e] at h;rcases af.mp hn with z|z
  ·rw[z];lia
  ·exact JD (show gT (r.map gG)<=2^20 by lia) n z
def attach_callW{l:gC}{n:Nat}{q:aK}{P4:List Str}{XP:(Str->Option ah)->bx->Prop}{YP:a6->bx->Prop}{d:DefRec}(hn:l.most=Za n)(Tw:d.params.defaults=[])(call:∀(w:a6)(sa0 Pf:ax)(mg mb:Str->Option ah)(fa:ak)(o:Obj)(pm cd P9:ah)(a:ak)(vs:List ah)(ns:List Int),
   Ground q P4 [] XP w sa0 mg mb Pf.heap->YP w Pf.heap ->
   Pf.heap.get? fa=Za o->o.data=.func (docDef d.name d.params d.body d.scope pm cd P9)->Pf.heap.CodeRec cd d.name->mg d.name=Za (.ref fa) ->
   Pf.heap.get? a=Za { cls:=.type "list",data:=.seq vs.toArray }->IntsAre vs ns->ns.length<=n->WtOk ns->Pf.gens=#[] ->
   gw (model l.prog w) jA (.call (.ref fa) ⟨[.ref a],[]⟩) (λr s'=>r=.ok (.ret (.bool true))/\OldK Pf.heap s'.heap/\s'.os=Pf.os/\gU s'.gens) Pf) :
  k7 q P4 XP YP l.row.toRowW d [] (λf vs=>kY f vs):=by
 intro w sa0 Pf mg mb G Y fa o pm cd P9 dV kV ho hd Ql hD Tn hg args RI as Rh Vp hrd Vc hlo;obtain rfl:dV=.none:=Dflts.none hD Tw;obtain rfl:kV=.none:=Dflts.noKw hD;obtain⟨a,vs,ns,rfl,rfl,RY,QV,O6⟩:=GM hn Rh Vc;have hw:WtOk ns:=by have h1:(WData.list (ns.map gG)).layable=true:=(dg.mp Vp) _ ai;simp only[WData.layable,cx,decide_eq_true_eq] at h1;exact JD h1.2
 refine enter_call (jz (call w sa0 Pf mg mb fa o pm cd P9 a vs ns G Y ho (fd_plain hd) Ql Tn RY QV O6 hw hg) λr s' hq=>?_);obtain⟨rfl,h2,h3,h4⟩:=hq;exact⟨.inl ⟨.bool true,.bool true,[],rfl,λ_=>rfl,.bool true,GT l _,λ_=>⟨List.Pairwise.nil,λ_ hm=>(nomatch hm)⟩⟩,h2,h3,h4⟩
end Att
namespace L2
open PySem PySem.Spec PyProof.Rows
def walk_ofW{l:gC}{n k:Nat}{q:aK}{P4:List Str}{XP:(Str->Option ah)->bx->Prop}{YP:a6->bx->Prop}{d:DefRec}{K:Params->aa}{CX:a6->CXT}{sp:a6->Sp}{x:Str}(hn:l.most=Za n)(Ui:n<=aJ)(Tw:d.params.defaults=[])(hr:Room k jA)(hY:∀(w:a6)(h:bx),YP w h->(K w.params).In h)(F:∀(w:a6)(mg:Str->Option ah)(fa:ak)(h:bx),(K w.params).In h->h.Ns ba mg->mg d.name=Za (.ref fa) ->
   ∃fd:cz,(∀(s:ax)(u:ah),jG s fd ⟨[u],[]⟩ [(x,u)]) /\
    ∀base:bx,(K w.params).In base->base.Ns ba mg->FnOk l.prog w (K w.params) mg base (CX w) k fa fd [x] (sp w))(Q3:∀(w:a6)(H:Hp)(a:ak)(ns:List Int),ns.length<=n->Att.WtOk ns->MO H->SqL (K w.params) H a (ns.map V.int)->sp w [.ref a] H (λv _=>v=.bl true) λ_ _ _=>False)(VN:∀(w:a6)(H:Hp)(s:ax)(e:ah)(s':ax),CX w [] H s (λ_ _ _=>False) e s'->False) :
  k7 q P4 XP YP l.row.toRowW d [] (λf vs=>kY f vs):=by
 refine Att.attach_callW hn Tw λw sa0 Pf mg mb fa o pm cd P9 a vs ns G Y ho hd Ql Tn RY QV O6 hw hg=>?_;have KX:=hY w _ Y;obtain⟨fd,hb,hF⟩:=F w mg fa _ KX G.T.g Tn;exact Jb KX G.T.g G.T.b G.T.builtins G.T.nolimit hg RY QV (aI O6 Ui) hr hF hb (λH hO hS=>Q3 w H a ns O6 hw hO hS) λH e s'=>VN w H Pf e s'
def Og(hi:bW i<=33554432)(hj:bW j<=33554432):iV i j:=by unfold iV;intro h;simp only[cx,decide_eq_true_eq,Builtin.Int.intTooBig] at h;have:((bW i:Int)+(bW j:Int))>(bitsLine:Nat):=h.2;unfold bitsLine at this;lia
section
variable{X:Cx}{CB:ak}{E:XK}{a b c e:bo}{f g h:XE}{fa:XA}{pos:Pos}
def tH:List PV->Option (List Int)
 |[]=>Za []
 |.int i::l=>(tH l).map (i::·)
 |_=>Zb
theorem vB:∀l:List Int,tH (l.map PV.int)=Za l
 |[]=>rfl
 |x::r=>by rw[ao];unfold tH;rw[vB r];rfl
theorem uf{K:aa}{H:Hp}{m:Mp}{s:Sto}:∀{l:List PV}{vs:List V}{is:List Int},Reps K H m s vs l->tH l=Za is->vs=is.map V.int
 |[],_,is,.nil,h=>by cases h;rfl
 |p::l,_,is,.cons r rs,h=>by
  cases p with
  |int i =>
   have h:(tH l).map (i::·)=Za is:=h;cases c:tH l with
   |none=>rw[c] at h;cases h
   |some js =>
    rw[c] at h;cases h;cases r;rw[uf rs c];rfl
  |_=>cases h
def Jw(hc:X.calm=true):CallR X (.builtin "sum") (λxs H Q=>∃(p:ak)(is:List Int),xs=[.ref p]/\SqL X.K H p (is.map V.int)/\Q (.int is.sum) H):=by
 intro O2 s O H xs us Q I r h;obtain⟨p,is,rfl,hq,q⟩:=h;obtain⟨u,rfl,ru⟩:=qp r;cases ru;obtain⟨its,rv,pl,Su⟩:=I.list hq;have Sh:∀{is:List Int}{its:List ah},Vals (is.map V.int) its->∃ys:List (Int×Tok),its=ys.map (λy=>fW y.1 y.2)/\ys.map (·.1)=is:=by
  intro is;induction is with
  |nil=>intro its rv;cases rv;exact⟨[],rfl,rfl⟩
  |cons i is ih =>
   intro its rv;cases rv with
   |cons r rs =>
    obtain⟨t,rfl⟩:=r;obtain⟨ys,rfl,rfl⟩:=ih rs;exact⟨(i,t)::ys,rfl,rfl⟩
 obtain⟨ys,rfl,rfl⟩:=Sh rv;have hl:s.heap.IsList p (intItems ys.toArray):=by
  have:=pl.isList;have e:intItems ys.toArray=(ys.map (λy=>fW y.1 y.2)).toArray:=by simp[intItems]
  rw[e];exact this
 refine sum_intListG (I.ok.hd hc) hl λh' tk t' hk=>?_;have e:preSum (numAt ys.toArray) ys.toArray.size=(ys.map (·.1)).sum:=by rw[preSum_eq,gW (by simp)]
 rw[e];exact⟨.int _,H,I.kept hk,⟨_,rfl⟩,q⟩
def Nn(vs:List PV)(s:Sto):Out PV:=match vs with
 |[v]=>match lsOf s v with
  |some l=>match tH l with
   |some is=>.ok (.int is.sum) s
   |none=>.bad
  |none=>.bad
 |_=>.bad
def b_sum(hc:X.calm=true):BltR X CB E (.builtin "sum") Nn:=⟨_,Jw hc,by
 intro H m s v x Q S rx P;unfold Nn at P;split at P
 ·cases rx with
  |cons r n =>
   cases n;split at P
   ·rename_i l hl;split at P
    ·rename_i is hb;obtain⟨a,vs,rfl,q,r⟩:=r.ls S hl;have e:=uf r hb;subst e;exact⟨a,is,rfl,q,P.here S .int⟩
    ·exact P.elim
   ·exact P.elim
 ·exact P.elim⟩
def Kp:bP "sum"=Za (.builtin "sum"):=by decide +kernel
def Itz(K:aa)(a b:ak):It :=
 ⟨λi H=>∃xs ys x y,SqL K H a xs/\SqL K H b ys/\xs[i]?=Za x/\ys[i]?=Za y,λi H x H'=>∃p,H p=Zb/\x=.ref p/\∀xs ys,SqL K H a xs->SqL K H b ys->∃u v,xs[i]?=Za u/\ys[i]?=Za v/\H'=upd H p (.tup [u,v]),λi H=>∃xs ys,SqL K H a xs/\SqL K H b ys/\(xs.length<=i\/ys.length<=i)⟩
def Inv.turnedL{O2:List (ak×Obj)}{O:St}{H:Hp}{s:ax}{h':bx}{t':Nat}{ch:List ak}{n:ak}{xs:List V}(I:Inv X O2 O H s)(k:∀b o,b∉ch->s.heap.get? b=Za o->h'.get? b=Za o)(fe:∀b∈ch,zC X O2 H b)(hn:s.heap.objs.size<=n)(new:ObjOk X.prog X.w (upd H n (.tup xs)) h' n (.tup xs)):Inv X O2 O (upd H n (.tup xs)) { s with heap:=h',toks:=t' }:=by
 have nH:H n=none:=I.hok.fresh hn;have nn:∀b u,H b=Za u->b≠n:=λb u q z=>by rw[z,nH] at q;cases q
 have QR:∀b u,H b=Za u->b∉ch:=λb u q z=>by rw[(fe b z).1] at q;cases q
 refine I.step (g':=s.gens) (d':=s.drawn) (ch:=ch) (λb hb=>⟨(fe b hb).2.2.2.1,(fe b hb).2.1,(fe b hb).2.2.2.2.1,(fe b hb).2.2.2.2.2⟩) (λb o _ _ hc e _=>k b o hc e) (λb o _ _ hc e _=>⟨o.slots,k b o hc e⟩) (λb o _ q z=>?_)
  (λb o hc e=>⟨o,k b o hc e⟩) (λb _ q=>?_) (λb _ _ q=>?_) (λb ps q=>⟨#[],?_⟩) (λm hm=>?_) (λb u q=>?_) I.bare
 ·rw[lK (aE (ay (az q) hn))];exact z
 ·rw[lK (nn b _ q)];exact q
 ·rw[lK (nn b _ q)];exact q
 ·rw[lK (nn b _ q),q];simp
 ·obtain⟨o,es,ep,ho,r⟩:=hm;exact⟨o,es,ep,k _ o (λz=>(fe _ z).2.1 rfl) ho,r⟩
 ·by_cases hb:b=n
  ·subst hb;rw[lN] at q;cases q;exact new
  ·rw[lK hb] at q;refine(I.hok b u q).stay (λc v hc w=>?_) (λc w=>by rw[lK (nn c _ w)];exact w) λc xs w=>by rw[lK (nn c _ w)];exact w
   have:c∉ch:=by
    rcases hc with z|z
    ·rw[z];exact QR b u q
    ·exact QR c _ z
   exact k c v this w
def Inv.turnedE{O2:List (ak×Obj)}{O:St}{H:Hp}{s:ax}{h':bx}{t':Nat}{ch:List ak}(I:Inv X O2 O H s)(k:∀b o,b∉ch->s.heap.get? b=Za o->h'.get? b=Za o)(fe:∀b∈ch,zC X O2 H b):Inv X O2 O H { s with heap:=h',toks:=t' }:=by
 have QR:∀b u,H b=Za u->b∉ch:=λb u q z=>by rw[(fe b z).1] at q;cases q
 refine I.step (g':=s.gens) (d':=s.drawn) (ch:=ch) (λb hb=>⟨(fe b hb).2.2.2.1,(fe b hb).2.1,(fe b hb).2.2.2.2.1,(fe b hb).2.2.2.2.2⟩) (λb o _ _ hc e _=>k b o hc e) (λb o _ _ hc e _=>⟨o.slots,k b o hc e⟩) (λb o _ q z=>z)
  (λb o hc e=>⟨o,k b o hc e⟩) (λb _ q=>q) (λb _ _ q=>q) (λb ps q=>⟨#[],by simpa using q⟩) (λm hm=>?_) (λb u q=>?_) I.bare
 ·obtain⟨o,es,ep,ho,r⟩:=hm;exact⟨o,es,ep,k _ o (λz=>(fe _ z).2.1 rfl) ho,r⟩
 ·refine(I.hok b u q).stay (λc v hc w=>?_) (λc w=>w) λc xs w=>w;have:c∉ch:=by
   rcases hc with z|z
   ·rw[z];exact QR b u q
   ·exact QR c _ z
  exact k c v this w
def Ie{P:aK}{w:a6}{K:aa}{es:List bo}{x1:_}{px:Pos}(a b z TI TO i1 i2:ak)(D:ZipApart z TI TO i1 i2 a b):Turn P w K (.Tuple es x1 px) (Itz K a b) [z,TI,TO,i1,i2] z (λi h=>IsZip h z TI TO .none/\IsPair h TI (.ref i1) (.ref i2)/\(∃u v,IsPair h TO u v)/\h.IsListIter i1 a i/\h.IsListIter i2 b i) where
 mem:=by simp
 obj:=λi h st c hc=>by
  obtain⟨hz,Rp,⟨u,v,RC⟩,⟨o1,g1,c1,d1⟩,⟨o2,g2,c2,d2⟩⟩:=st;simp only[af,cN,or_false] at hc;rcases hc with q|q|q|q|q
  ·subst q;exact⟨_,hz,λv z=>by cases z⟩
  ·subst q;exact⟨_,Rp,λv z=>by cases z⟩
  ·subst q;exact⟨_,RC,λv z=>by cases z⟩
  ·subst q;exact⟨o1,g1,λv z=>by rw[d1] at z;cases z⟩
  ·subst q;exact⟨o2,g2,λv z=>by rw[d2] at z;cases z⟩
 keep:=λi h h' st k=>⟨k z (by simp) _ st.1,k TI (by simp) _ st.2.1,(let⟨u,v,q⟩:=st.2.2.1;⟨u,v,k TO (by simp) _ q⟩),st.2.2.2.1.at λo e=>k i1 (by simp) o e,st.2.2.2.2.at λo e=>k i2 (by simp) o e⟩
 item:=by
  intro X hP hw hK hc i O2 s O H E I hf st hg;subst hP hw hK;obtain⟨xs,ys,x,y,Sv,Qa,hx,hy⟩:=hg;obtain⟨Ta,TY,p1,hz1⟩:=I.list Sv;obtain⟨P7,Sn,p2,Su⟩:=I.list Qa;obtain⟨u1,hu1,ru1⟩:=TY.get hx;obtain⟨u2,hu2,ru2⟩:=Sn.get hy;obtain⟨hz,Rp,⟨u,v,RC⟩,st1,PY⟩:=st;refine wpAny_pyNext_zip_item D hz Rp RC st1 PY p1.isList p2.isList (x:=u1) (y:=u2) (by simpa using hu1) (by simpa using hu2) λh' Va VG UN UL ht hs kp=>⟨_,rfl,?_⟩;refine wpAny_letOwnedTupleGo_zip Va λh2 hz3 sb=>?_;have hzl:z<s.heap.objs.size:=az hz;have Tf:IsPair h2 s.heap.objs.size u1 u2:=(sb.2 _ (f7 hzl)).trans ht;have U5:∀c o,c∉[z,TI,TO,i1,i2]->s.heap.get? c=Za o->h2.get? c=Za o:=λc o hc q=>by simp only[af,cN,or_false,not_or] at hc;exact(sb.2 c hc.1).trans (kp c o hc.1 hc.2.2.1 hc.2.2.2.1 hc.2.2.2.2 q)
  have I1:Inv X O2 O (upd H s.heap.objs.size (.tup [x,y])) { s with heap:=h2,toks:=s.toks } :=
   I.turnedL U5 hf (am _) ⟨(show 2<=aJ by decide),[u1,u2],.cons ru1 (.cons ru2 .nil),_,Tf,rfl,0,rfl⟩
  have VH:IsPair h2 TI (.ref i1) (.ref i2):=(sb.2 TI D.TIz).trans (kp TI _ D.TIz D.TITO D.TIi1 D.TIi2 Rp);refine⟨.ref s.heap.objs.size,_,I1,rfl,⟨_,I.fresh,rfl,λxs' SH h1 h2=>⟨x,y,by rw[I.list_inj h1 Sv];exact hx,by rw[I.list_inj h2 Qa];exact hy,rfl⟩⟩,⟨hz3,VH,⟨_,_,(sb.2 TO D.TOz).trans VG⟩,UN.at λo q=>(sb.2 i1 D.i1z).trans q,UL.at λo q=>(sb.2 i2 D.i2z).trans q⟩,λc hc=>?_⟩;have Pd:c≠s.heap.objs.size:=by
   simp only[af,cN,or_false] at hc;obtain⟨o1,g1,_⟩:=st1;obtain⟨o2,g2,_⟩:=PY;rcases hc with q|q|q|q|q
   ·rw[q];exact aE hzl
   ·rw[q];exact aE (az Rp)
   ·rw[q];exact aE (az RC)
   ·rw[q];exact aE (az g1)
   ·rw[q];exact aE (az g2)
  rw[lK Pd];exact(hf c hc).1
 done:=by intro X hP hw hK hc i O2 s O H E I hf st hg;subst hP hw hK;obtain⟨xs,ys,Sv,Qa,hx⟩:=hg;obtain⟨Ta,TY,p1,hz1⟩:=I.list Sv;obtain⟨P7,Sn,p2,Su⟩:=I.list Qa;obtain⟨hz,Rp,⟨u,v,RC⟩,st1,PY⟩:=st;have Ry:=TY.length;have Tq:=Sn.length;refine wpAny_pyNext_zip_end (I.ok.hd hc) D hz Rp RC st1 PY p1.isList p2.isList (hx.imp (λz=>by simp;lia) λz=>by simp;lia) λh' eb=>⟨rfl,?_⟩;refine I.turnedE (t':=s.toks) (ch:=[z,TI,TO,i1,i2]) (λc o hc q=>?_) hf;simp only[af,cN,or_false,not_or] at hc;exact eb c o hc.1 hc.2.2.1 hc.2.2.2.1 hc.2.2.2.2 q
 self:=λ_ _ _ _ _ st h=>wpAny_pyIter_zip st.1 h
def uw:List PV->List PV->List PV
 |x::r,y::q=>.tup [x,y]::uw r q
 |_,_=>[]
theorem Do:∀(l k:List PV)(i:Nat),(uw l k)[i]?=match l[i]?,k[i]? with|some x,Za y=>Za (.tup [x,y])|_,_=>Zb
 |[],_,_=>by simp[uw]
 |_::_,[],i=>by simp[uw]
 |x::r,y::q,0=>rfl
 |x::r,y::q,i+1=>by simp only[uw,gN];exact Do r q i
theorem zD:∀(l k:List PV),(uw l k).length=min l.length k.length
 |[],_=>by simp[uw]
 |_::_,[]=>by simp[uw]
 |x::r,y::q=>by simp only[uw,bc,zD r q];lia
def HW(fa:XA)(Z:En)(s:Sto):Out (List PV):=(fa Z s).bind λvs s1=>match vs with
 |[.lst l,.lst k]=>.ok (uw l k) s1
 |_=>.bad
def OL:bP "zip"=Za (.type "zip"):=by decide +kernel
def iZip(K:aa)(ta:TA):TI:=λO H R=>ta O H λxs H1=>∃a b ys zs,xs=[.ref a,.ref b]/\SqL K H1 a ys/\SqL K H1 b zs/\R (Itz K a b) H1
def zap(n l1 l2)(h1:l1<n)(h2:l2<n):ZipApart (n+4:Nat) (n+2:Nat) (n+3:Nat) n (n+1:Nat) l1 l2:=by constructor<;>(apply(λ(h:¬ @Eq Nat _ _)=>h) ;lia)
def NT{es:List bo}{x1:_}{px p:Pos}{ta:TA}(hg:Gl X "zip")(hm:X.mg "zip"=Zb)(ha:PA X [a,b] ta)(hs:aC [a,b] X.env=(false,eval a X.env)::aC [b] X.env:=by rfl)(Pn:(b8 pos (aC [b] X.env)).any (·.1)=false:=by rfl):PI X (.Tuple es x1 px) (.Call (.Name "zip" p) [a,b] [] pos) (iZip X.K ta):=by
 intro O2 s O H R I h;refine Call_ (Aq I hg hm OL (dL (thn (ha pos O2 s O H _ I h) λus s1=>e4 λvs H1 I1 r1 q1=>?_) hs Pn));obtain⟨l1,l2,ys,zs,e,Sv,Qa,q⟩:=q1;subst e;obtain⟨u1,u2,rfl,r1,r2⟩:=MR r1;cases r1;cases r2;obtain⟨Ta,TY,p1,hz1⟩:=I1.list Sv;obtain⟨P7,Sn,p2,Su⟩:=I1.list Qa;have t1:l1<s1.heap.objs.size:=by obtain⟨o,ho,_⟩:=p1.isList;exact az ho
 have t2:l2<s1.heap.objs.size:=by obtain⟨o,ho,_⟩:=p2.isList;exact az ho
 refine call_zip_2 p1.isList p2.isList λh' hz Rp RC hi1 hi2 hsz kp=>?_;have D:ZipApart (s1.heap.objs.size+4) (s1.heap.objs.size+2) (s1.heap.objs.size+3) s1.heap.objs.size (s1.heap.objs.size+1) l1 l2:=zap _ _ _ t1 t2;refine wpAny_pyIter_zip hz ⟨s1.heap.objs.size+4,[s1.heap.objs.size+4,s1.heap.objs.size+2,s1.heap.objs.size+3,s1.heap.objs.size,s1.heap.objs.size+1],_,_,H1,rfl,I1.kept (t':=s1.toks) kp,Ie l1 l2 _ _ _ _ _ D,⟨hz,Rp,⟨_,_,RC⟩,hi1,hi2⟩,λc hc=>?_,q⟩;have RB:s1.heap.objs.size<=c:=by simp only[af,cN,or_false] at hc;rcases hc with z|z|z|z|z<;>rw[z]<;>lia
 exact I1.fpOk RB (I1.hok.fresh RB)
def iterZ{K:aa}{H0:Hp}{m0:Mp}{s0:Sto}{b c:ak}{l k:List PV}(r:Rep K H0 m0 s0 (.ref b) (.lst l))(r':Rep K H0 m0 s0 (.ref c) (.lst k)):qo K CB (Itz K b c) (uw l k) H0 m0 s0:=by
 intro i H m s ex S;obtain⟨b',vs,e,hq,rs⟩:=(r.ext0 ex.toExtR).ls S (show lsOf s (.lst l)=Za l from rfl);cases e;obtain⟨c',ws,e,PZ,rs'⟩:=(r'.ext0 ex.toExtR).ls S (show lsOf s (.lst k)=Za k from rfl);cases e;refine⟨λq' hz=>?_,λhi=>⟨vs,ws,hq,PZ,?_⟩⟩
 ·rw[Do] at hz;cases cl:l[i]? with
  |none=>rw[cl] at hz;cases hz
  |some q0 =>
   cases ck:k[i]? with
   |none=>rw[cl,ck] at hz;cases hz
   |some q1 =>
    rw[cl,ck] at hz;cases hz;obtain⟨u,hu,ru⟩:=rs.get cl;obtain⟨v,hv,rv⟩:=rs'.get ck;refine⟨⟨vs,ws,u,v,hq,PZ,hu,hv⟩,λx H' ⟨p,hp,e1,e2⟩=>?_⟩;obtain⟨y,z,hy,hz,e3⟩:=e2 vs ws hq PZ;subst e1 e3;rw[hu] at hy;rw[hv] at hz;cases hy;cases hz;have kk:=My.qe (o:=.tup [u,v]) hp;have S':=S.same kk;exact⟨.same kk,S',.tup (.inl ⟨.inl lN,S'.pure_tup lN⟩) (.cons (ru.ext (.same kk)) (.cons (rv.ext (.same kk)) .nil))⟩
 ·rw[zD] at hi;rw[rs.length,rs'.length];lia
def Kk{es:List bo}{x1:_}{px p:Pos}{fa:XA}(ha:DA X CB E [a,b] fa)(hg:Gl X "zip":=by rfl)(hm:X.mg "zip"=none:=by assumption)(hs:aC [a,b] X.env=(false,eval a X.env)::aC [b] X.env:=by rfl)(Pn:(b8 pos (aC [b] X.env)).any (·.1)=false:=by rfl):DI X CB E (.Tuple es x1 px) (.Call (.Name "zip" p) [a,b] [] pos) (HW fa) :=
 ⟨(NT hg hm ha.pa hs Pn).mono λO H R q=>TDI.bindA q λv s1 u H1 m1 S1 r1 P=>by
  split at P
  ·rename_i l s' hF;split at hF
   ·cases hF;cases r1 with
    |cons r n =>
     cases n with
     |cons r' n =>
      cases n;cases r with
      |lst h1 h2 h3 =>
       cases r' with
       |lst k1 k2 k3=>exact⟨_,_,_,_,rfl,SqL.of h1,SqL.of k1,P _ _ _ .refl S1 (iterZ (.lst h1 h2 h3) (.lst k1 k2 k3))⟩
   ·cases hF
  ·rename_i hF;split at hF<;>cases hF
  ·exact P.elim⟩
def MQ(i:Nat)(f:XE)(Z:En)(s:Sto):SO:=match Z[i]? with
 |some (Za (.int x))=>(f Z s).so λv s1=>match v with
  |.int y=>.nx (Z.set i (Za (.int (x+y)))) s1
  |_=>.bad
 |_=>.bad
def OC(i)(he:DE X CB E e f)(hN:X.N.Nodup:=by exact ‹FnScope _ _ _›.nd)(hi:X.N[i]?=Za x:=by rfl)(hx:Loc X.env.scope x:=by first|exact eO rfl|exact ig rfl)(hf:X.fn x=true\/X.env.scope.names.lookup x=Za .local:=by first|exact .inl rfl|exact .inr rfl|assumption):DS X CB E (.AugAssign (.Name x Ph) .Add e pos) (MQ i f) :=
 ⟨(NS hN hi hx he.pe J9 hf).mono λD O H=>oE λZ s m er S P=>by
  unfold MQ at P;split at P
  ·rename_i a hρ;obtain⟨u0,hu,ru⟩:=er.at_ i _ hρ;cases ru;refine⟨_,hu,Z,s,m,er,S,Post.so P λv s1 u H1 m1 e1 S1 r1 P1=>?_⟩;split at P1
   ·cases r1;exact⟨_,_,rfl,rfl,P1.next S1 ((er.ext e1).set i .int)⟩
   ·exact P1.elim
  ·exact P.elim⟩
end
section
variable{κ:Type}[DecidableEq κ]{K:aa}{H:Hp}{m:Mp}{s:Sto}
def RepZ(K:aa)(H:Hp)(m:Mp)(s:Sto)(vs:List (κ×V))(l:List (κ×PV)):Prop:=vs.map (·.1)=l.map (·.1)/\Reps K H m s (vs.map (·.2)) (l.map (·.2))
theorem RepZ.nil:RepZ K H m s ([]:List (κ×V)) []:=⟨rfl,.nil⟩
def RepZ.cons_inv:∀{vs:List (κ×V)},RepZ K H m s vs (q::l)->∃w r,vs=(q.1,w)::r/\Rep K H m s w q.2/\RepZ K H m s r l
 |[],h=>nomatch h.1
 |(k,w)::r,h=>by
  obtain⟨e1,e2⟩:=eg h.1;cases h.2 with
  |cons a b =>
   have e1:k=q.1:=e1;subst e1;exact⟨w,r,rfl,a,e2,b⟩
theorem RepZ.cons{q:κ×PV}{l}{w}{vs}(a:Rep K H m s w q.2)(h:RepZ K H m s vs l):RepZ K H m s ((q.1,w)::vs) (q::l):=⟨by rw[ao,ao,h.1],.cons a h.2⟩
theorem RepZ.length(h:RepZ K H m s vs l):vs.length=l.length:=by have:=congrArg cg h.1;rwa[ac,ac] at this
def tj(l:List (κ×PV))(k:κ):Option PV:=(l.find? λkv=>decide (kv.1=k)).map (·.2)
def Cs(l:List (κ×PV))(k:κ)(p:PV):List (κ×PV) :=
 if(l.any λkv=>decide (kv.1=k))=true then l.map (λkv=>if kv.1=k then(kv.1,p) else kv) else l++[(k,p)]
theorem RepZ.val:∀{l:List (κ×PV)}{vs:List (κ×V)},RepZ K H m s vs l->tj l k=Za p->∃w,om vs k=Za w/\Rep K H m s w p
 |[],_,_,e=>nomatch e
 |q::l,vs,h,e=>by
  obtain⟨w,r,rfl,a,b⟩:=h.cons_inv;unfold tj at e;unfold om;rw[bG] at e ⊢;by_cases c:q.1=k
  ·rw[Zg c] at e;have e:Za q.2=Za p:=e;cases e;refine⟨w,?_,a⟩;show jt _ (match decide (q.1=k) with|true=>Za (q.1,w)|false=>_)=_;rw[Zg c];rfl
  ·rw[Zh c] at e;obtain⟨w',h1,h2⟩:=b.val (k:=k) e;refine⟨w',?_,h2⟩;show jt _ (match decide (q.1=k) with|true=>Za (q.1,w)|false=>_)=_;rw[Zh c];exact h1
theorem RepZ.any:∀{l:List (κ×PV)}{vs:List (κ×V)},RepZ K H m s vs l->(vs.any λkv=>decide (kv.1=k))=l.any λkv=>decide (kv.1=k)
 |[],vs,h=>by
  have:=h.length;rw[cW.mp this];rfl
 |q::l,vs,h=>by obtain⟨w,r,rfl,a,b⟩:=h.cons_inv;rw[cQ,cQ,b.any]
theorem RepZ.map(rv:Rep K H m s v p):∀{l:List (κ×PV)}{vs:List (κ×V)},RepZ K H m s vs l->RepZ K H m s (vs.map λkv=>if kv.1=k then(kv.1,v) else kv) (l.map λkv=>if kv.1=k then(kv.1,p) else kv)
 |[],vs,h=>by
  have:=h.length;rw[cW.mp this];exact .nil
 |q::l,vs,h=>by
  obtain⟨w,r,rfl,a,b⟩:=h.cons_inv;rw[ao,ao];by_cases c:q.1=k
  ·rw[Zc c,Zc c];exact RepZ.cons (q:=(q.1,p)) rv (b.map rv)
  ·rw[Zd c,Zd c];exact RepZ.cons a (b.map rv)
def RepZ.snoc(rv:Rep K H m s v p)(h:RepZ K H m s vs l):RepZ K H m s (vs++[(k,v)]) (l++[(k,p)]) :=
 ⟨by rw[aB,aB,h.1];rfl,by rw[aB,aB];exact h.2.append (.cons rv .nil)⟩
def RepZ.put{k:κ}{v:V}{p:PV}(rv:Rep K H m s v p){l:List (κ×PV)}{vs:List (κ×V)}(h:RepZ K H m s vs l):RepZ K H m s (qf vs k v) (Cs l k p):=by
 unfold qf Cs;rw[h.any (k:=k)];split
 ·exact h.map rv
 ·exact h.snoc rv
theorem xr{κ:Type}[DecidableEq κ][BEq κ][LawfulBEq κ](k:κ):∀fs:List (κ×V),fs.lookup k=om fs k
 |[]=>rfl
 |(g,x)::r=>by
  rw[bJ];unfold om;rw[bG];by_cases c:g=k
  ·subst c;simp
  ·have h1:(k==g)=false:=by simpa using bX c
   rw[h1];simp only[c,decide_false];exact xr k r
def AF(f:Str)(v:PV):List (Str×PV)->List (Str×PV)
 |[]=>[(f,v)]
 |(g,x)::r=>if g=f then(g,v)::r else(g,x)::AF f v r
theorem RepZ.putF(rv:Rep K H m s v p):∀{l:List (Str×PV)}{vs:List (Str×V)},RepZ K H m s vs l->RepZ K H m s (putF f v vs) (AF f p l)
 |[],vs,h=>by
  have:=h.length;rw[cW.mp this];exact RepZ.cons (q:=(f,p)) rv .nil
 |(g,x)::l,vs,h=>by
  obtain⟨w,r,rfl,a,b⟩:=h.cons_inv;show RepZ K H m s (if g=f then(g,v)::r else(g,w)::L2.putF f v r) (if g=f then(g,p)::l else(g,x)::AF f p l);split
  ·exact RepZ.cons (q:=(g,p)) rv b
  ·exact RepZ.cons (q:=(g,x)) a (b.putF rv)
end
section
variable{X:Cx}{CB:ak}{E:XK}{a b c e:bo}{es:List bo}{f g h:XE}{fa:XA}{pos O4 O5 p Ph Px:Pos}{C:ak}{k n:Nat}{ps:List Str}{D:XF}{x:Str}
def SR.putO{K:aa}{H:Hp}{m:Mp}{s:Sto}{n:Nat}{dx:ak}{l l':List (Str×PV)}{PH:List (Str×V)}(S:SR K CB H m s)(hn:s.get n=Za (.obj C l))(r:RepZ K H m s PH l') :
  SR K CB (upd H (m.ad n) (.ins C dx PH)) (m.fput n [m.ad n]) (s.set n (.obj C l'))/\Ext H m s (upd H (m.ad n) (.ins C dx PH)) (m.fput n [m.ad n]) (s.set n (.obj C l')):=by
 obtain⟨e1,dx',vs,h1,_⟩:=S.get hn;refine S.put hn (by intro _ z;cases z) _ _ (λa o h ha=>?_) (λa ha=>.inl (by rw[e1];exact ha)) λex=>⟨by show(if n=n then [m.ad n] else m.fp n)=_;rw[Zc rfl];rfl,dx,PH,lN,r.1,r.2.ext0 ex⟩;rw[e1,aq] at ha;rw[lK ha];exact h
def SR.putT{K:aa}{H:Hp}{m:Mp}{s:Sto}{n:Nat}{l l':List (List Key×PV)}{PH:List (List Key×V)}(S:SR K CB H m s)(hn:s.get n=Za (.dtt l))(r:RepZ K H m s PH l') :
  SR K CB (upd H (m.ad n) (.dT PH)) (m.fput n [m.ad n]) (s.set n (.dtt l'))/\Ext H m s (upd H (m.ad n) (.dT PH)) (m.fput n [m.ad n]) (s.set n (.dtt l')):=by
 obtain⟨e1,vs,h1,_⟩:=S.get hn;refine S.put hn (by intro _ z;cases z) _ _ (λa o h ha=>?_) (λa ha=>.inl (by rw[e1];exact ha)) λex=>⟨by show(if n=n then [m.ad n] else m.fp n)=_;rw[Zc rfl];rfl,PH,lN,r.1,r.2.ext0 ex⟩;rw[e1,aq] at ha;rw[lK ha];exact h
def Ck(C:ak)(nm:Str)(f:XE)(Z:En)(s:Sto):Out PV:=(f Z s).bind λv s1=>match v with
 |.ref n=>match s1.get n with
  |some (.obj C' fs)=>if C'=C then(match tj fs nm with
   |some p=>.ok p s1
   |none=>.bad) else .bad
  |_=>.bad
 |_=>.bad
def yk(ho:DE X CB E a f)(hC:Cls X.K C)(hn:NoAttr X.K C nm)(hb:cU a nm X.env (eval a X.env)=eval a X.env:=by rfl):DE X CB E (.Attribute a nm pos) (Ck C nm f) :=
 ⟨(m6 ho.pe hb).mono λO H Q=>oE λZ s m er S P=>⟨Z,s,m,er,S,P.bind λv s1 u H1 m1 e1 S1 r1 P1=>by
  split at P1
  ·split at P1
   ·rename_i hg;split at P1
    ·rename_i hc;subst hc;split at P1
     ·rename_i hv;obtain⟨_,dx,fs',h1,rf⟩:=S1.get hg;cases r1 with
      |ref hl =>
       obtain⟨w,hw,PB⟩:=RepZ.val rf hv;exact⟨_,_,dx,fs',w,rfl,h1,hC,hn,(xr nm fs').trans hw,P1.here S1 PB⟩
     ·exact P1.elim
    ·exact P1.elim
   ·exact P1.elim
  ·exact P1.elim⟩⟩
def Ep(C:ak)(nm:Str)(f g:XE)(Z:En)(s:Sto):SO:=(g Z s).so λp s1=>(f Z s1).so λv s2=>match v with
 |.ref n=>match s2.get n with
  |some (.obj C' fs)=>if C'=C/\fs.length<1000 then .nx Z (s2.set n (.obj C (AF nm p fs))) else .bad
  |_=>.bad
 |_=>.bad
def Kj{nm:Str}(ho:DE X CB E a f)(hv:DE X CB E e g)(hC:Cls X.K C)(hn:NoAttr X.K C nm)(hs:dQ e (Za (.Attribute a nm Ph)) pos.line X.env=pure false:=by rfl):DS X CB E (.Assign [.Attribute a nm Ph] e pos) (Ep C nm f g) :=
 ⟨(sd ho.pe hv.pe hs).mono λD O H=>oE λZ s m er S P=>⟨Z,s,m,er,S,Post.so P λp s1 u H1 m1 e1 S1 r1 P1=>⟨Z,s1,m1,er.ext e1,S1,Post.so P1 λv s2 u2 H2 m2 e2 S2 r2 P2=>by
  split at P2
  ·split at P2
   ·rename_i hg;split at P2
    ·rename_i hc;obtain⟨hc,hl⟩:=hc;subst hc;obtain⟨_,dx,fs',h1,rf⟩:=S2.get hg;cases r2 with
     |ref Pd =>
      have rz:RepZ X.K H2 m2 s2 fs' _:=rf;obtain⟨S3,e3⟩:=S2.putO (dx:=dx) hg (rz.putF (f:=nm) (r1.ext e2));exact⟨_,_,dx,fs',rfl,h1,hC,hn,by rw[rz.length];exact hl,P2 _ _ _ e3 S3 (((er.ext e1).ext e2).ext e3)⟩
    ·exact P2.elim
   ·exact P2.elim
  ·exact P2.elim⟩⟩⟩
def MP(_:En)(s:Sto):Out PV:=.ok (.ref s.nx) (s.add (.dtt []))
def Mw:DE X CB E (.Dict [] [] pos) MP:=⟨pe_dnewT.mono λO H Q=>oE λZ s m er S P p hp=>by
 obtain⟨S2,e2⟩:=S.add (c:=.dtt []) _ p [p] (My.qe hp) (λa ha=>by rw[aq.mp ha];exact hp) λex=>by
  have e1:(m.add s.nx p [p]).ad s.nx=p:=by show(if s.nx=s.nx then p else _)=_;rw[Zc rfl]
  have e2:(m.add s.nx p [p]).fp s.nx=[p]:=by show(if s.nx=s.nx then [p] else _)=_;rw[Zc rfl]
  exact⟨by rw[e1,e2],[],by rw[e1];exact lN,rfl,.nil⟩
 exact P _ _ _ e2 S2 .new⟩
def AG:List PV->Option (List Key)
 |[]=>Za []
 |p::l=>match kyOf p,AG l with
  |some k,Za ks=>Za (k::ks)
  |_,_=>Zb
theorem vz{K:aa}{H:Hp}{m:Mp}{s:Sto}:∀{l:List PV}{vs:List V}{ks:List Key},Reps K H m s vs l->AG l=Za ks->vs=ks.map kV
 |[],_,ks,.nil,h=>by cases h;rfl
 |p::l,_,ks,.cons r rs,h=>by
  unfold AG at h;split at h
  ·rename_i k ks' h1 h2;cases h;rw[qj r h1,vz rs h2];rfl
  ·cases h
def JC(f:XE)(fa:XA)(Z:En)(s:Sto):Out PV:=(f Z s).bind λv s1=>(fa Z s1).bind λvs s2=>match v with
 |.ref n=>match s2.get n,AG vs with
  |some (.dtt l),Za ks=>if vs.length<=100000 then(match tj l ks with
   |some p=>.ok p s2
   |none=>.bad) else .bad
  |_,_=>.bad
 |_=>.bad
def Km{x1}(ho:DE X CB E a f)(hi:DA X CB E es fa){jr:Nat}(hr:Room jr X.A:=by assumption)(hs:O1 (.Tuple es x1 Px):=by exact λ_ _=>rfl):DE X CB E (.Subscript a (.Tuple es x1 Px) pos) (JC f fa) :=
 ⟨(qM (nQ hr) ho.pe (vY hi.pa) hs).mono λO H Q=>oE λZ s m er S P=>⟨Z,s,m,er,S,P.bind λv s1 u H1 m1 e1 S1 r1 P1=>⟨Z,s1,m1,er.ext e1,S1,P1.bind λvs s2 us H2 m2 e2 S2 r2 P2=>by
  split at P2
  ·split at P2
   ·rename_i l ks hg hk;split at P2
    ·rename_i hl;split at P2
     ·rename_i hv;refine⟨by rw[r2.length];exact sz5 hl,λp hp=>?_⟩;obtain⟨_,PH,h1,rf⟩:=S2.get hg;have rz:RepZ X.K H2 m2 s2 PH l:=rf;obtain⟨w,hw,PB⟩:=rz.val hv;have UR:=r1.ext e2;cases UR with
      |ref Pd =>
       have QK:p≠m2.ad _:=λz=>by rw[z,h1] at hp;cases hp
       have ek:=vz r2 hk;subst ek;exact⟨_,w,rfl,hw▸DGet.t (by rw[lK (bX QK)];exact h1) lN,P2.new S2 hp λex S'=>PB.ext ex⟩
     ·exact P2.elim
    ·exact P2.elim
   ·exact P2.elim
  ·exact P2.elim⟩⟩⟩
def RepZ.same{κ:Type}{K:aa}{H H':Hp}{m m':Mp}{s s':Sto}{vs:List (κ×V)}{l:List (κ×PV)}(h:RepZ K H m s vs l)(e:Ext H m s H' m' s'):RepZ K H' m' s' vs l:=⟨h.1,h.2.ext e⟩
def HE(f:XE)(fa:XA)(h:XE)(Z:En)(s:Sto):SO:=(h Z s).so λq s1=>(f Z s1).so λv s2=>(fa Z s2).so λvs s3=>match v with
 |.ref n=>match s3.get n,AG vs with
  |some (.dtt l),Za ks=>if vs.length<=100000/\l.length<100000 then .nx Z (s3.set n (.dtt (Cs l ks q))) else .bad
  |_,_=>.bad
 |_=>.bad
def Mj{x1}(ho:DE X CB E a f)(hi:DA X CB E es fa)(hv:DE X CB E e h)(hr:Room jr X.A:=by assumption)(hs:dQ e (Za (.Subscript a (.Tuple es x1 Px) Ph)) pos.line X.env=pure false:=by rfl):DS X CB E (.Assign [.Subscript a (.Tuple es x1 Px) Ph] e pos) (HE f fa h) :=
 ⟨(qh (nQ hr) ho.pe (vY hi.pa) hv.pe hs).mono λD O H=>oE λZ s m er S P=>⟨Z,s,m,er,S,Post.so P λq s1 u H1 m1 e1 S1 r1 P1=>⟨Z,s1,m1,er.ext e1,S1,Post.so P1 λv s2 u2 H2 m2 e2 S2 r2 P2=>⟨Z,s2,m2,(er.ext e1).ext e2,S2,Post.so P2 λvs s3 us H3 m3 e3 S3 r3 P3=>by
  split at P3
  ·split at P3
   ·rename_i l ks hg hk;split at P3
    ·rename_i hl;refine⟨by rw[r3.length];exact sz5 hl.1,λp hp=>?_⟩;obtain⟨_,PH,h1,rf⟩:=S3.get hg;have rz:RepZ X.K H3 m3 s3 PH l:=rf;have r2':=r2.ext e3;cases r2' with
     |ref Pd =>
      have QK:p≠m3.ad _:=λz=>by rw[z,h1] at hp;cases hp
      have ek:=vz r3 hk;subst ek;have kk:=My.qe (o:=.tup (ks.map kV)) hp;have S4:=S3.same kk;have e4:Ext H3 m3 s3 _ m3 s3:=.same kk;have rq:=((r1.ext e2).ext e3).ext e4;obtain⟨S5,e5⟩:=S4.putT hg ((rz.same e4).put (k:=ks) rq);exact⟨_,_,rfl,DPut.t (by rw[lK (bX QK)];exact h1) lN (by rw[rz.length];exact sz6 hl.2),P3 _ _ _ (e4.trans e5) S5 (((((er.ext e1).ext e2).ext e3).ext e4).ext e5)⟩
    ·exact P3.elim
   ·exact P3.elim
  ·exact P3.elim⟩⟩⟩⟩
def xMk(C:ak)(n:Nat)(D:XF)(fa:XA)(Z:En)(s:Sto):Out PV:=(fa Z s).bind λvs s1=>if vs.length+1=n then(D (.ref s1.nx::vs) (s1.add (.obj C []))).bind (λv s2=>match v with
 |.non=>.ok (.ref s1.nx) s2
 |_=>.bad) else .bad
def pe_mk(M:MkB X.prog X.w X.K X.mg X.base x C k ps sp)(hr:Room (k+1) X.A)(hg:Gl X x)(hx:nO (CXo X.prog X.w) X E)(ha:PA X (e::es) t)(PL:NDb x:=by decide)(he:SEb X e es:=by rfl)(Pn:(b8 pos (aC es X.env)).any (·.1)=false:=by rfl):PE X (.Call (.Name x p) (e::es) [] pos) (HH C sp [] E t):=by
 obtain⟨f,fd,F,hm,mk,hb⟩:=M;exact Lr mk F hr hg hm hb .nil hx ha PL he Pn
def KO(M:MkB X.prog X.w X.K X.mg X.base x C k ps (spD X.K CB n D))(ha:DA X CB E (e::es) fa)(hr:Room jr X.A:=by assumption)(hk:k+1<=jr:=by first|decide|omega)(hg:Gl X x:=by rfl)(hx:nO (CXo X.prog X.w) X E:=by first|exact oC|exact qG)(PL:NDb x:=by decide)(he:SEb X e es:=by rfl)(Pn:(b8 pos (aC es X.env)).any (·.1)=false:=by rfl):DE X CB E (.Call (.Name x p) (e::es) [] pos) (xMk C n D fa) :=
 ⟨(pe_mk M (hr.mono hk) hg hx ha.pa PL he Pn).mono λO H Q=>oE λZ s m er S P=>⟨Z,s,m,er,S,P.bind λvs s1 us H1 m1 e1 S1 r1 P1=>by
  split at P1
  ·rename_i hl;intro b dx hb Vy Po;rw[cK];have kk:Same H1 (upd (upd H1 dx (.own b)) b (.ins C dx [])):=λc o h=>by rw[lK (lR h hb),lK (lR h Vy)];exact h
   obtain⟨S2,e2⟩:=S1.add (c:=.obj C []) (upd (upd H1 dx (.own b)) b (.ins C dx [])) b [b] kk (λa ha=>by rw[aq.mp ha];exact hb) λex=>by
    have q1:(m1.add s1.nx b [b]).ad s1.nx=b:=by show(if s1.nx=s1.nx then b else _)=_;rw[Zc rfl]
    have q2:(m1.add s1.nx b [b]).fp s1.nx=[b]:=by show(if s1.nx=s1.nx then [b] else _)=_;rw[Zc rfl]
    exact⟨by rw[q1,q2],dx,[],by rw[q1];exact lN,rfl,.nil⟩
   refine⟨by rw[bc,r1.length];exact hl,_,_,_,.cons .new (r1.ext e2),S2,(Post.shift e2 P1).bind λv s3 u H3 m3 e3 S3 r3 P3=>?_⟩;split at P3
   ·cases r3;exact⟨rfl,P3 _ _ _ .refl S3 (Rep.new.ext e3)⟩
   ·exact P3.elim
  ·exact P1.elim⟩⟩
theorem RepZ.none{κ:Type}[DecidableEq κ]{K:aa}{H:Hp}{m:Mp}{s:Sto}{k:κ}:∀{l:List (κ×PV)}{vs:List (κ×V)},RepZ K H m s vs l->tj l k=Zb->om vs k=Zb
 |[],vs,h,_=>by
  have:=h.length;rw[cW.mp this];rfl
 |q::l,vs,h,e=>by
  obtain⟨w,r,rfl,a,b⟩:=h.cons_inv;unfold tj at e;unfold om;rw[bG] at e ⊢;by_cases c:q.1=k
  ·rw[Zg c] at e;cases e
  ·rw[Zh c] at e;show jt _ (match decide (q.1=k) with|true=>Za (q.1,w)|false=>_)=_;rw[Zh c];exact b.none e
def xOM(C:ak)(nm:Str)(n:Nat)(D:XF)(f:XE)(fa:XA)(Z:En)(s:Sto):Out PV:=(f Z s).bind λo s1=>match o with
 |.ref k=>match s1.get k with
  |some (.obj C' fs)=>if C'=C/\tj fs nm=Zb then(fa Z s1).bind λvs s2=>if vs.length+1=n then D (.ref k::vs) s2 else .bad else .bad
  |_=>.bad
 |_=>.bad
def KN(ho:DE X CB E a f)(M:Mt X.prog X.w X.K X.mg X.base C m k ps (spD X.K CB n D))(ha:DA X CB E (e::es) fa)(hr:Room jr X.A:=by assumption)(hk:k<=jr:=by first|decide|omega)(hx:nO (CXo X.prog X.w) X E:=by first|exact oC|exact qG)(Qt:SEb X e es:=by rfl)(Pn:(b8 pos (aC es X.env)).any (·.1)=false:=by rfl)(ht:eval (.Call (.Attribute a m O4) (e::es) [] pos) X.env=(do
   let ov <-eval a X.env
   gv O4.atName
   let(f,first) <-holding [ov] (fQ ov m pl)
   iT pos f first (b8 pos (aC (e::es) X.env)) (eK pos (cY [] X.env))):=by rfl):DE X CB E (.Call (.Attribute a m O4) (e::es) [] pos) (xOM C m n D f fa) :=
 ⟨(rN (pl:=pl) ho.pe M (hr.mono hk) hx ha.pa Qt Pn ht).mono λO H Q=>oE λZ s m' er S P=>⟨Z,s,m',er,S,P.bind λv s1 u H1 m1 e1 S1 r1 P1=>by
  split at P1
  ·split at P1
   ·rename_i hg;split at P1
    ·rename_i hc;obtain⟨hc,hn0⟩:=hc;subst hc;obtain⟨_,dx,fs',h1,rf⟩:=S1.get hg;cases r1 with
     |ref hn =>
     refine⟨_,_,_,rfl,h1,(xr m fs').trans (RepZ.none rf hn0),Z,s1,m1,er.ext e1,S1,P1.bind λvs s2 us H2 m2 e2 S2 r2 P2=>?_⟩;split at P2
     ·rename_i hl;rw[cK];refine⟨by rw[bc,r2.length];exact hl,_,s2,m2,.cons ?_ r2,S2,P2⟩;exact(Rep.ref hn).ext e2
     ·exact P2.elim
    ·exact P1.elim
   ·exact P1.elim
  ·exact P1.elim⟩⟩
def rIxL0(K:aa):R2:=λx y H Q=>∃(p:ak)(xs:List V)(j:Nat)(v:V),x=.ref p/\y=.int (j:Int)/\SqL K H p xs/\xs[j]?=Za v/\Q v H
def Jf:PGet X (rIxL0 X.K):=by intro O2 s O H x y v u Q I rx ry h;obtain⟨p,xs,j,z,rfl,rfl,hq,he,q⟩:=h;cases rx;obtain⟨t,rfl⟩:=ry;obtain⟨its,r,pl,hz⟩:=I.list hq;obtain⟨w,ew,PB⟩:=r.get he;have hl:=r.length;have hn:=wa;have hj:j<its.length:=(aS.mp ew).1;exact wpAny_getItem_list pl.isList (by lia) (by lia) (by simpa using ew) ⟨z,H,I,PB,q⟩
def HF(f g h:XE)(Z:En)(s:Sto):SO:=(f Z s).so λo s1=>(g Z s1).so λi s2=>match o,i with
 |.ref n,.int k=>if 0<=k then(match s2.get n with
  |some (.lst l)=>(match l[k.toNat]? with
   |some (.int x)=>(h Z s2).so λv s3=>match v with
    |.int y=>(match s3.get n with
     |some (.lst l')=>if k.toNat<l'.length then .nx Z (s3.set n (.lst (l'.set k.toNat (.int (x+y))))) else .bad
     |_=>.bad)
    |_=>.bad
   |_=>.bad)
  |_=>.bad) else .bad
 |_,_=>.bad
def Ml(ho:DE X CB E a f)(hi:DE X CB E b g)(he:DE X CB E e h)(ha:∀ov iv new,augStore b ov iv new=(do holding [new,ov,iv] (kn ov iv new);release [new,ov,iv] [];pure .next):=by intros;rfl):DS X CB E (.AugAssign (.Subscript a b Px) .Add e pos) (HF f g h) :=
 ⟨(Ll ho.pe hi.pe Jf he.pe J9 set_list ha).mono λD O H=>oE λZ s m er S P=>⟨Z,s,m,er,S,Post.so P λo s1 uo H1 m1 e1 S1 r1 P1=>⟨Z,s1,m1,er.ext e1,S1,Post.so P1 λi s2 ui H2 m2 e2 S2 r2 P2=>by
  split at P2
  ·rename_i n k;split at P2
   ·rename_i hk;split at P2
    ·rename_i l hg;split at P2
     ·rename_i x hx;obtain⟨_,vs,h1,q1⟩:=S2.get hg;obtain⟨u0,hu0,ru0⟩:=q1.get hx;cases ru0;have UR:=r1.ext e2;cases UR with
      |ref Pd =>
      cases r2;have ek:k=((k.toNat:Nat):Int):=by lia
      refine⟨_,vs,k.toNat,_,rfl,by rw[<-ek],SqL.of h1,hu0,Z,s2,m2,(er.ext e1).ext e2,S2,Post.so P2 λv s3 uv H3 m3 e3 S3 r3 P3=>?_⟩;split at P3
      ·split at P3
       ·rename_i l' hg';split at P3
        ·rename_i hl;cases r3;obtain⟨_,PH,SB,q1'⟩:=S3.get hg';have hn:n<s2.nx:=Pd;have ead:m3.ad n=m2.ad n:=e3.ad n hn;obtain⟨S4,e4⟩:=S3.putL hg' (q1'.set k.toNat (.int (i:=x+_)));rw[ead] at SB S4 e4;refine⟨_,_,rfl,rfl,_,PH,_,k.toNat,rfl,rfl,SB,?_,P3 _ _ _ e4 S4 ((((er.ext e1).ext e2).ext e3).ext e4)⟩;rw[q1'.length];unfold ixN;simp only[hk,if_true];rw[Zc (by lia)]
        ·exact P3.elim
       ·exact P3.elim
      ·exact P3.elim
     ·exact P2.elim
    ·exact P2.elim
   ·exact P2.elim
  ·exact P2.elim⟩⟩⟩
end
end L2
namespace PySem
open Sem (wp)
def Cf:typeLookup (.type "list") "keys"=pure none:=by rw[typeLookup_type,builtinLookup_eq_fast];kernel_rfl
def yB(hx:s.heap.get? a=Za o)(hc:o.cls=.type "list")(QW:o.data=.seq xs k)(hd:o.dict=Zb)(hA:A.handled=Zb)(h:∀h' tk,(∀b o,s.heap.get? b=Za o->h'.get? b=Za o)->Q Zb { s with heap:=h',toks:=tk }) :
  aT (model prog w) A (getAttr? (.ref a) "keys") Q E s:=by
 obtain⟨c,dct,dat,sl⟩:=o;simp only at hc QW hd;subst hc QW hd;obtain⟨y1,y2,y3,y4,y5⟩:=s;have ty:∀z,(⟨y1,y2,y3,z,y5⟩:ax).TypeIs (.ref a) "list":=λ_=>⟨_,hx,rfl⟩;have f1:=sub_AttributeError;have f3:=gQ.lookup;have f4:=gQ.bind (.ref a);have f5:=am_list_getattr_none;unfold getAttr? getAttrBy? getAttrBy
 repeat (any_goals (first|assumption|exact ty _|((with_reducible show aT _ _ (call (Value.builtin "list.__getattribute__") _ _) _ _ _);refine jj gQ (ty _) am_entry_list_getattribute (F.args_list_getattribute_2 _ _) (meets_getattribute_miss_list a xs k sl "keys" _ Cf (by decide +kernel) (by decide)) ⟨hx,hA,λh' tk' e QJ=>?_⟩)|wp_step))
 obtain⟨t',u',he⟩:=QJ.there;show aT _ _ (getattributeRaised _ _ _ _ _ _ _) _ _ _;unfold getattributeRaised
 repeat any_goals first|assumption|wp_step
 exact h _ _ QJ.keeps
namespace F
def plain_dul:plainId "dict.update.loop"=true:=by decide +kernel
def entry_dul:entryFor table "dict.update.loop"=Za Builtin.«dict.update.loop»:=entryFor_of_tree (by kernel_rfl)
end F
section
variable{prog:aK}{w:a6}{K:Type}[DecidableEq K]{knd:KeyKind prog w K}{A:cE}{R:Result->ax->Prop}{D it l:ak}
structure PairAt(knd:KeyKind prog w K)(h:bx)(p:ak×K×ah×ah):Prop where
 at_:∃o n,h.get? p.1=Za o/\o.cls=.type "tuple"/\o.data=.seq #[p.2.2.1,p.2.2.2] n
 is:knd.is p.2.1 p.2.2.1=true
def wJ(kvs:List (K×ah)):List (ak×K×ah×ah)->List (K×ah)
 |[]=>kvs
 |p::ps=>wJ (stored kvs p.2.1 p.2.2.2) ps
theorem Ed(hh:A.handled=Zb)(Uq:D≠it)(hDl:D≠l)(hil:it≠l):∀(ps:List (ak×K×ah×ah))(i:Nat)(pre:List ah)(s:ax)(kvs:List (K×ah)),pre.length=i->s.heap.IsListIter it l i ->
  s.heap.IsList l (pre++ps.map λp=>bj p.1).toArray->(∀p∈ps,PairAt knd s.heap p/\p.1≠it/\p.1≠D)->s.heap.DictOf knd D kvs->kvs.length+ps.length<=aJ ->
  (∀h' tk,h'.DictOf knd D (wJ kvs ps)->(∀b o,b≠it->b≠D->s.heap.get? b=Za o->h'.get? b=Za o)->R (.ok (.ret .none)) { s with heap:=h',toks:=tk }) ->
  gw (model prog w) A (.builtin "dict.update.loop" ⟨[.ref D,.ref it,rawInt i,.none],[]⟩) R s
 |[],i,pre,s,kvs,hi,R4,hl,hp,hd,hz,hR=>by
  refine codeAny_builtin F.entry_dul ?_;rw[kC F.plain_dul _];show aT _ A.in1 (pyNext (.ref it) >>= _) _ _ s;refine ap (wpAny_pyNext_list_end (A:=A.in1) hh R4 hl (by simp[hi]) λh' sb=>?_);exact ap (aL (aL (hR h' s.toks (hd.extBut sb Uq) λb o hb _ e=>sb b o hb e)))
 |p::ps,i,pre,s,kvs,hi,R4,hl,hp,hd,hz,hR=>by
  obtain⟨⟨⟨o,n,hT,hc,hdt⟩,hk⟩,ni,nD⟩:=hp p ai;refine codeAny_builtin F.entry_dul ?_;rw[kC F.plain_dul _];show aT _ A.in1 (pyNext (.ref it) >>= _) _ _ s;refine ap (wpAny_pyNext_list_item (A:=A.in1) (x:=.ref p.1) R4 hl (by simp[<-hi]) λh' Vs sb=>?_);have hT':h'.get? p.1=Za o:=(sb.2 _ ni).trans hT;have Vd:(⟨h',s.gens,s.drawn,s.toks,s.os⟩:ax).TypeIs (.ref p.1) "tuple":=⟨_,hT',hc⟩;refine ap (ed (ap (wpAny_tryCatch ?_)));show aT _ A.in1 (jg (.ref p.1)) _ _ { s with heap:=h' };unfold jg;refine ap (wpAny_typeOf Vd ?_);rw[Zc (by decide)];refine ap (wpAny_seqItems hT' hdt (aL ?_));show aT _ A.in1 (holding [p.2.2.1,p.2.2.2] (dictSet D p.2.2.1 p.2.2.2)) _ _ _;have Tz:h'.DictOf knd D kvs:=hd.sameBut sb Uq;refine ed (wpAny_dictSet_pairs (hsz:=by rw[bc] at hz;lia) hk Tz λh2 QD sb2=>?_);refine aL ⟨plainId_quiet F.plain_dul _,?_⟩;have kp:∀b,b≠it->b≠D->h2.get? b=s.heap.get? b:=λb h1 h2=>(sb2.2 b h2).trans (sb.2 b h1);have:=Ed hh Uq hDl hil ps (i+1) (pre++[.ref p.1]) { s with heap:=h2,toks:=s.toks+1 } (stored kvs p.2.1 p.2.2.2) (by simp[hi])
   (Vs.at λo e=>(sb2.2 it (bX Uq)).trans e) (by
    have e:(pre++[bj p.1]++ps.map λp=>bj p.1)=pre++(p::ps).map λp=>bj p.1:=by simp
    rw[e];exact hl.at λo e=>(kp l (bX hil) (bX hDl)).trans e) (λq hq=>by
    obtain⟨⟨⟨o,n,g,g2⟩,k⟩,a1,a2⟩:=hp q (ae _ hq);exact⟨⟨⟨o,n,(kp _ a1 a2).trans g,g2⟩,k⟩,a1,a2⟩) QD (by
    have:=stored_length_le kvs p.2.1 p.2.2.2;rw[bc] at hz;lia) λh3 tk Ro k3=>?_
  ·exact this
  ·exact hR h3 tk Ro λb o h1 h2 e=>k3 b o h1 h2 ((kp b h1 h2).trans e)
end
open Sem (wp)
section
variable{prog:aK}{w:a6}{K:Type}[DecidableEq K]{knd:KeyKind prog w K}{E:ah->ax->Prop}{A:cE}{s:ax}
def x9(hh:A.handled=Zb)(hx:s.heap.get? l=Za ol)(Sc:ol.cls=.type "list")(Vz:ol.dict=Zb)(Uo:ol.data=.seq (ps.map λp=>bj p.1).toArray n)(hp:∀p∈ps,PairAt knd s.heap p)(hz:ps.length<=aJ)(h:∀h' tk,h'.DictOf knd s.heap.objs.size (wJ [] ps)->(∀b o,s.heap.get? b=Za o->h'.get? b=Za o)->Q (.ref s.heap.objs.size) { s with heap:=h',toks:=tk }) :
  aT (model prog w) A (call (.type "dict") [.ref l]) Q E s:=by
 refine callType_codes (Q₁:=λob s0=>ob=.ref s.heap.objs.size/\s0={ s with heap:=s.heap.push { cls:=.type "dict",data:=.dict #[] } }) F.kt_called_dict (F.kt_typeCall_dict_1 _) F.entry_dict_init (kt_code_dict_new _ ⟨rfl,rfl⟩) ?_
 rintro _ _ ⟨rfl,rfl⟩
 have nw:(s.heap.push { cls:=.type "dict",data:=.dict #[] }).DictOf knd s.heap.objs.size []:=kA s.heap;have QJ:(s.heap.push { cls:=.type "dict",data:=.dict #[] }).get? l=Za ol:=au _ hx;have hTl:({ s with heap:=s.heap.push { cls:=.type "dict",data:=.dict #[] } }:ax).TypeIs (.ref l) "list":=⟨_,QJ,Sc⟩;have Uj:l<s.heap.objs.size:=az hx;refine⟨nw.typeIs,F.args_dict_init_2 _ _,?_⟩;unfold Builtin.«dict.__init__»;refine ap ?_;unfold Builtin.Dict.selfAndRest;refine ap (wpAny_notOrdered_dict nw.typeIs ?_);show aT _ _ (pure (s.heap.objs.size,[bj l])) _ _ _;refine aL ?_;show aT _ _ (je "dict.__init__" s.heap.objs.size (.ref l) [] .none) _ _ _;unfold je;refine ap (wpAny_typeOf hTl ?_);rw[Zc (by decide)];refine ap (yB QJ Sc Uo Vz hh λh1 tk kp=>?_);rw[Zc (show(Zb:Option ah).isNone=true from rfl)];refine ap (wpAny_rule ?_);have Ry:h1.IsList l (ps.map λp=>bj p.1).toArray:=⟨_,kp _ _ QJ,Sc,_,Uo⟩;refine ap (gS Ry ?_);obtain⟨od,es,ep,hod,rd⟩:=nw;have VL:h1.get? s.heap.objs.size=Za od:=kp _ _ hod;have Qx:h1.DictOf knd s.heap.objs.size []:=⟨od,es,ep,VL,rd⟩;have l1:l<h1.objs.size:=az (kp _ _ QJ);have lD:s.heap.objs.size<h1.objs.size:=az VL;have Rc:(h1.push { cls:=.type "list_iterator",data:=.fields #[.ref l,.int 0 0] }).IsListIter h1.objs.size l 0:=⟨_,a7 _ rfl,rfl,rfl⟩;refine aL ⟨plainId_quiet F.plain_dul _,Ed (A:=A.in1) hh (aE lD) (f7 Uj) (f7 l1) ps 0 [] _ [] rfl Rc (Ry.push _) (λp q=>?_) (Qx.push _) (by simpa using hz) λh2 tk2 QD k2=>⟨rfl,h h2 tk2 QD λb o e=>?_⟩⟩
 ·obtain⟨⟨o,n,g,g2⟩,k⟩:=hp p q;have g1:=kp _ _ (au { cls:=.type "dict",data:=.dict #[] } g);exact⟨⟨⟨o,n,au _ g1,g2⟩,k⟩,aE (az g1),aE (az g)⟩
 ·have g1:=kp _ _ (au { cls:=.type "dict",data:=.dict #[] } e);exact k2 b o (aE (az g1)) (aE (az e)) (au _ g1)
end
end PySem
namespace L2
open PySem PySem.Spec PyProof.Rows
section
variable{X:Cx}{CB:ak}{E:XK}{a b c e:bo}{f g h:XE}{p pos O4 O5:Pos}
def putAll(kvs:List (Key×V)):List (Key×V)->List (Key×V)
 |[]=>kvs
 |p::ps=>putAll (qf kvs p.1 p.2) ps
def rDP(K:aa):List V->Hp->VK->Prop:=λxs H Q=>∃(l:ak)(ts:List (ak×Key×V)),xs=[.ref l]/\SqL K H l (ts.map λt=>V.ref t.1)/\(∀t∈ts,SqT K H t.1 [kV t.2.1,t.2.2])/\∀p,H p=Zb->Q (.ref p) (upd H p (.dK (putAll [] (ts.map (·.2)))))
theorem vb:∀(ps kvs:List (Key×V)),(putAll kvs ps).length<=kvs.length+ps.length
 |[],kvs=>am _
 |p::ps,kvs=>by have h1:=vb ps (qf kvs p.1 p.2);have h2:=qT kvs p.1 p.2;show(putAll (qf kvs p.1 p.2) ps).length<=kvs.length+(ps.length+1);lia
theorem KV.putAll:∀{ts:List (ak×Key×V)}{ps:List (ak×Key×ah×ah)}{kvs:List (Key×V)}{vs:List (Key×ah)},KV kvs vs->eT (λ(t:ak×Key×V)(p:ak×Key×ah×ah)=>t.1=p.1/\t.2.1=p.2.1/\RelV t.2.2 p.2.2.2) ts ps->KV (L2.putAll kvs (ts.map (·.2))) (wJ vs ps)
 |[],_,_,_,r,.nil=>r
 |t::ts,p::ps,kvs,vs,r,.cons h hs=>by obtain⟨_,h2,h3⟩:=h;show KV (L2.putAll (qf kvs t.2.1 t.2.2) (ts.map (·.2))) (wJ (stored vs p.2.1 p.2.2.2) ps);rw[<-h2];exact KV.putAll (r.put t.2.1 h3) hs
def MF(hc:X.calm=true):CallR X (.type "dict") (rDP X.K):=by
 intro O2 s O H xs us Q I r h;obtain⟨l,ts,rfl,hl,ht,q⟩:=h;obtain⟨u,rfl,rx⟩:=qp r;cases rx;obtain⟨its,rv,pl,hz⟩:=I.list hl;have UQ:∀{ts:List (ak×Key×V)}{its:List ah},Vals (ts.map λt=>V.ref t.1) its->its=ts.map λt=>bj t.1:=by
  intro ts;induction ts with
  |nil=>intro its rv;cases rv;rfl
  |cons t ts ih =>
   intro its rv;cases rv with
   |cons r rs =>
    cases r;rw[ih rs];rfl
 have SS:∀(ts:List (ak×Key×V)),(∀t∈ts,SqT X.K H t.1 [kV t.2.1,t.2.2])->∃ps:List (ak×Key×ah×ah),(∀p∈ps,PairAt (mK X.prog X.w) s.heap p)/\eT (λ(t:ak×Key×V)(p:ak×Key×ah×ah)=>t.1=p.1/\t.2.1=p.2.1/\RelV t.2.2 p.2.2.2) ts ps:=by
  intro ts;induction ts with
  |nil=>exact λ_=>⟨[],(λ_ z=>nomatch z),.nil⟩
  |cons t ts ih =>
   intro h;obtain⟨ps,h1,h2⟩:=ih λt' z=>h t' (ae _ z);obtain⟨P7,Sn,⟨o,ho,Sc,n,hd⟩,_⟩:=I.tuple (h t ai);obtain⟨u1,u2,rfl,r1,r2⟩:=MR Sn;refine⟨(t.1,t.2.1,u1,u2)::ps,λp z=>?_,.cons ⟨rfl,rfl,r2⟩ h2⟩;rcases af.mp z with z|z
   ·rw[z];exact⟨⟨o,n,ho,Sc,hd⟩,yZ r1⟩
   ·exact h1 p z
 obtain⟨ps,h1,h2⟩:=SS ts ht;have eps:∀{ts:List (ak×Key×V)}{ps:List (ak×Key×ah×ah)},eT (λ(t:ak×Key×V)(p:ak×Key×ah×ah)=>t.1=p.1/\t.2.1=p.2.1/\RelV t.2.2 p.2.2.2) ts ps->(ts.map λt=>bj t.1)=ps.map λp=>bj p.1:=by
  intro ts;induction ts with
  |nil=>intro ps h;cases h;rfl
  |cons t ts ih =>
   intro ps h;cases h with
   |cons a b=>rw[ao,ao,ih b,a.1]
 rw[UQ rv,eps h2] at pl;obtain⟨o,n,ho,Sc,Vz,Uo⟩:=pl;rw[ac] at hz;have O6:ps.length=ts.length:=(iB h2).symm;refine x9 (knd:=mK X.prog X.w) (I.ok.hd hc) ho Sc Vz Uo h1 (by rw[O6];exact hz) λh' tk dd kp=>?_;refine⟨.ref s.heap.objs.size,_,I.laid (a:=s.heap.objs.size) (o:=.dK (putAll [] (ts.map (·.2)))) (t':=tk) (λb o e=>kp b o e) (am _) (Av ?_ (beq_eq_false_iff_ne.mpr (bX (aE I.big))) (KV.putAll .nil h2) dd),rfl,q _ (I.hok.fresh (am _))⟩;have:=vb (ts.map (·.2)) [];rw[ac] at this;simp only[jw,ft] at this;exact aI this hz
def AL:List (Key×PV)->List PV->Option (List (Key×PV))
 |kvs,[]=>Za kvs
 |kvs,.tup [k,p]::l=>match kyOf k with
  |some key=>AL (yO kvs key p) l
  |none=>Zb
 |_,_=>Zb
def AK(vs:List PV)(s:Sto):Out PV:=match vs with
 |[v]=>match lsOf s v with
  |some l=>match AL [] l with
   |some d=>.ok (.dct d) s
   |none=>.bad
  |none=>.bad
 |_=>.bad
theorem zj{K:aa}{H:Hp}{m:Mp}{s:Sto}:∀{l:List PV}{vs:List V}{kvs:List (Key×V)}{q d:List (Key×PV)},Reps K H m s vs l->RepKs K H m s kvs q->AL q l=Za d->∃ts:List (ak×Key×V),vs=(ts.map λt=>V.ref t.1)/\(∀t∈ts,SqT K H t.1 [kV t.2.1,t.2.2])/\RepKs K H m s (putAll kvs (ts.map (·.2))) d
 |[],_,kvs,q,d,.nil,rq,h=>by cases h;exact⟨[],rfl,(λ_ z=>nomatch z),rq⟩
 |p::l,_,kvs,q,d,.cons r rs,rq,h=>by
  unfold AL at h;split at h
  ·rename_i z;cases z
  ·rename_i k p' l' heq;cases heq;split at h
   ·rename_i key hk;obtain⟨a,PH,rfl,sq,rr⟩:=r.tp;cases rr with
    |cons r1 rr =>
     cases rr with
     |cons r2 rr =>
      cases rr;obtain⟨ts,e1,e2,e3⟩:=zj rs (rq.put key r2) h;have ek:=qj r1 hk;subst ek;refine⟨(a,key,_)::ts,by rw[e1];rfl,λt z=>?_,e3⟩;rcases af.mp z with z|z
      ·rw[z];exact sq
      ·exact e2 t z
   ·cases h
  ·cases h
def FE(hc:X.calm=true):BltR X CB E (.type "dict") AK:=⟨_,MF hc,by
 intro H m s v x Q S rx P;unfold AK at P;split at P
 ·cases rx with
  |cons r n =>
   cases n;split at P
   ·rename_i l hl;split at P
    ·rename_i d hd;obtain⟨a,vs,rfl,q,r⟩:=r.ls S hl;obtain⟨ts,rfl,e2,e3⟩:=zj r .nil hd;exact⟨a,ts,rfl,q,e2,λp hp=>P.new S hp λex S'=>.dct (.inl lN) (S.pure_none hp) (e3.ext ex)⟩
    ·exact P.elim
   ·exact P.elim
 ·exact P.elim⟩
def AE(d:ak):Obj:={ cls:=.type "dict_values",data:=.fields #[.ref d] }
def tVals(td:TE):TE:=λO H Q=>td O H λx H1=>∃(d:ak)(kvs:List (Key×V)),x=.ref d/\Rd H1 d (.dK kvs)/\∀v,H1 v=Zb->Q (.ref v) (upd H1 v (fzO (AE d)))
def Lp(ho:PE X a td)(Pu:cU a "values" X.env (eval a X.env)=eval a X.env:=by rfl)(Pt:(O4.endLine==O5.line)=true:=by rfl):PE X (.Call (.Attribute a "values" O4) [] [] O5) (tVals td):=by intro O2 s O H Q I h;refine wpAny_Call_method0_late Pu Pt (thn (ho O2 s O H _ I h) λv s1=>e4 λx H1 I1 r1 ⟨d,kvs,ex,hd,q⟩=>?_);subst ex;obtain rfl:v=bj d:=r1;obtain⟨t1,t2,_⟩:=Fv I1 (.inl ⟨kvs,hd⟩);refine⟨"dict","dict.values",gy,jE,PySem.F.type_dict_values,t1,t2,fb rfl (PySem.evalArgs_none ?_)⟩;obtain⟨z,hs,vs,rel,dd⟩:=sY I1.hok hd;refine jB jE dd.typeIs PySem.F.entry_dict_values (PySem.F.args_dict_values_1 _) (meets_dict_values (mK X.prog X.w) d hs) ⟨⟨vs,dd⟩,?_⟩;have e0:(s1.heap.push (AE d)).get? s1.heap.objs.size=Za (AE d):=a7 _ rfl;exact⟨.ref s1.heap.objs.size,_,I1.laid (a:=s1.heap.objs.size) (o:=fzO (AE d)) (t':=s1.toks) (λb o e=>au _ e) (am _) ⟨e0,_,e0⟩,rfl,q _ (I1.hok.fresh (am _))⟩
def Hy(hc:X.calm=true):CallR X (.builtin "sum") (λxs H Q=>∃(v d:ak)(kvs:List (Key×V))(is:List Int),xs=[.ref v]/\H v=Za (fzO (AE d))/\Rd H d (.dK kvs)/\kvs.map (·.2)=is.map V.int/\Q (.int is.sum) H):=by
 intro O2 s O H xs us Q I r h;obtain⟨v,d,kvs,is,rfl,hv,hd,hi,q⟩:=h;obtain⟨u,rfl,ru⟩:=qp r;cases ru;obtain⟨z,hs,vs,rel,dd⟩:=sY I.hok hd;obtain⟨hov,_⟩:=(show ObjOk X.prog X.w H s.heap v (fzO (AE d)) from I.hok v _ hv);obtain⟨ep,QE⟩:=dd.dictAt;have Sh:∀{is:List Int}{kvs:List (Key×V)}{vs:List (Key×ah)},KV kvs vs->kvs.map (·.2)=is.map V.int->∀(i:Nat)(k:Key)(w:ah),vs[i]?=Za (k,w)->∃t,w=fW ((is[i]?).getD 0) t:=by
  intro is;induction is with
  |nil =>
   intro kvs vs rel e i k w hw;have:kvs=[]:=List.map_eq_nil_iff.mp e;subst this;cases rel;cases hw
  |cons x is ih =>
   intro kvs vs rel e i k w hw;cases rel with
   |nil=>cases e
   |cons a b =>
    rw[ao,ao] at e;obtain⟨e1,e2⟩:=eg e;cases i with
    |zero =>
     cases hw;have:=a.2;rw[e1] at this;obtain⟨t,rfl⟩:=this;exact⟨t,rfl⟩
    |succ i=>exact ih b e2 i k w hw
 have O6:vs.length=is.length:=by have h1:=rel.length;have h2:=congrArg cg hi;rw[ac,ac] at h2;lia
 have Rn:d<s.heap.objs.size:=by obtain⟨o,_,_,ho,_⟩:=dd;exact az ho
 refine call_sum_walkG (wpAny_pyIter_values (knd:=mK X.prog X.w) ⟨_,hov,rfl,rfl⟩ QE ?_);refine⟨s.heap.objs.size,_,_,vs.length,_,_,λi=>(is[i]?).getD 0,rfl,Walks.dictValues (show X.A.in1.handled=Zb from I.ok.hd hc) s.heap.objs.size d (aE Rn) vs ep,⟨⟨_,a7 _ rfl,rfl,rfl⟩,QE.push _⟩,λb hb=>?_,λi w ⟨k,hk⟩=>Sh rel hi i k w hk,λh' tk t' hk=>?_⟩
 ·show b<(s.heap.push _).objs.size;rw[jI];simp only[af,cN,or_false] at hb;rcases hb with z|z<;>rw[z]
  ·exact bT _
  ·exact cA Rn
 ·have ps:∀(is:List Int)(n:Nat),preSum (λi=>(is[i]?).getD 0) n=(is.take n).sum:=by
   intro is n;induction n with
   |zero=>rfl
   |succ n ih =>
    show preSum _ n+(is[n]?).getD 0=_;rw[ih,dC,List.sum_append];cases is[n]?<;>simp
  rw[ps,O6,fB];refine⟨.int _,H,I.kept λb o e=>hk b o ?_ (au _ e),⟨_,rfl⟩,q⟩;simp only[aq];exact aE (az e)
def Eo(f:XE)(Z:En)(s:Sto):Out PV:=(f Z s).bind λv s1=>match dcOf s1 v with
 |some l=>match tH (l.map (·.2)) with
  |some is=>.ok (.int is.sum) s1
  |none=>.bad
 |none=>.bad
theorem yM{K:aa}{H:Hp}{m:Mp}{s:Sto}:∀{vs:List (Key×V)}{l:List (Key×PV)},RepKs K H m s vs l->Reps K H m s (vs.map (·.2)) (l.map (·.2))
 |_,_,.nil=>.nil
 |_,_,.cons a b=>.cons a (yM b)
def Mu(ho:DE X CB E a f)(hc:X.calm=true:=by rfl)(hg:Gl X "sum":=by rfl)(hm:X.mg "sum"=none:=by assumption)(Pu:cU a "values" X.env (eval a X.env)=eval a X.env:=by rfl)(Pt:(O4.endLine==O5.line)=true:=by rfl)(hs:aC [Expr.Call (.Attribute a "values" O4) [] [] O5] X.env=(false,eval (Expr.Call (.Attribute a "values" O4) [] [] O5) X.env)::aC [] X.env:=by rfl)(Pn:(b8 pos (aC [] X.env)).any (·.1)=false:=by rfl):DE X CB E (.Call (.Name "sum" p) [.Call (.Attribute a "values" O4) [] [] O5] [] pos) (Eo f) :=
 ⟨(pz (Hy hc) hg hm Kp (lW (Lp ho.pe Pu Pt) pa_nil hs) (by decide) (by decide) hs Pn).mono λO H Q=>oE λZ s m er S P=>⟨Z,s,m,er,S,P.bind λv s1 u H1 m1 e1 S1 r1 P1=>by
  split at P1
  ·rename_i l hl;split at P1
   ·rename_i is hi;obtain⟨d,vs,rfl,hd,rr⟩:=r1.dc S1 hl;have e:=uf (yM rr) hi;refine⟨d,vs,rfl,hd,λw hw=>?_⟩;have kk:=My.qe (o:=fzO (AE d)) hw;exact⟨w,d,vs,is,rfl,lN,hd.same kk,e,P1 _ _ _ (.same kk) (S1.same kk) .int⟩
   ·exact P1.elim
  ·exact P1.elim⟩⟩
def MZ:R2:=λx y H Q=>∃a b kvs,x=.ref a/\y=.ref b/\Rd H a (.dK kvs)/\Rd H b (.dK [])/\Q (.bl kvs.isEmpty) H
def LA(hu:X.A.units<fD):OpR X (cm .Eq) MZ:=by
 intro O2 s O H x y v u Q I rx ry h;obtain⟨a,b,kvs,rfl,rfl,ha,hb,k⟩:=h;cases rx;cases ry;obtain⟨z,hs,vs,rel,dd⟩:=sY I.hok ha;obtain⟨z2,Rg,vs2,UP,VX⟩:=sY I.hok hb;cases UP;refine PySem.W.keq_eq (r:=true) hs Rg dd VX hu (λe=>?_) ⟨.bl _,H,I,rfl,?_⟩
 ·have:vs=[]:=cW.mp e;subst this;exact .nil
 ·have q:kvs.isEmpty=(vs.length==([]:List (Key×ah)).length&&true):=by cases rel<;>rfl
  rw[<-q];exact k
def AJ(v w:PV)(s:Sto):Out PV:=match dcOf s v,dcOf s w with
 |some l,Za []=>.ok (.bl l.isEmpty) s
 |_,_=>.bad
def Od:Op2 X.K CB E MZ AJ:=by
 intro H m s v w x y Q S rx ry P;unfold AJ at P;split at P
 ·rename_i l h1 h2;obtain⟨a,vs,rfl,q,r⟩:=rx.dc S h1;obtain⟨b,vs2,rfl,q2,r2⟩:=ry.dc S h2;cases r2;refine⟨a,b,vs,rfl,rfl,q,q2,?_⟩;have:vs.isEmpty=l.isEmpty:=by cases r<;>rfl
  rw[this];exact P.here S .bl
 ·exact P.elim
def OK(hr:Room jr X.A:=by assumption):CmpR X CB E .Eq AJ:=⟨_,LA (Nat.lt_of_succ_lt (nQ hr)),Od⟩
end
end L2
namespace My
open PySem L2 Fra
section
variable{P:aK}{w:a6}{K:aa}{mg:Str->Option ah}{base:bx}{a:Adr}{f:ak}{fd:cz}
def mO(a:Adr)(vs:List PV)(s:Sto):Out PV:=match vs with
 |[.int n,.int m]=>if 0<m then .ok (.int (aF n m)) s else .bad
 |_=>.bad
def K4(vs)(H)(Q)(E)(h:spD K a.Book 2 (mO a) vs H Q E):Fl vs H Q E:=by
 obtain⟨_,ps,s,m,r,S,P⟩:=h;unfold mO at P;split at P
 ·split at P
  ·rename_i hz;cases r with
   |cons r1 r=>cases r with
    |cons r2 r =>
     cases r;cases r1;cases r2;exact⟨_,_,rfl,hz,P.here S .int⟩
  ·exact P.elim
 ·exact P.elim
structure Yz(K:aa)(mg:Str->Option ah)(a:Adr):Prop where
 T:Txt K mg a
 h:∃h:bx,K.In h/\h.Ns ba mg
def gof{x}{st}{k}{ps}{sp:Sp}(c:Gf K x st)(Y:Yz K mg a)(o:∀{f:ak}{fd:cz},Txt K mg a->Fun K x x st f fd->FnOk P w K mg base (CXo P w) k f fd ps sp)(b:Bd x x st ps:=by first|exact bd1|exact bd2|exact bd3|exact bd4|exact bd5|exact bd6|exact bd0):Fn P w K mg base x k ps sp :=
 let⟨_,X,G⟩:=Y.h;c.fn X G (o Y.T) b
variable (P w K mg base a) in abbrev AC:=Mt P w K mg base a.Book "person" 4 ["self","name"] (spD K a.Book 2 (uJ a))
variable (P w K mg base a) in abbrev Cj:=Mt P w K mg base a.Book "house" 4 ["self","name","owner","things","mark","loss"] (spD K a.Book 6 (wZ a))
variable (P w K mg base a) in abbrev Dm:=Mt P w K mg base a.Book "sale" 4 ["self","house","one","other","share"] (spD K a.Book 5 (wg a))
variable (P w K mg base a) in abbrev tM:=Mt P w K mg base a.Book "persons" 1 ["self"] (spD K a.Book 1 (oX a))
variable (P w K mg base a) in abbrev oz:=Mt P w K mg base a.Book "houses" 1 ["self"] (spD K a.Book 1 (nl a))
variable (P w K mg base a) in abbrev vm:=Mt P w K mg base a.Book "shares" 3 ["self","house"] (spD K a.Book 2 (oj a))
variable (P w K mg base a) in abbrev HD:=Mt P w K mg base a.Book "of" 3 ["self","house"] (spD K a.Book 2 (Ks a))
variable (P w K mg base a) in abbrev vM:=Mt P w K mg base a.Book "need_house" 2 ["self","name"] (spD K a.Book 2 (o7 a))
variable (P w K mg base a) in abbrev vp:=Mt P w K mg base a.Book "need_holder" 3 ["self","name"] (spD K a.Book 2 (oB a))
variable (P w K mg base a) in abbrev Dl:=Mt P w K mg base a.Book "twin" 3 ["self"] (spD K a.Book 1 (AD a))
variable (P w K mg base a) in abbrev AB:=Mt P w K mg base a.Book "things" 3 ["self","house","number"] (spD K a.Book 3 (su a))
variable (P w K mg base a) in abbrev Dn:=MkB P w K mg base "Book" a.Book 1 ["self"] (JN K a.Book)
variable (P w K mg base a) in abbrev rL:=Fn P w K mg base "common_divisor" 1 ["number","other"] (spD K a.Book 2 (mO a))
abbrev sF:bQ:=top 42
def Aa:FnScope ["_law_cell","_law_k","_law_number_here"] ["_law_cell","_law_k"] (lP sF):=fsc
def vU(a:Adr):XS:=(xSeq (xSet 2 (x2 (x2 (x2 (x2 (x2 (x2 (xVar 0) (xVar 0) E8) (x2 (xC (.int 3)) (xVar 0) fMul) fAdd) (x2 (xC (.int 7919)) (xVar 1) fMul) fAdd) (xC (.int 1)) fAdd) (xC (.int 48271)) fMul) (xC (.int 2147483629)) fMod)) (xRet (x2 (x2 (x2 (xVar 2) (xVar 2) fMul) (xC (.int 7)) fAdd) (xC (.int 2147483587)) fMod)))
def qx(a:Adr):XF:=(fnD 3 (vU a))
variable (P w K mg base a) in abbrev sO:=Fn P w K mg base "_law_mixed" 1 ["_law_cell","_law_k"] (spD K a.Book 2 (qx a))
def Al(Y:Yz K mg a)(c:Gf K "_law_mixed" sF):sO P w K mg base a :=
 gof c Y λT F=>nv F Aa rfl λ_ _ _ _ _ _ hr S=>(lM (ma 2 (we (mT (nu (nu (nu (Mx (lH 0) (lH 0)) (mT lQ (lH 0))) (mT lQ (lH 1))) lQ) lQ) lQ)) (lU (mH (we (nu (mT (lH 2) (lH 2)) lQ) lQ))))
abbrev sC:bQ:=top 43
def z8:FnScope ["_law_script","_law_cells","_law_number_here","_law_k"] ["_law_script"] (lP sC):=fsc
def qC(a:Adr) :XS:=(xSet 2 (x2 (x2 (xVar 2) (xC (.int 2147483587)) fMul) (xCall 2 (qx a) (xCons (x2 (xVar 1) (x2 (xVar 3) (xB (xCons (xVar 1) xNil) fLen) fMod) fIx) (xCons (xVar 3) xNil))) fAdd))
def sJ(a:Adr):XS:=(xSeq (xSet 1 (x2 (xSl (xVar 0) xNoP (xPart (xC (.int 63)))) (xLst (xCons (xC (.int 0)) xNil)) fAdd)) (xSeq (xSet 2 (xC (.int 1))) (xSeq (xFor (xRng1 (xCons (xC (.int 64)) xNil)) (yName 3) (qC a)) (xSeq (xIf (xTr (x2 (xB (xCons (x2 (xVar 1) (xC (.int 0)) fIx) xNil) fAbs) (x2 (xC (.int 10)) (xC (.int 18)) fPow) fGe)) (xRet (xLstC (xCons (xB (xCons (x2 (xVar 1) (xC (.int 0)) fIx) xNil) fAbs) (xCons (xVar 2) xNil)))) xEnd) (xRet (xLstC (xCons (xVar 2) (xCons (xVar 2) xNil))))))))
def oh(a:Adr):XF:=(fnD 4 (sJ a))
variable (P w K mg base a) in abbrev sM:=Fn P w K mg base "_law_purse" 2 ["_law_script"] (spD K a.Book 1 (oh a))
def Aj(Y:Yz K mg a)(c:Gf K "_law_purse" sC)(A0:sO P w K mg base a):sM P w K mg base a :=
 gof c Y λT F=>nv F z8 rfl λ_ _ _ _ _ _ hr S=>(lM (ma 1 (nu (HQ (lH 0) zh (zg lQ)) (wf (lL lQ)))) (lM (ma 2 lQ) (lM (qI (pU (lL lQ)) (mB 3) (lU (ma 2 (nu (mT (lH 2) lQ) (mq A0 (lO (mh (lH 1) (we (lH 3) (mP b_len (lL (lH 1))))) (lL (lH 3)))))))) (lM (tJ (pA c_ge (mP b_abs (lL (mh (lH 1) lQ))) (Ax lQ lQ)) (lU (mH (zl (lO (mP b_abs (lL (mh (lH 1) lQ))) (lL (lH 2)))))) ot) (lU (mH (zl (lO (lH 2) (lL (lH 2))))))))))
abbrev tX:bQ:=top 44
def BU:FnScope ["_law_purse_here","_law_out_of","_law_drawn"] ["_law_purse_here","_law_out_of"] (lP tX):=fsc
def ul(a:Adr):XS:=(xSeq (xIf (xTr (x2 (x2 (xVar 0) (xC (.int 0)) fIx) (xC (.int 0)) fEq)) (xPut (xVar 0) (xC (.int 0)) (x2 (xVar 0) (xC (.int 1)) fIx)) xEnd) (xSeq (xSet 2 (x2 (x2 (xVar 0) (xC (.int 0)) fIx) (xVar 1) fMod)) (xSeq (xPut (xVar 0) (xC (.int 0)) (x2 (x2 (xVar 0) (xC (.int 0)) fIx) (xVar 1) fDiv)) (xRet (xVar 2)))))
def lV(a:Adr):XF:=(fnD 3 (ul a))
variable (P w K mg base a) in abbrev nC:=Fn P w K mg base "_law_draw" 1 ["_law_purse_here","_law_out_of"] (spD K a.Book 2 (lV a))
def Cd(Y:Yz K mg a)(c:Gf K "_law_draw" tX):nC P w K mg base a :=
 gof c Y λT F=>nv F BU rfl λ_ _ _ _ _ _ hr S=>(lM (tJ (pA Eh (mh (lH 0) lQ) lQ) (lU (At (lH 0) lQ (mh (lH 0) lQ))) ot) (lM (ma 2 (we (mh (lH 0) lQ) (lH 1))) (lM (At (lH 0) lQ (tK (mh (lH 0) lQ) (lH 1))) (lU (mH (lH 2))))))
abbrev qA:bQ:=top 45
def xV:FnScope ["_law_one","_law_other"] ["_law_one","_law_other"] (lP qA):=fsc
def n9(a:Adr) :XS:=(xPar 0 1 (xCons (xVar 1) (xCons (x2 (xVar 0) (xVar 1) fMod) xNil)))
def tL(a:Adr):XS:=(xSeq (xSet 0 (xB (xCons (xVar 0) xNil) fAbs)) (xSeq (xSet 1 (xB (xCons (xVar 1) xNil) fAbs)) (xSeq (vW (xTr (x2 (xVar 1) (xC (.int 0)) fGt)) (n9 a)) (xRet (xVar 0)))))
def o6(a:Adr):XF:=(fnD 2 (tL a))
variable (P w K mg base a) in abbrev qE:=Fn P w K mg base "_law_divisor" 1 ["_law_one","_law_other"] (spD K a.Book 2 (o6 a))
def xX(Y:Yz K mg a)(c:Gf K "_law_divisor" qA):qE P w K mg base a :=
 gof c Y λT F=>nv F xV rfl λ_ _ _ _ _ _ hr S=>(lM (ma 0 (mP b_abs (lL (lH 0)))) (lM (ma 1 (mP b_abs (lL (lH 1)))) (lM (Ea (pA OZ (lH 1) lQ) (lU (OA (i:=0) (j:=1) rfl S.nd rfl rfl (by decide) rfl rfl (lO (lH 1) (lL (we (lH 0) (lH 1)))) rfl))) (lU (mH (lH 0))))))
abbrev tW:bQ:=top 46
def BS:FnScope ["_law_top","_law_bottom","_law_by"] ["_law_top","_law_bottom"] (lP tW):=fsc
def xN(a:Adr):XS:=(xSeq (xSet 2 (xCall 2 (o6 a) (xCons (xVar 0) (xCons (xVar 1) xNil)))) (xSeq (xIf (xTr (x2 (xVar 1) (xC (.int 0)) fLt)) (xSet 2 (x2 (xC (.int 0)) (xVar 2) fSub)) xEnd) (xRet (xTup (xCons (x2 (xVar 0) (xVar 2) fDiv) (xCons (x2 (xVar 1) (xVar 2) fDiv) xNil))))))
def mL(a:Adr):XF:=(fnD 3 (xN a))
variable (P w K mg base a) in abbrev oT:=Fn P w K mg base "_law_made" 2 ["_law_top","_law_bottom"] (spD K a.Book 2 (mL a))
def Cc(Y:Yz K mg a)(c:Gf K "_law_made" tW)(A0:qE P w K mg base a):oT P w K mg base a :=
 gof c Y λT F=>nv F BS rfl λ_ _ _ _ _ _ hr S=>(lM (ma 2 (mq A0 (lO (lH 0) (lL (lH 1))))) (lM (tJ (pA c_lt (lH 1) lQ) (lU (ma 2 (wc lQ (lH 2)))) ot) (lU (mH (og (lO (tK (lH 0) (lH 2)) (lL (tK (lH 1) (lH 2)))))))))
abbrev sD:bQ:=top 47
def z9:FnScope ["_law_purse_here","_law_many","_law_letters","_law_long","_law_stem","_law_at","_law_found","_law_k","_law_spots"] ["_law_purse_here","_law_many"] (lP sD):=fsc
def nY(a:Adr) :XS:=(xSeq (xSet 8 (pf (xRng1 (xCons (xVar 3) xNil)) [4,7,5] mX (x2 (x2 (xVar 1) (xVar 0) fIx) (x2 (x2 (xC (.int 5)) (xVar 2) fMul) (xB (xCons (x2 (xVar 0) (xVar 3) fEq) xNil) fInt) fMul) fAdd))) (xDo (xAppend (xVar 6) (xCons (xJoin (xC (.str "")) (xCons (pf (xIter (xVar 8)) [2] mX (x2 (xVar 1) (x2 (xVar 0) (xC (.int 26)) fMod) fIx)) xNil)) xNil))))
def sK(a:Adr):XS:=(xSeq (xSet 2 (xC (.str "abcdefghijklmnopqrstuvwxyz"))) (xSeq (xSet 3 (x2 (xC (.int 1)) (xCall 2 (lV a) (xCons (xVar 0) (xCons (xC (.int 7)) xNil))) fAdd)) (xSeq (xSet 4 (pf (xRng1 (xCons (xVar 3) xNil)) [0] mX (xCall 2 (lV a) (xCons (xVar 1) (xCons (xC (.int 26)) xNil))))) (xSeq (xSet 5 (xCall 2 (lV a) (xCons (xVar 0) (xCons (xVar 3) xNil)))) (xSeq (xSet 6 (xLstC xNil)) (xSeq (xFor (xRng1 (xCons (xVar 1) xNil)) (yName 7) (nY a)) (xSeq (xIf (xTr (x2 (xCall 2 (lV a) (xCons (xVar 0) (xCons (xC (.int 4)) xNil))) (xC (.int 0)) fEq)) (xSet 6 (oP (wj (xCons (xFrz (xVar 6)) xNil)) [] mX (x2 (xVar 1) (x2 (xC (.str "x")) (x2 (xVar 0) (xC (.int 2)) fMod) ze) fAdd))) xEnd) (xRet (Er (xVar 6))))))))))
def sR(a:Adr):XF:=(fnD 9 (sK a))
variable (P w K mg base a) in abbrev sN:=Fn P w K mg base "_law_names" 2 ["_law_purse_here","_law_many"] (spD K a.Book 2 (sR a))
def Ak(Y:Yz K mg a)(c:Gf K "_law_names" sD)(EN:mg "enumerate"=Zb)(A0:nC P w K mg base a):sN P w K mg base a :=
 gof c Y λT F=>nv F z9 rfl λ_ _ _ _ _ _ hr S=>(lM (ma 2 FB) (lM (ma 3 (nu lQ (mq A0 (lO (lH 0) (lL lQ))))) (lM (ma 4 (qO (fr:=["_law_purse_here"]) (pU (lL (lH 3))) (λ_ _ _ _ _=>(mq A0 (lO (lH 1) (lL lQ)))))) (lM (ma 5 (mq A0 (lO (lH 0) (lL (lH 3))))) (lM (ma 6 (zl Ay)) (lM (qI (pU (lL (lH 1))) (mB 7) (lM (zf (fr:=["_law_stem","_law_k","_law_at"]) (pU (lL (lH 3))) (λ_ _ _ _ _=>(nu (mh (lH 1) (lH 0)) (mT (mT lQ (lH 2)) (qJ b_int (lL (HS Eh (lH 0) (lH 3)))))))) (lU (vE (Bv (lH 6) (lL (Mz FB (lL (qO (fr:=["_law_letters"]) (qV (lH 8)) (λ_ _ _ _ _=>(mh (lH 1) (we (lH 0) lQ)))))))))))) (lM (tJ (pA Eh (mq A0 (lO (lH 0) (lL lQ))) lQ) (lU (xP (fr:=[]) (CD (lL (Kn (lH 6))) rfl EN) (λ_ _ _ _ _=>(nu (lH 1) (Mv FB (we (lH 0) lQ)))))) ot) (lU (mH (MA (lH 6)))))))))))
abbrev rb:bQ:=top 48
def yp:FnScope ["_law_purse_here","_law_most"] ["_law_purse_here"] (lP rb):=fsc
def vg(a:Adr):XS:=(xSeq (xSet 1 (x2 (xLst (xCons (xC (.int 10)) (xCons (xC (.int 10)) (xCons (xC (.int 100)) (xCons (xC (.int 3)) (xCons (x2 (xC (.int 10)) (xC (.int 6)) fPow) (xCons (x2 (xC (.int 10)) (xC (.int 20)) fPow) xNil))))))) (xCall 2 (lV a) (xCons (xVar 0) (xCons (xC (.int 6)) xNil))) fIx)) (xRet (x2 (xCall 2 (lV a) (xCons (xVar 0) (xCons (x2 (xC (.int 2)) (xVar 1) fMul) xNil))) (x2 (xVar 1) (xC (.int 3)) fDiv) fSub)))
def na(a:Adr):XF:=(fnD 2 (vg a))
variable (P w K mg base a) in abbrev rB:=Fn P w K mg base "_law_number" 2 ["_law_purse_here"] (spD K a.Book 1 (na a))
def yy(Y:Yz K mg a)(c:Gf K "_law_number" rb)(A0:nC P w K mg base a):rB P w K mg base a :=
 gof c Y λT F=>nv F yp rfl λ_ _ _ _ _ _ hr S=>(lM (ma 1 (mh (wf (lO lQ (lO lQ (lO lQ (lO lQ (lO (Ax lQ lQ) (lL (Ax lQ lQ)))))))) (mq A0 (lO (lH 0) (lL lQ))))) (lU (mH (wc (mq A0 (lO (lH 0) (lL (mT lQ (lH 1))))) (tK (lH 1) lQ)))))
abbrev tU:bQ:=top 49
def BQ:FnScope ["_law_purse_here","_law_share","_law_kind","_law_low"] ["_law_purse_here","_law_share"] (lP tU):=fsc
def uk(a:Adr):XS:=(xSeq (xSet 2 (xCall 2 (lV a) (xCons (xVar 0) (xCons (xC (.int 5)) xNil)))) (xSeq (xIf (xTr (x2 (xVar 2) (xC (.int 0)) fEq)) (xRet (xVar 1)) xEnd) (xSeq (xSet 3 (x2 (xLst (xCons (xC (.int 2)) (xCons (xC (.int 3)) (xCons (xC (.int 7)) (xCons (x2 (xC (.int 10)) (xC (.int 6)) fPow) xNil))))) (x2 (xVar 2) (xC (.int 1)) fSub) fIx)) (xRet (xCall 2 (mL a) (xCons (x2 (x2 (xVar 1) (xC (.int 0)) fIx) (x2 (xC (.int 1)) (xCall 2 (lV a) (xCons (xVar 0) (xCons (x2 (xVar 3) (xC (.int 1)) fSub) xNil))) fAdd) fMul) (xCons (x2 (x2 (xVar 1) (xC (.int 1)) fIx) (xVar 3) fMul) xNil)))))))
def p4(a:Adr):XF:=(fnD 4 (uk a))
variable (P w K mg base a) in abbrev ut:=Fn P w K mg base "_law_part" 3 ["_law_purse_here","_law_share"] (spD K a.Book 2 (p4 a))
def Ca(Y:Yz K mg a)(c:Gf K "_law_part" tU)(A0:nC P w K mg base a)(A1:oT P w K mg base a):ut P w K mg base a :=
 gof c Y λT F=>nv F BQ rfl λ_ _ _ _ _ _ hr S=>(lM (ma 2 (mq A0 (lO (lH 0) (lL lQ)))) (lM (tJ (pA Eh (lH 2) lQ) (lU (mH (lH 1))) ot) (lM (ma 3 (mh (wf (lO lQ (lO lQ (lO lQ (lL (Ax lQ lQ)))))) (wc (lH 2) lQ))) (lU (mH (mq A1 (lO (mT (mh (lH 1) lQ) (nu lQ (mq A0 (lO (lH 0) (lL (wc (lH 3) lQ)))))) (lL (mT (mh (lH 1) lQ) (lH 3))))))))))
abbrev tT:bQ:=top 50
def BP:FnScope ["_law_purse_here","_law_model","_law_holders","_law_book","_law_houses","_law_house","_law_shares","_law_owners","_law_one","_law_other","_law_part_here","_law_top","_law_low","_law_rest"] ["_law_purse_here","_law_model","_law_holders","_law_book"] (lP tT):=fsc
def uj(a:Adr):XS:=(xSeq (xSet 4 (xB (xCons (xVar 1) xNil) ms)) (xSeq (xSet 5 (x2 (xVar 4) (xCall 2 (lV a) (xCons (xVar 0) (xCons (xB (xCons (xVar 4) xNil) fLen) xNil))) fIx)) (xSeq (xSet 6 (x2 (x2 (xVar 1) (xVar 5) fIx) (xC (.int 0)) fIx)) (xSeq (xSet 7 (xB (xCons (xVar 6) xNil) ms)) (xSeq (xSet 8 (x2 (xVar 7) (xCall 2 (lV a) (xCons (xVar 0) (xCons (xB (xCons (xVar 7) xNil) fLen) xNil))) fIx)) (xSeq (xSet 9 (x2 (xVar 2) (xCall 2 (lV a) (xCons (xVar 0) (xCons (xB (xCons (xVar 2) xNil) fLen) xNil))) fIx)) (xSeq (xSet 10 (xCall 2 (p4 a) (xCons (xVar 0) (xCons (x2 (xVar 6) (xVar 8) fIx) xNil)))) (xSeq (xIf (xTr (x2 (x2 (xVar 10) (xC (.int 1)) fIx) (x2 (xC (.int 10)) (xC (.int 29)) fPow) fGe)) xRetN xEnd) (xSeq (xDo (xBM 5 (wg a) (xVar 3) (xCons (xVar 5) (xCons (xVar 8) (xCons (xVar 9) (xCons (xVar 10) xNil)))))) (xSeq (xAsg (Es (xVar 6) (xVar 8)) (yTup 2 (yCons (yName 11) (yCons (yName 12) yNil)))) (xSeq (xSet 13 (xCall 2 (mL a) (xCons (x2 (x2 (xVar 11) (x2 (xVar 10) (xC (.int 1)) fIx) fMul) (x2 (x2 (xVar 10) (xC (.int 0)) fIx) (xVar 12) fMul) fSub) (xCons (x2 (xVar 12) (x2 (xVar 10) (xC (.int 1)) fIx) fMul) xNil)))) (xSeq (xIf (xTr (x2 (x2 (xVar 13) (xC (.int 0)) fIx) (xC (.int 0)) fGt)) (xPut (xVar 6) (xVar 8) (xVar 13)) xEnd) (xSeq (xAsg (xGet (xVar 6) (xVar 9) (xTup (xCons (xC (.int 0)) (xCons (xC (.int 1)) xNil)))) (yTup 2 (yCons (yName 11) (yCons (yName 12) yNil)))) (xPut (xVar 6) (xVar 9) (xCall 2 (mL a) (xCons (x2 (x2 (xVar 11) (x2 (xVar 10) (xC (.int 1)) fIx) fMul) (x2 (x2 (xVar 10) (xC (.int 0)) fIx) (xVar 12) fMul) fAdd) (xCons (x2 (xVar 12) (x2 (xVar 10) (xC (.int 1)) fIx) fMul) xNil)))))))))))))))))
def qX(a:Adr):XF:=(fnD 14 (uj a))
variable (P w K mg base a) in abbrev ur:=Fn P w K mg base "_law_sold" 5 ["_law_purse_here","_law_model","_law_holders","_law_book"] (spD K a.Book 4 (qX a))
def B9(Y:Yz K mg a)(c:Gf K "_law_sold" tT)(A0:ut P w K mg base a)(A1:Dm P w K mg base a)(A2:oT P w K mg base a)(A3:nC P w K mg base a):ur P w K mg base a :=
 gof c Y λT F=>nv F BP rfl λ_ _ _ _ _ _ hr S=>(lM (ma 4 (mP (b_sorted rfl) (lL (lH 1)))) (lM (ma 5 (mh (lH 4) (mq A3 (lO (lH 0) (lL (mP b_len (lL (lH 4)))))))) (lM (ma 6 (mh (mh (lH 1) (lH 5)) lQ)) (lM (ma 7 (mP (b_sorted rfl) (lL (lH 6)))) (lM (ma 8 (mh (lH 7) (mq A3 (lO (lH 0) (lL (mP b_len (lL (lH 7)))))))) (lM (ma 9 (mh (lH 2) (mq A3 (lO (lH 0) (lL (mP b_len (lL (lH 2)))))))) (lM (ma 10 (mq A0 (lO (lH 0) (lL (mh (lH 6) (lH 8)))))) (lM (tJ (pA c_ge (mh (lH 10) lQ) (Ax lQ lQ)) (lU Mi) ot) (lM (vE (wC (lH 3) A1 (lO (lH 5) (lO (lH 8) (lO (lH 9) (lL (lH 10))))))) (lM (Au (MB (lH 6) (lH 8)) (si (mG (mB 11) (mG (mB 12) ql)))) (lM (ma 13 (mq A2 (lO (wc (mT (lH 11) (mh (lH 10) lQ)) (mT (mh (lH 10) lQ) (lH 12))) (lL (mT (lH 12) (mh (lH 10) lQ)))))) (lM (tJ (pA OZ (mh (lH 13) lQ) lQ) (lU (At (lH 6) (lH 8) (lH 13))) ot) (lM (Au (FD (lH 6) (lH 9) (og (lO lQ (lL lQ)))) (si (mG (mB 11) (mG (mB 12) ql)))) (lU (At (lH 6) (lH 9) (mq A2 (lO (nu (mT (lH 11) (mh (lH 10) lQ)) (mT (mh (lH 10) lQ) (lH 12))) (lL (mT (lH 12) (mh (lH 10) lQ))))))))))))))))))))
abbrev sH:bQ:=top 51
def Ab:FnScope ["_law_purse_here","_law_most","_law_many","_law_count","_law_names_here","_law_book","_law_model","_law_name","_law_k","_law_owner","_law_three"] ["_law_purse_here","_law_most"] (lP sH):=fsc
def qD(a:Adr) :XS:=(xDo (xBM 2 (uJ a) (xVar 5) (xCons (xVar 7) xNil)))
def o5(a:Adr) :XS:=(xSeq (xSet 9 (x2 (xVar 4) (xCall 2 (lV a) (xCons (xVar 0) (xCons (x2 (xVar 2) (xVar 8) fAdd) xNil))) fIx)) (xSeq (xSet 10 (xTup (xCons (xCall 1 (na a) (xCons (xVar 0) xNil)) (xCons (xCall 1 (na a) (xCons (xVar 0) xNil)) (xCons (xB (xCons (xCall 1 (na a) (xCons (xVar 0) xNil)) xNil) fAbs) xNil))))) (xSeq (xDo (xBM 6 (wZ a) (xVar 5) (xCons (x2 (xVar 4) (x2 (xVar 2) (xVar 8) fAdd) fIx) (xCons (xVar 9) (xCons (x2 (xVar 10) (xC (.int 0)) fIx) (xCons (x2 (xVar 10) (xC (.int 1)) fIx) (xCons (x2 (xVar 10) (xC (.int 2)) fIx) xNil))))))) (xPut (xVar 6) (x2 (xVar 4) (x2 (xVar 2) (xVar 8) fAdd) fIx) (xLst (xCons (xDisp (xVar 9) (xTup (xCons (xC (.int 1)) (xCons (xC (.int 1)) xNil)))) (xCons (xVar 10) xNil)))))))
def o4(a:Adr) :XS:=(xDo (xCall 4 (qX a) (xCons (xVar 0) (xCons (xVar 6) (xCons (xVar 4) (xCons (xVar 5) xNil))))))
def vV(a:Adr):XS:=(xSeq (xSet 2 (x2 (xC (.int 1)) (xCall 2 (lV a) (xCons (xVar 0) (xCons (xC (.int 3)) xNil))) fAdd)) (xSeq (xSet 3 (xCall 2 (lV a) (xCons (xVar 0) (xCons (x2 (xVar 1) (xC (.int 1)) fAdd) xNil)))) (xSeq (xSet 4 (xCall 2 (sR a) (xCons (xVar 0) (xCons (x2 (xVar 2) (xVar 3) fAdd) xNil)))) (xSeq (xSet 5 xBook) (xSeq (xSet 6 xNewD) (xSeq (xFor (xIter (xSl (xVar 4) xNoP (xPart (xVar 2)))) (yName 7) (qD a)) (xSeq (xFor (xRng1 (xCons (xVar 3) xNil)) (yName 8) (o5 a)) (xSeq (xIf (xTr (x2 (xVar 3) (xC (.int 0)) fGt)) (xFor (xRng1 (xCons (xCall 2 (lV a) (xCons (xVar 0) (xCons (x2 (x2 (xC (.int 4)) (xVar 3) fMul) (xC (.int 1)) fAdd) xNil))) xNil)) (yName 8) (o4 a)) xEnd) (xRet (xTup (xCons (xVar 5) (xCons (xB (xCons (xSl (xVar 4) xNoP (xPart (xVar 2))) xNil) ms) (xCons (xVar 6) xNil)))))))))))))
def qy(a:Adr):XF:=(fnD 11 (vV a))
variable (P w K mg base a) in abbrev sP:=Fn P w K mg base "_law_built" 6 ["_law_purse_here","_law_most"] (spD K a.Book 2 (qy a))
def Am(Y:Yz K mg a)(c:Gf K "_law_built" sH)(A0:nC P w K mg base a)(A1:sN P w K mg base a)(A2:Dn P w K mg base a)(A3:AC P w K mg base a)(A4:Cj P w K mg base a)(A5:rB P w K mg base a)(A6:ur P w K mg base a):sP P w K mg base a :=
 gof c Y λT F=>nv F Ab rfl λ_ _ _ _ _ _ hr S=>(lM (ma 2 (nu lQ (mq A0 (lO (lH 0) (lL lQ))))) (lM (ma 3 (mq A0 (lO (lH 0) (lL (nu (lH 1) lQ))))) (lM (ma 4 (mq A1 (lO (lH 0) (lL (nu (lH 2) (lH 3)))))) (lM (ma 5 (MD A2)) (lM (ma 6 Gp) (lM (qI (qV (HQ (lH 4) zh (zg (lH 2)))) (mB 7) (lU (vE (wC (lH 5) A3 (lL (lH 7)))))) (lM (qI (pU (lL (lH 3))) (mB 8) (lM (ma 9 (mh (lH 4) (mq A0 (lO (lH 0) (lL (nu (lH 2) (lH 8))))))) (lM (ma 10 (og (lO (mq A5 (lL (lH 0))) (lO (mq A5 (lL (lH 0))) (lL (mP b_abs (lL (mq A5 (lL (lH 0)))))))))) (lM (vE (wC (lH 5) A4 (lO (mh (lH 4) (nu (lH 2) (lH 8))) (lO (lH 9) (lO (mh (lH 10) lQ) (lO (mh (lH 10) lQ) (lL (mh (lH 10) lQ)))))))) (lU (At (lH 6) (mh (lH 4) (nu (lH 2) (lH 8))) (wf (lO (MC (lH 9) (og (lO lQ (lL lQ)))) (lL (lH 10)))))))))) (lM (tJ (pA OZ (lH 3) lQ) (lU (qI (pU (lL (mq A0 (lO (lH 0) (lL (nu (mT lQ (lH 3)) lQ)))))) (mB 8) (lU (vE (mq A6 (lO (lH 0) (lO (lH 6) (lO (lH 4) (lL (lH 5)))))))))) ot) (lU (mH (og (lO (lH 5) (lO (mP (b_sorted rfl) (lL (HQ (lH 4) zh (zg (lH 2))))) (lL (lH 6)))))))))))))))
structure Wy(K:aa)(mg:Str->Option ah)(a:Adr):Prop where
 c:Cls K a.HALF
 n_bottom:NoAttr K a.HALF "bottom"
 n_top_of:NoAttr K a.HALF "top_of"
 g:mg "Ways"=Za (.ref a.HALF)
 m:fE K a.HALF=true
 k:cF K (.ref a.HALF)=true
def gom(c:Gm K a.HALF x q st)(Y:Yz K mg a)(W:Wy K mg a)(o:∀{f:ak}{fd:cz},Txt K mg a->Fun K x q st f fd->FnOk P w K mg base (CXo P w) k f fd ps sp)(b:Bd x q st ps:=by first|exact bd1|exact bd2|exact bd3|exact bd4|exact bd5|exact bd6|exact bd0):Mt P w K mg base a.HALF x k ps sp:=Gm.mt W.c c (o Y.T) b
def gok(c:Gm K a.HALF "__init__" q st)(Y:Yz K mg a)(W:Wy K mg a)(o:∀{f:ak}{fd:cz},Txt K mg a->Fun K "__init__" q st f fd->FnOk P w K mg base (CXo P w) k f fd ps sp)(b:Bd "__init__" q st ps:=by first|exact bd1|exact bd2|exact bd3|exact bd4|exact bd5|exact bd6|exact bd0):MkB P w K mg base "Ways" a.HALF k ps sp :=
 let⟨f,fd,n,i,U⟩:=c.ex;⟨f,fd,o Y.T U,W.g,⟨W.m,n,i,W.k⟩,U.binds b⟩
abbrev zK:bQ:=top 17
def GQ:FnScope ["top","bottom","common"] ["top","bottom"] (lP zK):=fsc
def D6(a:Adr):XS:=(xSeq (xSet 2 (xCall 2 (mO a) (xCons (xVar 0) (xCons (xVar 1) xNil)))) (xRet (xTup (xCons (x2 (xVar 0) (xVar 2) fDiv) (xCons (x2 (xVar 1) (xVar 2) fDiv) xNil)))))
def uK(a:Adr):XF:=(fnD 3 (D6 a))
variable (P w K mg base a) in abbrev wF:=Fn P w K mg base "lowest" 2 ["top","bottom"] (spD K a.Book 2 (uK a))
def Hb(Y:Yz K mg a)(c:Gf K "lowest" zK)(A0:rL P w K mg base a):wF P w K mg base a :=
 gof c Y λT F=>nv F GQ rfl λ_ _ _ _ _ _ hr S=>(lM (ma 2 (mq A0 (lO (lH 0) (lL (lH 1))))) (lU (mH (og (lO (tK (lH 0) (lH 2)) (lL (tK (lH 1) (lH 2))))))))
abbrev xl:bQ:=top 1
def EE:FnScope ["row","by","turn","former"] ["row","by","turn","former"] (lP xl):=fsc
def Bq(a:Adr):XS:=(xRet (oP (HW (xCons (xVar 0) (xCons (xVar 1) xNil))) [3,1,2,0] mX (x2 (x2 (x2 (x2 (xVar 3) (xVar 4) fIx) (xVar 0) fMul) (x2 (x2 (xVar 5) (xVar 4) fIx) (xVar 1) fMul) fSub) (xVar 2) fDiv)))
def rY(a:Adr):XF:=(fnD 4 (Bq a))
variable (P w K mg base a) in abbrev xD:=Fn P w K mg base "cleared" 1 ["row","by","turn","former"] (spD K a.Book 4 (rY a))
def ES(Y:Yz K mg a)(c:Gf K "cleared" xl)(ZN:mg "zip"=Zb):xD P w K mg base a :=
 gof c Y λT F=>nv F EE rfl λ_ _ _ _ _ _ hr S=>(lU (mH (zR (fr:=["former","by","turn","row"]) (Kk (lO (lH 0) (lL (lH 1))) (hm:=ZN)) (λ_ _ _ _ _=>(tK (wc (mT (mh (lH 3) (lH 4)) (lH 0)) (mT (mh (lH 5) (lH 4)) (lH 1))) (lH 2))))))
abbrev zI:bQ:=top 2
def GO:FnScope ["rows","bottom","now","turn","by"] ["rows"] (lP zI):=fsc
def sZ(a:Adr) :XS:=(xSeq (xSet 4 (x2 (xVar 2) (xVar 3) fIx)) (xSeq (xSet 2 (oP (wj (xCons (xVar 2) xNil)) [3,4,1] mX (xIfe (xTr (x2 (xVar 0) (xVar 2) fEq)) (xVar 1) (xCall 4 (rY a) (xCons (xVar 1) (xCons (xVar 3) (xCons (xVar 2) (xCons (xVar 4) xNil)))))))) (xSet 1 (x2 (xVar 4) (xVar 3) fIx))))
def D3(a:Adr):XS:=(xSeq (xSet 1 (xC (.int 1))) (xSeq (xSet 2 (xVar 0)) (xSeq (xFor (xRng1 (xCons (xB (xCons (xVar 0) xNil) fLen) xNil)) (yName 3) (sZ a)) (xRet (xTup (xCons (pf (xIter (xVar 2)) [0] mX (xSl (xVar 0) (xPart (xB (xCons (xVar 1) xNil) fLen)) xNoP)) (xCons (xVar 1) xNil)))))))
def wG(a:Adr):XF:=(fnD 5 (D3 a))
variable (P w K mg base a) in abbrev zV:=Fn P w K mg base "solved" 2 ["rows"] (spD K a.Book 1 (wG a))
def G2(Y:Yz K mg a)(c:Gf K "solved" zI)(EN:mg "enumerate"=Zb)(A0:xD P w K mg base a):zV P w K mg base a :=
 gof c Y λT F=>nv F GO rfl λ_ _ _ _ _ _ hr S=>(lM (ma 1 lQ) (lM (ma 2 (lH 0)) (lM (qI (pU (lL (mP b_len (lL (lH 0))))) (mB 3) (lM (ma 4 (mh (lH 2) (lH 3))) (lM (xP (fr:=["turn","by","bottom"]) (CD (lL (lH 2)) rfl EN) (λ_ _ _ _ _=>(FC (pA Eh (lH 0) (lH 2)) (lH 1) (mq A0 (lO (lH 1) (lO (lH 3) (lO (lH 2) (lL (lH 4))))))))) (lU (ma 1 (mh (lH 4) (lH 3))))))) (lU (mH (og (lO (qO (fr:=["rows"]) (qV (lH 2)) (λ_ _ _ _ _=>(HQ (lH 0) (zg (mP b_len (lL (lH 1)))) zh))) (lL (lH 1)))))))))
abbrev pB:bQ:=top 22
def vJ:FnScope ["book","house","group"] ["book","house","group"] (lP pB):=fsc
def rH(a:Adr):XS:=(xRet (xB (xCons (oP (xIter (xBM 2 (oj a) (xVar 0) (xCons (xVar 1) xNil))) [2] mX (x2 (xVar 0) (xVar 2) fIn)) xNil) fAll))
def oa(a:Adr):XF:=(fnD 3 (rH a))
variable (P w K mg base a) in abbrev pG:=Fn P w K mg base "is_held_within" 4 ["book","house","group"] (spD K a.Book 3 (oa a))
def vL(Y:Yz K mg a)(c:Gf K "is_held_within" pB)(A0:vm P w K mg base a):pG P w K mg base a :=
 gof c Y λT F=>nv F vJ rfl λ_ _ _ _ _ _ hr S=>(lU (mH (mP (b_all rfl) (lL (zR (fr:=["group"]) (qV (wC (lH 0) A0 (lL (lH 1)))) (λ_ _ _ _ _=>(HS c_in (lH 0) (lH 2))))))))
abbrev ra:bQ:=top 23
def yo:FnScope ["book","group","inside"] ["book"] (lP ra):=fsc
def mz(a:Adr) :XS:=(xSeq (xSet 2 (pf (xIter (xVar 1)) [0,1] (xTr (xCall 3 (oa a) (xCons (xVar 1) (xCons (xVar 0) (xCons (xVar 2) xNil))))) (xVar 0))) (xSeq (xIf (xTr (x2 (xVar 2) (xVar 1) fEq)) (xRet (xVar 1)) xEnd) (xSet 1 (xVar 2))))
def vf(a:Adr):XS:=(xSeq (xSet 1 (xBM 1 (nl a) (xVar 0) xNil)) (vW (xTr (xC (.bl true))) (mz a)))
def oA(a:Adr):XF:=(fnD 3 (vf a))
variable (P w K mg base a) in abbrev pN:=Fn P w K mg base "whole_group" 5 ["book"] (spD K a.Book 1 (oA a))
def yw(Y:Yz K mg a)(c:Gf K "whole_group" ra)(A0:oz P w K mg base a)(A1:pG P w K mg base a):pN P w K mg base a :=
 gof c Y λT F=>nv F yo rfl λ_ _ _ _ _ _ hr S=>(lM (ma 1 (vj (lH 0) A0)) (lU (Ea (Kh HU) (lM (zf (fr:=["book","group"]) (qV (lH 1)) (λ_ _ _ _ _=>(lH 0)) (λ_ _ _ _ _=>(Jn (Kh (mq A1 (lO (lH 1) (lO (lH 0) (lL (lH 2))))))))) (lM (tJ (pA Eh (lH 2) (lH 1)) (lU (mH (lH 1))) ot) (lU (ma 1 (lH 2))))))))
abbrev nI:bQ:=top 24
def rR:FnScope ["book","group"] ["book"] (lP nI):=fsc
def o9(a:Adr):XS:=(xSeq (xSet 1 (xCall 1 (oA a) (xCons (xVar 0) xNil))) (xIf (xTr (x2 (xVar 1) (xLst xNil) fNe)) xBad xEnd))
def nK(a:Adr):XF:=(fnD 2 (o9 a))
variable (P w K mg base a) in abbrev nJ:=Fn P w K mg base "need_no_whole_group" 6 ["book"] (spD K a.Book 1 (nK a))
def rS(Y:Yz K mg a)(c:Gf K "need_no_whole_group" nI)(A0:pN P w K mg base a):nJ P w K mg base a :=
 gof c Y λT F=>nv F rR rfl λ_ _ _ _ _ _ hr S=>(lM (ma 1 (mq A0 (lL (lH 0)))) (lU (tJ (pA Ia (lH 1) (wf Ay)) (lU OB) ot)))
abbrev Ky:bQ:=top 25
def NK:FnScope ["shares","pieces","holder","share"] ["shares"] (lP Ky):=fsc
def wY(a:Adr) :XS:=(xSet 1 (x2 (xVar 1) (x2 (x2 (xVar 3) (xC (.int 1)) fIx) (xCall 2 (mO a) (xCons (xVar 1) (xCons (x2 (xVar 3) (xC (.int 1)) fIx) xNil))) fDiv) fMul))
def Nj(a:Adr):XS:=(xSeq (xSet 1 (xC (.int 1))) (xSeq (xFor (xIter (xVar 0)) (yTup 2 (yCons (yName 2) (yCons (yName 3) yNil))) (wY a)) (xRet (xB (xCons (oP (xIter (xVar 0)) [1] mX (xTup (xCons (xVar 0) (xCons (x2 (x2 (xVar 1) (xC (.int 0)) fIx) (x2 (xVar 2) (x2 (xVar 1) (xC (.int 1)) fIx) fDiv) fMul) xNil)))) xNil) AK))))
def HV(a:Adr):XF:=(fnD 4 (Nj a))
variable (P w K mg base a) in abbrev KP:=Fn P w K mg base "cut" 2 ["shares"] (spD K a.Book 1 (HV a))
def Oa(Y:Yz K mg a)(c:Gf K "cut" Ky)(DN:mg "dict"=Zb)(A0:rL P w K mg base a):KP P w K mg base a :=
 gof c Y λT F=>nv F NK rfl λ_ _ _ _ _ _ hr S=>(lM (ma 1 lQ) (lM (qI (qV (lH 0)) (si (mG (mB 2) (mG (mB 3) ql))) (lU (ma 1 (mT (lH 1) (tK (mh (lH 3) lQ) (mq A0 (lO (lH 1) (lL (mh (lH 3) lQ))))))))) (lU (mH (qJ (FE rfl) (lL (zR (fr:=["pieces"]) (qV (lH 0)) (λ_ _ _ _ _=>(og (lO (lH 0) (lL (mT (mh (lH 1) lQ) (tK (lH 2) (mh (lH 1) lQ))))))))) (hm:=DN) (hv:=bt_dict))))))
abbrev xm:bQ:=top 26
def EF:FnScope ["book"] ["book"] (lP xm):=fsc
def Br(a:Adr):XS:=(xRet (xB (xCons (pf (xIter (xBM 1 (nl a) (xVar 0) xNil)) [0] mX (xTup (xCons (xVar 0) (xCons (xCall 1 (HV a) (xCons (xBM 2 (oj a) (xVar 1) (xCons (xVar 0) xNil)) xNil)) xNil)))) xNil) AK))
def xG(a:Adr):XF:=(fnD 1 (Br a))
variable (P w K mg base a) in abbrev xE:=Fn P w K mg base "all_cut" 4 ["book"] (spD K a.Book 1 (xG a))
def ET(Y:Yz K mg a)(c:Gf K "all_cut" xm)(DN:mg "dict"=Zb)(A0:KP P w K mg base a)(A1:oz P w K mg base a)(A2:vm P w K mg base a):xE P w K mg base a :=
 gof c Y λT F=>nv F EF rfl λ_ _ _ _ _ _ hr S=>(lU (mH (qJ (FE rfl) (lL (qO (fr:=["book"]) (qV (vj (lH 0) A1)) (λ_ _ _ _ _=>(og (lO (lH 0) (lL (mq A0 (lL (wC (lH 1) A2 (lL (lH 0))))))))))) (hm:=DN) (hv:=bt_dict))))
abbrev zJ:bQ:=top 27
def GP:FnScope ["house","houses","pieces_of","row"] ["house","houses","pieces_of"] (lP zJ):=fsc
def D5(a:Adr):XS:=(xSeq (xSet 3 (yf (xIter (xVar 1)) [0,2] mX (x1 (xGet (x2 (xVar 2) (xVar 0) fIx) (xVar 1) (xC (.int 0))) fNeg))) (xSeq (HF (xVar 3) (zY (xVar 1) (xCons (xVar 0) xNil)) (Eo (x2 (xVar 2) (xVar 0) fIx))) (xRet (xVar 3))))
def zX(a:Adr):XF:=(fnD 4 (D5 a))
variable (P w K mg base a) in abbrev zW:=Fn P w K mg base "owning" 1 ["house","houses","pieces_of"] (spD K a.Book 3 (zX a))
def Ha(Y:Yz K mg a)(c:Gf K "owning" zJ)(SM:mg "sum"=Zb):zW P w K mg base a :=
 gof c Y λT F=>nv F GP rfl λ_ _ _ _ _ _ hr S=>(lM (Dj (fr:=["house","pieces_of"]) (qV (lH 1)) (λ_ _ _ _ _=>(OG (FD (mh (lH 2) (lH 0)) (lH 1) lQ)))) (lM (Ml (lH 3) (Jo (lH 1) (lL (lH 0))) (Mu (mh (lH 2) (lH 0)) (hm:=SM))) (lU (mH (lH 3)))))
abbrev tS:bQ:=top 28
def BO:FnScope ["house","houses","pieces_of"] ["house","houses","pieces_of"] (lP tS):=fsc
def xL(a:Adr):XS:=(xRet (x2 (xCall 3 (zX a) (xCons (xVar 0) (xCons (xVar 1) (xCons (xVar 2) xNil)))) (pf (xIter (xVar 1)) [0] mX (xIfe (xTr (x2 (xVar 0) (xVar 1) fEq)) (xC (.int 1)) (xC (.int 0)))) fAdd))
def qW(a:Adr):XF:=(fnD 3 (xL a))
variable (P w K mg base a) in abbrev uq:=Fn P w K mg base "agreement" 2 ["house","houses","pieces_of"] (spD K a.Book 3 (qW a))
def BZ(Y:Yz K mg a)(c:Gf K "agreement" tS)(A0:zW P w K mg base a):uq P w K mg base a :=
 gof c Y λT F=>nv F BO rfl λ_ _ _ _ _ _ hr S=>(lU (mH (nu (mq A0 (lO (lH 0) (lO (lH 1) (lL (lH 2))))) (qO (fr:=["house"]) (qV (lH 1)) (λ_ _ _ _ _=>(FC (pA Eh (lH 0) (lH 1)) lQ lQ))))))
abbrev tY:bQ:=m7 (top 29) 0
def BV:FnScope ["self","book","houses","pieces_of","solution","place","house","holder","top","other","piece"] ["self","book"] (lP tY):=fsc
def oy(a:Adr) :XS:=(MQ 8 (x2 (xGet (x2 (xVar 3) (xVar 9) fIx) (xVar 7) (xC (.int 0))) (x2 (xVar 10) (xVar 5) fIx) fMul))
def nN(a:Adr) :XS:=(xSeq (xSet 8 (xIfe (xTr (x2 (xVar 7) (xVar 6) fEq)) (Ck a.HALF "bottom" (xVar 0)) (xC (.int 0)))) (xSeq (xFor (HW (xCons (xVar 2) (xCons (x2 (xVar 4) (xC (.int 0)) fIx) xNil))) (yTup 2 (yCons (yName 9) (yCons (yName 10) yNil))) (oy a)) (HE (Ck a.HALF "top_of" (xVar 0)) (xCons (xVar 7) (xCons (xVar 6) xNil)) (xVar 8))))
def pM(a:Adr) :XS:=(xFor (xIter (x2 (xBM 1 (oX a) (xVar 1) xNil) (xVar 2) fAdd)) (yName 7) (nN a))
def xO(a:Adr):XS:=(xSeq (xDo (xCall 1 (nK a) (xCons (xVar 1) xNil))) (xSeq (xSet 2 (xBM 1 (nl a) (xVar 1) xNil)) (xSeq (xSet 3 (xCall 1 (xG a) (xCons (xVar 1) xNil))) (xSeq (xSet 4 (xCall 1 (wG a) (xCons (pf (xIter (xVar 2)) [2,3] mX (xCall 3 (qW a) (xCons (xVar 0) (xCons (xVar 1) (xCons (xVar 2) xNil))))) xNil))) (xSeq (Ep a.HALF "bottom" (xVar 0) (x2 (xVar 4) (xC (.int 1)) fIx)) (xSeq (Ep a.HALF "top_of" (xVar 0) MP) (xFor (wj (xCons (xVar 2) xNil)) (yTup 2 (yCons (yName 5) (yCons (yName 6) yNil))) (pM a))))))))
def oU(a:Adr):XF:=(fnD 11 (xO a))
variable (P w K mg base a) in abbrev pZ:=MkB P w K mg base "Ways" a.HALF 7 ["self","book"] (spD K a.Book 2 (oU a))
def Ce(Y:Yz K mg a)(WY:Wy K mg a)(c:Gm K a.HALF "__init__" "Ways.__init__" tY)(EN:mg "enumerate"=Zb)(ZN:mg "zip"=Zb)(A0:nJ P w K mg base a)(A1:oz P w K mg base a)(A2:xE P w K mg base a)(A3:zV P w K mg base a)(A4:uq P w K mg base a)(A5:tM P w K mg base a):pZ P w K mg base a :=
 gok c Y WY λT F=>nv F BV rfl λ_ _ _ _ _ _ hr S=>(lM (vE (mq A0 (lL (lH 1)))) (lM (ma 2 (vj (lH 1) A1)) (lM (ma 3 (mq A2 (lL (lH 1)))) (lM (ma 4 (mq A3 (lL (qO (fr:=["houses","pieces_of"]) (qV (lH 2)) (λ_ _ _ _ _=>(mq A4 (lO (lH 0) (lO (lH 1) (lL (lH 2)))))))))) (lM (Kj (lH 0) (mh (lH 4) lQ) WY.c WY.n_bottom) (lM (Kj (lH 0) Mw WY.c WY.n_top_of) (lU (qI (CD (lL (lH 2)) rfl EN) (si (mG (mB 5) (mG (mB 6) ql))) (lU (qI (qV (nu (vj (lH 1) A5) (lH 2))) (mB 7) (lM (ma 8 (FC (pA Eh (lH 7) (lH 6)) (yk (lH 0) WY.c WY.n_bottom) lQ)) (lM (qI (Kk (lO (lH 2) (lL (mh (lH 4) lQ))) (hm:=ZN)) (si (mG (mB 9) (mG (mB 10) ql))) (lU (OC 8 (mT (FD (mh (lH 3) (lH 9)) (lH 7) lQ) (mh (lH 10) (lH 5)))))) (lU (Mj (yk (lH 0) WY.c WY.n_top_of) (lO (lH 7) (lL (lH 6))) (lH 8)))))))))))))))
abbrev rc:bQ:=m7 (top 29) 1
def yq:FnScope ["self","holder","things"] ["self","holder","things"] (lP rc):=fsc
def vh(a:Adr):XS:=(xRet (xB (xCons (pf (xIterD (xVar 2)) [2,0,1] mX (x2 (JC (Ck a.HALF "top_of" (xVar 2)) (xCons (xVar 3) (xCons (xVar 0) xNil))) (x2 (xVar 1) (xVar 0) fIx) fMul)) xNil) Nn))
def pP(a:Adr):XF:=(fnD 3 (vh a))
variable (P w K mg base a) in abbrev rC:=Mt P w K mg base a.HALF "top_by" 1 ["self","holder","things"] (spD K a.Book 3 (pP a))
def yz(Y:Yz K mg a)(WY:Wy K mg a)(c:Gm K a.HALF "top_by" "Ways.top_by" rc)(SM:mg "sum"=Zb):rC P w K mg base a :=
 gom c Y WY λT F=>nv F yq rfl λ_ _ _ _ _ _ hr S=>(lU (mH (mP (b_sum rfl) (lL (qO (fr:=["things","self","holder"]) (Mn (lH 2)) (λ_ _ _ _ _=>(mT (Km (yk (lH 2) WY.c WY.n_top_of) (lO (lH 3) (lL (lH 0)))) (mh (lH 1) (lH 0)))))) (hm:=SM) (hv:=Kp))))
abbrev re:bQ:=m7 (top 29) 2
def yr:FnScope ["self","holders","things"] ["self","holders","things"] (lP re):=fsc
def vi(a:Adr):XS:=(xRet (pf (xIter (xVar 1)) [2,0] mX (xTup (xCons (xVar 0) (xCons (xCall 2 (uK a) (xCons (xOM a.HALF "top_by" 3 (pP a) (xVar 2) (xCons (xVar 0) (xCons (xVar 1) xNil))) (xCons (Ck a.HALF "bottom" (xVar 2)) xNil))) xNil)))))
def pQ(a:Adr):XF:=(fnD 3 (vi a))
variable (P w K mg base a) in abbrev pO:=Mt P w K mg base a.HALF "all_by" 3 ["self","holders","things"] (spD K a.Book 3 (pQ a))
def yA(Y:Yz K mg a)(WY:Wy K mg a)(c:Gm K a.HALF "all_by" "Ways.all_by" re)(A0:wF P w K mg base a)(A1:rC P w K mg base a):pO P w K mg base a :=
 gom c Y WY λT F=>nv F yr rfl λ_ _ _ _ _ _ hr S=>(lU (mH (qO (fr:=["things","self"]) (qV (lH 1)) (λ_ _ _ _ _=>(og (lO (lH 0) (lL (mq A0 (lO (KN (lH 2) A1 (lO (lH 0) (lL (lH 1)))) (lL (yk (lH 2) WY.c WY.n_bottom)))))))))))
abbrev sA:bQ:=top 30
def z6:FnScope ["book"] ["book"] (lP sA):=fsc
def vS(a:Adr):XS:=(xRet (xB (xCons (pf (xIter (xBM 1 (nl a) (xVar 0) xNil)) [0] mX (xTup (xCons (xVar 0) (xCons (x2 (xBM 2 (Ks a) (xVar 1) (xCons (xVar 0) xNil)) (xC (.int 0)) fIx) xNil)))) xNil) AK))
def qw(a:Adr):XF:=(fnD 1 (vS a))
variable (P w K mg base a) in abbrev qu:=Fn P w K mg base "own_things" 4 ["book"] (spD K a.Book 1 (qw a))
def Ag(Y:Yz K mg a)(c:Gf K "own_things" sA)(DN:mg "dict"=Zb)(A0:oz P w K mg base a)(A1:HD P w K mg base a):qu P w K mg base a :=
 gof c Y λT F=>nv F z6 rfl λ_ _ _ _ _ _ hr S=>(lU (mH (qJ (FE rfl) (lL (qO (fr:=["book"]) (qV (vj (lH 0) A0)) (λ_ _ _ _ _=>(og (lO (lH 0) (lL (mh (wC (lH 1) A1 (lL (lH 0))) lQ))))))) (hm:=DN) (hv:=bt_dict))))
abbrev zH:bQ:=top 31
def GN:FnScope ["book"] ["book"] (lP zH):=fsc
def D2(a:Adr):XS:=(xRet (xOM a.HALF "all_by" 3 (pQ a) (xMk a.HALF 2 (oU a) (xCons (xVar 0) xNil)) (xCons (xBM 1 (nl a) (xVar 0) xNil) (xCons (xCall 1 (qw a) (xCons (xVar 0) xNil)) xNil))))
def sj(a:Adr):XF:=(fnD 1 (D2 a))
variable (P w K mg base a) in abbrev zU:=Fn P w K mg base "worths" 9 ["book"] (spD K a.Book 1 (sj a))
def GY(Y:Yz K mg a)(c:Gf K "worths" zH)(A0:pO P w K mg base a)(A1:oz P w K mg base a)(A2:qu P w K mg base a)(A3:pZ P w K mg base a):zU P w K mg base a :=
 gof c Y λT F=>nv F GN rfl λ_ _ _ _ _ _ hr S=>(lU (mH (KN (KO A3 (lL (lH 0))) A0 (lO (vj (lH 0) A1) (lL (mq A2 (lL (lH 0))))))))
abbrev Cp:bQ:=top 32
def Iq:FnScope ["book"] ["book"] (lP Cp):=fsc
def Ge(a:Adr):XS:=(xRet (xOM a.HALF "all_by" 3 (pQ a) (xMk a.HALF 2 (oU a) (xCons (xVar 0) xNil)) (xCons (xBM 1 (oX a) (xVar 0) xNil) (xCons (xCall 1 (qw a) (xCons (xVar 0) xNil)) xNil))))
def vn(a:Adr):XF:=(fnD 1 (Ge a))
variable (P w K mg base a) in abbrev CM:=Fn P w K mg base "parts" 9 ["book"] (spD K a.Book 1 (vn a))
def IJ(Y:Yz K mg a)(c:Gf K "parts" Cp)(A0:pO P w K mg base a)(A1:tM P w K mg base a)(A2:qu P w K mg base a)(A3:pZ P w K mg base a):CM P w K mg base a :=
 gof c Y λT F=>nv F Iq rfl λ_ _ _ _ _ _ hr S=>(lU (mH (KN (KO A3 (lL (lH 0))) A0 (lO (vj (lH 0) A1) (lL (mq A2 (lL (lH 0))))))))
abbrev xk:bQ:=top 33
def EC:FnScope ["book","holder","house","ways"] ["book","holder","house"] (lP xk):=fsc
def Bp(a:Adr):XS:=(xSeq (xSet 3 (xMk a.HALF 2 (oU a) (xCons (xVar 0) xNil))) (xSeq (xDo (xBM 2 (oB a) (xVar 0) (xCons (xVar 1) xNil))) (xSeq (xDo (xBM 2 (o7 a) (xVar 0) (xCons (xVar 2) xNil))) (xRet (xCall 2 (uK a) (xCons (JC (Ck a.HALF "top_of" (xVar 3)) (xCons (xVar 1) (xCons (xVar 2) xNil))) (xCons (Ck a.HALF "bottom" (xVar 3)) xNil)))))))
def xF(a:Adr):XF:=(fnD 4 (Bp a))
variable (P w K mg base a) in abbrev xA:=Fn P w K mg base "through" 9 ["book","holder","house"] (spD K a.Book 3 (xF a))
def EM(Y:Yz K mg a)(c:Gf K "through" xk)(WY:Wy K mg a)(A0:pZ P w K mg base a)(A1:vp P w K mg base a)(A2:vM P w K mg base a)(A3:wF P w K mg base a):xA P w K mg base a :=
 gof c Y λT F=>nv F EC rfl λ_ _ _ _ _ _ hr S=>(lM (ma 3 (KO A0 (lL (lH 0)))) (lM (vE (wC (lH 0) A1 (lL (lH 1)))) (lM (vE (wC (lH 0) A2 (lL (lH 2)))) (lU (mH (mq A3 (lO (Km (yk (lH 3) WY.c WY.n_top_of) (lO (lH 1) (lL (lH 2)))) (lL (yk (lH 3) WY.c WY.n_bottom)))))))))
abbrev vw:bQ:=top 52
def C9:FnScope ["_law_some","_law_top","_law_low","_law_number_here"] ["_law_some"] (lP vw):=fsc
def qt(a:Adr) :XS:=(xAsg (xCall 2 (mL a) (xCons (x2 (x2 (xVar 1) (x2 (xVar 3) (xC (.int 1)) fIx) fMul) (x2 (x2 (xVar 3) (xC (.int 0)) fIx) (xVar 2) fMul) fAdd) (xCons (x2 (xVar 2) (x2 (xVar 3) (xC (.int 1)) fIx) fMul) xNil))) (yTup 2 (yCons (yName 1) (yCons (yName 2) yNil))))
def zc(a:Adr):XS:=(xSeq (xAsg (xTup (xCons (xC (.int 0)) (xCons (xC (.int 1)) xNil))) (yTup 2 (yCons (yName 1) (yCons (yName 2) yNil)))) (xSeq (xFor (xIter (xVar 0)) (yName 3) (qt a)) (xRet (xTup (xCons (xVar 1) (xCons (xVar 2) xNil))))))
def vI(a:Adr):XF:=(fnD 4 (zc a))
variable (P w K mg base a) in abbrev vH:=Fn P w K mg base "_law_sum" 3 ["_law_some"] (spD K a.Book 1 (vI a))
def Df(Y:Yz K mg a)(c:Gf K "_law_sum" vw)(A0:oT P w K mg base a):vH P w K mg base a :=
 gof c Y λT F=>nv F C9 rfl λ_ _ _ _ _ _ hr S=>(lM (Au (og (lO lQ (lL lQ))) (si (mG (mB 1) (mG (mB 2) ql)))) (lM (qI (qV (lH 0)) (mB 3) (lU (Au (mq A0 (lO (nu (mT (lH 1) (mh (lH 3) lQ)) (mT (mh (lH 3) lQ) (lH 2))) (lL (mT (lH 2) (mh (lH 3) lQ))))) (si (mG (mB 1) (mG (mB 2) ql)))))) (lU (mH (og (lO (lH 1) (lL (lH 2))))))))
abbrev sB:bQ:=top 53
def z7:FnScope ["_law_one","_law_other"] ["_law_one","_law_other"] (lP sB):=fsc
def vT(a:Adr):XS:=(xRet (xCall 2 (mL a) (xCons (x2 (x2 (xVar 0) (xC (.int 0)) fIx) (x2 (xVar 1) (xC (.int 0)) fIx) fMul) (xCons (x2 (x2 (xVar 0) (xC (.int 1)) fIx) (x2 (xVar 1) (xC (.int 1)) fIx) fMul) xNil))))
def sQ(a:Adr):XF:=(fnD 2 (vT a))
variable (P w K mg base a) in abbrev sL:=Fn P w K mg base "_law_times" 3 ["_law_one","_law_other"] (spD K a.Book 2 (sQ a))
def Ai(Y:Yz K mg a)(c:Gf K "_law_times" sB)(A0:oT P w K mg base a):sL P w K mg base a :=
 gof c Y λT F=>nv F z7 rfl λ_ _ _ _ _ _ hr S=>(lU (mH (mq A0 (lO (mT (mh (lH 0) lQ) (mh (lH 1) lQ)) (lL (mT (mh (lH 0) lQ) (mh (lH 1) lQ)))))))
abbrev tV:bQ:=top 54
def BR:FnScope ["_law_ahead","_law_book","_law_house","_law_number_here","_law_found","_law_holder","_law_worth"] ["_law_ahead","_law_book","_law_house","_law_number_here"] (lP tV):=fsc
def ou(a:Adr) :XS:=(xDo (xAppend (xVar 4) (xCons (xTup (xCons (xVar 5) (xCons (xCall 1 (vI a) (xCons (xLst (xCons (xVar 6) (xCons (xCall 2 (sQ a) (xCons (xTup (xCons (xVar 3) (xCons (xC (.int 1)) xNil))) (xCons (xCall 3 (xF a) (xCons (xVar 1) (xCons (xVar 5) (xCons (xVar 2) xNil)))) xNil))) xNil))) xNil)) xNil))) xNil)))
def xM(a:Adr):XS:=(xSeq (xSet 4 (xLstC xNil)) (xSeq (xFor (xIter (xVar 0)) (yTup 2 (yCons (yName 5) (yCons (yName 6) yNil))) (ou a)) (xRet (xFrz (xVar 4)))))
def qY(a:Adr):XF:=(fnD 7 (xM a))
variable (P w K mg base a) in abbrev uu:=Fn P w K mg base "_law_more" 10 ["_law_ahead","_law_book","_law_house","_law_number_here"] (spD K a.Book 4 (qY a))
def Cb(Y:Yz K mg a)(c:Gf K "_law_more" tV)(A0:vH P w K mg base a)(A1:sL P w K mg base a)(A2:xA P w K mg base a):uu P w K mg base a :=
 gof c Y λT F=>nv F BR rfl λ_ _ _ _ _ _ hr S=>(lM (ma 4 (zl Ay)) (lM (qI (qV (lH 0)) (si (mG (mB 5) (mG (mB 6) ql))) (lU (vE (Bv (lH 4) (lL (og (lO (lH 5) (lL (mq A0 (lL (wf (lO (lH 6) (lL (mq A1 (lO (og (lO (lH 3) (lL lQ))) (lL (mq A2 (lO (lH 1) (lO (lH 5) (lL (lH 2))))))))))))))))))))) (lU (mH (Kn (lH 4))))))
abbrev Kx:bQ:=top 55
def NJ:FnScope ["_law_script","_law_purse_here","_law_book","_law_persons","_law_model","_law_house","_law_number_here","_law_worth","_law_part_here","_law_kept","_law_other","_law_due"] ["_law_script"] (lP Kx):=fsc
def E6(a:Adr):XS:=(xSeq (xSet 1 (xCall 1 (oh a) (xCons (xVar 0) xNil))) (xSeq (xAsg (xCall 2 (qy a) (xCons (xVar 1) (xCons (xC (.int 6)) xNil))) (yTup 3 (yCons (yName 2) (yCons (yName 3) (yCons (yName 4) yNil))))) (xSeq (xIf (xOr (xTr (x2 (xVar 4) xNewD AJ)) (xTr (x2 (xCall 1 (oA a) (xCons (xVar 2) xNil)) (xLst xNil) fNe))) (xRet (xC (.bl true))) xEnd) (xSeq (xSet 5 (x2 (xB (xCons (xVar 4) xNil) ms) (xCall 2 (lV a) (xCons (xVar 1) (xCons (xB (xCons (xVar 4) xNil) fLen) xNil))) fIx)) (xSeq (xSet 6 (x2 (xCall 2 (lV a) (xCons (xVar 1) (xCons (xC (.int 2001)) xNil))) (xC (.int 1000)) fSub)) (xSeq (xSet 7 (xCall 1 (sj a) (xCons (xVar 2) xNil))) (xSeq (xSet 8 (xCall 1 (vn a) (xCons (xVar 2) xNil))) (xSeq (xSet 9 (xTup (xCons (xB (xCons (xVar 7) xNil) fList) (xCons (xB (xCons (xVar 8) xNil) fList) xNil)))) (xSeq (xSet 10 (xBM 1 (AD a) (xVar 2) xNil)) (xSeq (xSet 11 (xTup (xCons (xCall 4 (qY a) (xCons (xVar 7) (xCons (xVar 2) (xCons (xVar 5) (xCons (xVar 6) xNil))))) (xCons (xCall 4 (qY a) (xCons (xVar 8) (xCons (xVar 2) (xCons (xVar 5) (xCons (xVar 6) xNil))))) xNil)))) (xSeq (xDo (xBM 3 (su a) (xVar 2) (xCons (xVar 5) (xCons (x2 (x2 (x2 (x2 (xVar 4) (xVar 5) fIx) (xC (.int 1)) fIx) (xC (.int 0)) fIx) (xVar 6) fAdd) xNil)))) (xSeq (xIf (xOr (xTr (x2 (xCall 1 (sj a) (xCons (xVar 2) xNil)) (x2 (xVar 11) (xC (.int 0)) fIx) fNe)) (xOr (xTr (x2 (xCall 1 (vn a) (xCons (xVar 2) xNil)) (x2 (xVar 11) (xC (.int 1)) fIx) fNe)) (xTr (x2 (xTup (xCons (xVar 7) (xCons (xVar 8) xNil))) (xVar 9) fNe)))) (xRet (xC (.bl false))) xEnd) (xSeq (xIf (xOr (xTr (x2 (xCall 1 (sj a) (xCons (xVar 10) xNil)) (x2 (xVar 9) (xC (.int 0)) fIx) fNe)) (xTr (x2 (xCall 1 (vn a) (xCons (xVar 10) xNil)) (x2 (xVar 9) (xC (.int 1)) fIx) fNe))) (xRet (xC (.bl false))) xEnd) (xSeq (xDo (xBM 3 (su a) (xVar 2) (xCons (xVar 5) (xCons (x2 (x2 (x2 (xVar 4) (xVar 5) fIx) (xC (.int 1)) fIx) (xC (.int 0)) fIx) xNil)))) (xRet (xAndV (x2 (xCall 1 (sj a) (xCons (xVar 2) xNil)) (x2 (xVar 9) (xC (.int 0)) fIx) fEq) (x2 (xCall 1 (vn a) (xCons (xVar 2) xNil)) (x2 (xVar 9) (xC (.int 1)) fIx) fEq)))))))))))))))))
def AM(a:Adr):XF:=(fnD 12 (E6 a))
def N8(T:Txt K mg a)(F:Fun K "law" "law" Kx f fd)(A0:sM P w K mg base a)(A1:sP P w K mg base a)(A2:zU P w K mg base a)(A3:CM P w K mg base a)(A4:Dl P w K mg base a)(A5:AB P w K mg base a)(A6:nC P w K mg base a)(A7:uu P w K mg base a)(A8:pN P w K mg base a):FnOk P w K mg base (CXo P w) 11 f fd ["_law_script"] (spD K a.Book 1 (AM a)) :=
 nv F NJ rfl λ_ _ _ _ _ _ hr S=>(lM (ma 1 (mq A0 (lL (lH 0)))) (lM (Au (mq A1 (lO (lH 1) (lL lQ))) (si (mG (mB 2) (mG (mB 3) (mG (mB 4) ql))))) (lM (tJ (DW.dt (HP (pA OK (lH 4) Gp) (Fy (pA Ia (mq A8 (lL (lH 2))) (wf Ay))))) (lU (mH HU)) ot) (lM (ma 5 (mh (mP (b_sorted rfl) (lL (lH 4))) (mq A6 (lO (lH 1) (lL (mP b_len (lL (lH 4)))))))) (lM (ma 6 (wc (mq A6 (lO (lH 1) (lL lQ))) lQ)) (lM (ma 7 (mq A2 (lL (lH 2)))) (lM (ma 8 (mq A3 (lL (lH 2)))) (lM (ma 9 (og (lO (qJ b_list (lL (lH 7))) (lL (qJ b_list (lL (lH 8))))))) (lM (ma 10 (vj (lH 2) A4)) (lM (ma 11 (og (lO (mq A7 (lO (lH 7) (lO (lH 2) (lO (lH 5) (lL (lH 6)))))) (lL (mq A7 (lO (lH 8) (lO (lH 2) (lO (lH 5) (lL (lH 6)))))))))) (lM (vE (wC (lH 2) A5 (lO (lH 5) (lL (nu (mh (mh (mh (lH 4) (lH 5)) lQ) lQ) (lH 6)))))) (lM (tJ (DW.dt (HP (pA Ia (mq A2 (lL (lH 2))) (mh (lH 11) lQ)) (HP (pA Ia (mq A3 (lL (lH 2))) (mh (lH 11) lQ)) (Fy (pA Ia (og (lO (lH 7) (lL (lH 8)))) (lH 9)))))) (lU (mH HU)) ot) (lM (tJ (DW.dt (HP (pA Ia (mq A2 (lL (lH 10))) (mh (lH 9) lQ)) (Fy (pA Ia (mq A3 (lL (lH 10))) (mh (lH 9) lQ))))) (lU (mH HU)) ot) (lM (vE (wC (lH 2) A5 (lO (lH 5) (lL (mh (mh (mh (lH 4) (lH 5)) lQ) lQ))))) (lU (mH (OH (HS Eh (mq A2 (lL (lH 2))) (mh (lH 9) lQ)) (OF (HS Eh (mq A3 (lL (lH 2))) (mh (lH 9) lQ))))))))))))))))))))
end
def Sm(x:Str):Prop:=x.length<=9/\∀c∈x.cps.toList,c<128
def Sm.nm{x}(h:Sm x):Nm x:=⟨aI h.1 (by decide),λc hc=>g7 (h.2 c hc) (by decide)⟩
def IY(x:Str):x.length=x.cps.toList.length:=by show x.cps.size=_;simp
def zT(x y:Str):(x++y).cps.toList=x.cps.toList++y.cps.toList:=PyProof.Rows.cps_toList_append x y
def LU:∀j,j<26->(aG "abcdefghijklmnopqrstuvwxyz").cps.toList[j]?=Za (97+j):=by decide +kernel
def Oj{i}(h0:0<=i)(h1:i<26):atI (aG "abcdefghijklmnopqrstuvwxyz").cps.toList i=Za (97+i.toNat):=by
 have e:i=(i.toNat:Int):=by lia
 have:=mQ (LU i.toNat (by lia));rw[<-e] at this;exact this
def Ij{ys:List Str}(h:∀y∈ys,y.length<=1):(ys.map (·.length)).sum<=ys.length:=by
 induction ys with
 |nil=>exact am _
 |cons y r ih =>
  have:=ih λz hz=>h z (ae _ hz);have:=h y ai;simp only[ao,iM,bc];lia
structure FrB(k:Nat)(v:Int)(q:Int×Int):Prop where
 low:Low q
 nn:0<=q.1
 le:q.1<=v*q.2
 bb:Bt k q.2
def Lf{q}(h:0<q.2):(red q).2∣q.2:=by obtain⟨v,hv⟩:(aF q.1 q.2:Int)∣q.2:=cB ..;have hg:0<aF q.1 q.2:=bH _ (by lia);refine⟨(aF q.1 q.2:Int),?_⟩;unfold red;simp only;rw[Int.ediv_mul_cancel (cB ..)]
def wD{p q}(hp:0<p.2)(hq:0<q.2):(nG p q).1*(p.2*q.2)=(p.1*q.2+q.1*p.2)*(nG p q).2:=(tD (q:=(p.1*q.2+q.1*p.2,p.2*q.2)) (bI hp hq)).2
def GB{k l}{p q}(hp:0<p.2)(hq:0<q.2)(bp:Bt k p.2)(bq:Bt l q.2):Bt (k+l) (nG p q).2 :=
 (bp.mul bq).dvd (Int.ne_of_gt (bI hp hq)) (Lf (q:=(p.1*q.2+q.1*p.2,p.2*q.2)) (bI hp hq))
def uO{a b d:Int}(hd:0<d)(h:a*d<=b*d):a<=b:=jW h hd
def yF{k:Nat}{v:Int}{g q:Int×Int}(hg:FrB k v g)(hq:Low q)(q0:0<q.1)(h:q.1*g.2<=g.1*q.2)(bq:Bt 97 q.2):FrB (k+97) v (nG g (-q.1,q.2)):=by
 have g0:=hg.low.1;have p0:=hq.1;have lq:Low (-q.1,q.2):=⟨hq.1,by have:=hq.2;unfold Cop aF at *;simp only[iE];exact this⟩;have lo:=Ek hg.low lq;have D0:0<g.2*q.2:=bI g0 p0;have ev:=wD (p:=g) (q:=(-q.1,q.2)) g0 p0;simp only at ev;generalize hr:nG g (-q.1,q.2)=r at *;have r0:=lo.1;refine⟨lo,?_,?_,?_⟩
 ·refine uO D0 ?_;rw[ev,jf];refine iG ?_ (bA r0);rw[iD];lia
 ·refine uO D0 ?_;rw[ev];have h1:g.1*q.2+-q.1*g.2<=v*g.2*q.2:=by have a1:g.1*q.2<=v*g.2*q.2:=aV hg.le (bA p0);have a2:0<=q.1*g.2:=iG (bA q0) (bA g0);rw[iD];lia
  have h2:=aV h1 (bA r0);have e:v*g.2*q.2*r.2=v*r.2*(g.2*q.2):=by simp only[aU,fu,br]
  rw[<-e];exact h2
 ·rw[<-hr];exact GB g0 p0 hg.bb bq
def ML{k:Nat}{v:Int}{g q:Int×Int}(hg:FrB k v g)(hq:Low q)(q0:0<q.1)(h:q.1<=v*q.2)(bq:Bt 97 q.2):FrB (k+97) (2*v) (nG g q)/\0<(nG g q).1:=by
 have g0:=hg.low.1;have p0:=hq.1;have lo:=Ek hg.low hq;have D0:0<g.2*q.2:=bI g0 p0;have ev:=wD (p:=g) (q:=q) g0 p0;have bt:=GB (p:=g) (q:=q) g0 p0 hg.bb bq;generalize hr:nG g q=r at *;have r0:=lo.1;have pos:0<r.1:=by
  have a1:0<=g.1*q.2:=iG hg.nn (bA p0);have a2:0<q.1*g.2:=bI q0 g0;have a3:0<(g.1*q.2+q.1*g.2)*r.2:=bI (by lia) r0;rw[<-ev] at a3;by_cases z:0<r.1
  ·exact z
  ·have:=iX (show r.1<=0 by lia) (bA D0);lia
 refine⟨⟨lo,bA pos,?_,bt⟩,pos⟩;refine uO D0 ?_;rw[ev];have h1:g.1*q.2+q.1*g.2<=2*v*g.2*q.2:=by
  have a1:g.1*q.2<=v*g.2*q.2:=aV hg.le (bA p0);have a2:q.1*g.2<=v*q.2*g.2:=aV h (bA g0);have e1:v*q.2*g.2=v*g.2*q.2:=eV ..;have e2:2*v*g.2*q.2=2*(v*g.2*q.2):=by rw[aU 2,aU 2]
  rw[e2];lia
 have h2:=aV h1 (bA r0);have e:2*v*g.2*q.2*r.2=2*v*r.2*(g.2*q.2):=by simp only[aU,fu,br]
 rw[<-e];exact h2
def FZ{k:Nat}{v:Int}{g q:Int×Int}(hg:FrB k v g)(hq:Low q)(h:q.1*g.2<=g.1*q.2):q.1<=v*q.2:=by refine uO hg.low.1 (hJ h ?_);have:=aV hg.le (bA hq.1);rw[eV];exact this
def FrC(c:Nat)(q:Int×Int):Prop:=FrB (194*c+2) (2^c:Nat) q
def FrC.top{c}{q}(h:FrC c q):Bt (195*c+2) q.1:=by
 have h1:=h.le;have h0:=h.nn;have hb:Bt (c+1) ((2^c:Nat):Int):=by unfold Bt;rw[gn,f6];have:=cq c;lia
 have h2:q.1.natAbs<=(((2^c:Nat):Int)*q.2).natAbs:=by lia
 unfold Bt;refine aZ h2 ?_;rw[iF,gn];have hb2:q.2.natAbs<2^(194*c+2):=h.bb;have:2^c*q.2.natAbs<2^c*2^(194*c+2):=Nat.mul_lt_mul_of_pos_left hb2 (cq c);rw[<-ju] at this;have e:c+(194*c+2)=195*c+2:=by lia
 rw[e] at this;exact this
def FrC.sz{c}{q}(h:FrC c q)(hc:c<=45):Sz q:=⟨h.low,h.top.mono (by lia),h.bb.mono (by lia)⟩
theorem FrC.mono{c d}{q}(h:FrC c q)(hc:c<=d):FrC d q:=by refine⟨h.low,h.nn,hJ h.le ?_,h.bb.mono (by lia)⟩;refine aV ?_ (bA h.low.1);exact g9.mpr (cj (by decide) hc)
def frc0(c):FrC c (0,1):=⟨⟨by decide,(rfl:aF 0 1=1)⟩,Int.le_refl _,by rw[lr];exact Int.natCast_nonneg _,bt1 (by lia)⟩
def frc1(c):FrC c (1,1):=⟨⟨by decide,(rfl:aF 1 1=1)⟩,by decide,by rw[lr];exact g9.mpr (cq c),bt1 (by lia)⟩
structure ShOk(q:Int×Int):Prop where
 low:Low q
 bt:Bt 200 q.1
 bb:Bt 97 q.2
def ShOk.sz{q}(h:ShOk q):Sz q:=⟨h.low,h.bt.mono (by decide),h.bb.mono (by decide)⟩
def ve{l}{n}(h:n∉l.map (·.1)):l7 l n=(0,1):=by
 unfold l7 mD;have:l.find? (λq=>decide (q.1=n))=none:=by rw[ci];intro x hx z;exact h (aj.mpr ⟨x,hx,Zf z⟩)
 rw[this];rfl
def rv(q:Int×Int):Rat:=cX q.1 q.2
def JR{p q}(hp:0<p.2)(hq:0<q.2):rv (nG p q)=rv p+rv q:=by have h:=wD hp hq;have h2:0<(nG p q).2:=(tD (q:=(p.1*q.2+q.1*p.2,p.2*q.2)) (bI hp hq)).1.1;unfold rv;rw[kT _ _ (by lia) (by lia),ki (by lia) (by have:=bI hp hq;lia)];exact h
def JQ(q):rv (-q.1,q.2)=-rv q:=by unfold rv;rw[Rat.neg_divInt]
def mw:List Rat->Rat
 |[]=>0
 |x::l=>x+mw l
theorem zF:∀l m:List Rat,mw (l++m)=mw l+mw m
 |[],m=>by show mw m=0+mw m;rw[kJ]
 |x::l,m=>by show x+mw (l++m)=x+mw l+mw m;rw[zF l m,Rat.add_assoc]
theorem Du{f g}{o}(h:∀n,n≠o->f n=g n):∀ns:List Str,ns.Nodup->mw (ns.map f)=if o∈ns then mw (ns.map g)+(f o-g o) else mw (ns.map g)
 |[],_=>rfl
 |n::ns,nd=>by
  obtain⟨n1,n2⟩:=ar.mp nd;have ih:=Du h ns n2;show f n+mw (ns.map f)=_;by_cases e:n=o
  ·subst e;rw[Zd n1] at ih;rw[Zc ai,ih];show f n+mw (ns.map g)=g n+mw (ns.map g)+(f n-g n)
   grind
  ·have m:o∈n::ns↔o∈ns:=⟨λz=>(af.mp z).resolve_left λq=>e q.symm,ae _⟩;by_cases z:o∈ns
   ·rw[Zc z] at ih;rw[Zc (m.mpr z),ih,h n e];show g n+(mw (ns.map g)+(f o-g o))=g n+mw (ns.map g)+(f o-g o);rw[Rat.add_assoc]
   ·rw[Zd z] at ih;rw[Zd (λq=>z (m.mp q)),ih,h n e];rfl
def HY(l:Hl):Rat:=mw ((l.map (·.1)).map λn=>rv (l7 l n))
def Dv{l}(nd:(l.map (·.1)).Nodup)(o)(q):HY (nz l o q)=HY l+(rv q-rv (l7 l o)):=by
 have h:∀n,n≠o->rv (l7 (nz l o q) n)=rv (l7 l n):=λn hn=>by rw[mV,Zd hn]
 have ho:rv (l7 (nz l o q) o)=rv q:=by rw[mV,Zc rfl]
 have u:=Du h (l.map (·.1)) nd;unfold HY;rw[m9];by_cases z:o∈l.map (·.1)
 ·rw[Zc z] at u ⊢;rw[u,ho]
 ·rw[Zd z] at u ⊢;rw[aB,zF,u,ve z];show _+(rv (l7 (nz l o q) o)+0)=_;have:rv (0,1)=0:=Rat.zero_divInt 1;rw[ho,this]
  grind
structure On(D:Int)(q:Int×Int)(u:Int):Prop where
 low:Low q
 ev:q.1*D=u*q.2
def On.dvd{D}{q}{u}(h:On D q u):q.2∣D:=CH h.low.2.symm ⟨u,by rw[h.ev,br]⟩
def On.add{D}{p q}{u v}(h:On D p u)(g:On D q v):On D (nG p q) (u+v):=by
 have p0:=h.low.1;have q0:=g.low.1;have ev:=wD p0 q0;have pq:0<p.2*q.2:=bI p0 q0;refine⟨(tD (q:=(p.1*q.2+q.1*p.2,p.2*q.2)) pq).1,ei (a:=p.2*q.2) (by lia) ?_⟩;generalize nG p q=r at ev ⊢;have e1:=h.ev;have e2:=g.ev
 calc r.1*D*(p.2*q.2)=(r.1*(p.2*q.2))*D:=by rw[aU,br D,<-aU]
  _=((p.1*q.2+q.1*p.2)*r.2)*D:=by rw[ev]
  _=((p.1*D)*q.2+(q.1*D)*p.2)*r.2:=by
   rw[aU,br r.2 D,<-aU,Int.add_mul (p.1*q.2)]
   congr 2
   ·rw[aU,br q.2,<-aU]
   ·rw[aU,br p.2,<-aU]
  _=((u*p.2)*q.2+(v*q.2)*p.2)*r.2:=by rw[e1,e2]
  _=(u+v)*r.2*(p.2*q.2):=by
   have a1:u*p.2*q.2=u*(p.2*q.2):=aU ..;have a2:v*q.2*p.2=v*(p.2*q.2):=by rw[aU,br q.2]
   rw[a1,a2,<-Int.add_mul,aU,br (p.2*q.2),<-aU]
def On.neg{D}{q}{u}(h:On D q u):On D (-q.1,q.2) (-u) :=
 ⟨⟨h.low.1,by have:=h.low.2;unfold Cop aF at *;simp only[iE];exact this⟩,by show -q.1*D=-u*q.2;rw[iD,iD,h.ev]⟩
def On.scale{D}{q}{u}(h:On D q u)(k):On (D*k) q (u*k) :=
 ⟨h.low,by rw[<-aU,h.ev,aU,br q.2,<-aU]⟩
def LD(D):On D (0,1) 0:=⟨⟨by decide,rfl⟩,by simp⟩
def N7(D):On D (1,1) D:=⟨⟨by decide,rfl⟩,by show 1*D=D*1;lia⟩
def LF{q}(h:Low q):On q.2 q q.1:=⟨h,rfl⟩
structure HR(c:Nat)(hl hm:Hl):Prop where
 q:∀n,l7 hl n=l7 hm n
 nm:∀n,n∈hl.map (·.1)↔0<(l7 hl n).1
 n1:(hl.map (·.1)).Nodup
 n2:(hm.map (·.1)).Nodup
 l1:hl.length<=c+1
 l2:hm.length<=c+1
 fr:∀n,FrC c (l7 hl n)
 ex:∃n,0<(l7 hl n).1
 sm:∀n∈hm.map (·.1),Sm n
 one:HY hm=1
 dv:∃(D:Int)(U:Str->Int),0<D/\Bt (97*c+1) D/\∀n,On D (l7 hm n) (U n)
def Ot(c){o}(ho:Sm o):HR c [(o,1,1)] [(o,1,1)]:=by
 have g:∀n,l7 [(o,1,1)] n=if n=o then(1,1) else(0,1):=λn=>by
  unfold l7 mD;rw[bG];by_cases e:o=n
  ·rw[show decide ((o,((1:Int),(1:Int))).1=n)=true from Zg e,Zc e.symm];rfl
  ·rw[show decide ((o,((1:Int),(1:Int))).1=n)=false from Zh e,Zd λz=>e z.symm];rfl
 refine⟨λ_=>rfl,λn=>?_,by simp,by simp,by simp,by simp,λn=>?_,⟨o,by rw[g,Zc rfl];decide⟩,λn hn=>by rw[aq.mp hn];exact ho,by
  show rv (l7 [(o,1,1)] o)+0=1;rw[g,Zc rfl,fX];exact Rat.divInt_self' (by decide),1,λn=>if n=o then 1 else 0,by decide,bt1 (by lia),λn=>by
   rw[g];by_cases e:n=o
   ·rw[Zc e];show On 1 (1,1) (if n=o then 1 else 0);rw[Zc e];exact N7 1
   ·rw[Zd e];show On 1 (0,1) (if n=o then 1 else 0);rw[Zd e];exact LD 1⟩
 ·rw[g];by_cases e:n=o
  ·rw[Zc e];simp[e]
  ·rw[Zd e];simp[e]
 ·rw[g];by_cases e:n=o
  ·rw[Zc e];exact frc1 c
  ·rw[Zd e];exact frc0 c
def HR.had{c}{hl hm}(h:HR c hl hm){n}(h0:0<(l7 hm n).1):n∈hm.map (·.1):=by
 by_cases z:n∈hm.map (·.1)
 ·exact z
 ·rw[ve z] at h0;exact absurd h0 (by decide)
def zP{q}(h:Low q)(h0:q.1=0):q=(0,1):=by
 obtain⟨t,b⟩:=q;obtain⟨h1,h2⟩:=h;simp only at h0 h1 h2;subst h0;have e:b=1:=by have:aF 0 b=1:=h2;rw[Int.gcd_zero_left] at this;lia
 rw[e]
def HR.sale{c}{hl hm}(h:HR c hl hm){o1 o2}{q}(hq:ShOk q)(so:Sm o2)(nt:¬oV hl o1 q):HR (c+1) (sold hl o1 o2 q) (HL hm o1 o2 q):=by
 have q0:0<q.1:=by by_cases z:0<q.1;exact z;exact absurd (.inl z) nt
 have P8:q.1*(l7 hl o1).2<=(l7 hl o1).1*q.2:=by
  by_cases z:q.1*(l7 hl o1).2>(l7 hl o1).1*q.2
  ·exact absurd (.inr z) nt
  ·lia
 have R:=yF (h.fr o1) hq.low q0 P8 hq.bb;have qv:=FZ (h.fr o1) hq.low P8;have QQ:o1∈hl.map (·.1):=by
  rw[h.nm];by_cases z:0<(l7 hl o1).1
  ·exact z
  ·have a1:(l7 hl o1).1*q.2<=0:=iX (by lia) (bA hq.low.1);have a2:0<q.1*(l7 hl o1).2:=bI q0 (h.fr o1).low.1;lia
 have SY:o1∈hm.map (·.1):=h.had (by rw[<-h.q];exact(h.nm o1).mp QQ);generalize hr:nG (l7 hl o1) (-q.1,q.2)=r at *;have key:∃l1 m1:Hl,sold hl o1 o2 q=nz l1 o2 (nG (l7 l1 o2) q)/\HL hm o1 o2 q=nz m1 o2 (nG (l7 m1 o2) q)/\(∀n,l7 l1 n=l7 m1 n)/\(∀n,n∈l1.map (·.1)↔0<(l7 l1 n).1)/\(l1.map (·.1)).Nodup/\(m1.map (·.1)).Nodup/\l1.length<=c+1/\m1.length<=c+1/\(∀n,FrB (194*c+2+97) (2^c:Nat) (l7 l1 n))/\(∀n∈m1.map (·.1),Sm n)/\HY m1+rv q=1/\∃(D:Int)(U:Str->Int),0<D/\Bt (97*(c+1)+1) D/\On D q (U cC)/\∀n,∃u,On D (l7 m1 n) u:=by
  have gm:∀n,l7 (nz hm o1 r) n=if n=o1 then r else l7 hl n:=λn=>by rw[mV,h.q]
  have lm:(nz hm o1 r).length<=c+1:=by have:=congrArg cg (m9 hm o1 r);rw[Zc SY,ac,ac] at this;rw[this];exact h.l2
  have SC:∀n,FrB (194*c+2+97) (2^c:Nat) (if n=o1 then r else l7 hl n):=λn=>by
   by_cases e:n=o1
   ·rw[Zc e];exact R
   ·rw[Zd e];exact⟨(h.fr n).low,(h.fr n).nn,(h.fr n).le,(h.fr n).bb.mono (by lia)⟩
  have em:HL hm o1 o2 q=nz (nz hm o1 r) o2 (nG (l7 (nz hm o1 r) o2) q):=by unfold HL;simp only[<-h.q o1,hr]
  have smm:∀n∈(nz hm o1 r).map (·.1),Sm n:=λn hn=>by rw[m9,Zc SY] at hn;exact h.sm n hn
  have one1:HY (nz hm o1 r)+rv q=1:=by
   rw[Dv h.n2,h.one,<-hr,JR (q:=(-q.1,q.2)) (h.fr o1).low.1 hq.low.1,JQ,h.q]
   grind
  have dv1:∃(D:Int)(U:Str->Int),0<D/\Bt (97*(c+1)+1) D/\On D q (U cC)/\∀n,∃u,On D (l7 (nz hm o1 r) n) u:=by
   obtain⟨D,U,d1,d2,d3⟩:=h.dv;have oq:On (D*q.2) q (q.1*D):=by rw[br D];exact(LF hq.low).scale D
   refine⟨D*q.2,λ_=>q.1*D,bI d1 hq.low.1,(d2.mul hq.bb).mono (by lia),oq,λn=>?_⟩;rw[mV];by_cases e:n=o1
   ·rw[Zc e,<-hr,h.q];exact⟨_,((d3 o1).scale q.2).add oq.neg⟩
   ·rw[Zd e];exact⟨_,(d3 n).scale q.2⟩
  by_cases rz:r=(0,1)
  ·have gl:∀n,l7 (mZ hl o1) n=if n=o1 then r else l7 hl n:=λn=>by rw[pT,rz]
   refine⟨mZ hl o1,nz hm o1 r,?_,em,λn=>by rw[gl,gm],λn=>?_,Cw _ h.n1,vZ _ _ h.n2,aI (DU _ _) h.l1,lm,λn=>by rw[gl];exact SC n,smm,one1,dv1⟩
   ·unfold sold;simp only[hr,rz,if_true]
   ·rw[yV,bK,gl,h.nm,decide_eq_true_iff];by_cases e:n=o1
    ·rw[Zc e,rz];exact⟨λz=>absurd e z.2,λz=>absurd z (by decide)⟩
    ·rw[Zd e];exact⟨λz=>z.1,λz=>⟨z,e⟩⟩
  ·have gl:∀n,l7 (nz hl o1 r) n=if n=o1 then r else l7 hl n:=λn=>mV ..
   have rp:0<r.1:=by
    have:=R.nn;by_cases z:r.1=0
    ·exact absurd (zP R.low z) rz
    ·lia
   refine⟨nz hl o1 r,nz hm o1 r,?_,em,λn=>by rw[gl,gm],λn=>?_,vZ _ _ h.n1,vZ _ _ h.n2,?_,lm,λn=>by rw[gl];exact SC n,smm,one1,dv1⟩
   ·unfold sold;simp only[hr,rz,if_false]
   ·rw[m9,Zc QQ,gl,h.nm];by_cases e:n=o1
    ·rw[Zc e];exact⟨λ_=>rp,λ_=>by rw[e];exact(h.nm o1).mp QQ⟩
    ·rw[Zd e]
   ·have:=congrArg cg (m9 hl o1 r);rw[Zc QQ,ac,ac] at this;rw[this];exact h.l1
 obtain⟨l1,m1,es,em,gq,nm1,UY,nd2,len1,len2,SC,sm1,one1,D1,U1,d1,d2,oq,dm⟩:=key;obtain⟨U,up⟩:=ML (SC o2) hq.low q0 qv hq.bb;have ev:(2*((2^c:Nat):Int))=((2^(c+1):Nat):Int):=by rw[f6,Int.natCast_mul,br];rfl
 rw[es,em];refine⟨λn=>?_,λn=>?_,vZ _ _ UY,vZ _ _ nd2,aI (F6 _ _ _) (by lia),aI (F6 _ _ _) (by lia),λn=>?_,⟨o2,by rw[mV,Zc rfl];exact up⟩,λn hn=>?_,?_,?_⟩
 ·rw[mV,mV,gq,gq]
 ·rw[mV,m9];by_cases e:n=o2
  ·rw[Zc e];refine⟨λ_=>up,λ_=>?_⟩;rw[e];by_cases z:o2∈l1.map (·.1)
   ·rw[Zc z];exact z
   ·rw[Zd z];exact aH _ (aq.mpr rfl)
  ·rw[Zd e,<-nm1];by_cases z:o2∈l1.map (·.1)
   ·rw[Zc z]
   ·rw[Zd z,aP];exact⟨λy=>y.elim id λy=>absurd (aq.mp y) e,λy=>.inl y⟩
 ·rw[mV];by_cases e:n=o2
  ·rw[Zc e];unfold FrC;rw[<-ev];exact⟨U.low,U.nn,U.le,U.bb.mono (by lia)⟩
  ·rw[Zd e];have:=SC n;refine⟨this.low,this.nn,hJ this.le ?_,this.bb.mono (by lia)⟩;exact aV (g9.mpr (cj (by decide) (by lia))) (bA this.low.1)
 ·rw[m9] at hn;by_cases z:o2∈m1.map (·.1)
  ·rw[Zc z] at hn;exact sm1 n hn
  ·rw[Zd z] at hn;rcases aP.mp hn with y|y
   ·exact sm1 n y
   ·rw[aq.mp y];exact so
 ·rw[Dv nd2,JR (by rw[<-gq];exact(SC o2).low.1) hq.low.1]
  grind
 ·have:∀n,∃u,On D1 (l7 (nz m1 o2 (nG (l7 m1 o2) q)) n) u:=λn=>by
   rw[mV];by_cases e:n=o2
   ·rw[Zc e];obtain⟨u,hu⟩:=dm o2;exact⟨_,hu.add oq⟩
   ·rw[Zd e];exact dm n
  exact⟨D1,λn=>Classical.choose (this n),d1,d2,λn=>Classical.choose_spec (this n)⟩
def HR.saleOk{c}{hl hm}(h:HR c hl hm)(hc:c<=44){o1}{q}(hq:ShOk q):SaleOk hl o1 q:=by
 refine⟨aZ h.l1 (by lia),λn=>(h.fr n).sz (by lia),λnt=>?_⟩;have q0:0<q.1:=by by_cases z:0<q.1;exact z;exact absurd (.inl z) nt
 have P8:q.1*(l7 hl o1).2<=(l7 hl o1).1*q.2:=by
  by_cases z:q.1*(l7 hl o1).2>(l7 hl o1).1*q.2
  ·exact absurd (.inr z) nt
  ·lia
 have R:=yF (h.fr o1) hq.low q0 P8 hq.bb;refine FrC.sz (c:=c+1) ⟨R.low,R.nn,hJ R.le ?_,R.bb.mono (by lia)⟩ (by lia);exact aV (g9.mpr (cj (by decide) (by lia))) (bA R.low.1)
def F5{body:PV->XS}(l:List PV)(I:Nat->En->Sto->Prop)(h:∀k q Z s,l[k]?=Za q->I k Z s->∃ρ' s',body q Z s=.nx ρ' s'/\I (k+1) ρ' s'){Z:En}{s:Sto}(h0:I 0 Z s):∃ρ' s',nF body l Z s=.nx ρ' s'/\I l.length ρ' s':=by
 have main:∀(r:List PV)(k:Nat)(Z:En)(s:Sto),k<=l.length->l.drop k=r->I k Z s->∃ρ' s',nF body r Z s=.nx ρ' s'/\I l.length ρ' s':=by
  intro r;induction r with
  |nil =>
   intro k Z s hk e hI;have:k=l.length:=jH hk (kX.mp e);subst this;exact⟨Z,s,rfl,hI⟩
  |cons q r ih =>
   intro k Z s hk e hI;have hq:l[k]?=Za q:=by have:=congrArg List.head? e;rw[List.head?_drop] at this;simpa using this
   obtain⟨ρ',s',h1,h2⟩:=h k q Z s hq hI;have e2:l.drop (k+1)=r:=by rw[<-List.tail_drop,e];rfl
   obtain⟨ρ2,s2,h3,h4⟩:=ih (k+1) ρ' s' ((aS.mp hq).1) e2 h2;refine⟨ρ2,s2,?_,h4⟩;unfold nF;rw[h1];exact h3
 exact main l 0 Z s (aX _) rfl h0
def wo(n:Nat):(uT 0 n).length=n:=by simp[uT]
def Iv{n k:Nat}{q:PV}(h:(uT 0 n)[k]?=Za q):k<n/\q=.int (k:Int):=by
 unfold uT at h;rw[aD] at h;by_cases hk:k<n
 ·rw[fT hk] at h;cases h;exact⟨hk,by simp⟩
 ·rw[cM (by simpa using hk)] at h;cases h
def uB{body:PV->XS}(n:Nat)(I:Nat->En->Sto->Prop)(h:∀(k:Nat) Z s,k<n->I k Z s->∃ρ' s',body (.int (k:Int)) Z s=.nx ρ' s'/\I (k+1) ρ' s'){Z:En}{s:Sto}(h0:I 0 Z s):∃ρ' s',nF body (uT 0 n) Z s=.nx ρ' s'/\I n ρ' s':=by have:=F5 (uT 0 n) I (λk q Z s hq hI=>by obtain⟨h1,h2⟩:=Iv hq;rw[h2];exact h k Z s h1 hI) h0;rw[wo] at this;exact this
def oK(s:Sto)(i:Int):PV.data s 12 (.int i)=Za (.int i):=rfl
def rJ(i j:Int):bu (.int i) (.int j)=(i==j):=by unfold bu;rfl
theorem DY:∀(l:List (Nat×Cell))(n:Nat)(c d:Cell),qk l n=Za c->qk (tu n d l) n=Za d
 |(k,e)::r,n,c,d,h=>by
  unfold qk at h;unfold tu;split at h
  ·rename_i z;rw[Zc z];unfold qk;rw[Zc rfl]
  ·rename_i z;rw[Zd z];unfold qk;rw[Zd z];exact DY r n c d h
def nT{s:Sto}{n:Nat}{c d:Cell}(h:s.get n=Za c):(s.set n d).get n=Za d:=DY s.cs n c d h
def mE(s:Sto)(c:Cell)(k:Nat):(s.add c).get k=if s.nx=k then Za c else s.get k:=by show qk ((s.nx,c)::s.cs) k=_;unfold qk;rfl
def lS(s:Sto){n k:Nat}(c:Cell)(h:k≠n):(s.set n c).get k=s.get k:=ug h
def EB(s:Sto)(c d:Cell){p:Nat}(h:s.nx≠p):(s.add d).set p c=(s.set p c).add d:=by unfold Sto.set Sto.add;simp[tu,h]
def yL(s:Sto)(c d:Cell):(s.add d).set s.nx c=s.add c:=by unfold Sto.set Sto.add;simp[tu]
def rD(s:Sto)(n:Nat)(c d:Cell):(s.set n c).set n d=s.set n d:=by
 have:∀l,tu n d (tu n c l)=tu n d l:=by
  intro l;induction l with
  |nil=>rfl
  |cons q r ih =>
   obtain⟨k,e⟩:=q;by_cases h:k=n
   ·simp[tu,h]
   ·simp[tu,h,ih]
 unfold Sto.set;simp[this]
def zG(s:Sto)(n:Nat)(c:Cell)(h:s.get n=Za c):s.set n c=s:=by
 have:∀l,qk l n=Za c->tu n c l=l:=by
  intro l;induction l with
  |nil=>intro h;rfl
  |cons q r ih =>
   intro h;obtain⟨k,e⟩:=q;by_cases hk:k=n
   ·simp[qk,hk] at h;simp[tu,hk,h]
   ·simp[qk,hk] at h;simp[tu,hk,ih h]
 unfold Sto.set;rw[this _ h]
def Sto.bump(s:Sto):Sto:=⟨s.nx+1,s.cs⟩
def Mo(s:Sto)(d:Cell):(s.add d).del s.nx=Sto.bump s:=by unfold Sto.del Sto.add Sto.bump;simp[CF]
def Jg(s:Sto)(k:Nat):(Sto.bump s).get k=s.get k:=rfl
def IsPurse(s:Sto)(p:Nat):Prop:=∃x y,s.get p=Za (.lst [.int x,.int y])
def pst(s:Sto)(p:Nat)(x y:Int):Sto:=s.set p (.lst [.int x,.int y])
def NQ(s:Sto)(p:Nat)(x y:Int):(pst s p x y).nx=s.nx:=rfl
theorem IsPurse.pst{s:Sto}{p:Nat}(h:IsPurse s p)(x y:Int):IsPurse (pst s p x y) p:=let⟨_,_,h⟩:=h;⟨x,y,Lb h⟩
theorem IsPurse.add{s:Sto}{p:Nat}(h:IsPurse s p)(c:Cell)(hp:p<s.nx):IsPurse (s.add c) p:=by obtain⟨x,y,h⟩:=h;exact⟨x,y,by rw[mE,Zd (by lia)];exact h⟩
def Lk(s:Sto)(p:Nat)(x y x' y':Int)(d:Cell)(hp:p<s.nx):((pst s p x y).add d).set p (.lst [.int x',.int y'])=(pst s p x' y').add d:=by rw[EB _ _ _ (by rw[NQ];lia)];unfold pst;rw[rD]
def ME{c:XT}{e:XE}{cap:En}(l:List PV)(I:Nat->List PV->Sto->Prop)(h:∀k q vs s,l[k]?=Za q->I k vs s->(∃s1,c (Za q::cap) s=.ok false s1/\I (k+1) vs s1)\/(∃s1 v s2,c (Za q::cap) s=.ok true s1/\e (Za q::cap) s1=.ok v s2/\I (k+1) (vs++[v]) s2)){s:Sto}(h0:I 0 [] s) :
  ∃vs s',ny c e cap l s=.ok vs s'/\I l.length vs s':=by
 have main:∀(r:List PV)(k:Nat)(vs:List PV)(s:Sto),k<=l.length->l.drop k=r->I k vs s->∃ws s',ny c e cap r s=.ok ws s'/\I l.length (vs++ws) s':=by
  intro r;induction r with
  |nil =>
   intro k vs s hk e hI;have:k=l.length:=jH hk (kX.mp e);subst this;exact⟨[],s,rfl,by simpa using hI⟩
  |cons q r ih =>
   intro k vs s hk e' hI;have hq:l[k]?=Za q:=by have:=congrArg List.head? e';rw[List.head?_drop] at this;simpa using this
   have e2:l.drop (k+1)=r:=by rw[<-List.tail_drop,e'];rfl
   have Uk:k+1<=l.length:=(aS.mp hq).1;rcases h k q vs s hq hI with⟨s1,h1,h2⟩|⟨s1,v,s2,h1,h2,h3⟩
   ·obtain⟨ws,s',h3,h4⟩:=ih (k+1) vs s1 Uk e2 h2;exact⟨ws,s',by rw[oO,h1];exact h3,h4⟩
   ·obtain⟨ws,s',h4,h5⟩:=ih (k+1) (vs++[v]) s2 Uk e2 h3;refine⟨v::ws,s',by rw[oO,h1];simp[h2,h4],by simpa using h5⟩
 obtain⟨ws,s',h1,h2⟩:=main l 0 [] s (aX _) rfl h0;exact⟨ws,s',h1,by simpa using h2⟩
theorem rW{c:XT}{e:XE}{cap:En}{s:Sto}(p:PV->Bool)(f:PV->PV):∀(l:List PV),(∀q∈l,c (Za q::cap) s=.ok (p q) s)->(∀q∈l,p q=true->e (Za q::cap) s=.ok (f q) s)->ny c e cap l s=.ok ((l.filter p).map f) s
 |[],_,_=>rfl
 |q::l,h1,h2=>by
  rw[oO,h1 q ai];have ih:=rW p f l (λx hx=>h1 x (ae _ hx)) (λx hx=>h2 x (ae _ hx));cases hp:p q with
  |false=>simp[ih,hp]
  |true=>simp[ih,hp,h2 q ai hp]
def oi{n:Int}(h0:0<n)(h1:n<2^64):Bt 9000 n:=by
 have:Bt 64 n:=by unfold Bt;lia
 exact this.mono (by decide)
def Di:(aG "abcdefghijklmnopqrstuvwxyz").length<=100000:=by decide
def qN(a:Adr)(s:Sto)(p:Nat)(n:Int)(h:IsPurse s p)(h0:0<n)(h1:Bt 9000 n):∃r x y,0<=r/\r<n/\lV a [.ref p,.int n] s=.ok (.int r) (s.set p (.lst [.int x,.int y])):=by
 obtain⟨x,y,h⟩:=h;have hd:zi n:=⟨h0,h1⟩;by_cases hx:x=0
 ·refine⟨y%n,y/n,y,dE _ (by lia),cO _ h0,?_⟩;subst hx;simp[sem,sX,ms,sW,lV,ul,h,atI,ixN,oK,rJ,hd,h0,nT h,rD]
 ·refine⟨x%n,x/n,y,dE _ (by lia),cO _ h0,?_⟩;simp[sem,sX,ms,sW,lV,ul,h,atI,ixN,oK,rJ,hd,h0,hx]
def Jt(l:List Int)(lo hi:Option Int):∃k:List Int,CG (l.map PV.int) lo hi=k.map PV.int/\k.length<=l.length/\∀x∈k,x∈l:=by
 refine⟨(l.drop (HT.sIx l.length 0 lo)).take (HT.sIx l.length l.length hi-HT.sIx l.length 0 lo),?_,?_,λx hx=>kU (iu hx)⟩
 ·unfold CG;simp[List.map_take,List.map_drop]
 ·rw[dJ,gJ];lia
def GA{l:List Int}{i:Int}(h0:0<=i)(h1:i<l.length):∃x∈l,atI (l.map PV.int) i=Za (.int x):=by
 obtain⟨j,rfl⟩:∃j:Nat,i=j:=⟨i.toNat,by lia⟩;have hj:j<l.length:=by lia
 exact⟨l[j],b5 hj,mQ (by simp[hj])⟩
def IU(a:Adr)(s:Sto)(c:Int)(k:Nat)(hc:bW c<=1048576)(hk:k<64):∃v,qx a [.int c,.int k] s=.ok (.int v) s:=by have m1:iV c c:=Og (by lia) (by lia);have m2:oF 3 c:=.inr (.inl ⟨by decide,by decide⟩);have m3:oF 7919 (k:Int):=.inr (.inl ⟨by decide,by decide⟩);have m4:oF (c*c+3*c+7919*(k:Int)+1) 48271:=.inr (.inr ⟨by decide,by decide⟩);generalize hz:((c*c+3*c+7919*(k:Int)+1)*48271)%2147483629=z;have b0:0<=z:=hz▸dE _ (by decide);have b1:z<2147483629:=hz▸cO _ (by decide);have m5:oF z z:=.inr (.inl ⟨by lia,by lia⟩);refine⟨(z*z+7)%2147483587,?_⟩;simp[sem,sX,ms,sW,qx,vU,E8,m1,m2,m3,m4,hz,m5]
def Iz(a:Adr)(s:Sto)(l:List Int)(hl:l.length<=63)(hw:Att.WtOk l):∃x y,oh a [.seq (l.map .int)] s=.ok (.ref s.nx) (s.add (.lst [.int x,.int y])):=by
 obtain⟨c,hc,O6,RZ⟩:=Jt l Zb (Za 63);have hsz:c.length<=99999:=by lia
 have RW:(0:Int)<(c.length:Int)+1:=by lia
 have h2:2<=aJ:=by decide
 have hw2:∀x∈c++[0],bW x<=1048576:=λx hx=>by
  rcases aP.mp hx with z|z
  ·exact hw x (RZ x z)
  ·rw[aq.mp z];decide
 obtain⟨ρ',s',QU,rfl,v,k,rfl⟩:=uB (body:=mU (yName 3) (qC a)) 64
  (λ_ Z t=>t=s/\∃v k,Z=[Za (.seq (l.map .int)),Za (.lst ((c++[0]).map .int)),Za (.int v),k])
  (λk Z t hk hI=>by obtain⟨rfl,v,k',rfl⟩:=hI;obtain⟨x,hxm,hx⟩:=GA (l:=c++[0]) (i:=(k:Int)%((c.length:Int)+1)) (dE _ (by lia)) (by have:=cO (k:Int) RW;simpa using this);obtain⟨u,hu⟩:=IU a t x k (hw2 x hxm) hk;have m3:oF v 2147483587:=.inr (.inr ⟨by decide,by decide⟩);refine⟨_,_,?_,rfl,v*2147483587+u,Za (.int k),rfl⟩;simp only[aB,ao,cP] at hx;simp[sem,sX,ms,sW,mU,qC,hx,m3,RW,hu]) ⟨rfl,1,Zb,rfl⟩
 obtain⟨x0,_,Te⟩:=GA (l:=c++[0]) (i:=0) (by lia) (by simp);simp only[aB,ao,cP] at Te QU;generalize hab:(if x0<0 then -x0 else x0)=x1 at *;by_cases h18:(1000000000000000000:Int)<=x1
 ·refine⟨x1,v,?_⟩;simp[sem,sX,ms,sW,oh,sJ,hc,hsz,QU,Te,hab,h18,h2]
 ·refine⟨v,v,?_⟩;simp[sem,sX,ms,sW,oh,sJ,hc,hsz,QU,Te,hab,h18,h2]
structure Two'(p q:Int×Int):Prop where
 p0:0<p.2
 q0:0<q.2
 b:Bt 4400 p.2/\Bt 4400 q.2
 t:Bt 9000 p.1/\Bt 9000 q.1
def rG{i j:Int}(h:Bt 9000 i)(g:Bt 9000 j):oF i j:=.inl ⟨h.mono (by decide),g.mono (by decide)⟩
def Cg(a:Adr)(s:Sto):∀(k:Nat)(t b:Int),0<=t->0<=b->b.toNat<=k->∃n t',mS (xTr (x2 (xVar 1) (xC (.int 0)) fGt)) (n9 a) n [Za (.int t),Za (.int b)] s=.nx [Za (.int t'),Za (.int 0)] s/\0<=t'/\t'.natAbs=aF t b:=by
 intro k;induction k with
 |zero =>
  intro t b ht h0 hk;have:b=0:=by lia
  subst this;refine⟨1,t,?_,ht,by simp[aF]⟩;unfold mS;simp[sem,sX,ms,sW]
 |succ k ih =>
  intro t b ht h0 hk;by_cases hb:b=0
  ·subst hb;refine⟨1,t,?_,ht,by simp[aF]⟩;unfold mS;simp[sem,sX,ms,sW]
  ·have hp:0<b:=by lia
   have m0:=dE t hb;have m1:=cO t hp;obtain⟨n,t',h1,h3,h2⟩:=ih b (t%b) h0 m0 (by lia);refine⟨n+1,t',?_,h3,by rw[h2];exact DZ t b hp⟩;have hs:n9 a [Za (.int t),Za (.int b)] s=.nx [Za (.int b),Za (.int (t%b))] s:=by simp[sem,sX,ms,sW,n9,hp]
   unfold mS;simp[sem,sX,ms,sW,hp,hs,h1]
def Fa(a:Adr)(s:Sto)(t b:Int):o6 a [.int t,.int b] s=.ok (.int (aF t b)) s:=by
 have e1:(if t<0 then -t else t)=(t.natAbs:Int):=by split<;>lia
 have e2:(if b<0 then -b else b)=(b.natAbs:Int):=by split<;>lia
 obtain⟨n,t',h1,h3,h2⟩:=Cg a s (b.natAbs:Int).toNat (t.natAbs:Int) (b.natAbs:Int) (by lia) (by lia) (am _);have hw:=AN h1 (by simp);simp[sem,sX,ms,sW,o6,tL,e1,e2,hw];have:aF (t.natAbs:Int) (b.natAbs:Int)=aF t b:=by simp[aF]
 rw[<-this,<-h2];lia
def wT(a:Adr)(s:Sto)(t b:Int)(hb:0<b)(hB:Bt 9000 b):mL a [.int t,.int b] s=.ok (frP (red (t,b))) s:=by
 have hg:0<aF t b:=bH _ (by lia);have hd:zi (aF t b:Int):=⟨by lia,hB.dvd (by lia) (cB ..)⟩;have e:=Fa a s t b;have hn:¬b<0:=by lia
 simp[sem,sX,ms,sW,mL,xN,e,hd,hn,frP,red]
def AA{n:Int}{k:Nat}(h:n.natAbs<2^k)(hk:k<=9000):Bt 9000 n:=ay h (cj (by decide) hk)
def six{r:Int}(h0:0<=r)(h1:r<6):r=0\/r=1\/r=2\/r=3\/r=4\/r=5:=by lia
def Bb{s:Sto}{p:Nat}{x y:Int}(h:IsPurse s p):IsPurse (s.set p (.lst [.int x,.int y])) p:=by obtain⟨u,v,h⟩:=h;exact⟨x,y,nT h⟩
def He(a:Adr)(s:Sto)(p:Nat)(h:IsPurse s p):∃v x y,na a [.ref p] s=.ok (.int v) (s.set p (.lst [.int x,.int y]))/\Bt 100 v:=by
 obtain⟨r,x,y,r0,r1,e1⟩:=qN a s p 6 h (by decide) (AA (k:=4) (by decide) (by decide));have h2:=Bb (x:=x) (y:=y) h;obtain⟨m,hm,hm0,hmB,QE⟩:∃m:Int,atI [PV.int 10,.int 10,.int 100,.int 3,.int (10^6),.int (10^20)] r=Za (.int m)/\0<m/\(2*m).natAbs<2^100/\True:=by
  rcases six r0 r1 with z|z|z|z|z|z<;>subst z
  ·exact⟨10,rfl,by decide,by decide,trivial⟩
  ·exact⟨10,rfl,by decide,by decide,trivial⟩
  ·exact⟨100,rfl,by decide,by decide,trivial⟩
  ·exact⟨3,rfl,by decide,by decide,trivial⟩
  ·exact⟨10^6,rfl,by decide,by decide,trivial⟩
  ·exact⟨10^20,rfl,by decide,by decide,trivial⟩
 obtain⟨r',x',y',q0,q1,e2⟩:=qN a (s.set p (.lst [.int x,.int y])) p (2*m) h2 (by lia) (AA (k:=100) hmB (by decide));have m2:oF 2 m:=.inr (.inl ⟨by decide,by decide⟩);have d3:zi 3:=⟨by decide,AA (k:=4) (by decide) (by decide)⟩;rw[rD] at e2;refine⟨r'-m/3,x',y',?_,by unfold Bt;lia⟩;have Rx:atI [PV.int 10,.int 10,.int 100,.int 3,.int 1000000,.int 100000000000000000000] r=Za (.int m):=hm;simp[sem,sX,ms,sW,na,vg,e1,Rx,e2,m2,d3]
def five{r:Int}(h0:0<=r)(h1:r<5):r=0\/r=1\/r=2\/r=3\/r=4:=by lia
structure PartOf(q q':Int×Int):Prop where
 low:Low q'
 pos:0<q'.1
 le:q'.1*q.2<=q.1*q'.2
def II{q:Int×Int}(h:Low q)(h0:0<q.1){m l:Int}(m0:0<m)(ml:m<=l):PartOf q (red (q.1*m,q.2*l)):=by
 have hl:0<l:=by lia
 have hb:0<q.2*l:=bI h.1 hl;obtain⟨lo,ev⟩:=tD (q:=(q.1*m,q.2*l)) hb;have b0:=lo.1;have ev:(red (q.1*m,q.2*l)).1*(q.2*l)=q.1*m*(red (q.1*m,q.2*l)).2:=ev;generalize red (q.1*m,q.2*l)=z at *;have p1:0<q.1*m*z.2:=bI (bI h0 m0) b0;have p2:0<z.1:=by
  rw[<-ev] at p1;by_cases z0:0<z.1
  ·exact z0
  ·have:=aV (show z.1<=0 by lia) (bA hb);rw[jf] at this;lia
 refine⟨lo,p2,?_⟩;refine jW (a:=l) ?_ hl;have e1:z.1*q.2*l=z.1*(q.2*l):=by rw[aU]
 have e2:q.1*z.2*l=q.1*l*z.2:=by rw[aU,br z.2 l,<-aU]
 rw[e1,ev,e2];exact aV (Int.mul_le_mul_of_nonneg_left ml (bA h0)) (bA b0)
def Lw(a:Adr)(s:Sto)(p:Nat)(h:IsPurse s p)(q:Int×Int)(hq:Low q)(h0:0<q.1)(hB:Bt 8900 q.2):∃q' x y,PartOf q q'/\p4 a [.ref p,frP q] s=.ok (frP q') (s.set p (.lst [.int x,.int y])):=by
 obtain⟨r,x,y,r0,r1,e1⟩:=qN a s p 5 h (by decide) (AA (k:=4) (by decide) (by decide));have h2:=Bb (x:=x) (y:=y) h;by_cases hz:r=0
 ·subst hz;refine⟨q,x,y,⟨hq,h0,Int.le_refl _⟩,?_⟩;simp[sem,sX,ms,sW,p4,uk,e1,oK,rJ,frP]
 ·obtain⟨l,hl,l1,lB,_⟩:∃l:Int,atI [PV.int 2,.int 3,.int 7,.int (10^6)] (r-1)=Za (.int l)/\1<l/\l<=10^6/\True:=by
   rcases five r0 r1 with z|z|z|z|z<;>subst z
   ·exact absurd rfl hz
   ·exact⟨2,rfl,by decide,by decide,trivial⟩
   ·exact⟨3,rfl,by decide,by decide,trivial⟩
   ·exact⟨7,rfl,by decide,by decide,trivial⟩
   ·exact⟨10^6,rfl,by decide,by decide,trivial⟩
  obtain⟨r',x',y',s0,s1,e2⟩:=qN a (s.set p (.lst [.int x,.int y])) p (l-1) h2 (by lia) (AA (k:=20) (by show(l-1).natAbs<1048576;lia) (by decide));rw[rD] at e2;have m1:oF q.1 (1+r'):=.inr (.inr ⟨by lia,by lia⟩);have m2:oF q.2 l:=.inr (.inr ⟨by lia,by lia⟩);have bB:Bt 9000 (q.2*l):=(hB.mul (show Bt 20 l by show l.natAbs<1048576;lia)).mono (by decide);have em:=wT a (s.set p (.lst [.int x',.int y'])) (q.1*(1+r')) (q.2*l) (bI hq.1 (by lia)) bB;refine⟨red (q.1*(1+r'),q.2*l),x',y',II hq h0 (by lia) (by lia),?_⟩;have Tr:atI [PV.int 2,.int 3,.int 7,.int 1000000] (r-1)=Za (.int l):=hl;have q1:atI [PV.int q.1,.int q.2] 0=Za (.int q.1):=rfl;have q2:atI [PV.int q.1,.int q.2] 1=Za (.int q.2):=rfl;simp[sem,sX,ms,sW,p4,uk,e1,oK,rJ,frP,hz,Tr,e2,m1,m2,q1,q2,em]
def Cm{x y:Str}(h:x.cps.toList=y.cps.toList):x=y:=by obtain⟨a⟩:=x;obtain⟨b⟩:=y;have:a=b:=Array.toList_inj.mp h;rw[this]
def mkW(cs:List Nat):Str:=⟨cs.toArray⟩
def qS(cs):(mkW cs).cps.toList=cs:=by simp[mkW]
def F4(cs):(mkW cs).length=cs.length:=by rw[IY,qS]
theorem y7:∀cs:List Nat,Str.join (aG "") (cs.map λc=>(⟨#[c]⟩:Str))=mkW cs
 |[]=>rfl
 |[c]=>rfl
 |c::d::r=>by have ih:=y7 (d::r);have e:Str.join (aG "") ((c::d::r).map λc=>(⟨#[c]⟩:Str))=(⟨#[c]⟩:Str)++aG ""++Str.join (aG "") ((d::r).map λc=>(⟨#[c]⟩:Str)):=rfl;rw[e,ih];refine Cm ?_;rw[zT,zT,qS,qS];rfl
def E4(cs):Txt.join (aG "") (cs.map λc=>(⟨#[c]⟩:Str))=mkW cs:=(StrLaws.glued_eq_join _ _).trans (y7 cs)
def z3(vs:List Int)(j:Nat):Int:=(vs[j]?).getD 0
def oR(vs:List Int)(d k j:Nat):Int:=z3 vs j+5*(k:Int)*(if j=d then 1 else 0)
def wcs(vs:List Int)(d k:Nat):List Nat:=(bF vs.length).map λj=>97+(oR vs d k j%26).toNat
def wH(vs)(d k):(wcs vs d k).length=vs.length:=by simp[wcs]
def KS(vs)(d k):∀c∈wcs vs d k,97<=c/\c<=122:=λc hc=>by obtain⟨j,_,rfl⟩:=aj.mp hc;have m0:=dE (oR vs d k j) (show(26:Int)≠0 by decide);have m1:=cO (oR vs d k j) (show(0:Int)<26 by decide);lia
def JF(vs)(hd:d<vs.length)(k):(wcs vs d k)[d]?=Za (97+((z3 vs d+5*(k:Int))%26).toNat):=by unfold wcs oR;rw[aD,fT hd];simp
def wrd(vs:List Int)(d:Nat)(fl:Bool)(k:Nat):Str:=mkW (wcs vs d k++if fl=true/\k%2=1 then [120] else [])
def KR(hd:d<vs.length)(hi:i<10)(hj:j<10)(h:wrd vs d fl i=wrd vs d fl j):i=j:=by
 have e:wcs vs d i++(if fl=true/\i%2=1 then [120] else [])=wcs vs d j++(if fl=true/\j%2=1 then [120] else []):=by have:=congrArg (λx:Str=>x.cps.toList) h;simpa[wrd,qS] using this
 have e2:(wcs vs d i++(if fl=true/\i%2=1 then [120] else []))[d]?=(wcs vs d j++(if fl=true/\j%2=1 then [120] else []))[d]?:=congrArg (λl:List Nat=>l[d]?) e;rw[dw (by rw[wH];exact hd),dw (by rw[wH];exact hd),JF vs hd,JF vs hd] at e2;have e3:=aO e2;generalize z3 vs d=z at *;omega
def JE(h0:0<vs.length)(h7:vs.length<=7)(d)(fl)(k):Sm (wrd vs d fl k)/\vR (wrd vs d fl k)=true:=by
 have hl:(wrd vs d fl k).length=vs.length+(if fl=true/\k%2=1 then 1 else 0):=by unfold wrd;rw[F4,aM,wH];split<;>rfl
 have hc:∀c∈(wrd vs d fl k).cps.toList,97<=c/\c<=122:=λc hc=>by
  unfold wrd at hc;rw[qS] at hc;rcases aP.mp hc with z|z
  ·exact KS vs d k c z
  ·split at z
   ·rw[aq.mp z];decide
   ·cases z
 have Tq:1<=(wrd vs d fl k).length/\(wrd vs d fl k).length<=8:=by rw[hl];split<;>lia
 refine⟨⟨by lia,λc h=>by have:=hc c h;lia⟩,?_⟩;unfold vR;rw[Zg Tq.1,Zg Tq.2];simp only[iO,dg];intro c h;have:=hc c h;simp[low];lia
theorem zu(g:Nat->Str->Str):∀(ws:List Str)(k:Nat),(∀j w,w∈ws->e [Za (.int (j:Nat)),Za (.str w)] s=.ok (.str (g j w)) s)->mF mX e [] (qU k (ws.map .str)) s=.ok (((bF ws.length).map λi=>g (k+i) ((ws[i]?).getD cC)).map .str) s
 |[],k,_=>rfl
 |w::r,k,h=>by have ih:=zu g r (k+1) λj w hw=>h j w (ae _ hw);show mF mX e [] (.tup [.int (k:Nat),.str w]::qU (k+1) (r.map .str)) s=_;rw[xS];have h0:=h k w ai;simp only[CS,mX,h0,ih];simp[kG,Function.comp_def,km,kR 1]
def JP{f g:XS}{Z ρ':En}{s s':Sto}(h:f Z s=.nx ρ' s'):xSeq f g Z s=g ρ' s':=by unfold xSeq;rw[h]
def uI{α β:Type}(v:α)(s:Sto)(f:α->Sto->Out β):(Out.ok v s).bind f=f v s:=rfl
def p62:(2:Int)^62=4611686018427387904:=by decide
def lo62(n:Nat):-(2^62)<=(n:Int):=by
 rw[p62];have:(-4611686018427387904:Int)<=n:=by lia
 exact this
def hi62{n:Nat}(hn:n<1000000):(n:Int)<2^62:=by
 rw[p62];have:(n:Int)<4611686018427387904:=by lia
 exact this
def Le{fa:XA}{Z:En}{s s1:Sto}{j:Int}(h:fa Z s=.ok [.int j] s1):xRng1 fa Z s=if -(2^62)<=j/\j<2^62 then Out.ok (uT 0 j.toNat) s1 else Out.bad:=by unfold xRng1;rw[h,uI]
def uU{fa:XA}{Z:En}{s s1:Sto}{n:Nat}(h:fa Z s=.ok [.int n] s1)(hn:n<1000000):xRng1 fa Z s=.ok (uT 0 n) s1:=by rw[Le h,Zc ⟨lo62 n,hi62 hn⟩,Int.toNat_natCast]
def rA{fi:XA}{y:XG}{body:XS}{Z ρ':En}{s s1 s':Sto}{l:List PV}(h1:fi Z s=.ok l s1)(h2:nF (mU y body) l Z s1=.nx ρ' s'):xFor fi y body Z s=.nx ρ' s':=by unfold xFor;rw[h1];simp only[Out.so];rw[h2];rfl
def pF{fi:XA}{ix:List Nat}{c:XT}{e:XE}{Z:En}{s s1 s2:Sto}{l vs:List PV}(h1:fi Z s=.ok l s1)(hl:l.length<=100000)(h2:ny c e (nj ix Z) l s1=.ok vs s2):pf fi ix c e Z s=.ok (.lst vs) s2:=by unfold pf;rw[h1];simp only[Out.bind,hl,if_true];rw[h2]
def CP{f g:XS}{Z:En}{s s':Sto}{v:PV}(h:f Z s=.rt v s'):xSeq f g Z s=.rt v s':=by unfold xSeq;rw[h]
def mf{f:XE}{i:Nat}{Z:En}{s s':Sto}{v:PV}(h:f Z s=.ok v s'):xSet i f Z s=.nx (Z.set i (Za v)) s':=by unfold xSet;rw[h];rfl
def me{f g:XE}{F:PV->PV->Sto->Out PV}{Z:En}{s s1 s2:Sto}{v w:PV}(h1:f Z s=.ok v s1)(h2:g Z s1=.ok w s2):x2 f g F Z s=F v w s2:=by unfold x2;rw[h1];simp only[Out.bind];rw[h2]
def lJ{f:XE}{fa:XA}{Z:En}{s s1 s2:Sto}{v:PV}{vs:List PV}(h1:f Z s=.ok v s1)(h2:fa Z s1=.ok vs s2):xCons f fa Z s=.ok (v::vs) s2:=by unfold xCons;rw[h1];simp only[Out.bind];rw[h2]
def oQ{fa:XA}{Z:En}{s s1:Sto}{vs:List PV}(h1:fa Z s=.ok vs s1)(hl:vs.length<=100000:=by exact dY rfl):xTup fa Z s=.ok (.tup vs) s1:=by unfold xTup;rw[h1];exact Zc hl
def x6{c:XT}{A B:XS}{Z:En}{s s1:Sto}(h:c Z s=.ok false s1):xIf c A B Z s=B Z s1:=by unfold xIf;rw[h];rfl
def qr{f:XE}{fa:XA}{Z:En}{s s1 s2:Sto}{k m:Nat}{D:XF}{pp:List Str}{L:List Ent}{vs:List PV}(h1:f Z s=.ok (.ref k) s1)(h2:s1.get k=Za (.book pp L))(h3:fa Z s1=.ok vs s2)(h4:vs.length+1=m):xBM m D f fa Z s=D (.ref k::vs) s2:=by unfold xBM;rw[h1];simp only[Out.bind,h2];rw[h3];simp only[h4,if_true]
def CU{fa:XA}{Z:En}{s s1:Sto}{vs:List PV}(h1:fa Z s=.ok vs s1)(hl:vs.length<=100000:=by exact dY rfl):xLst fa Z s=.ok (.lst vs) s1:=by unfold xLst;rw[h1];exact Zc hl
def lY{D:XF}{fa:XA}{Z:En}{s s1:Sto}{vs:List PV}{n:Nat}{o:Out PV}(h1:fa Z s=.ok vs s1)(hn:vs.length=n)(h2:D vs s1=o):xCall n D fa Z s=o:=by unfold xCall;rw[h1];simp only[Out.bind];rw[Zc hn];exact h2
def pV{i:Nat}{u:XS}{q:PV}{Z:En}{s:Sto}:mU (yName i) u q Z s=u (Z.set i (Za q)) s:=rfl
def AI{c:XT}{A B:XS}{Z:En}{s s1:Sto}(h:c Z s=.ok true s1):xIf c A B Z s=A Z s1:=by unfold xIf;rw[h];rfl
def vF{f:XE}{Z:En}{s s':Sto}{v:PV}(h:f Z s=.ok v s'):xDo f Z s=.nx Z s':=by unfold xDo;rw[h];rfl
def nr{f:XE}{Z:En}{s s':Sto}{v:PV}(h:f Z s=.ok v s'):xRet f Z s=.rt v s':=by unfold xRet;rw[h];rfl
def ym{fa:XA}{F:List PV->Sto->Out PV}{Z:En}{s s1:Sto}{vs:List PV}(h1:fa Z s=.ok vs s1):xB fa F Z s=F vs s1:=by unfold xB;rw[h1];rfl
def abc:Str:="abcdefghijklmnopqrstuvwxyz"
def DJ(n:Nat):uT 0 n=(bF n).map λk=>PV.int (k:Nat):=by unfold uT;refine aQ λk _=>?_;rw[Int.zero_add]
abbrev nE(p m:Nat)(vs:List Int)(d x:Nat)(u v:Option PV):En:=[Za (.ref p),Za (.int (m:Nat)),Za (.str abc),Za (.int (vs.length:Nat)),Za (.lst (vs.map .int)),Za (.int (d:Nat)),Za (.ref x),u,v]
def Hf(a:Adr)(T:Sto)(p m:Nat)(vs:List Int)(h0:0<vs.length)(h7:vs.length<=7)(d:Nat)(hd:d<vs.length)(ws:List Str)(hw:ws.length<100)(k:Nat)(hk:k<100)(u v:Option PV) :
  mU (yName 7) (nY a) (.int (k:Nat)) (nE p m vs d T.nx u v) (T.add (.lst (ws.map .str))) =
   .nx (nE p m vs d T.nx (Za (.int (k:Nat))) (Za (.lst (((bF vs.length).map (oR vs d k)).map .int)))) (T.add (.lst ((ws++[mkW (wcs vs d k)]).map .str))):=by
 have Ti:(-4611686018427387904:Int)<=(vs.length:Int):=by lia
 have hr2:(vs.length:Int)<(4611686018427387904:Int):=by lia
 have O6:(uT 0 vs.length).length<=100000:=by rw[wo];lia
 have m1:oF 5 (k:Int):=.inr (.inl ⟨by decide,by decide⟩);have m2:∀z:Int,oF z 0:=λz=>.inr (.inr ⟨by decide,by decide⟩);have m3:∀z:Int,oF z 1:=λz=>.inr (.inr ⟨by decide,by decide⟩);have c1:ny mX (x2 (x2 (xVar 1) (xVar 0) fIx) (x2 (x2 (xC (.int 5)) (xVar 2) fMul) (xB (xCons (x2 (xVar 0) (xVar 3) fEq) xNil) fInt) fMul) fAdd) [Za (.lst (vs.map .int)),Za (.int (k:Nat)),Za (.int (d:Nat))] (uT 0 vs.length) (T.add (.lst (ws.map .str)))=.ok (((bF vs.length).map (oR vs d k)).map .int) (T.add (.lst (ws.map .str))):=by
  have:=rW (c:=mX) (e:=x2 (x2 (xVar 1) (xVar 0) fIx) (x2 (x2 (xC (.int 5)) (xVar 2) fMul) (xB (xCons (x2 (xVar 0) (xVar 3) fEq) xNil) fInt) fMul) fAdd) (cap:=[Za (.lst (vs.map .int)),Za (.int (k:Nat)),Za (.int (d:Nat))]) (s:=T.add (.lst (ws.map .str))) (λ_=>true) (λq=>match q with|.int j=>.int (oR vs d k j.toNat)|_=>.non) (uT 0 vs.length) (λ_ _=>rfl) λq hq _=>by
   rw[DJ] at hq;obtain⟨j,hj,rfl⟩:=aj.mp hq;have hj:j<vs.length:=cH.mp hj;have e1:atI (vs.map PV.int) (j:Nat)=Za (.int (z3 vs j)):=mQ (by unfold z3;rw[aD,aw hj];rfl);by_cases hz:j=d
   ·subst hz;simp[sem,sX,ms,sW,e1,m1,m3,oK,rJ,oR]
   ·have Va:((j:Int)==(d:Int))=false:=by simp;lia
    simp[sem,sX,ms,sW,e1,m1,m2,oK,rJ,oR,hz,Va]
  rw[this]
  congr 1
  rw[iJ.mpr (λ_ _=>rfl),DJ,aA,aA];rfl
 have c2:ny mX (x2 (xVar 1) (x2 (xVar 0) (xC (.int 26)) fMod) fIx) [Za (.str abc)] (((bF vs.length).map (oR vs d k)).map .int) (T.add (.lst (ws.map .str)))=.ok (((wcs vs d k).map λc=>(⟨#[c]⟩:Str)).map .str) (T.add (.lst (ws.map .str))):=by
  have:=rW (c:=mX) (e:=x2 (xVar 1) (x2 (xVar 0) (xC (.int 26)) fMod) fIx) (cap:=[Za (.str abc)]) (s:=T.add (.lst (ws.map .str))) (λ_=>true) (λq=>match q with|.int j=>.str ⟨#[97+(j%26).toNat]⟩|_=>.non) (((bF vs.length).map (oR vs d k)).map .int) (λ_ _=>rfl) λq hq _=>by obtain⟨z,_,rfl⟩:=aj.mp hq;have e1:=Oj (dE z (show(26:Int)≠0 by decide)) (cO z (show(0:Int)<26 by decide));simp[sem,sX,ms,sW,abc,e1,Di]
  rw[this]
  congr 1
  rw[iJ.mpr (λ_ _=>rfl),aA,aA,aA];unfold wcs;rw[aA];rfl
 have hj:((((wcs vs d k).map λc=>(⟨#[c]⟩:Str)).map (·.length)).sum+((wcs vs d k).map λc=>(⟨#[c]⟩:Str)).length*(aG "").length)<=16777216:=by
  have e:(aG "").length=0:=rfl;have:=Ij (ys:=(wcs vs d k).map λc=>(⟨#[c]⟩:Str)) λz hz=>by obtain⟨c,_,rfl⟩:=aj.mp hz;exact am _
  rw[ac,wH] at this;rw[e];lia
 have Tp:(((bF vs.length).map (oR vs d k)).map PV.int).length<=100000:=by simp;lia
 have hg:(T.add (.lst (ws.map .str))).get T.nx=Za (.lst (ws.map .str)):=by rw[mE,Zc rfl]
 have Vf:∀c,(T.add (.lst (ws.map .str))).set T.nx c=T.add c:=λc=>yL T _ _;have s1:pf (xRng1 (xCons (xVar 3) xNil)) [4,7,5] mX (x2 (x2 (xVar 1) (xVar 0) fIx) (x2 (x2 (xC (.int 5)) (xVar 2) fMul) (xB (xCons (x2 (xVar 0) (xVar 3) fEq) xNil) fInt) fMul) fAdd) (nE p m vs d T.nx (Za (.int (k:Nat))) (v)) (T.add (.lst (ws.map .str)))=.ok (.lst (((bF vs.length).map (oR vs d k)).map .int)) (T.add (.lst (ws.map .str))):=by
  have er:xRng1 (xCons (xVar 3) xNil) (nE p m vs d T.nx (Za (.int (k:Nat))) (v)) (T.add (.lst (ws.map .str)))=.ok (uT 0 vs.length) (T.add (.lst (ws.map .str))):=by exact uU rfl (by lia)
  exact pF er O6 c1
 refine(pV (i:=7)).trans ?_;unfold nY;refine(JP (mf s1)).trans ?_;have e2:pf (xIter (xVar 8)) [2] mX (x2 (xVar 1) (x2 (xVar 0) (xC (.int 26)) fMod) fIx) (nE p m vs d T.nx (Za (.int (k:Nat))) (Za (.lst (((bF vs.length).map (oR vs d k)).map .int)))) (T.add (.lst (ws.map .str)))=.ok (.lst (((wcs vs d k).map λc=>(⟨#[c]⟩:Str)).map .str)) (T.add (.lst (ws.map .str))):=pF rfl Tp c2;show xDo (xAppend (xVar 6) (xCons (xJoin (xC (.str "")) (xCons (pf (xIter (xVar 8)) [2] mX (x2 (xVar 1) (x2 (xVar 0) (xC (.int 26)) fMod) fIx)) xNil)) xNil)) (nE p m vs d T.nx (Za (.int (k:Nat))) (Za (.lst (((bF vs.length).map (oR vs d k)).map .int)))) (T.add (.lst (ws.map .str)))=_;have e3:xJoin (xC (.str "")) (xCons (pf (xIter (xVar 8)) [2] mX (x2 (xVar 1) (x2 (xVar 0) (xC (.int 26)) fMod) fIx)) xNil) (nE p m vs d T.nx (Za (.int (k:Nat))) (Za (.lst (((bF vs.length).map (oR vs d k)).map .int)))) (T.add (.lst (ws.map .str)))=.ok (.str (mkW (wcs vs d k))) (T.add (.lst (ws.map .str))):=by unfold xJoin;have e4:=lJ (fa:=xNil) e2 rfl;simp only[xC,Out.bind,e4,lsOf,vq];rw[Zc hj,E4]
 refine vF (v:=.non) ?_;have e4:=lJ (fa:=xNil) e3 rfl;unfold xAppend;simp only[xVar,Out.bind,gN,gM,hg,e4,Vf,ac];rw[Zc (show ws.length<100000 by lia)];simp
def lI(h:Z[i]?=Za (Za v)):xVar i Z s=.ok v s:=by unfold xVar;rw[h]
def wP(s)(p)(x y x' y'):(pst s p x y).set p (.lst [.int x',.int y'])=pst s p x' y':=rD _ _ _ _
def uF(a)(hP:IsPurse s p)(x y)(h0:0<n)(h1:Bt 9000 n):∃r x' y',0<=r/\r<n/\lV a [.ref p,.int n] (pst s p x y)=.ok (.int r) (pst s p x' y'):=by obtain⟨r,x',y',r0,r1,e⟩:=qN a (pst s p x y) p n (hP.pst x y) h0 h1;rw[wP] at e;exact⟨r,x',y',r0,r1,e⟩
def uA(hP:IsPurse s p):∃x y,s=pst s p x y:=by obtain⟨x,y,h⟩:=hP;exact⟨x,y,(zG s p _ h).symm⟩
def lT(h:f Z s=.nx ρ' s')(k:g ρ' s'=o):xSeq f g Z s=o:=(JP h).trans k
def mC(h:g (vs.map Za++aR (N-vs.length) Zb) s=.rt v s'):fnD N g vs s=.ok v s':=by unfold fnD;rw[h]
def zQ(h:g (vs.map Za++aR (N-vs.length) Zb) s=.nx Z s'):fnD N g vs s=.ok .non s':=by unfold fnD;rw[h]
def qZ(vs:List Int)(d k:Nat):List Str:=(bF k).map λi=>mkW (wcs vs d i)
def IS(a)(s)(p)(hp:p<s.nx)(hP:IsPurse s p)(m)(hm:m<=10):∃x y vs d fl,0<vs.length/\vs.length<=7/\d<vs.length/\sR a [.ref p,.int (m:Nat)] s=.ok (.lst (((bF m).map (wrd vs d fl)).map .str)) (Sto.bump (pst s p x y)):=by
 obtain⟨xa,y0,es⟩:=uA hP;obtain⟨r,xb,y1,r0,r1,e1⟩:=uF a hP xa y0 (n:=7) (by decide) (oi (by decide) (by decide));rw[<-es] at e1;obtain⟨n,hn,rfl⟩:∃n:Nat,1<=n/\r=(n:Int)-1:=⟨r.toNat+1,by lia,by lia⟩;have Uh:n<=7:=by lia
 obtain⟨pv,t2,hc,vs,xc,y2,rfl,rfl,hvl⟩:=ME (c:=mX) (e:=xCall 2 (lV a) (xCons (xVar 1) (xCons (xC (.int 26)) xNil))) (cap:=[Za (.ref p)]) (uT 0 n)
  (λi pv t=>∃(vs:List Int)(x y:Int),pv=vs.map PV.int/\t=pst s p x y/\vs.length=i)
  (λi q pv t hq hI=>by obtain⟨vs,x,y,rfl,rfl,hl⟩:=hI;obtain⟨b,x',y',_,_,e⟩:=uF a hP x y (n:=26) (by decide) (oi (by decide) (by decide));exact .inr ⟨_,.int b,_,rfl,lY (lJ (lI rfl) (lJ rfl rfl)) rfl e,vs++[b],x',y',by simp,rfl,by simp[hl]⟩)
  (s:=pst s p xb y1) ⟨[],xb,y1,rfl,rfl,rfl⟩
 rw[wo] at hvl;subst hvl;obtain⟨d',xd,y3,d0,d1,e3⟩:=uF a hP xc y2 (n:=(vs.length:Int)) (by lia) (oi (by lia) (by lia));obtain⟨d,rfl⟩:∃d:Nat,d'=d:=⟨d'.toNat,by lia⟩;have hd:d<vs.length:=by lia
 have lp:∃u v,nF (mU (yName 7) (nY a)) (uT 0 m) (nE p m vs d s.nx Zb Zb) ((pst s p xd y3).add (.lst []))=.nx (nE p m vs d s.nx u v) ((pst s p xd y3).add (.lst ((qZ vs d m).map .str))):=by
  obtain⟨ρ',s',hl,u,v,rfl,rfl⟩:=uB (body:=mU (yName 7) (nY a)) m
   (λk Z t=>∃u v,Z=(nE p m vs d s.nx u v)/\t=(pst s p xd y3).add (.lst ((qZ vs d k).map .str)))
   (λk Z t hk hI=>by
    obtain⟨u,v,rfl,rfl⟩:=hI;have:=Hf a (pst s p xd y3) p m vs (by lia) Uh d hd (qZ vs d k) (by simp[qZ];lia) k (by lia) u v;refine⟨_,_,this,_,_,rfl,?_⟩;have:qZ vs d (k+1)=qZ vs d k++[mkW (wcs vs d k)]:=by unfold qZ;rw[List.range_succ,aB];rfl
    rw[this]) (Z:=(nE p m vs d s.nx Zb Zb)) (s:=(pst s p xd y3).add (.lst [])) ⟨Zb,Zb,rfl,rfl⟩
  exact⟨u,v,hl⟩
 obtain⟨u,v,lp⟩:=lp;have hq:IsPurse ((pst s p xd y3).add (.lst ((qZ vs d m).map .str))) p:=(hP.pst xd y3).add _ hp;obtain⟨f,xe,y4,_,_,e4⟩:=qN a _ p 4 hq (by decide) (oi (by decide) (by decide));rw[Lk _ _ _ _ _ _ _ hp] at e4;have hg:((pst s p xe y4).add (.lst ((qZ vs d m).map .str))).get s.nx=Za (.lst ((qZ vs d m).map .str)):=by have:(pst s p xe y4).nx=s.nx:=rfl;rw[mE,Zc this]
 have Rn:((pst s p xe y4).add (.lst ((qZ vs d m).map .str))).del s.nx=Sto.bump (pst s p xe y4):=Mo (pst s p xe y4) _;have head:∀(o:SO),xSeq (xIf (xTr (x2 (xCall 2 (lV a) (xCons (xVar 0) (xCons (xC (.int 4)) xNil))) (xC (.int 0)) fEq)) (xSet 6 (oP (wj (xCons (xFrz (xVar 6)) xNil)) [] mX (x2 (xVar 1) (x2 (xC (.str "x")) (x2 (xVar 0) (xC (.int 2)) fMod) ze) fAdd))) xEnd) (xRet (Er (xVar 6))) (nE p m vs d s.nx u v) ((pst s p xd y3).add (.lst ((qZ vs d m).map .str)))=o->sK a [Za (.ref p),Za (.int (m:Nat)),Zb,Zb,Zb,Zb,Zb,Zb,Zb] s=o:=λo ho=>by
  unfold sK;refine lT (mf rfl) ?_;refine lT (mf (v:=.int (vs.length:Nat)) (s':=pst s p xb y1) ((me rfl (lY (lJ (lI rfl) (lJ rfl rfl)) rfl e1)).trans ?_)) ?_
  ·show Out.ok (PV.int (1+((vs.length:Int)-1))) _=_;rw[show(1:Int)+((vs.length:Int)-1)=(vs.length:Nat) by lia]
  refine lT (mf (pF (uU (n:=vs.length) rfl (by lia)) (by rw[wo];lia) hc)) ?_;refine lT (mf (lY (lJ (lI rfl) (lJ (lI rfl) rfl)) rfl e3)) ?_;refine lT (mf (v:=.ref s.nx) (s':=(pst s p xd y3).add (.lst [])) rfl) ?_;refine lT (rA (uU (n:=m) rfl (by lia)) lp) ?_;exact ho
 have c1:x2 (xCall 2 (lV a) (xCons (xVar 0) (xCons (xC (.int 4)) xNil))) (xC (.int 0)) fEq (nE p m vs d s.nx u v) ((pst s p xd y3).add (.lst ((qZ vs d m).map .str)))=.ok (.bl (f==0)) ((pst s p xe y4).add (.lst ((qZ vs d m).map .str))):=by refine(me (lY (lJ (lI rfl) (lJ rfl rfl)) rfl e4) rfl).trans ?_;show fEqN false _ _ _=_;unfold fEqN;rw[oK,oK];simp[rJ,JB]
 by_cases hf:f=0
 ·refine⟨xe,y4,vs,d,true,by lia,Uh,hd,mC (head _ ?_)⟩;refine lT ((AI (s1:=(pst s p xe y4).add (.lst ((qZ vs d m).map .str))) (by unfold xTr;rw[c1,hf];rfl)).trans (mf (v:=.lst (((bF m).map (wrd vs d true)).map .str)) (s':=Sto.bump (pst s p xe y4)) ?_)) ?_
  ·unfold oP wj;have ef:xCons (xFrz (xVar 6)) xNil (nE p m vs d s.nx u v) ((pst s p xe y4).add (.lst ((qZ vs d m).map .str)))=.ok [.lst ((qZ vs d m).map .str)] (Sto.bump (pst s p xe y4)):=by refine lJ ?_ rfl;unfold xFrz;rw[lI (v:=.ref s.nx) rfl];simp only[Out.bind,frz1,hg,Rn]
   rw[ef];simp only[Out.bind];rw[Zc (by rw[rT,ac];simp[qZ];lia)];have cp:=zu (e:=x2 (xVar 1) (x2 (xC (.str "x")) (x2 (xVar 0) (xC (.int 2)) fMod) ze) fAdd) (s:=Sto.bump (pst s p xe y4)) (λj w=>w++if j%2=1 then aG "x" else cC) (qZ vs d m) 0 λj w hw=>by
    obtain⟨k,_,rfl⟩:=aj.mp hw;have hl:(mkW (wcs vs d k)).length<=7:=by rw[F4,wH];exact Uh
    have Tq:(mkW (wcs vs d k)).length+1<=100000:=by lia
    have R1:(mkW (wcs vs d k)).length<=100000:=by lia
    have lx:(aG "x").length=1:=rfl;have l0:cC.length=0:=rfl;rcases jU j with z|z
    ·have z':(j:Int)%2=0:=by lia
     simp[sem,sX,ms,sW,ze,z,z',l0,R1]
    ·have z':(j:Int)%2=1:=by lia
     simp[sem,sX,ms,sW,ze,z,z',lx,Tq]
   have el:((bF (qZ vs d m).length).map λi=>(((qZ vs d m)[i]?).getD cC)++if(0+i)%2=1 then aG "x" else cC)=(bF m).map (wrd vs d true):=by
    have:(qZ vs d m).length=m:=by simp[qZ]
    rw[this];refine aQ λk hk=>?_;have hk:=cH.mp hk;have:(qZ vs d m)[k]?=Za (mkW (wcs vs d k)):=by unfold qZ;rw[aD,fT hk];rfl
    rw[this,ft];refine Cm ?_;unfold wrd;rw[zT,qS];simp only[Option.getD_some,qS];by_cases hk2:k%2=1
    ·rw[Zc hk2,Zc ⟨trivial,hk2⟩];rfl
    ·rw[Zd hk2,Zd (λz=>hk2 z.2)];rfl
   rw[el] at cp;show((mF mX _ [] _ _).bind _)=_;rw[cp];rfl
  ·refine nr ?_;unfold Er;rw[lI (v:=.lst (((bF m).map (wrd vs d true)).map .str)) rfl];rfl
 ·refine⟨xe,y4,vs,d,false,by lia,Uh,hd,mC (head _ ?_)⟩;refine lT ((x6 (s1:=(pst s p xe y4).add (.lst ((qZ vs d m).map .str))) (by unfold xTr;rw[c1,beq_eq_false_iff_ne.mpr hf];rfl)).trans rfl) ?_;refine nr ?_;unfold Er;rw[lI (v:=.ref s.nx) rfl];simp only[Out.bind,OX,frz1,hg,Rn];have:(bF m).map (wrd vs d false)=qZ vs d m:=aQ λk _=>by unfold wrd;simp
  rw[this]
def xY(l:Hl)(o1 o2:Str)(q:Int×Int):Hl :=
 let r:=nG (l7 l o1) (-q.1,q.2);let l1:=if 0<r.1 then nz (mZ l o1) o1 r else mZ l o1
 nz l1 o2 (nG (l7 l1 o2) q)
structure HM(c:Nat)(hl hm:Hl):Prop where
 r:∃hz,HR c hl hz
 nd:(hm.map (·.1)).Nodup
 q:∀n,l7 hm n=l7 hl n
 mem:∀n,n∈hm.map (·.1)↔n∈hl.map (·.1)
def Ou(c)(ho:Sm o):HM c [(o,1,1)] [(o,1,1)]:=⟨⟨_,Ot c ho⟩,by simp,λ_=>rfl,λ_=>Iff.rfl⟩
def va:n∈(nz l o q).map (·.1)↔n=o\/n∈l.map (·.1):=by
 rw[m9];split
 ·rename_i h;exact⟨.inr,λz=>z.elim (λe=>e▸h) id⟩
 ·rw[aP,aq];exact⟨λz=>z.elim .inr .inl,λz=>z.elim .inr .inl⟩
def mem_drop:n∈(mZ l o).map (·.1)↔n≠o/\n∈l.map (·.1):=by
 unfold mZ;simp only[aj,bK,decide_eq_true_eq];constructor
 ·rintro⟨x,⟨h1,h2⟩,rfl⟩;exact⟨h2,x,h1,rfl⟩
 ·rintro⟨h2,x,h1,rfl⟩;exact⟨x,⟨h1,h2⟩,rfl⟩
theorem HM.sale{c:Nat}{hl hm:Hl}(h:HM c hl hm){o1 o2:Str}{q:Int×Int}(hq:ShOk q)(so:Sm o2)(nt:¬oV hl o1 q):HM (c+1) (sold hl o1 o2 q) (xY hm o1 o2 q):=by
 obtain⟨hz,R⟩:=h.r;have q0:0<q.1:=by by_cases z:0<q.1;exact z;exact absurd (.inl z) nt
 have P8:q.1*(l7 hl o1).2<=(l7 hl o1).1*q.2:=by
  by_cases z:q.1*(l7 hl o1).2>(l7 hl o1).1*q.2
  ·exact absurd (.inr z) nt
  ·lia
 have B:=yF (R.fr o1) hq.low q0 P8 hq.bb;have VT:=h.q o1;generalize hr:nG (l7 hl o1) (-q.1,q.2)=r at B;have e1:∀n,l7 (if 0<r.1 then nz (mZ hm o1) o1 r else mZ hm o1) n=l7 (if r=(0,1) then mZ hl o1 else nz hl o1 r) n:=λn=>by
  by_cases z:0<r.1
  ·have z':r≠(0,1):=λe=>by rw[e] at z;exact absurd z (by decide)
   rw[Zc z,Zd z',mV,mV,pT];by_cases e:n=o1
   ·rw[Zc e,Zc e]
   ·rw[Zd e,Zd e,Zd e,h.q]
  ·have z':r=(0,1):=zP B.low (by have:=B.nn;lia);rw[Zd z,Zc z',pT,pT];by_cases e:n=o1
   ·rw[Zc e,Zc e]
   ·rw[Zd e,Zd e,h.q]
 have QQ:o1∈hl.map (·.1):=by
  refine(R.nm o1).mpr ?_;by_cases z:0<(l7 hl o1).1
  ·exact z
  ·exfalso;have b0:=(R.fr o1).low.1;have b1:=hq.low.1;have n0:=(R.fr o1).nn;have:(l7 hl o1).1=0:=by lia
   rw[this,jf] at P8;have:=bI q0 b0;lia
 have m1:∀n,n∈(if 0<r.1 then nz (mZ hm o1) o1 r else mZ hm o1).map (·.1)↔n∈(if r=(0,1) then mZ hl o1 else nz hl o1 r).map (·.1):=λn=>by
  by_cases z:0<r.1
  ·have z':r≠(0,1):=λe=>by rw[e] at z;exact absurd z (by decide)
   rw[Zc z,Zd z',va,va,mem_drop,h.mem];exact⟨λk=>k.imp id (·.2),λk=>k.elim .inl λk=>if e:n=o1 then .inl e else .inr ⟨e,k⟩⟩
  ·have z':r=(0,1):=zP B.low (by have:=B.nn;lia);rw[Zd z,Zc z',mem_drop,mem_drop,h.mem]
 have em:xY hm o1 o2 q=nz (if 0<r.1 then nz (mZ hm o1) o1 r else mZ hm o1) o2 (nG (l7 (if 0<r.1 then nz (mZ hm o1) o1 r else mZ hm o1) o2) q):=by unfold xY;simp only[VT,hr]
 have es:sold hl o1 o2 q=nz (if r=(0,1) then mZ hl o1 else nz hl o1 r) o2 (nG (l7 (if r=(0,1) then mZ hl o1 else nz hl o1 r) o2) q):=by unfold sold;simp only[hr]
 refine⟨⟨_,R.sale hq so nt⟩,?_,λn=>?_,λn=>?_⟩
 ·rw[em];refine vZ _ _ ?_;split
  ·exact vZ _ _ (Cw _ h.nd)
  ·exact Cw _ h.nd
 ·rw[em,es,mV,mV,e1 o2,e1 n]
 ·rw[em,es,va,va,m1]
theorem HM.srt(h:HM c hl hm):srt (hm.map (·.1))=srt (hl.map (·.1)):=by obtain⟨hz,R⟩:=h.r;refine pJ ?_ (pI _) (pI _);refine(jN ((lZ _).nodup_iff.mpr h.nd) ((lZ _).nodup_iff.mpr R.n1)).mpr λn=>?_;rw[(lZ _).mem_iff,(lZ _).mem_iff,h.mem]
def HM.len(h:HM c hl hm):hm.length=hl.length:=by have:=congrArg cg h.srt;rw[(lZ _).length_eq,(lZ _).length_eq,ac,ac] at this;exact this
def AS(h:k∉l.map (·.1)):qz l k=none:=by unfold qz;rw[gI,ci];intro q hq z;exact h (aj.mpr ⟨q,hq,Zf z⟩)
def hP(l:Hl):List (Key×PV):=l.map λq=>(ag q.1,frP q.2)
def Fw(l)(n)(h:n∈l.map (·.1)):qz (hP l) (ag n)=Za (frP (l7 l n)):=by
 unfold qz hP l7 mD;rw[fc,Option.map_map];have e:((λkv:Key×PV=>decide (kv.1=ag n))∘λq:Str×Int×Int=>((ag q.1:Key),frP q.2))=λq=>decide (q.1=n):=by
  funext q
  show decide ((ag q.1:Key)=ag n)=_;rw[Ar]
 rw[e];cases hf:l.find? (λq=>decide (q.1=n)) with
 |none =>
  exfalso;rw[ci] at hf;obtain⟨q,hq,e⟩:=aj.mp h;exact hf q hq (Zg e)
 |some q=>rfl
def F9(l):(hP l).map (·.1)=l.map λq=>ag q.1:=by unfold hP;rw[aA];rfl
def Ow(l)(n):(qz (hP l) (ag n)).getD (.tup [.int 0,.int 1])=frP (l7 l n):=by
 by_cases h:n∈l.map (·.1)
 ·rw[Fw l n h];rfl
 ·rw[AS,ve h]
  ·rfl
  ·rw[F9];intro z;obtain⟨q,hq,e⟩:=aj.mp z;cases e;exact h (aj.mpr ⟨q,hq,rfl⟩)
def Ka(l)(n)(q):yO (hP l) (ag n) (frP q)=hP (nz l n q):=by
 unfold yO nz hP;rw[gX];have e:((λkv:Key×PV=>decide (kv.1=ag n))∘λq:Str×Int×Int=>((ag q.1:Key),frP q.2))=λq=>decide (q.1=n):=by
  funext q
  show decide ((ag q.1:Key)=ag n)=_;rw[Ar]
 rw[e];split
 ·rw[aA,aA];refine aQ λz _=>?_;show(if(ag z.1:Key)=ag n then((ag z.1:Key),frP q) else(ag z.1,frP z.2))=_;by_cases hz:z.1=n
  ·simp[hz]
  ·simp[hz]
 ·simp
def wx(pp)(w):oH pp w=true↔w∈pp:=by
 unfold oH;rw[i7];constructor
 ·rintro⟨x,hx,e⟩
  have:=Zf e;subst this;exact hx
 ·intro h;exact⟨w,h,Zg rfl⟩
def pS(L)(w):mv L w=true↔w∈L.map (·.nm):=by
 unfold mv mI;rw[i7];constructor
 ·rintro⟨x,hx,e⟩
  exact aj.mpr ⟨x,hx,Zf e⟩
 ·intro h;obtain⟨x,hx,e⟩:=aj.mp h;exact⟨x,hx,Zg e⟩
def Bf(a)(h1:vR w=true)(h2:w∉pp)(h3:w∉L.map (·.nm)):rF a pp L w=none:=by
 unfold rF;have e1:oH pp w=false:=by rw[gA];exact λz=>h2 ((wx _ _).mp z)
 have e2:mv L w=false:=by rw[gA];exact λz=>h3 ((pS _ _).mp z)
 rw[Zd (by rw[h1];decide),e1,e2];rfl
def Ej{ws:List Str}{r:Int}(h0:0<=r)(h1:r<ws.length):∃w∈ws,atI (ws.map PV.str) r=Za (.str w):=by
 obtain⟨j,rfl⟩:∃j:Nat,r=j:=⟨r.toNat,by lia⟩;have hj:j<ws.length:=by lia
 exact⟨ws[j],b5 hj,mQ (by simp[hj])⟩
def wA(hn:e.nm∉A.map (·.nm)):mI (A++e::B) e.nm=Za e:=by
 unfold mI;rw[i8,ci.mpr]
 ·simp
 ·intro x hx z;exact hn (aj.mpr ⟨x,hx,Zf z⟩)
def GL(g)(h1:e.nm∉A.map (·.nm))(h2:e.nm∉B.map (·.nm)):mW (A++e::B) e.nm g=A++g e::B:=by
 have no:∀{l:List Ent},e.nm∉l.map (·.nm)->l.map (λx=>if x.nm=e.nm then g x else x)=l:=λ{l} h=>by
  conv=>rhs;rw[<-jo l]
  refine aQ λx hx=>?_;rw[Zd λz=>h (aj.mpr ⟨x,hx,z⟩)];rfl
 unfold mW;rw[aB,ao,Zc rfl,no h1,no h2]
def Ma(l)(n):C0 (hP l) (ag n)=hP (mZ l n):=by
 unfold C0 hP mZ;rw[fN]
 congr 1
 refine List.filter_congr λx _=>?_;simp[Function.comp]
def Ov(l):(hP l).length=l.length:=by unfold hP;rw[ac]
theorem Cz:∀(l:List (Key×PV))(ss:List Str),l.map (·.1)=ss.map ag->keysOf l=Za ss
 |[],[],_=>rfl
 |(k,v)::r,s::ss,h=>by have h1:k=ag s:=(eg h).1;have h2:=Cz r ss (eg h).2;subst h1;simp[keysOf,h2]
def LY(l):keysOf (hP l)=Za (l.map (·.1)):=Cz _ _ (by rw[F9,aA];rfl)
structure Md where
 nm:Str
 cell:Nat
 hl:Hl
 th:Int
 mr:Int
 ls:Int
def mdP(e:Md):Key×PV:=(ag e.nm,.lst [.ref e.cell,.tup [.int e.th,.int e.mr,.int e.ls]])
def F7(M:List Md):keysOf (M.map mdP)=Za (M.map (·.nm)):=Cz _ _ (by rw[aA,aA];rfl)
structure MRel(N:List Str)(c:Nat)(e:Ent)(m:Md):Prop where
 nm:e.nm=m.nm
 th:e.th=m.th
 mr:e.mr=m.mr
 ls:e.ls=m.ls
 hm:HM c e.held m.hl
 ow:∀n∈m.hl.map (·.1),n∈N
 tb:Bt 100 e.th/\Bt 100 e.mr/\Bt 100 e.ls
inductive Prs (N:List Str):Nat->List Ent->List Md->Prop
 |nil {c:Nat}:Prs N c [] []
 |cons {c1 c2 c:Nat}{e:Ent}{m:Md}{L:List Ent}{M:List Md}:MRel N c1 e m->Prs N c2 L M->c1+c2<=c->Prs N c (e::L) (m::M)
def Prs.mono(hc:c<=d):∀{L:List Ent}{M:List Md},Prs N c L M->Prs N d L M
 |_,_,.nil=>.nil
 |_,_,.cons h r k=>.cons h r (aI k hc)
theorem Prs.names:∀{c:Nat}{L:List Ent}{M:List Md},Prs N c L M->L.map (·.nm)=M.map (·.nm)
 |_,_,_,.nil=>rfl
 |_,_,_,.cons h r _=>by rw[ao,ao,h.nm,r.names]
theorem Prs.app:∀{c:Nat}{L L':List Ent}{M M':List Md},Prs N c L M->Prs N d L' M'->Prs N (c+d) (L++L') (M++M')
 |_,_,_,_,_,.nil,k=>k.mono (Nat.le_add_left _ _)
 |_,_,_,_,_,.cons h r q,k=>.cons h (r.app k) (by lia)
theorem Prs.cut:∀{c:Nat}{L:List Ent}{M:List Md},Prs N c L M->∀{h:Str},h∈M.map (·.nm)->∃A e B A' m B' k1 k2 k3,L=A++e::B/\M=A'++m::B'/\m.nm=h/\h∉A'.map (·.nm)/\Prs N k1 A A'/\MRel N k2 e m/\Prs N k3 B B'/\k1+k2+k3<=c
 |_,_,_,.nil,_,hh=>nomatch hh
 |c,e::L,m::M,.cons (c1:=c1) (c2:=c2) k r q,h,hh=>by
  by_cases z:m.nm=h
  ·exact⟨[],e,L,[],m,M,0,c1,c2,rfl,rfl,z,by simp,.nil,k,r,by lia⟩
  ·have Q5:h∈M.map (·.nm):=(af.mp hh).elim (λq=>absurd q.symm z) id;obtain⟨A,e',B,A',m',B',k1,k2,k3,e1,e2,e3,e4,e5,e6,e7,e8⟩:=r.cut Q5;refine⟨e::A,e',B,m::A',m',B',c1+k1,k2,k3,by rw[e1];rfl,by rw[e2];rfl,e3,λq=>?_,.cons k e5 (am _),e6,e7,by lia⟩;rcases af.mp q with q|q
   ·exact z q.symm
   ·exact e4 q
structure Wst(t:Sto)(p nb nd:Nat)(N:List Str)(c:Nat)(pp:List Str)(L:List Ent)(M:List Md):Prop where
 pu:IsPurse t p
 bk:t.get nb=Za (.book pp L)
 md:t.get nd=Za (.dct (M.map mdP))
 sh:∀m∈M,t.get m.cell=Za (.dct (hP m.hl))
 i1:p≠nb
 i2:p≠nd
 i3:nb≠nd
 i4:∀m∈M,m.cell≠p/\m.cell≠nb/\m.cell≠nd
 i5:(M.map (·.cell)).Nodup
 lt:p<t.nx/\nb<t.nx/\nd<t.nx/\∀m∈M,m.cell<t.nx
 pr:Prs N c L M
theorem Wst.pst(W:Wst t p nb nd N c pp L M)(x y):Wst (pst t p x y) p nb nd N c pp L M :=
 ⟨W.pu.pst x y,by rw[<-W.bk];exact lS _ _ (bX W.i1),by rw[<-W.md];exact lS _ _ (bX W.i2),λm hm=>by rw[<-W.sh m hm];exact lS _ _ (W.i4 m hm).1,W.i1,W.i2,W.i3,W.i4,W.i5,W.lt,W.pr⟩
theorem Wst.mono(W:Wst t p nb nd N c pp L M)(hc:c<=d):Wst t p nb nd N d pp L M :=
 ⟨W.pu,W.bk,W.md,W.sh,W.i1,W.i2,W.i3,W.i4,W.i5,W.lt,W.pr.mono hc⟩
def Wst.sale(W:Wst t p nb nd N c pp (A++e::B) (A'++m::B'))(c1:Prs N k1 A A')(c2:MRel N k2 e m)(c3:Prs N k3 B B')(ck:k1+k2+k3<=c)(h:HM (k2+1) Tr Rx)(ow:∀n∈Rx.map (·.1),n∈N):Wst ((t.set nb (.book pp (A++{ e with held:=Tr }::B))).set m.cell (.dct (hP Rx))) p nb nd N (c+1) pp (A++{ e with held:=Tr }::B) (A'++{ m with hl:=Rx }::B'):=by
 have hm:=W.i4 m (aH _ ai);have UX:=W.i5;rw[aB,ao] at UX;obtain⟨nA,nB,nX⟩:=bN.mp UX;obtain⟨nm,nB⟩:=ar.mp nB;have QP:∀m'∈A'++B',m'.cell≠m.cell/\m'∈A'++m::B':=λm' h'=>by
  rcases aP.mp h' with z|z
  ·exact⟨λq=>nX _ (aj.mpr ⟨m',z,rfl⟩) _ ai q,bU _ z⟩
  ·exact⟨λq=>nm (q▸aj.mpr ⟨m',z,rfl⟩),aH _ (ae _ z)⟩
 have g1:(t.set nb (.book pp (A++{ e with held:=Tr }::B))).get m.cell=Za (.dct (hP m.hl)):=by rw[lS _ _ hm.2.1];exact W.sh m (aH _ ai)
 refine⟨?_,?_,?_,λm' h'=>?_,W.i1,W.i2,W.i3,λm' h'=>?_,?_,⟨W.lt.1,W.lt.2.1,W.lt.2.2.1,λm' h'=>?_⟩,Prs.mono (c:=k1+(k2+1+k3)) (by lia) (c1.app (.cons (c1:=k2+1) ⟨c2.nm,c2.th,c2.mr,c2.ls,h,ow,c2.tb⟩ c3 (am _)))⟩
 ·obtain⟨x,y,e⟩:=W.pu;exact⟨x,y,by rw[lS _ _ (bX hm.1),lS _ _ W.i1];exact e⟩
 ·rw[lS _ _ (bX hm.2.1)];exact nT W.bk
 ·rw[lS _ _ (bX hm.2.2),lS _ _ (bX W.i3),W.md];simp[mdP]
 ·rcases aP.mp h' with z|z
  ·obtain⟨q1,q2⟩:=QP m' (bU _ z);rw[lS _ _ q1,lS _ _ (W.i4 m' q2).2.1];exact W.sh m' q2
  ·rcases af.mp z with z|z
   ·subst z;exact nT g1
   ·obtain⟨q1,q2⟩:=QP m' (aH _ z);rw[lS _ _ q1,lS _ _ (W.i4 m' q2).2.1];exact W.sh m' q2
 ·rcases aP.mp h' with z|z
  ·exact W.i4 m' (bU _ z)
  ·rcases af.mp z with z|z
   ·subst z;exact hm
   ·exact W.i4 m' (aH _ (ae _ z))
 ·rw[aB,ao];exact UX
 ·rcases aP.mp h' with z|z
  ·exact W.lt.2.2.2 m' (bU _ z)
  ·rcases af.mp z with z|z
   ·subst z;exact W.lt.2.2.2 m (aH _ ai)
   ·exact W.lt.2.2.2 m' (aH _ (ae _ z))
def Lc(a)(hb:t.get nb=Za (.book pp (A++e::B)))(nd:((A++e::B).map (·.nm)).Nodup)(hn:Nm e.nm/\Nm o1/\Nm o2)(hz:Sz q)(ok:SaleOk e.held o1 q)(h1:(oH pp o1||mv (A++e::B) o1)=true)(h2:(oH pp o2||mv (A++e::B) o2)=true)(nt:¬oV e.held o1 q) :
  wg a [.ref nb,.str e.nm,.str o1,.str o2,frP q] t=.ok .non (t.set nb (.book pp (A++{ e with held:=sold e.held o1 o2 q }::B))):=by
 rw[aB,ao] at nd;have n1:e.nm∉A.map (·.nm):=λz=>(bN.mp nd).2.2 _ z _ ai rfl;have n2:e.nm∉B.map (·.nm):=(ar.mp (bN.mp nd).2.1).1;have hS:SaleE (A++e::B) e.nm o1 o2 q:=⟨by rw[aB,ao];exact nd,hn,hz,λe' he=>by rw[wA n1] at he;cases he;exact ok⟩;obtain⟨x,y⟩:=q;simp[wg,mM,hb,hS,wA n1,nt,frP,GL _ n1 n2];rw[dA] at h1 h2;rw[Zd (by intro z;rcases h1 with h|h<;>simp_all),Zd (by intro z;rcases h2 with h|h<;>simp_all)]
def vt(h:t.get n=Za (.dct l))(hk:keysOf l=Za ss)(hl:ss.length<64):ms [.ref n] t=.ok (.lst ((srt ss).map .str)) t:=by simp[ms,lsOf,dcOf,h,hk,hl]
def yi{t:Sto}{ws:List Str}{r:Int}{w:Str}(h:atI (ws.map PV.str) r=Za (.str w)):fIx (.lst (ws.map .str)) (.int r) t=.ok (.str w) t:=by simp[fIx,lsOf,h]
def LW:fLen [.lst l] t=.ok (.int (l.length:Nat)) t:=by simp[fLen,lsOf]
def Fs(h:t.get n=Za (.dct l))(hv:qz l (ag w)=Za v):fIx (.ref n) (.str w) t=.ok v t:=by simp[fIx,lsOf,dcOf,h,kyOf,hv]
def J6(h:m.nm∉A'.map (·.nm)):qz ((A'++m::B').map mdP) (ag m.nm)=Za (.lst [.ref m.cell,.tup [.int m.th,.int m.mr,.int m.ls]]):=by
 unfold qz;rw[aB,i8];have:(A'.map mdP).find? (λkv=>decide (kv.1=ag m.nm))=none:=by rw[ci];intro x hx;obtain⟨m',h',rfl⟩:=aj.mp hx;intro z;have z:(ag m'.nm:Key)=ag m.nm:=Zf z;exact h (du z▸aj.mpr ⟨m',h',rfl⟩)
 rw[this];simp[mdP]
theorem HM.fr(h:HM c hl hm)(n):FrC c (l7 hm n):=by obtain⟨z,R⟩:=h.r;rw[h.q];exact R.fr n
def HM.pos(h:HM c hl hm)(hn:n∈hm.map (·.1)):0<(l7 hm n).1:=by obtain⟨z,R⟩:=h.r;rw[h.q];exact(R.nm n).mp ((h.mem n).mp hn)
def Lv(hc:c<=40)(hg:FrC c g)(h:PartOf g q)(hb:q.2<10^29):ShOk q:=by
 have b0:=h.low.1;have hq:=FZ hg h.low h.le;have b97:Bt 97 q.2:=by
  show q.2.natAbs<2^97;have:(2:Nat)^97=158456325028528675187087900672:=by decide
  rw[this];lia
 refine⟨h.low,?_,b97⟩;have h2:Bt 200 (((2^c:Nat):Int)*q.2):=((show Bt (c+1) ((2^c:Nat):Int) from by show((2^c:Nat):Int).natAbs<2^(c+1);rw[gn];exact iC (by decide) (by lia)).mul b97).mono (by lia)
 show q.1.natAbs<2^200;have h3:(((2^c:Nat):Int)*q.2).natAbs<2^200:=h2;have:=h.pos;generalize (2:Nat)^200=Zj at *;generalize ((2^c:Nat):Int)*q.2=Y at *;lia
def Wst.draw'(W:Wst t p nb nd N c pp L M)(a)(x y)(h0:0<n)(h1:Bt 9000 n):∃r x' y',0<=r/\r<n/\lV a [.ref p,.int n] (My.pst t p x y)=.ok (.int r) (My.pst t p x' y'):=by obtain⟨r,x',y',r0,r1,e⟩:=qN a (My.pst t p x y) p n (W.pst x y).pu h0 h1;rw[wP] at e;exact⟨r,x',y',r0,r1,e⟩
def Nq(h:f Z s=.ok (.tup [v,w]) s'):xAsg f (yTup 2 (yCons (yName i) (yCons (yName j) yNil))) Z s=.nx ((Z.set i (Za v)).set j (Za w)) s':=by unfold xAsg;rw[h];rfl
def Cr(h1:fv Z s=.ok v s1)(h2:fo Z s1=.ok (.ref n) s1)(h3:fi Z s1=.ok (.str w) s1)(hg:s1.get n=Za (.dct l))(hl:l.length<100000):xPut fo fi fv Z s=.nx Z (s1.set n (.dct (yO l (ag w) v))):=by unfold xPut;rw[h1];simp only[Out.so];rw[h2];simp only;rw[h3];simp[sW,hg,kyOf,hl]
def IW(a)(s)(hg:Low g)(hq:Low q)(bg:Bt 8800 g.2)(bq:Bt 100 q.2):mL a [.int (g.1*q.2-q.1*g.2),.int (g.2*q.2)] s=.ok (frP (nG g (-q.1,q.2))) s:=by have e:=wT a s (g.1*q.2-q.1*g.2) (g.2*q.2) (bI hg.1 hq.1) ((bg.mul bq).mono (by decide));rw[e];unfold nG;rw[show g.1*(-q.1,q.2).2+(-q.1,q.2).1*g.2=g.1*q.2-q.1*g.2 by show g.1*q.2+-q.1*g.2=_;rw[iD];rfl]
def IX(a)(s)(hg:Low g)(hq:Low q)(bg:Bt 8800 g.2)(bq:Bt 100 q.2):mL a [.int (g.1*q.2+q.1*g.2),.int (g.2*q.2)] s=.ok (frP (nG g q)) s :=
 wT a s (g.1*q.2+q.1*g.2) (g.2*q.2) (bI hg.1 hq.1) ((bg.mul bq).mono (by decide))
def ix0:fIx (frP q) (.int 0) t=.ok (.int q.1) t:=by simp[fIx,frP,atI,ixN]
def ix1:fIx (frP q) (.int 1) t=.ok (.int q.2) t:=by simp[fIx,frP,atI,ixN]
def oS(h1:f Z s=.ok (.int i) s1)(h2:g Z s1=.ok (.int j) s2)(hm:oF i j):x2 f g fMul Z s=.ok (.int (i*j)) s2:=by rw[me h1 h2];simp[fMul,hm]
def JK(h1:f Z s=.ok (.int i) s1)(h2:g Z s1=.ok (.int j) s2):x2 f g fSub Z s=.ok (.int (i-j)) s2:=by rw[me h1 h2];rfl
def vk(h1:f Z s=.ok (.int i) s1)(h2:g Z s1=.ok (.int j) s2):x2 f g fAdd Z s=.ok (.int (i+j)) s2:=by rw[me h1 h2];rfl
def Ox(h1:f Z s=.ok (.ref n) s)(hg:s.get n=Za (.dct l))(h2:g Z s=.ok (.str w) s)(h3:h Z s=.ok z s):xGet f g h Z s=.ok ((qz l (ag w)).getD z) s:=by unfold xGet;rw[h1];simp[Out.bind,dcOf,hg,h2,h3,kyOf]
def Mm(h1:f Z s=.ok (.ref n) s)(hg:s.get n=Za (.dct l))(h2:g Z s=.ok (.str w) s)(hv:qz l (ag w)=Za v):Es f g Z s=.ok v (s.set n (.dct (C0 l (ag w)))):=by unfold Es;rw[h1];simp[Out.bind,hg,h2,kyOf,hv]
def Hg(h1:o1∈l.map (·.1))(h:n∈(xY l o1 o2 q).map (·.1)):n∈l.map (·.1)\/n=o2:=by
 unfold xY at h;simp only at h;rw[va] at h;rcases h with h|h
 ·exact .inr h
 ·refine .inl ?_;split at h
  ·rw[va] at h;rcases h with h|h
   ·rw[h];exact h1
   ·exact(mem_drop.mp h).2
  ·exact(mem_drop.mp h).2
def JL(h:l≠[]):0<(srt l).length:=by rw[(lZ l).length_eq];exact fS.mpr h
def OW(a:Adr){t:Sto}{p nb nd:Nat}{N:List Str}{c:Nat}{pp:List Str}{L:List Ent}{M:List Md}(W:Wst t p nb nd N c pp L M)(x y:Int){ws:List Str}(h0:0<ws.length)(hl:ws.length<1000){i:Nat}{Z:En}(hp:Z[0]?=Za (Za (.ref p)))(hi:Z[i]?=Za (Za (.lst (ws.map .str)))) :
  ∃w x' y',w∈ws/\x2 (xVar i) (xCall 2 (lV a) (xCons (xVar 0) (xCons (xB (xCons (xVar i) xNil) fLen) xNil))) fIx Z (pst t p x y)=.ok (.str w) (pst t p x' y'):=by
 obtain⟨r,x',y',r0,r1,e⟩:=W.draw' a x y (n:=(ws.length:Nat)) (by lia) (oi (by lia) (by lia));obtain⟨w,hw,QE⟩:=Ej r0 r1;refine⟨w,x',y',hw,?_⟩;have e2:xB (xCons (xVar i) xNil) fLen Z (pst t p x y)=.ok (.int (ws.length:Nat)) (pst t p x y):=by rw[ym (lJ (lI hi) rfl),LW,ac]
 exact(me (lI hi) (lY (lJ (lI hp) (lJ e2 rfl)) rfl e)).trans (yi QE)
abbrev sE(p nd:Nat)(N:List Str)(nb:Nat)(r:En):En:=Za (.ref p)::Za (.ref nd)::Za (.lst (N.map .str))::Za (.ref nb)::r
def K5(a:Adr){t:Sto}{p nb nd:Nat}{N:List Str}{c:Nat}{pp:List Str}{L:List Ent}{M:List Md}(W:Wst t p nb nd N c pp L M)(hc:c<=40)(hM:M≠[])(hnd:(L.map (·.nm)).Nodup)(Up:∀n∈N,Sm n)(hLN:∀n∈L.map (·.nm),n∈N)(hN1:∀n∈N,(oH pp n||mv L n)=true)(hN0:N≠[])(hNl:N.length<64)(hL8:L.length<=8) :
  ∃t' L' M',qX a [.ref p,.ref nd,.lst (N.map .str),.ref nb] t=.ok .non t'/\Wst t' p nb nd N (c+1) pp L' M'/\L'.map (·.nm)=L.map (·.nm)/\M'.map (·.cell)=M.map (·.cell)/\t'.nx=t.nx/\∀k,k≠p->k≠nb->k∉M.map (·.cell)->t'.get k=t.get k:=by
 have hml:M.length=L.length:=by have:=congrArg cg W.pr.names;simpa using this.symm
 obtain⟨x0,y0,et⟩:=uA W.pu;have s1:ms [.ref nd] t=.ok (.lst ((srt (M.map (·.nm))).map .str)) t:=vt W.md (F7 M) (by rw[ac];lia);obtain⟨h,xa,ya,hh,eh⟩:=OW a W x0 y0 (ws:=srt (M.map (·.nm))) (JL (by simpa using hM)) (by rw[(lZ _).length_eq,ac];lia) (i:=4) (Z:=(sE p nd N nb [Za (.lst ((srt (M.map (·.nm))).map .str)),Zb,Zb,Zb,Zb,Zb,Zb,Zb,Zb,Zb])) rfl rfl;rw[<-et] at eh;have hh:=(lZ _).mem_iff.mp hh;obtain⟨A,e,B,A',m,B',k1,kk,k3,rfl,rfl,rfl,hA,c1,c2,c3,ck⟩:=W.pr.cut hh;have hck:kk<=40:=by lia
 have Vm:m∈A'++m::B':=aH _ ai;obtain⟨i4a,i4b,i4c⟩:=W.i4 m Vm;have g0:∀x y,(pst t p x y).get m.cell=Za (.dct (hP m.hl)):=λx y=>(W.pst x y).sh m Vm;have gd:∀x y,(pst t p x y).get nd=Za (.dct ((A'++m::B').map mdP)):=λx y=>(W.pst x y).md;have gb:∀x y,(pst t p x y).get nb=Za (.book pp (A++e::B)):=λx y=>(W.pst x y).bk;obtain⟨hz,R⟩:=c2.hm.r;have O6:m.hl.length<=45:=by rw[c2.hm.len];exact aI R.l1 (by lia)
 have Po:m.hl.map (·.1)≠[]:=by obtain⟨n,hn⟩:=R.ex;exact lF ((c2.hm.mem n).mpr ((R.nm n).mpr hn))
 have s2:∀x y,ms [.ref m.cell] (pst t p x y)=.ok (.lst ((srt (m.hl.map (·.1))).map .str)) (pst t p x y):=λx y=>vt (g0 x y) (LY m.hl) (by rw[ac];lia);obtain⟨o1,xb,yb,ho,eo⟩:=OW a W xa ya (ws:=srt (m.hl.map (·.1))) (JL Po) (by rw[(lZ _).length_eq,ac];lia) (i:=7) (Z:=(sE p nd N nb [Za (.lst ((srt ((A'++m::B').map (·.nm))).map .str)),Za (.str m.nm),Za (.ref m.cell),Za (.lst ((srt (m.hl.map (·.1))).map .str)),Zb,Zb,Zb,Zb,Zb,Zb])) rfl rfl;have ho:=(lZ _).mem_iff.mp ho;obtain⟨o2,xc,yc,Ri,eo2⟩:=OW a W xb yb (ws:=N) (fS.mpr hN0) (by lia) (i:=2) (Z:=(sE p nd N nb [Za (.lst ((srt ((A'++m::B').map (·.nm))).map .str)),Za (.str m.nm),Za (.ref m.cell),Za (.lst ((srt (m.hl.map (·.1))).map .str)),Za (.str o1),Zb,Zb,Zb,Zb,Zb])) rfl rfl;have F1:=c2.hm.fr o1;have p0:=c2.hm.pos ho;obtain⟨q,xd,yd,hq,ep⟩:=Lw a (pst t p xc yc) p (W.pst xc yc).pu (l7 m.hl o1) F1.low p0 (F1.bb.mono (by lia));rw[wP] at ep;have v1:∀x y,fIx (.ref m.cell) (.str o1) (pst t p x y)=.ok (frP (l7 m.hl o1)) (pst t p x y):=λx y=>Fs (g0 x y) (Fw m.hl o1 ho);have v0:∀x y,fIx (.ref nd) (.str m.nm) (pst t p x y)=.ok (.lst [.ref m.cell,.tup [.int m.th,.int m.mr,.int m.ls]]) (pst t p x y):=λx y=>Fs (gd x y) (J6 hA);have head:∀(o:SO),xSeq (xIf (xTr (x2 (x2 (xVar 10) (xC (.int 1)) fIx) (x2 (xC (.int 10)) (xC (.int 29)) fPow) fGe)) xRetN xEnd) (xSeq (xDo (xBM 5 (wg a) (xVar 3) (xCons (xVar 5) (xCons (xVar 8) (xCons (xVar 9) (xCons (xVar 10) xNil)))))) (xSeq (xAsg (Es (xVar 6) (xVar 8)) (yTup 2 (yCons (yName 11) (yCons (yName 12) yNil)))) (xSeq (xSet 13 (xCall 2 (mL a) (xCons (x2 (x2 (xVar 11) (x2 (xVar 10) (xC (.int 1)) fIx) fMul) (x2 (x2 (xVar 10) (xC (.int 0)) fIx) (xVar 12) fMul) fSub) (xCons (x2 (xVar 12) (x2 (xVar 10) (xC (.int 1)) fIx) fMul) xNil)))) (xSeq (xIf (xTr (x2 (x2 (xVar 13) (xC (.int 0)) fIx) (xC (.int 0)) fGt)) (xPut (xVar 6) (xVar 8) (xVar 13)) xEnd) (xSeq (xAsg (xGet (xVar 6) (xVar 9) (xTup (xCons (xC (.int 0)) (xCons (xC (.int 1)) xNil)))) (yTup 2 (yCons (yName 11) (yCons (yName 12) yNil)))) (xPut (xVar 6) (xVar 9) (xCall 2 (mL a) (xCons (x2 (x2 (xVar 11) (x2 (xVar 10) (xC (.int 1)) fIx) fMul) (x2 (x2 (xVar 10) (xC (.int 0)) fIx) (xVar 12) fMul) fAdd) (xCons (x2 (xVar 12) (x2 (xVar 10) (xC (.int 1)) fIx) fMul) xNil)))))))))
   (sE p nd N nb [Za (.lst ((srt ((A'++m::B').map (·.nm))).map .str)),Za (.str m.nm),Za (.ref m.cell),Za (.lst ((srt (m.hl.map (·.1))).map .str)),Za (.str o1),Za (.str o2),Za (frP q),Zb,Zb,Zb]) (pst t p xd yd)=o ->
   uj a (sE p nd N nb [Zb,Zb,Zb,Zb,Zb,Zb,Zb,Zb,Zb,Zb]) t=o:=λo ho=>by
  unfold uj;refine lT (mf ((ym (lJ (lI rfl) rfl)).trans s1)) ?_;refine lT (mf eh) ?_;refine lT (mf (v:=.ref m.cell) (s':=pst t p xa ya) ((me ((me (lI rfl) (lI rfl)).trans (v0 xa ya)) rfl).trans rfl)) ?_;refine lT (mf ((ym (lJ (lI rfl) rfl)).trans (s2 xa ya))) ?_;refine lT (mf eo) ?_;refine lT (mf eo2) ?_;refine lT (mf (lY (lJ (lI rfl) (lJ ((me (lI rfl) (lI rfl)).trans (v1 xc yc)) rfl)) rfl ep)) ?_;exact ho
 have pw:∀(Z:En)(s:Sto),x2 (xC (.int 10)) (xC (.int 29)) fPow Z s=.ok (.int (10^29)) s:=λZ s=>by simp[x2,xC,fPow,Out.bind]
 generalize hρ:(sE p nd N nb [Za (.lst ((srt ((A'++m::B').map (·.nm))).map .str)),Za (.str m.nm),Za (.ref m.cell),Za (.lst ((srt (m.hl.map (·.1))).map .str)),Za (.str o1),Za (.str o2),Za (frP q)])=ρ1 at *;have Rw:∀u v w,(sE p nd N nb [Za (.lst ((srt ((A'++m::B').map (·.nm))).map .str)),Za (.str m.nm),Za (.ref m.cell),Za (.lst ((srt (m.hl.map (·.1))).map .str)),Za (.str o1),Za (.str o2),Za (frP q),u,v,w])=ρ1++[u,v,w]:=λu v w=>by rw[<-hρ];rfl
 rw[Rw] at head;have r3:∀u v w,(ρ1++[u,v,w])[3]?=Za (Za (.ref nb)):=λu v w=>by rw[<-hρ];rfl
 have r5:∀u v w,(ρ1++[u,v,w])[5]?=Za (Za (.str m.nm)):=λu v w=>by rw[<-hρ];rfl
 have r6:∀u v w,(ρ1++[u,v,w])[6]?=Za (Za (.ref m.cell)):=λu v w=>by rw[<-hρ];rfl
 have r8:∀u v w,(ρ1++[u,v,w])[8]?=Za (Za (.str o1)):=λu v w=>by rw[<-hρ];rfl
 have r9:∀u v w,(ρ1++[u,v,w])[9]?=Za (Za (.str o2)):=λu v w=>by rw[<-hρ];rfl
 have Rt:∀u v w,(ρ1++[u,v,w])[10]?=Za (Za (frP q)):=λu v w=>by rw[<-hρ];rfl
 have SQ:∀u v w,(ρ1++[u,v,w])[11]?=Za u:=λu v w=>by rw[<-hρ];rfl
 have So:∀u v w,(ρ1++[u,v,w])[12]?=Za v:=λu v w=>by rw[<-hρ];rfl
 have TZ:∀u v w,(ρ1++[u,v,w])[13]?=Za w:=λu v w=>by rw[<-hρ];rfl
 have st:∀u v w u' v',((ρ1++[u,v,w]).set 11 u').set 12 v'=ρ1++[u',v',w]:=λu v w u' v'=>by rw[<-hρ];rfl
 have UM:∀u v w w',(ρ1++[u,v,w]).set 13 w'=ρ1++[u,v,w']:=λu v w w'=>by rw[<-hρ];rfl
 clear Rw;have cond:∀s,x2 (x2 (xVar 10) (xC (.int 1)) fIx) (x2 (xC (.int 10)) (xC (.int 29)) fPow) fGe (ρ1++[Zb,Zb,Zb]) s=.ok (.bl (decide ((10:Int)^29<=q.2))) s:=λs=>(me ((me (lI (Rt _ _ _)) rfl).trans ix1) (pw _ _)).trans rfl;by_cases hb:(10:Int)^29<=q.2
 ·refine⟨pst t p xd yd,_,_,mC (head _ (CP ((AI (s1:=pst t p xd yd) (by unfold xTr;rw[cond,Zg hb];rfl)).trans rfl))),(W.pst xd yd).mono (fL _),rfl,rfl,rfl,λk k1 _ _=>lS _ _ k1⟩
 have Qa:ShOk q:=Lv hck F1 hq (by lia);have nt:¬oV e.held o1 q:=λz=>by
  unfold oV at z;rw[<-c2.hm.q] at z;rcases z with z|z
  ·exact z hq.pos
  ·have:=hq.le;lia
 have oN1:=c2.ow o1 ho;have hnm:m.nm∈N:=hLN _ (by rw[<-c2.nm];exact aj.mpr ⟨e,aH _ ai,rfl⟩);have sl:=Lc a (gb xd yd) hnd ⟨by rw[c2.nm];exact(Up _ hnm).nm,(Up _ oN1).nm,(Up _ Ri).nm⟩ Qa.sz (R.saleOk (by lia) Qa) (hN1 _ oN1) (hN1 _ Ri) nt;have sl:wg a [.ref nb,.str m.nm,.str o1,.str o2,frP q] (pst t p xd yd)=.ok .non ((pst t p xd yd).set nb (.book pp (A++{ e with held:=sold e.held o1 o2 q }::B))):=by have h:=sl;rw[show PV.str m.nm=PV.str e.nm by rw[c2.nm]];exact h
 have B1:=yF (R.fr o1) Qa.low hq.pos (by rw[<-c2.hm.q];exact hq.le) Qa.bb;rw[<-c2.hm.q] at B1;generalize hr:nG (l7 m.hl o1) (-q.1,q.2)=r at B1;have Fr:FrC (kk+1) r:=⟨B1.low,B1.nn,hJ B1.le (aV (g9.mpr (cj (by decide) (by lia))) (bA B1.low.1)),B1.bb.mono (by lia)⟩;have T:∀{d:Nat}{g:Int×Int},d<=41->FrC d g->Bt 9000 g.1/\Bt 8800 g.2/\Low g:=λhd h=>⟨h.top.mono (by lia),h.bb.mono (by lia),h.low⟩;obtain⟨g1,g2,g3⟩:=T (by lia) F1;have qa:Bt 9000 q.1:=Qa.bt.mono (by decide);have qb:Bt 9000 q.2:=Qa.bb.mono (by decide);have qc:Bt 100 q.2:=Qa.bb.mono (by decide);have b9:∀{x:Int},Bt 8800 x->Bt 9000 x:=λh=>h.mono (by decide);generalize hT:(pst t p xd yd).set nb (.book pp (A++{ e with held:=sold e.held o1 o2 q }::B))=T6 at sl;have g6:T6.get m.cell=Za (.dct (hP m.hl)):=by rw[<-hT,lS _ _ i4b];exact g0 xd yd
 have c6:∀l l',(T6.set m.cell (.dct (hP l))).set m.cell (.dct (hP l'))=T6.set m.cell (.dct (hP l')):=λl l'=>rD _ _ _ _;have gl:∀l,(T6.set m.cell (.dct (hP l))).get m.cell=Za (.dct (hP l)):=λl=>nT g6;have Ru:∀l:Hl,l.length<=46->(hP l).length<100000:=λl h=>by rw[Ov];lia
 have VW:(mZ m.hl o1).length<=45:=aI (fA _ _) O6;have UT:∀(l:Hl) o q,l.length<=45->(nz l o q).length<=46:=λl o q h=>by
  have:=congrArg cg (m9 l o q);rw[ac] at this;rw[this];split
  ·rw[ac];lia
  ·rw[aM,ac];simp;lia
 generalize Ry:(if 0<r.1 then nz (mZ m.hl o1) o1 r else mZ m.hl o1)=l1;have em:xY m.hl o1 o2 q=nz l1 o2 (nG (l7 l1 o2) q):=by unfold xY;simp only[hr,Ry]
 have F2:FrC (kk+1) (l7 l1 o2):=by
  rw[<-Ry];split
  ·rw[mV,pT];split
   ·exact Fr
   ·exact(c2.hm.fr o2).mono (by lia)
  ·rw[pT];split
   ·exact frc0 _
   ·exact(c2.hm.fr o2).mono (by lia)
 obtain⟨k1,k2,k3⟩:=T (by lia) F2;have l1l:l1.length<=46:=by
  rw[<-Ry];split
  ·exact UT _ _ _ VW
  ·lia
 refine⟨T6.set m.cell (.dct (hP (xY m.hl o1 o2 q))),A++{ e with held:=sold e.held o1 o2 q }::B,A'++{ m with hl:=xY m.hl o1 o2 q }::B',zQ (Z:=ρ1++[Za (.int (l7 l1 o2).1),Za (.int (l7 l1 o2).2),Za (frP r)]) (head _ ?_),?_,?_,?_,?_,λk h1 h2 h3=>?_⟩
 ·refine lT ((x6 (s1:=pst t p xd yd) (by unfold xTr;rw[cond,Zh hb];rfl)).trans rfl) ?_;refine lT (vF ((qr (lI (r3 _ _ _)) (gb xd yd) (lJ (lI (r5 _ _ _)) (lJ (lI (r8 _ _ _)) (lJ (lI (r9 _ _ _)) (lJ (lI (Rt _ _ _)) rfl)))) rfl).trans sl)) ?_;refine lT (Nq (v:=.int (l7 m.hl o1).1) (w:=.int (l7 m.hl o1).2) (s':=T6.set m.cell (.dct (hP (mZ m.hl o1)))) ((Mm (lI (r6 _ _ _)) g6 (lI (r8 _ _ _)) (Fw m.hl o1 ho)).trans (by rw[Ma];exact rfl))) ?_;rw[st];have PF:∀u v w s,x2 (xVar 10) (xC (.int 1)) fIx (ρ1++[u,v,w]) s=.ok (.int q.2) s:=λu v w s=>(me (lI (Rt _ _ _)) rfl).trans ix1;have x0':∀u v w s,x2 (xVar 10) (xC (.int 0)) fIx (ρ1++[u,v,w]) s=.ok (.int q.1) s:=λu v w s=>(me (lI (Rt _ _ _)) rfl).trans ix0;refine lT (mf (lY (lJ (JK (oS (lI (SQ _ _ _)) (PF _ _ _ _) (rG g1 qb)) (oS (x0' _ _ _ _) (lI (So _ _ _)) (rG qa (b9 g2)))) (lJ (oS (lI (So _ _ _)) (PF _ _ _ _) (rG (b9 g2) qb)) rfl)) rfl (IW a _ g3 Qa.low g2 qc))) ?_;rw[UM,hr];have cr:∀u v s,x2 (x2 (xVar 13) (xC (.int 0)) fIx) (xC (.int 0)) fGt (ρ1++[u,v,Za (frP r)]) s=.ok (.bl (decide (0<r.1))) s:=λu v s=>(me ((me (lI (TZ _ _ _)) rfl).trans ix0) rfl).trans rfl;refine lT (ρ':=ρ1++[Za (.int (l7 m.hl o1).1),Za (.int (l7 m.hl o1).2),Za (frP r)]) (s':=T6.set m.cell (.dct (hP l1))) ?_ ?_
  ·rw[<-Ry];by_cases z:0<r.1
   ·rw[Zc z];refine(AI (s1:=T6.set m.cell (.dct (hP (mZ m.hl o1)))) (by unfold xTr;rw[cr,Zg z];rfl)).trans ?_;refine(Cr (lI (TZ _ _ _)) (lI (r6 _ _ _)) (lI (r8 _ _ _)) (gl _) (Ru _ (by lia))).trans ?_;rw[Ka,c6]
   ·rw[Zd z];exact(x6 (s1:=T6.set m.cell (.dct (hP (mZ m.hl o1)))) (by unfold xTr;rw[cr,Zh z];rfl)).trans rfl
  refine lT (Nq (v:=.int (l7 l1 o2).1) (w:=.int (l7 l1 o2).2) (s':=T6.set m.cell (.dct (hP l1))) ((Ox (lI (r6 _ _ _)) (gl l1) (lI (r9 _ _ _)) (oQ (lJ rfl (lJ rfl rfl)))).trans (by rw[Ow];rfl))) ?_;rw[st];refine(Cr (lY (lJ (vk (oS (lI (SQ _ _ _)) (PF _ _ _ _) (rG k1 qb)) (oS (x0' _ _ _ _) (lI (So _ _ _)) (rG qa (b9 k2)))) (lJ (oS (lI (So _ _ _)) (PF _ _ _ _) (rG (b9 k2) qb)) rfl)) rfl (IX a _ k3 Qa.low k2 qc)) (lI (r6 _ _ _)) (lI (r9 _ _ _)) (gl l1) (Ru _ l1l)).trans ?_;rw[Ka,c6,em]
 ·rw[<-hT];exact(W.pst xd yd).sale c1 c2 c3 ck (c2.hm.sale Qa (Up _ Ri) nt) λn hn=>(Hg ho hn).elim (c2.ow n) λz=>z▸Ri
 ·rw[aB,aB];rfl
 ·rw[aB,aB];rfl
 ·rw[<-hT];rfl
 ·have hk:k≠m.cell:=λz=>h3 (z▸aj.mpr ⟨m,Vm,rfl⟩);rw[lS _ _ hk,<-hT,lS _ _ h2];exact lS _ _ h1
def GV(a)(hb:t.get nb=Za (.book pp L))(h1:vR w=true)(hs:Sm w)(h2:w∉pp)(h3:w∉L.map (·.nm))(h6:pp.length<6):uJ a [.ref nb,.str w] t=.ok .non (t.set nb (.book (pp++[w]) L)):=by
 have e:wQ a pp L w=none:=by unfold wQ;rw[Bf a h1 h2 h3];exact Zd (by lia)
 simp[uJ,mM,hb,hs.nm,e]
def Jc(a)(hb:t.get nb=Za (.book pp L))(h1:vR w=true)(hs:Sm w)(so:Sm o)(h2:w∉pp)(h3:w∉L.map (·.nm))(ho:(oH pp o||mv L o)=true)(hl:0<=ls)(h8:L.length<8):wZ a [.ref nb,.str w,.str o,.int th,.int mr,.int ls] t=.ok .non (t.set nb (.book pp (L++[⟨w,th,mr,ls,[(o,1,1)]⟩]))):=by
 have e:wW a pp L w o ls=none:=by unfold wW;rw[Bf a h1 h2 h3];show(if(oH pp o||mv L o)=false then _ else _)=_;rw[ho,Zd (by decide),Zd (by lia),Zd (by lia)]
 simp[wZ,mM,hb,hs.nm,so.nm,e]
structure Bst(s t:Sto)(p nb nd:Nat)(N:List Str)(c:Nat)(pp:List Str)(L:List Ent)(M:List Md):Prop where
 w:Wst t p nb nd N c pp L M
 nx:s.nx<=t.nx
 fr:∀j,j<s.nx->j≠p->t.get j=s.get j
 lo:s.nx<=nb/\s.nx<=nd/\∀m∈M,s.nx<=m.cell
section
variable{s t:Sto}{p nb nd:Nat}{N:List Str}{c:Nat}{pp:List Str}{L:List Ent}{M:List Md}
theorem Bst.pst(B:Bst s t p nb nd N c pp L M)(x y):Bst s (My.pst t p x y) p nb nd N c pp L M:=⟨B.w.pst x y,B.nx,λj h1 h2=>(lS _ _ h2).trans (B.fr j h1 h2),B.lo⟩
def Bst.person(B:Bst s t p nb nd N c pp L M)(w):Bst s (t.set nb (.book (pp++[w]) L)) p nb nd N c (pp++[w]) L M:=by have W:=B.w;refine⟨⟨?_,nT W.bk,by rw[lS _ _ (bX W.i3)];exact W.md,λm hm=>by rw[lS _ _ (W.i4 m hm).2.1];exact W.sh m hm,W.i1,W.i2,W.i3,W.i4,W.i5,W.lt,W.pr⟩,B.nx,λj h1 h2=>(lS _ _ (by have:=B.lo.1;lia)).trans (B.fr j h1 h2),B.lo⟩;obtain⟨x,y,e⟩:=W.pu;exact⟨x,y,by rw[lS _ _ W.i1];exact e⟩
def Oi(h:x∉M.map (·.nm)):yO (M.map mdP) (ag x) v=M.map mdP++[(ag x,v)]:=by unfold yO;rw[Zd];intro z;obtain⟨kv,h1,h2⟩:=de.mp z;obtain⟨m,hm,rfl⟩:=aj.mp h1;have:(ag m.nm:Key)=ag x:=Zf h2;exact h (du this▸aj.mpr ⟨m,hm,rfl⟩)
def Bst.house(B:Bst s t p nb nd N c pp L M){w o:Str}{th mr ls:Int}(hw:w∉M.map (·.nm))(so:Sm o)(oN:o∈N)(tb:Bt 100 th/\Bt 100 mr/\Bt 100 ls) :
  Bst s (((t.set nb (.book pp (L++[⟨w,th,mr,ls,[(o,1,1)]⟩]))).add (.dct [(ag o,frP (1,1))])).set nd (.dct (yO (M.map mdP) (ag w) (.lst [.ref t.nx,.tup [.int th,.int mr,.int ls]])))) p nb nd N c pp (L++[⟨w,th,mr,ls,[(o,1,1)]⟩]) (M++[⟨w,t.nx,[(o,1,1)],th,mr,ls⟩]):=by
 have W:=B.w;obtain⟨l1,l2,l3,l4⟩:=W.lt;have g:∀k,k≠nd->k≠nb->k≠t.nx->(((t.set nb (.book pp (L++[⟨w,th,mr,ls,[(o,1,1)]⟩]))).add (.dct [(ag o,frP (1,1))])).set nd (.dct (yO (M.map mdP) (ag w) (.lst [.ref t.nx,.tup [.int th,.int mr,.int ls]])))).get k=t.get k:=λk h1 h2 h3=>by rw[lS _ _ h1,mE,Zd (show(t.set nb _).nx≠k from λz=>h3 z.symm),lS _ _ h2]
 have onl:∀n∈[(o,(1:Int),(1:Int))].map (·.1),n∈N:=λn hn=>by
  have:n=o:=by simpa using hn
  rw[this];exact oN
 have gnd:((t.set nb (.book pp (L++[⟨w,th,mr,ls,[(o,1,1)]⟩]))).add (.dct [(ag o,frP (1,1))])).get nd=Za (.dct (M.map mdP)):=by rw[mE,Zd (show(t.set nb _).nx≠nd from λz=>by have:t.nx=nd:=z;lia),lS _ _ (bX W.i3)];exact W.md
 refine⟨⟨?_,?_,?_,λm hm=>?_,W.i1,W.i2,W.i3,λm hm=>?_,?_,⟨cA l1,cA l2,cA l3,λm hm=>?_⟩,W.pr.app (d:=0) (.cons (c1:=0) (c2:=0) ⟨rfl,rfl,rfl,rfl,Ou 0 so,onl,tb⟩ .nil (am _))⟩,Nat.le_succ_of_le B.nx,λj h1 h2=>?_,B.lo.1,B.lo.2.1,λm hm=>?_⟩
 ·obtain⟨x,y,e⟩:=W.pu;exact⟨x,y,by rw[g p W.i2 W.i1 (by lia)];exact e⟩
 ·rw[lS _ _ W.i3,mE,Zd (show(t.set nb _).nx≠nb from λz=>by have:t.nx=nb:=z;lia)];exact nT W.bk
 ·rw[nT gnd,Oi hw,aB];rfl
 ·rcases aP.mp hm with z|z
  ·obtain⟨a1,a2,a3⟩:=W.i4 m z;rw[g _ a3 a2 (by have:=l4 m z;lia)];exact W.sh m z
  ·rw[aq.mp z];show((_:Sto).set nd _).get t.nx=_;rw[lS _ _ (by lia),mE,Zc (show(t.set nb _).nx=t.nx from rfl)];rfl
 ·rcases aP.mp hm with z|z
  ·exact W.i4 m z
  ·rw[aq.mp z];exact⟨by show t.nx≠p;lia,by show t.nx≠nb;lia,by show t.nx≠nd;lia⟩
 ·rw[aB,bN];refine⟨W.i5,by simp,λx hx y hy z=>?_⟩;obtain⟨m,hm,rfl⟩:=aj.mp hx;have:y=t.nx:=by simpa using hy
  have:=l4 m hm;lia
 ·rcases aP.mp hm with z|z
  ·exact cA (l4 m z)
  ·rw[aq.mp z];exact bT _
 ·have:=B.lo;rw[g j (by lia) (by lia) (by have:=B.nx;lia)];exact B.fr j h1 h2
 ·rcases aP.mp hm with z|z
  ·exact B.lo.2.2 m z
  ·rw[aq.mp z];exact B.nx
end
structure Wds(N:List Str):Prop where
 nd:N.Nodup
 sm:∀n∈N,Sm n
 nm:∀n∈N,vR n=true
def Ic(h0:0<vs.length)(h7:vs.length<=7)(hd:d<vs.length)(hm:m<=10):Wds ((bF m).map (wrd vs d fl)):=by
 refine⟨?_,λn hn=>?_,λn hn=>?_⟩
 ·show List.Pairwise _ _;rw[i6];exact List.Pairwise.imp_of_mem (λ{i j} hi hj Tv e=>Tv (KR hd (by have:=cH.mp hi;lia) (by have:=cH.mp hj;lia) e)) List.nodup_range
 ·obtain⟨k,_,rfl⟩:=aj.mp hn;exact(JE h0 h7 d fl k).1
 ·obtain⟨k,_,rfl⟩:=aj.mp hn;exact(JE h0 h7 d fl k).2
def Hh(h:body q Z s=.nx ρ' s'):nF body (q::l) Z s=nF body l ρ' s':=by
 conv=>lhs;unfold nF
 rw[h]
def bE(p nb nd:Nat)(mo my cn:PV)(N:List Str)(u7 u8 u9 Pg:Option PV):En:=[Za (.ref p),Za mo,Za my,Za cn,Za (.lst (N.map .str)),Za (.ref nb),Za (.ref nd),u7,u8,u9,Pg]
theorem vO(a)(WN:Wds N)(mo my cn)(u8 u9 Pg):∀(r done:List Str)(u:Option PV)(t:Sto),Bst s t p nb nd N 0 done [] []->(∀n∈done++r,n∈N)->(done++r).Nodup->(done++r).length<=6->∃u' t',nF (mU (yName 7) (qD a)) (r.map .str) (bE p nb nd mo my cn N u u8 u9 Pg) t=.nx (bE p nb nd mo my cn N u' u8 u9 Pg) t'/\Bst s t' p nb nd N 0 (done++r) [] []
 |[],done,u,t,B,_,_,_=>⟨u,t,rfl,by rw[cK];exact B⟩
 |w::r,done,u,t,B,hN,nd',hl=>by
  have hw:=hN w (aH _ ai);have n1:w∉done:=λz=>(bN.mp nd').2.2 _ z _ ai rfl;have e1:=GV a B.w.bk (WN.nm w hw) (WN.sm w hw) n1 (by simp) (by rw[aM,bc] at hl;lia);have e2:done++w::r=done++[w]++r:=by simp
  obtain⟨u',t',h1,h2⟩:=vO a WN mo my cn u8 u9 Pg r (done++[w]) (Za (.str w)) _ (B.person w) (by rw[<-e2];exact hN) (by rw[<-e2];exact nd') (by rw[<-e2];exact hl);refine⟨u',t',?_,by rw[e2];exact h2⟩;rw[<-h1];refine Hh ((pV (i:=7)).trans ?_);unfold qD;exact vF ((qr (lI rfl) B.w.bk (lJ (lI rfl) rfl) rfl).trans e1)
def Ii{N:List Str}{k:Nat}{r:Int}(h0:0<=r)(h1:r<(k:Nat))(hk:k<=N.length):∃w∈N.take k,atI (N.map PV.str) r=Za (.str w):=by
 obtain⟨j,rfl⟩:∃j:Nat,r=j:=⟨r.toNat,by lia⟩;have hj:j<N.length:=by lia
 refine⟨N[j],?_,mQ (by simp[hj])⟩;rw[b7];exact⟨j,by rw[List.getElem?_take,Zc (by lia),aw hj]⟩
def vx(a)(hP:IsPurse t p)(x y):∃v x' y',na a [.ref p] (pst t p x y)=.ok (.int v) (pst t p x' y')/\Bt 100 v:=by obtain⟨v,x',y',e,b⟩:=He a (pst t p x y) p (hP.pst x y);rw[wP] at e;exact⟨v,x',y',e,b⟩
def EZ(a:Adr){s t:Sto}{p nb nd:Nat}{pp hs:List Str}(WN:Wds (pp++hs))(hp6:pp.length<=6)(QL:1<=pp.length)(hh:hs.length<=8){L:List Ent}{M:List Md}(mo cn:PV)(u7 u8 u9 Pg:Option PV)(k:Nat)(hk:k<hs.length)(B:Bst s t p nb nd (pp++hs) 0 pp L M)(hL:L.map (·.nm)=hs.take k) :
  ∃Sj u9' UE t' L' M',mU (yName 8) (o5 a) (.int (k:Nat)) (bE p nb nd mo (.int (pp.length:Nat)) cn (pp++hs) u7 u8 u9 Pg) t=.nx (bE p nb nd mo (.int (pp.length:Nat)) cn (pp++hs) u7 Sj u9' UE) t'/\Bst s t' p nb nd (pp++hs) 0 pp L' M'/\L'.map (·.nm)=hs.take (k+1):=by
 obtain⟨x0,y0,et⟩:=uA B.w.pu;have ek:((pp.length:Int)+(k:Int))=((pp.length+k:Nat):Int):=by lia
 obtain⟨r,xa,ya,r0,r1,e1⟩:=B.w.draw' a x0 y0 (n:=((pp.length+k:Nat):Int)) (by lia) (oi (by lia) (by lia));rw[<-et] at e1;obtain⟨o,ho,QE⟩:=Ii (N:=pp++hs) r0 r1 (by rw[aM];lia);obtain⟨v1,xb,yb,f1,b1⟩:=vx a B.w.pu xa ya;obtain⟨v2,xc,yc,f2,b2⟩:=vx a B.w.pu xb yb;obtain⟨v3,xd,yd,f3,b3⟩:=vx a B.w.pu xc yc;have oN:o∈pp++hs:=iu ho;have Ri:(oH pp o||mv L o)=true:=by rw[dA,wx,pS,hL];rw[List.take_length_add_append] at ho;exact aP.mp ho
 obtain⟨w,hw⟩:∃w,hs[k]?=Za w:=⟨hs[k],aw hk⟩;have wh:w∈hs:=dD hw;have wN:w∈pp++hs:=aH _ wh;have wpp:w∉pp:=λz=>(bN.mp WN.nd).2.2 _ z _ wh rfl;have tk:hs.take (k+1)=hs.take k++[w]:=by rw[dC,hw];rfl
 have wL:w∉L.map (·.nm):=λz=>by rw[hL] at z;have:=(bN.mp WN.nd).2.1;have h2:(hs.take (k+1)).Nodup:=this.sublist (List.take_sublist _ _);rw[tk] at h2;exact(bN.mp h2).2.2 _ z _ (by simp) rfl
 have wat:atI ((pp++hs).map PV.str) ((pp.length+k:Nat):Int)=Za (.str w):=mQ (by rw[aD,dk (by lia),kD,hw];rfl);have L8:L.length<8:=by have:=congrArg cg hL;rw[ac,dJ] at this;lia
 have nn:(0:Int)<=if v3<0 then -v3 else v3:=by split<;>lia
 have bz:Bt 100 (if v3<0 then -v3 else v3):=by
  split
  ·exact by unfold Bt at *;lia
  ·exact b3
 generalize hz:(if v3<0 then -v3 else v3)=z at nn bz;have B4:=B.pst xd yd;have eh:=Jc a (th:=v1) (mr:=v2) (ls:=z) B4.w.bk (WN.nm w wN) (WN.sm w wN) (WN.sm o oN) wpp wL Ri nn L8;have B5:=B4.house (w:=w) (o:=o) (th:=v1) (mr:=v2) (ls:=z) (by rw[<-B.w.pr.names];exact wL) (WN.sm o oN) oN ⟨b1,b2,bz⟩;refine⟨Za (.int (k:Nat)),Za (.str o),Za (.tup [.int v1,.int v2,.int z]),_,_,_,?_,B5,by rw[aB,hL,tk];rfl⟩;refine(pV (i:=8)).trans ?_;unfold o5;have ad:∀u9 Pg s,x2 (xVar 2) (xVar 8) fAdd (bE p nb nd mo (.int (pp.length:Nat)) cn (pp++hs) u7 (Za (.int (k:Nat))) u9 Pg) s=.ok (.int ((pp.length+k:Nat):Int)) s:=λu9 Pg s=>(vk (i:=(pp.length:Nat)) (j:=(k:Nat)) (lI rfl) (lI rfl)).trans (by rw[ek]);have nw:∀u9 Pg s,x2 (xVar 4) (x2 (xVar 2) (xVar 8) fAdd) fIx (bE p nb nd mo (.int (pp.length:Nat)) cn (pp++hs) u7 (Za (.int (k:Nat))) u9 Pg) s=.ok (.str w) s:=λu9 Pg s=>(me (lI rfl) (ad _ _ _)).trans (yi wat);refine lT (mf (v:=.str o) (s':=pst t p xa ya) ((me (lI rfl) (lY (lJ (lI rfl) (lJ (ad _ _ _) rfl)) rfl e1)).trans (yi QE))) ?_;refine lT (mf (v:=.tup [.int v1,.int v2,.int z]) (s':=pst t p xd yd) (oQ (lJ (lY (lJ (lI rfl) rfl) rfl f1) (lJ (lY (lJ (lI rfl) rfl) rfl f2) (lJ ((ym (lJ (lY (lJ (lI rfl) rfl) rfl f3) rfl)).trans (show fAbs [.int v3] (pst t p xd yd)=.ok (.int z) (pst t p xd yd) by rw[<-hz];rfl)) rfl))))) ?_;refine lT (vF ((qr (lI rfl) B4.w.bk (lJ (nw _ _ _) (lJ (lI rfl) (lJ ((me (lI rfl) rfl).trans rfl) (lJ ((me (lI rfl) rfl).trans rfl) (lJ ((me (lI rfl) rfl).trans rfl) rfl))))) rfl).trans eh)) ?_;have l4:=B4.w.lt.2.2.1;refine(Cr (CU (lJ (v:=.ref t.nx) (s1:=((pst t p xd yd).set nb (.book pp (L++[⟨w,v1,v2,z,[(o,1,1)]⟩]))).add (.dct [(ag o,frP (1,1))])) ?_ (lJ (lI rfl) rfl))) (lI rfl) (nw _ _ _) (l:=M.map mdP) ?_ ?_).trans rfl
 ·rfl
 ·rw[mE,Zd (show((pst t p xd yd).set nb _).nx≠nd from λq=>by have:t.nx=nd:=q;have:nd<t.nx:=l4;lia),lS _ _ (bX B4.w.i3)];exact B4.w.md
 ·rw[ac];have:=congrArg cg B.w.pr.names;rw[ac,ac] at this;lia
def Jr(ws:List PV)(k:Nat)(hk:k<=ws.length):CG ws Zb (Za (k:Int))=ws.take k:=by
 unfold CG;have e1:HT.sIx ws.length 0 Zb=0:=rfl;have e2:HT.sIx ws.length ws.length (Za (k:Int))=k:=by
  simp[HT.sIx];split
  ·lia
  ·exact Nat.min_eq_left hk
 rw[e1,e2];simp
def nc(h:f Z s=.ok (.lst l) s1):xIter f Z s=.ok l s1:=by unfold xIter;rw[h];rfl
def Bst.start(hp:p<s.nx)(hP:IsPurse s p)(x y)(N):Bst s (((Sto.bump (My.pst s p x y)).add (.book [] [])).add (.dct [])) p (s.nx+1) (s.nx+2) N 0 [] [] []:=by
 have n1:(Sto.bump (My.pst s p x y)).nx=s.nx+1:=rfl;have n2:((Sto.bump (My.pst s p x y)).add (.book [] [])).nx=s.nx+2:=rfl;have g:∀k,k<s.nx+1->(((Sto.bump (My.pst s p x y)).add (.book [] [])).add (.dct [])).get k=(My.pst s p x y).get k:=λk hk=>by rw[mE,Zd (by lia),mE,Zd (by lia),Jg]
 refine⟨⟨?_,?_,?_,(λm hm=>nomatch hm),by lia,by lia,by lia,(λm hm=>nomatch hm),by simp,⟨?_,?_,?_,(λm hm=>nomatch hm)⟩,.nil⟩,?_,λj h1 h2=>?_,by lia,by lia,(λm hm=>nomatch hm)⟩
 ·obtain⟨u,v,e⟩:=hP.pst x y;exact⟨u,v,by rw[g p (by lia)];exact e⟩
 ·rw[mE,Zd (by lia),mE,Zc n1]
 ·rw[mE,Zc n2];rfl
 ·show p<s.nx+3;lia
 ·show s.nx+1<s.nx+3;lia
 ·show s.nx+2<s.nx+3;lia
 ·show s.nx<=s.nx+3;lia
 ·rw[g j (by lia)];exact lS _ _ h2
def Bst.sold(B:Bst s t p nb nd (pp++hs) c pp L M)(a)(WN:Wds (pp++hs))(hL:L.map (·.nm)=hs)(hh:hs≠[])(h8:hs.length<=8)(hp6:pp.length<=6)(hc:c<=40) :
  ∃t' L' M',qX a [.ref p,.ref nd,.lst ((pp++hs).map .str),.ref nb] t=.ok .non t'/\Bst s t' p nb nd (pp++hs) (c+1) pp L' M'/\L'.map (·.nm)=hs:=by
 have l8:L.length<=8:=by have:=congrArg cg hL;rw[ac] at this;lia
 have hM:M≠[]:=λz=>by have:=B.w.pr.names;rw[z,hL] at this;exact hh this
 obtain⟨t',L',M',e,W,n1,n2,nx,fr⟩:=K5 a B.w hc hM (by rw[hL];exact(bN.mp WN.nd).2.1) WN.sm (λn hn=>aH _ (hL▸hn)) (λn hn=>by rw[dA,wx,pS,hL];exact aP.mp hn) (λz=>hh (List.append_eq_nil_iff.mp z).2) (by rw[aM];lia) l8
 refine⟨t',L',M',e,⟨W,by rw[nx];exact B.nx,λj h1 h2=>?_,B.lo.1,B.lo.2.1,λm hm=>?_⟩,n1.trans hL⟩
 ·rw[fr j h2 (by have:=B.lo.1;lia) λz=>?_]
  ·exact B.fr j h1 h2
  ·obtain⟨m,hm,z⟩:=aj.mp z;have:=B.lo.2.2 m hm;lia
 ·have:m.cell∈M.map (·.cell):=n2▸aj.mpr ⟨m,hm,rfl⟩;obtain⟨m',h',z⟩:=aj.mp this;rw[<-z];exact B.lo.2.2 m' h'
def Jy(a:Adr)(s:Sto)(p:Nat)(hp:p<s.nx)(hP:IsPurse s p)(mx:Nat)(hm:mx<=7):∃t nb nd pp hs c L M,qy a [.ref p,.int (mx:Nat)] s=.ok (.tup [.ref nb,.lst ((srt pp).map .str),.ref nd]) t/\Bst s t p nb nd (pp++hs) c pp L M/\L.map (·.nm)=hs/\Wds (pp++hs)/\1<=pp.length/\pp.length<=3/\hs.length<=mx/\c<=28:=by
 obtain⟨x0,y0,et⟩:=uA hP;obtain⟨r,xa,ya,r0,r1,e1⟩:=uF a hP x0 y0 (n:=3) (by decide) (oi (by decide) (by decide));rw[<-et] at e1;obtain⟨my,hmy,rfl⟩:∃my:Nat,1<=my/\r=(my:Int)-1:=⟨r.toNat+1,by lia,by lia⟩;obtain⟨cn',xb,yb,c0,cn1,e2⟩:=uF a hP xa ya (n:=((mx+1:Nat):Int)) (by lia) (oi (by lia) (by lia));obtain⟨cn,rfl⟩:∃cn:Nat,cn'=cn:=⟨cn'.toNat,by lia⟩;obtain⟨xc,yc,vs,d,fl,v0,v7,hd,e3⟩:=IS a (pst s p xb yb) p hp (hP.pst xb yb) (my+cn) (by lia);have WN:=Ic (fl:=fl) (m:=my+cn) v0 v7 hd (by lia);have pq:pst (pst s p xb yb) p xc yc=pst s p xc yc:=wP _ _ _ _ _ _;rw[pq] at e3;generalize hN:(bF (my+cn)).map (wrd vs d fl)=N at *;have hNl:N.length=my+cn:=by rw[<-hN];simp
 obtain⟨pp,hs,rfl,O3⟩:∃pp hs:List Str,N=pp++hs/\pp.length=my:=⟨N.take my,N.drop my,(ii my N).symm,by rw[dJ];lia⟩;have hsl:hs.length=cn:=by rw[aM] at hNl;lia
 subst O3;subst hsl;have B0:=Bst.start hp hP xc yc (pp++hs);obtain⟨u7,t1,lp1,B1⟩:=vO a WN (.int (mx:Nat)) (.int (pp.length:Nat)) (.int (hs.length:Nat)) Zb Zb Zb pp [] Zb _ B0 (λn hn=>bU _ hn) ((bN.mp WN.nd).1) (by rw[g8];lia);rw[g8] at B1;obtain⟨ρ2,t2,lp2,u8,u9,Pg,L2,M2,rfl,B2,VJ⟩:=uB (body:=mU (yName 8) (o5 a)) hs.length
  (λk Z t=>∃u8 u9 Pg L M,Z=bE p (s.nx+1) (s.nx+2) (.int (mx:Nat)) (.int (pp.length:Nat)) (.int (hs.length:Nat)) (pp++hs) u7 u8 u9 Pg/\Bst s t p (s.nx+1) (s.nx+2) (pp++hs) 0 pp L M/\L.map (·.nm)=hs.take k)
  (λk Z t hk hI=>by obtain⟨u8,u9,Pg,L,M,rfl,B,hL⟩:=hI;obtain⟨a8,a9,a10,t',L',M',q1,q2,q3⟩:=EZ a WN (by lia) hmy (by lia) (.int (mx:Nat)) (.int (hs.length:Nat)) u7 u8 u9 Pg k hk B hL;exact⟨_,_,q1,_,_,_,_,_,rfl,q2,q3⟩) (Z:=bE p (s.nx+1) (s.nx+2) (.int (mx:Nat)) (.int (pp.length:Nat)) (.int (hs.length:Nat)) (pp++hs) u7 Zb Zb Zb) (s:=t1) ⟨Zb,Zb,Zb,[],[],rfl,B1,by simp⟩
 rw[fB] at VJ;have sl:∃Sj t3 c L3 M3,xIf (xTr (x2 (xVar 3) (xC (.int 0)) fGt)) (xFor (xRng1 (xCons (xCall 2 (lV a) (xCons (xVar 0) (xCons (x2 (x2 (xC (.int 4)) (xVar 3) fMul) (xC (.int 1)) fAdd) xNil))) xNil)) (yName 8) (o4 a)) xEnd (bE p (s.nx+1) (s.nx+2) (.int (mx:Nat)) (.int (pp.length:Nat)) (.int (hs.length:Nat)) (pp++hs) u7 u8 u9 Pg) t2=.nx (bE p (s.nx+1) (s.nx+2) (.int (mx:Nat)) (.int (pp.length:Nat)) (.int (hs.length:Nat)) (pp++hs) u7 Sj u9 Pg) t3/\Bst s t3 p (s.nx+1) (s.nx+2) (pp++hs) c pp L3 M3/\L3.map (·.nm)=hs/\c<=28:=by
  by_cases hc0:hs=[]
  ·refine⟨u8,t2,0,L2,M2,(x6 (s1:=t2) ?_).trans rfl,B2,VJ,by lia⟩;unfold xTr;rw[me (lI rfl) rfl,hc0];rfl
  ·have RW:0<hs.length:=fS.mpr hc0;obtain⟨PX,y2',et2⟩:=uA B2.w.pu;obtain⟨n',xe,ye,n0,n1,e5⟩:=B2.w.draw' a PX y2' (n:=((4*hs.length+1:Nat):Int)) (by lia) (oi (by lia) (by lia));rw[<-et2] at e5;obtain⟨n,rfl⟩:∃n:Nat,n'=n:=⟨n'.toNat,by lia⟩;obtain⟨ρ3,t3,lp3,Sj,L3,M3,rfl,B3,VI⟩:=uB (body:=mU (yName 8) (o4 a)) n
    (λk Z t=>∃u8 L M,Z=bE p (s.nx+1) (s.nx+2) (.int (mx:Nat)) (.int (pp.length:Nat)) (.int (hs.length:Nat)) (pp++hs) u7 u8 u9 Pg/\Bst s t p (s.nx+1) (s.nx+2) (pp++hs) k pp L M/\L.map (·.nm)=hs)
    (λk Z t hk hI=>by obtain⟨u8,L,M,rfl,B,hL⟩:=hI;obtain⟨t',L',M',q1,q2,q3⟩:=B.sold a WN hL hc0 (by lia) (by lia) (by lia);refine⟨_,t',(pV (i:=8)).trans ?_,Za (.int (k:Nat)),L',M',rfl,q2,q3⟩;unfold o4;exact vF (lY (lJ (lI rfl) (lJ (lI rfl) (lJ (lI rfl) (lJ (lI rfl) rfl)))) rfl q1)) (Z:=bE p (s.nx+1) (s.nx+2) (.int (mx:Nat)) (.int (pp.length:Nat)) (.int (hs.length:Nat)) (pp++hs) u7 u8 u9 Pg) (s:=pst t2 p xe ye) ⟨u8,L2,M2,rfl,B2.pst xe ye,VJ⟩
   refine⟨Sj,t3,n,L3,M3,(AI (s1:=t2) ?_).trans (rA (uU (n:=n) (lJ (lY (lJ (lI rfl) (lJ ((vk (oS (i:=4) (j:=(hs.length:Nat)) rfl (lI rfl) (.inr (.inl ⟨by decide,by decide⟩))) rfl).trans ?_) rfl)) rfl e5) rfl) (by lia)) lp3),B3,VI,by lia⟩
   ·unfold xTr;rw[me (lI rfl) rfl];show Out.bind (Out.ok (PV.bl (decide ((0:Int)<(hs.length:Nat)))) _) _=_;rw[Zg (by lia)];rfl
   ·rw[show(4:Int)*(hs.length:Nat)+1=((4*hs.length+1:Nat):Int) by lia]
 obtain⟨Sj,t3,c,L3,M3,e6,B3,VI,hc⟩:=sl;refine⟨t3,s.nx+1,s.nx+2,pp,hs,c,L3,M3,mC ?_,B3,VI,WN,hmy,by lia,by lia,hc⟩;have TQ:∀u7 u8 u9 Pg nb nd s',xSl (xVar 4) xNoP (xPart (xVar 2)) (bE p nb nd (.int (mx:Nat)) (.int (pp.length:Nat)) (.int (hs.length:Nat)) (pp++hs) u7 u8 u9 Pg) s'=.ok (.lst (pp.map .str)) s':=λu7 u8 u9 Pg nb nd s'=>by
  have:CG ((pp++hs).map PV.str) Zb (Za ((pp.length:Nat):Int))=pp.map PV.str:=by rw[Jr _ _ (by simp),<-List.map_take,List.take_left'];rfl
  simp only[xSl,xVar,bE,gN,gM,Out.bind,xNoP,xPart,fSl,lsOf,this]
 unfold vV;refine lT (mf (v:=.int (pp.length:Nat)) (s':=pst s p xa ya) ((vk (i:=1) rfl (lY (lJ (lI rfl) (lJ rfl rfl)) rfl e1)).trans (by rw[show(1:Int)+((pp.length:Int)-1)=(pp.length:Nat) by lia]))) ?_;refine lT (mf (lY (lJ (lI rfl) (lJ ((vk (i:=(mx:Nat)) (j:=1) (lI rfl) rfl).trans (by rw[show((mx:Nat):Int)+1=((mx+1:Nat):Int) by lia])) rfl)) rfl e2)) ?_;refine lT (mf (lY (lJ (lI rfl) (lJ ((vk (i:=(pp.length:Nat)) (j:=(hs.length:Nat)) (lI rfl) (lI rfl)).trans (by rw[show((pp.length:Nat):Int)+(hs.length:Nat)=((pp.length+hs.length:Nat):Int) by lia])) rfl)) rfl e3)) ?_;refine lT (mf (v:=.ref (s.nx+1)) (s':=(Sto.bump (pst s p xc yc)).add (.book [] [])) rfl) ?_;refine lT (mf (v:=.ref (s.nx+2)) (s':=((Sto.bump (pst s p xc yc)).add (.book [] [])).add (.dct [])) rfl) ?_;refine lT (rA (l:=pp.map .str) (s1:=((Sto.bump (pst s p xc yc)).add (.book [] [])).add (.dct [])) ?_ lp1) ?_
 ·exact nc (TQ Zb Zb Zb Zb (s.nx+1) (s.nx+2) _)
 refine lT (rA (uU (n:=hs.length) (lJ (lI rfl) rfl) (by lia)) lp2) ?_;refine lT e6 ?_;refine nr (oQ (lJ (lI rfl) (lJ ((ym (lJ (TQ _ _ _ _ _ _ _) rfl)).trans ?_) (lJ (lI rfl) rfl))));simp[ms,lsOf,vq,show pp.length<64 by lia]
def own(L:List Ent)(n:Str):List Str:=match mI L n with
 |some e=>srt (e.held.map (·.1))
 |none=>[]
def Cl(L:List Ent)(h:Str)(S:Str->Prop):Prop:=(∀x∈own L h,S x)/\∀y,S y->∀x∈own L y,S x
structure Rch(L:List Ent)(h:Str)(F:List Str):Prop where
 nd:F.Nodup
 cl:Cl L h (·∈F)
 mn:∀S,Cl L h S->∀x∈F,S x
def one1(L:List Ent)(q:List Str×List Str)(n:Str):List Str×List Str:=if n∈q.1 then q else(q.1++[n],if mv L n=true then q.2++[n] else q.2)
structure Inv1(L:List Ent)(N:List Str)(h:Str)(F W:List Str):Prop where
 nd:F.Nodup
 sub:∀x∈F,x∈N
 wt:∀x∈W,mv L x=true
 mn:∀S,Cl L h S->∀x∈F,S x
 wr:∀x∈W,x=h\/x∈F
def J2(h:mv L n=false):own L n=[]:=by
 unfold mv at h;unfold own;cases c:mI L n with
 |none=>rfl
 |some e=>rw[c] at h;cases h
theorem Nd:∀{F N:List Str},F.Nodup->(∀x∈F,x∈N)->F.length<=N.length
 |[],_,_,_=>aX _
 |x::F,N,h,k=>by have hx:=k x ai;have h:=ar.mp h;have:=Nd (N:=N.erase x) h.2 λy z=>(List.mem_erase_of_ne (λe:y=x=>h.1 (e▸z))).mpr (k y (ae _ z));rw[List.length_erase_of_mem hx] at this;have:=List.length_pos_of_mem hx;show F.length+1<=_;lia
abbrev LS(U:List Str):PV:=.lst (U.map .str)
theorem Bi(s)(k):∀(U:List Str),(∀x∈U,bi x=true)->vP (PV.data s (k+1)) (U.map PV.str)=Za (U.map fw)
 |[],_=>rfl
 |x::r,h=>by
  rw[ao];unfold vP;rw[Bi s k r λy hy=>h y (ae _ hy)];have e:PV.data s (k+1) (.str x)=Za (.str x):=by unfold PV.data;rw[Zc (h x ai)]
  rw[e];rfl
def zn(s)(k)(h:∀x∈U,bi x=true):PV.data s (k+2) (LS U)=Za (.list (U.map fw)):=by unfold PV.data;rw[Bi s k U h];rfl
def HJ(h:Sm x):bi x=true:=by unfold bi;rw[<-Array.all_toList,dg];intro c hc;exact Zg (g7 (h.2 c hc) (by decide))
def rM(h:f Z s=.ok (.bl b) s1):xTr f Z s=.ok b s1:=by unfold xTr;rw[h];rfl
def E2(l)(n):(mD l n).1=n:=by
 unfold mD;cases e:l.find? λq=>decide (q.1=n) with
 |none=>rfl
 |some q=>have:=eQ e;exact Zf this
structure Ho(L:List Ent)(N:List Str):Prop where
 ow:∀n e,mI L n=Za e->e.held.length<64/\∀x∈e.held.map (·.1),x∈N
 sm:∀n∈N,Sm n
 le:N.length<64
 hn:∀n,mv L n=true->n∈N
section
variable{T:Sto}{nb:Nat}{pp N:List Str}{L:List Ent}{h:Str}
def IQ(a)(hb:T.get nb=Za (.book pp L))(hh:mv L h=true)(hs:Nm h):o7 a [.ref nb,.str h] T=.ok .non T:=by simp only[o7,mM,hb];rw[Zc hs,Zc hh]
end
abbrev LI(l:List Int):PV:=.lst (l.map .int)
theorem BC(g):∀(l k:List Int),(∀x∈l,∀y∈k,e (Za (.int x)::Za (.int y)::cap) s=.ok (.int (g x y)) s)->mF mX e cap (uw (l.map .int) (k.map .int)) s=.ok ((kF g l k).map .int) s
 |[],_,_=>rfl
 |_::_,[],_=>rfl
 |x::l,y::k,h=>by
  have ih:=BC g l k λx' hx y' hy=>h x' (ae _ hx) y' (ae _ hy);have h0:=h x ai y ai;rw[ao,ao];show mF mX e cap (.tup [.int x,.int y]::uw (l.map .int) (k.map .int)) s=_;unfold mF;show(match mX (Za (.int x)::Za (.int y)::cap) s with
   |.ok true s1=>match e (Za (.int x)::Za (.int y)::cap) s1 with
    |.ok v s2=>match mF mX e cap (uw (l.map .int) (k.map .int)) s2 with
     |.ok vs s3=>Out.ok (v::vs) s3
     |_=>.bad
    |_=>.bad
   |.ok false s1=>mF mX e cap (uw (l.map .int) (k.map .int)) s1
   |_=>.bad)=_
  simp only[mX,h0,ih];rfl
def CV(h:l[i]?=Za x):fIx (LI l) (.int (i:Nat)) t=.ok (.int x) t:=by have:atI (l.map PV.int) (i:Int)=Za (.int x):=mQ (by rw[aD,h];rfl);simp[fIx,lsOf,this]
def clr(p r d:Int)(row Pr:List Int):List Int:=kF (λx y=>(p*x-r*y)/d) row Pr
def Aw(h1:f Z s=.ok (.int i) s1)(h2:g Z s1=.ok (.int j) s2)(hd:zi j):x2 f g fDiv Z s=.ok (.int (i/j)) s2:=by rw[me h1 h2];exact Zc hd
def J5(h1:f Z s=.ok (.int i) s1)(h2:g Z s1=.ok (.int j) s2)(hm:oF i j):x2 f g fMul Z s=.ok (.int (i*j)) s2:=by rw[me h1 h2];exact Zc hm
def NG(h1:f Z s=.ok (.int i) s1)(h2:g Z s1=.ok (.int j) s2):x2 f g fSub Z s=.ok (.int (i-j)) s2:=by rw[me h1 h2];rfl
def Fc(a)(s)(hl:row.length<=1000)(hb:Pr.length<=1000)(hp:Pr[t]?=Za p)(hr:row[t]?=Za r)(hd:zi d)(m1:∀x∈row,oF p x)(m2:∀y∈Pr,oF r y) :
  rY a [LI row,LI Pr,.int (t:Nat),.int d] s=.ok (LI (clr p r d row Pr)) s:=by
 refine mC ?_;unfold Bq;refine nr ?_;have c:=BC (s:=s) (cap:=[Za (.int d),Za (LI Pr),Za (.int (t:Nat)),Za (LI row)]) (e:=x2 (x2 (x2 (x2 (xVar 3) (xVar 4) fIx) (xVar 0) fMul) (x2 (x2 (xVar 5) (xVar 4) fIx) (xVar 1) fMul) fSub) (xVar 2) fDiv) (λx y=>(p*x-r*y)/d) row Pr λx hx y hy =>
  Aw (NG (J5 ((me (lI rfl) (lI rfl)).trans (CV hp)) (lI rfl) (m1 x hx)) (J5 ((me (lI rfl) (lI rfl)).trans (CV hr)) (lI rfl) (m2 y hy))) (lI rfl) hd
 unfold oP;have z:HW (xCons (xVar 0) (xCons (xVar 1) xNil)) ([LI row,LI Pr,PV.int (t:Nat),.int d].map Za++aR (4-4) Zb) s=.ok (uw (row.map .int) (Pr.map .int)) s:=by unfold HW;rw[lJ (lI (v:=LI row) rfl) (lJ (lI (v:=LI Pr) rfl) rfl)];rfl
 show((HW (xCons (xVar 0) (xCons (xVar 1) xNil)) ([LI row,LI Pr,PV.int (t:Nat),.int d].map Za++aR (4-4) Zb) s).bind _)=_;rw[z];show(if(uw (row.map PV.int) (Pr.map PV.int)).length<=100000 then _ else _)=_;rw[Zc (by rw[zD,ac,ac];lia)];show(mF mX _ [Za (.int d),Za (LI Pr),Za (.int (t:Nat)),Za (LI row)] (uw (row.map PV.int) (Pr.map PV.int)) s).bind _=_;rw[c];rfl
theorem zt(g:Nat->List Int->List Int):∀(M:List (List Int))(k:Nat),(∀i row,M[i]?=Za row->e (Za (.int ((k+i:Nat):Int))::Za (LI row)::cap) s=.ok (LI (g (k+i) row)) s)->mF mX e cap (qU k (M.map LI)) s=.ok ((M.mapIdx λi row=>g (k+i) row).map LI) s
 |[],_,_=>rfl
 |row::M,k,h=>by
  have ih:=zt (e:=e) (cap:=cap) (s:=s) g M (k+1) λi q' hq=>by have:=h (i+1) q' hq;rw[show k+(i+1)=k+1+i by lia] at this;exact this
  have h0:=h 0 row rfl;rw[Nat.add_zero] at h0;show mF mX e cap (.tup [.int (k:Nat),LI row]::qU (k+1) (M.map LI)) s=_;unfold mF;show(match mX (Za (.int (k:Nat))::Za (LI row)::cap) s with
   |.ok true s1=>match e (Za (.int (k:Nat))::Za (LI row)::cap) s1 with
    |.ok v s2=>match mF mX e cap (qU (k+1) (M.map LI)) s2 with
     |.ok vs s3=>Out.ok (v::vs) s3
     |_=>.bad
    |_=>.bad
   |.ok false s1=>mF mX e cap (qU (k+1) (M.map LI)) s1
   |_=>.bad)=_
  simp only[mX,h0,ih];rw[List.mapIdx_cons,ao];have e2:(λ(i:Nat)(row:List Int)=>g (k+1+i) row)=λi row=>g (k+(i+1)) row:=by
   funext i row
   rw[show k+1+i=k+(i+1) by lia]
  rw[e2];rfl
abbrev LL(M:List (List Int)):PV:=.lst (M.map LI)
def at2(M:List (List Int))(i j:Nat):Int:=(((M[i]?).getD [])[j]?).getD 0
def nxt(t:Nat)(d:Int)(M:List (List Int)):List (List Int):=M.mapIdx λi row=>if i=t then row else clr (at2 M t t) ((row[t]?).getD 0) d row ((M[t]?).getD [])
def bmL(M:List (List Int)):Nat->Int×List (List Int)
 |0=>(1,M)
 |t+1=>(at2 (bmL M t).2 t t,nxt t (bmL M t).1 (bmL M t).2)
structure Rows(n w:Nat)(q:Int×List (List Int)):Prop where
 n:q.2.length=n
 w:∀row∈q.2,row.length=w
 b:∀row∈q.2,∀x∈row,Bt 20000 x
 d:zi q.1
def KZ(a:Adr)(s:Sto)(R:Rows n w q)(hn:n<=1000)(hw:w<=1000)(ht:t<n)(Ug:n<=w)(rows:PV)(u4:Option PV) :
  sZ a [Za rows,Za (.int q.1),Za (LL q.2),Za (.int (t:Nat)),u4] s=.nx [Za rows,Za (.int (at2 q.2 t t)),Za (LL (nxt t q.1 q.2)),Za (.int (t:Nat)),Za (LI ((q.2[t]?).getD []))] s:=by
 obtain⟨Pr,hM⟩:∃r,q.2[t]?=Za r:=⟨_,aw (by rw[R.n];exact ht)⟩;have VC:Pr∈q.2:=b7.mpr ⟨t,hM⟩;have hbl:=R.w Pr VC;have hp:Pr[t]?=Za (at2 q.2 t t):=by unfold at2;rw[hM];show Pr[t]?=Za ((Pr[t]?).getD 0);rw[aw (by lia)];rfl
 unfold sZ;refine lT (mf (v:=LI Pr) (s':=s) ((me (lI rfl) (lI rfl)).trans ?_)) ?_
 ·have:atI (q.2.map LI) (t:Int)=Za (LI Pr):=mQ (by rw[aD,hM];rfl);simp[fIx,lsOf,this]
 have lt:∀{row:List Int},row∈q.2->row[t]?=Za ((row[t]?).getD 0):=λ{row} hr=>by have:=R.w row hr;rw[aw (by lia)];rfl
 have c:=zt (s:=s) (cap:=[Za (.int (t:Nat)),Za (LI Pr),Za (.int q.1)]) (e:=xIfe (xTr (x2 (xVar 0) (xVar 2) fEq)) (xVar 1) (xCall 4 (rY a) (xCons (xVar 1) (xCons (xVar 3) (xCons (xVar 2) (xCons (xVar 4) xNil))))))
  (λi row=>if i=t then row else clr (at2 q.2 t t) ((row[t]?).getD 0) q.1 row Pr) q.2 0 λi row Vi=>by
   have hm:row∈q.2:=b7.mpr ⟨i,Vi⟩;have eq:xTr (x2 (xVar 0) (xVar 2) fEq) [Za (.int ((0+i:Nat):Int)),Za (LI row),Za (.int (t:Nat)),Za (LI Pr),Za (.int q.1)] s=.ok (decide (i=t)) s:=by
    unfold xTr;rw[me (lI rfl) (lI rfl),ft];show(fEqN false _ _ _).bind _=_;unfold fEqN;rw[oK,oK];show(Out.ok (PV.bl (bu (.int (i:Int)) (.int (t:Int)))) s).bind _=_;rw[rJ];show Out.ok (((i:Int)==(t:Int))) s=_
    congr 1
    rw[bZ,beq_iff_eq,decide_eq_true_iff];lia
   unfold xIfe;rw[eq,ft];by_cases z:i=t
   ·rw[Zg z,Zc z];rfl
   ·rw[Zh z,Zd z];have hl:=R.w row hm;show xCall 4 (rY a) (xCons (xVar 1) (xCons (xVar 3) (xCons (xVar 2) (xCons (xVar 4) xNil)))) [Za (.int (i:Int)),Za (LI row),Za (.int (t:Nat)),Za (LI Pr),Za (.int q.1)] s=_;exact lY (lJ (lI rfl) (lJ (lI rfl) (lJ (lI rfl) (lJ (lI rfl) rfl)))) rfl (Fc a s (by lia) (by lia) hp (lt hm) R.d (λx hx=>.inl ⟨R.b Pr VC _ (b7.mpr ⟨t,hp⟩),R.b row hm x hx⟩) (λy hy=>.inl ⟨R.b row hm _ (b7.mpr ⟨t,lt hm⟩),R.b Pr VC y hy⟩))
 have nx:nxt t q.1 q.2=q.2.mapIdx λi row=>if 0+i=t then row else clr (at2 q.2 t t) ((row[t]?).getD 0) q.1 row Pr:=by
  unfold nxt;rw[hM]
  congr 1
  funext i row
  rw[ft];rfl
 rw[<-nx] at c;refine lT (mf (v:=LL (nxt t q.1 q.2)) (s':=s) ?_) ((mf ((me (lI rfl) (lI rfl)).trans (CV hp))).trans (by rw[hM];rfl));unfold oP;have z:wj (xCons (xVar 2) xNil) [Za rows,Za (.int q.1),Za (LL q.2),Za (.int (t:Nat)),Za (LI Pr)] s=.ok (qU 0 (q.2.map LI)) s:=by unfold wj;rw[lJ (lI (v:=LL q.2) rfl) rfl];rfl
 show((wj (xCons (xVar 2) xNil) [Za rows,Za (.int q.1),Za (LL q.2),Za (.int (t:Nat)),Za (LI Pr)] s).bind _)=_;rw[z];show(if(qU 0 (q.2.map LI)).length<=100000 then _ else _)=_;rw[Zc (by rw[rT,ac,R.n];lia)];show(mF mX _ [Za (.int (t:Nat)),Za (LI Pr),Za (.int q.1)] (qU 0 (q.2.map LI)) s).bind _=_;rw[c];rfl
def Js(ws:List PV)(k:Nat)(hk:k<=ws.length):CG ws (Za (k:Int)) Zb=ws.drop k:=by
 unfold CG;have e1:HT.sIx ws.length 0 (Za (k:Int))=k:=by
  simp[HT.sIx];split
  ·omega
  ·exact Nat.min_eq_left hk
 have e2:HT.sIx ws.length ws.length Zb=ws.length:=rfl;rw[e1,e2];exact gW (by rw[gJ];omega)
def Hn(h:f Z s=.ok (.lst l) s1):xIter f Z s=.ok l s1:=by unfold xIter;rw[h];rfl
def GJ(a:Adr)(s:Sto)(hn:n<=1000)(hw:w<=1000)(Ug:n<=w)(R:∀t,t<=n->Rows n w (bmL rows t)):wG a [LL rows] s=.ok (.tup [LL ((bmL rows n).2.map (·.drop n)),.int (bmL rows n).1]) s:=by
 have len:rows.length=n:=(R 0 (aX _)).n;obtain⟨ρ',s',lp,u3,u4,rfl,rfl⟩:=uB (body:=mU (yName 3) (sZ a)) n
  (λk Z s'=>∃u3 u4,Z=[Za (LL rows),Za (.int (bmL rows k).1),Za (LL (bmL rows k).2),u3,u4]/\s'=s)
  (λk Z s' hk hI=>by obtain⟨u3,u4,rfl,rfl⟩:=hI;exact⟨_,_,(pV (i:=3)).trans (KZ a s' (R k (eE hk)) hn hw hk Ug (LL rows) u4),_,_,rfl,rfl⟩) (Z:=[Za (LL rows),Za (.int 1),Za (LL rows),Zb,Zb]) (s:=s) ⟨Zb,Zb,rfl,rfl⟩
 refine mC ?_;unfold D3;have ln:∀(Z:En)(s:Sto)(i:Nat),Z[i]?=Za (Za (LL rows))->xB (xCons (xVar i) xNil) fLen Z s=.ok (.int (n:Nat)) s:=λZ s i h=>by rw[ym (lJ (lI h) rfl)];show fLen [.lst (rows.map LI)] s=_;simp[fLen,lsOf,len]
 refine lT (mf (v:=.int 1) (s':=s') rfl) ?_;refine lT (mf (v:=LL rows) (s':=s') (lI rfl)) ?_;refine lT (rA (uU (n:=n) (lJ (ln _ _ 0 rfl) rfl) (by omega)) lp) ?_;have c:=rW (s:=s') (cap:=[Za (LL rows)]) (c:=mX) (e:=xSl (xVar 0) (xPart (xB (xCons (xVar 1) xNil) fLen)) xNoP) (λ_=>true) (λp=>match p with|.lst l=>.lst (l.drop n)|p=>p) ((bmL rows n).2.map LI) (λq _=>rfl) (λq hq _=>by obtain⟨row,hr,rfl⟩:=aj.mp hq;have hl:=(R n (am _)).w row hr;have cd:=Js (row.map PV.int) n (by rw[ac];omega);have l1:=ln [Za (LI row),Za (LL rows)] s' 1 rfl;simp only[xSl,xVar,gM,Out.bind,xPart,l1,xNoP,fSl,lsOf,cd])
 have e1:((((bmL rows n).2.map LI).filter λ_=>true).map λp=>match p with|.lst l=>PV.lst (l.drop n)|p=>p)=((bmL rows n).2.map (·.drop n)).map LI:=by
  rw[iJ.mpr (λ_ _=>rfl),aA,aA];exact aQ λrow _=>by show PV.lst ((row.map PV.int).drop n)=PV.lst ((row.drop n).map PV.int);rw[List.map_drop]
 rw[e1] at c;exact nr (oQ (lJ (pF (l:=(bmL rows n).2.map LI) (s1:=s') (Hn (lI rfl)) (by rw[ac,(R n (am _)).n];omega) c) (lJ (lI rfl) rfl)))
end My
namespace El
def sm(f:Nat->Rat):Nat->Rat
 |0=>0
 |n+1=>sm f n+f n
theorem sm_congr:∀{n:Nat},(∀k,k<n->f k=g k)->sm f n=sm g n
 |0,_=>rfl
 |n+1,h=>by unfold sm;rw[sm_congr λk hk=>h k (by lia),h n (by lia)]
theorem sm_lin(a c)(f g):∀n:Nat,sm (λk=>a*f k+c*g k) n=a*sm f n+c*sm g n
 |0=>by unfold sm;grind
 |n+1=>by unfold sm;rw[sm_lin a c f g n];grind
theorem sm_mul(a)(f):∀n:Nat,sm (λk=>a*f k) n=a*sm f n
 |0=>by unfold sm;grind
 |n+1=>by unfold sm;rw[sm_mul a f n];grind
theorem sm_zero:∀{n:Nat},(∀k,k<n->f k=0)->sm f n=0
 |0,_=>rfl
 |n+1,h=>by unfold sm;rw[sm_zero λk hk=>h k (by lia),h n (by lia)];grind
theorem sm_one:∀{n:Nat},p<n->(∀k,k<n->k≠p->f k=0)->sm f n=f p
 |0,hp,_=>absurd hp (by lia)
 |n+1,hp,h=>by
  unfold sm;by_cases c:p=n
  ·subst c;rw[sm_zero λk hk=>h k (by lia) (by lia)];grind
  ·rw[sm_one (p:=p) (by lia) λk hk=>h k (by lia),h n (by lia) (by lia)];grind
theorem JO(hpq:p<q):∀{n:Nat},q<n->(∀k,k<n->k≠p->k≠q->f k=0)->sm f n=f p+f q
 |0,hp,_=>absurd hp (by lia)
 |n+1,hp,h=>by
  unfold sm;by_cases c:q=n
  ·subst c;rw[sm_one hpq λk hk z=>h k (by lia) z (by lia)]
  ·rw[JO hpq (by lia) λk hk=>h k (by lia),h n (by lia) (by lia) (by lia)];grind
def skip(j k:Nat):Nat:=if k<j then k else k+1
def sg(j:Nat):Rat:=if j%2=0 then 1 else -1
def K7(j):sg (j+1)=- sg j:=by
 unfold sg;rcases jU j with h|h
 ·rw[Zd (by lia),Zc h]
 ·rw[Zc (by lia),Zd (by lia)];grind
def dt:Nat->(Nat->Nat->Rat)->Rat
 |0,_=>1
 |n+1,M=>sm (λj=>sg j*M 0 j*dt n (λi k=>M (i+1) (skip j k))) (n+1)
def upd(M:Nat->Nat->Rat)(p:Nat)(b:Nat->Rat):Nat->Nat->Rat:=λi k=>if k=p then b i else M i k
theorem wB:∀{n:Nat}{M N:Nat->Nat->Rat},(∀i,i<n->∀k,k<n->M i k=N i k)->dt n M=dt n N
 |0,_,_,_=>rfl
 |n+1,M,N,h=>by unfold dt;refine sm_congr λj hj=>?_;rw[h 0 (by lia) j hj,wB (n:=n) λi hi k hk=>h (i+1) (by lia) (skip j k) (by unfold skip;split<;>lia)]
theorem dt_lin:∀{n:Nat}{M:Nat->Nat->Rat}{p:Nat}(a c:Rat)(u v:Nat->Rat),p<n->dt n (upd M p λi=>a*u i+c*v i)=a*dt n (upd M p u)+c*dt n (upd M p v)
 |0,_,_,_,_,_,_,hp=>absurd hp (by lia)
 |n+1,M,p,a,c,u,v,hp=>by
  unfold dt;rw[<-sm_lin];refine sm_congr λj hj=>?_;by_cases e:j=p
  ·subst e;have mi:∀w:Nat->Rat,(λi k=>upd M j w (i+1) (skip j k))=λi k=>M (i+1) (skip j k):=λw=>by
    funext i k
    unfold upd;rw[Zd (by unfold skip;split<;>lia)]
   rw[mi,mi,mi];unfold upd;rw[Zc rfl,Zc rfl,Zc rfl]
   grind
  ·have mi:∀w:Nat->Rat,(λi k=>upd M p w (i+1) (skip j k))=upd (λi k=>M (i+1) (skip j k)) (if p<j then p else p-1) λi=>w (i+1):=λw=>by
    funext i k
    unfold upd;have:skip j k=p↔k=if p<j then p else p-1:=by unfold skip;split<;>split<;>lia
    by_cases z:skip j k=p
    ·rw[Zc z,Zc (this.mp z)]
    ·rw[Zd z,Zd λy=>z (this.mpr y)]
   rw[mi,mi,mi,dt_lin a c (λi=>u (i+1)) (λi=>v (i+1)) (by split<;>lia)];unfold upd;rw[Zd e,Zd e,Zd e]
   grind
theorem Fz:∀{n:Nat}{M:Nat->Nat->Rat}{p:Nat},p+1<n->(∀i,M i p=M i (p+1))->dt n M=0
 |0,_,_,hp,_=>absurd hp (by lia)
 |n+1,M,p,hp,h=>by
  unfold dt;rw[JO (p:=p) (q:=p+1) (by lia) hp]
  ·have mi:(λi k=>M (i+1) (skip p k))=λi k=>M (i+1) (skip (p+1) k):=by
    funext i k
    by_cases c:k=p
    ·subst c;have e1:skip k k=k+1:=by unfold skip;split<;>lia
     have e2:skip (k+1) k=k:=by unfold skip;split<;>lia
     rw[e1,e2,h]
    ·have:skip p k=skip (p+1) k:=by unfold skip;split<;>split<;>lia
     rw[this]
   rw[mi,K7,h 0]
   grind
  ·intro j hj h1 h2;rw[Fz (n:=n) (p:=if p<j then p else p-1) (by split<;>lia)]
   ·grind
   ·intro i;have e1:skip j (if p<j then p else p-1)=p:=by unfold skip;split<;>(try split)<;>lia
    have e2:skip j ((if p<j then p else p-1)+1)=p+1:=by unfold skip;split<;>(try split)<;>lia
    rw[e1,e2];exact h _
def wI(M)(h:p≠q)(u v):upd (upd M p u) q v=upd (upd M q v) p u:=by
 funext i k
 unfold upd;by_cases a:k=q
 ·rw[Zc a,Zd (by lia),Zc a]
 ·rw[Zd a];split<;>rfl
def Mg(hp:p+1<n):dt n (upd (upd M p λi=>M i (p+1)) (p+1) λi=>M i p)=- dt n M:=by
 let F:=λu v:Nat->Rat=>dt n (upd (upd M p u) (p+1) v);have hF:∀u,F u u=0:=λu=>Fz hp λi=>by unfold upd;rw[Zd (by lia),Zc rfl,Zc rfl]
 have l2:∀u v w,F u (λi=>1*v i+1*w i)=1*F u v+1*F u w:=λu v w=>dt_lin 1 1 v w hp;have l1:∀u v w,F (λi=>1*v i+1*w i) u=1*F v u+1*F w u:=λu v w=>by show dt n _=1*dt n _+1*dt n _;rw[wI M (show p≠p+1 by lia) _ u,wI M (show p≠p+1 by lia) v u,wI M (show p≠p+1 by lia) w u];exact dt_lin 1 1 v w (by lia)
 have e:=hF λi=>1*M i p+1*M i (p+1);rw[l1,l2,l2,hF,hF] at e;have e1:F (λi=>M i p) (λi=>M i (p+1))=dt n M:=by
  show dt n _=_
  congr 1
  funext i k
  unfold upd;split
  ·rename_i z;rw[z]
  ·split
   ·rename_i z;rw[z]
   ·rfl
 rw[e1] at e;show F _ _=_
 grind
theorem KJ:∀(d:Nat){M:Nat->Nat->Rat}{p:Nat},p+d+1<n->(∀i,M i p=M i (p+d+1))->dt n M=0
 |0,_,_,hp,h=>Fz hp h
 |d+1,M,p,hp,h=>by
  have e:=Mg (M:=M) (p:=p+d+1) hp;have z:=KJ (n:=n) d (M:=upd (upd M (p+d+1) λi=>M i (p+d+1+1)) (p+d+1+1) λi=>M i (p+d+1)) (p:=p) (by lia) λi=>by unfold upd;rw[Zd (by lia),Zd (by lia),Zd (by lia),Zc rfl];exact h i
  rw[z] at e
  grind
def Mh(hp:p<n)(hq:q<n)(h:p≠q)(e:∀i,M i p=M i q):dt n M=0:=by
 rcases Nat.lt_or_gt_of_ne h with c|c
 ·obtain⟨d,rfl⟩:∃d,q=p+d+1:=⟨q-p-1,by lia⟩;exact KJ d hq e
 ·obtain⟨d,rfl⟩:∃d,p=q+d+1:=⟨p-q-1,by lia⟩;exact KJ d hp λi=>(e i).symm
theorem Ki(hp:p<n)(x:Nat->Rat)(C:Nat->Nat->Rat):∀m:Nat,dt n (upd M p λi=>sm (λl=>x l*C i l) m)=sm (λl=>x l*dt n (upd M p λi=>C i l)) m
 |0=>by
  have:=dt_lin (M:=M) 0 0 (λ_=>0) (λ_=>0) hp;unfold sm;have e:(λi:Nat=>(0:Rat)*(λ_:Nat=>(0:Rat)) i+0*(λ_:Nat=>(0:Rat)) i)=λ_=>0:=by funext i;grind
  rw[e] at this
  grind
 |m+1=>by
  have:=dt_lin (M:=M) 1 (x m) (λi=>sm (λl=>x l*C i l) m) (λi=>C i m) hp;unfold sm;rw[Ki hp x C m] at this;have e:(λi=>sm (λl=>x l*C i l) m+x m*C i m)=λi=>1*(λi=>sm (λl=>x l*C i l) m) i+x m*(λi=>C i m) i:=by funext i;grind
  rw[e,this]
  grind
def cramer(hp:p<n)(x b:Nat->Rat)(h:∀i,i<n->b i=sm (λl=>x l*M i l) n):dt n (upd M p b)=x p*dt n M:=by
 have e1:dt n (upd M p b)=dt n (upd M p λi=>sm (λl=>x l*M i l) n):=wB λi hi k hk=>by
  unfold upd;split
  ·exact h i hi
  ·rfl
 rw[e1,Ki hp x M n,sm_one (p:=p) hp]
 ·congr 2
  funext i k
  unfold upd;split
  ·rename_i z;rw[z]
  ·rfl
 ·intro k hk z;rw[Mh (p:=p) (q:=k) hp hk (by lia)]
  ·grind
  ·intro i;unfold upd;rw[Zc rfl,Zd z]
def Gh(x:Nat->Rat):dt (n+1) (upd M n λi=>M i n-sm (λl=>x l*M i l) n)=dt (n+1) M:=by
 have e:=cramer (n:=n+1) (M:=M) (p:=n) (by lia) (λl=>if l=n then 1 else-x l) (λi=>M i n-sm (λl=>x l*M i l) n) λi _=>by
  show M i n-sm (λl=>x l*M i l) n=sm (λl=>(if l=n then 1 else-x l)*M i l) n+(if n=n then 1 else-x n)*M i n;rw[Zc rfl];have:sm (λl=>(if l=n then 1 else-x l)*M i l) n=(-1)*sm (λl=>x l*M i l) n:=by rw[<-sm_mul];exact sm_congr λk hk=>by rw[Zd (by lia)];grind
  rw[this]
  grind
 rw[e,Zc rfl]
 grind
theorem CC:∀{n:Nat}{M:Nat->Nat->Rat},(∀i,i<n->M i n=0)->dt (n+1) M=M n n*dt n M
 |0,M,_=>by
  show sm (λj=>sg j*M 0 j*1) 1=M 0 0*1;unfold sm sm sg;simp
  grind
 |n+1,M,h=>by
  have e:dt (n+2) M=sm (λj=>sg j*M 0 j*dt (n+1) (λi k=>M (i+1) (skip j k))) (n+2):=rfl;have e2:dt (n+1) M=sm (λj=>sg j*M 0 j*dt n (λi k=>M (i+1) (skip j k))) (n+1):=rfl;rw[e,e2,<-sm_mul];show sm _ (n+1)+sg (n+1)*M 0 (n+1)*_=_;rw[h 0 (by lia),sm_congr (g:=λj=>M (n+1) (n+1)*(sg j*M 0 j*dt n (λi k=>M (i+1) (skip j k)))) λj hj=>?_]
  ·grind
  ·have sk:skip j n=n+1:=by unfold skip;split<;>lia
   rw[CC (n:=n) (M:=λi k=>M (i+1) (skip j k)) λi hi=>by rw[sk];exact h (i+1) (by lia),sk]
   grind
def isI(q:Rat):Prop:=∃z:Int,q=(z:Rat)
def isI.add:isI a->isI b->isI (a+b):=λ⟨x,h⟩ ⟨y,k⟩=>⟨x+y,by rw[h,k];exact(fP x y).symm⟩
def isI.mul:isI a->isI b->isI (a*b):=λ⟨x,h⟩ ⟨y,k⟩=>⟨x*y,by rw[h,k];exact(cL x y).symm⟩
def isI.sub:isI a->isI b->isI (a-b):=λ⟨x,h⟩ ⟨y,k⟩=>⟨x-y,by rw[h,k];exact(ia x y).symm⟩
theorem Ft:∀{n:Nat},(∀k,k<n->isI (f k))->isI (sm f n)
 |0,_=>⟨0,rfl⟩
 |n+1,h=>(Ft λk hk=>h k (by lia)).add (h n (by lia))
def Os(j):isI (sg j):=by
 unfold sg;split
 ·exact⟨1,rfl⟩
 ·exact⟨-1,rfl⟩
theorem Fu:∀{n:Nat}{M:Nat->Nat->Rat},(∀i k,isI (M i k))->isI (dt n M)
 |0,_,_=>⟨1,rfl⟩
 |n+1,M,h=>Ft λj _=>((Os j).mul (h 0 j)).mul (Fu λi k=>h _ _)
structure Cl(A:Nat->Nat->Rat)(t:Nat)(d:Rat)(M X:Nat->Nat->Rat):Prop where
 d0:d≠0
 dt:d=dt t A
 so:∀i,i<t->∀j,sm (λl=>X l j*A i l) t=A i j
 up:∀i,i<t->∀j,M i j=d*X i j
 lo:∀i,t<=i->∀j,M i j=d*(A i j-sm (λl=>X l j*A i l) t)
def nextM(t:Nat)(d:Rat)(M:Nat->Nat->Rat):Nat->Nat->Rat:=λi j=>if i=t then M t j else(M t t*M i j-M i t*M t j)/d
def Cl.zero(A):Cl A 0 1 A λ_ _=>0:=⟨by decide,rfl,λi h=>absurd h (by lia),λi h=>absurd h (by lia),λi _ j=>by show A i j=1*(A i j-0);grind⟩
def Cl.next(C:Cl A t d M X)(hp:M t t≠0):∃X',Cl A (t+1) (M t t) (nextM t d M) X':=by
 have d0:=C.d0;have hs:M t t=d*(A t t-sm (λl=>X l t*A t l) t):=C.lo t (am _) t;generalize hsd:A t t-sm (λl=>X l t*A t l) t=s at hs;have s0:s≠0:=λz=>hp (by rw[hs,z];grind);let y:=λj=>(A t j-sm (λl=>X l j*A t l) t)/s;have hy:∀j,s*y j=A t j-sm (λl=>X l j*A t l) t:=λj=>by show s*(_/s)=_;grind
 let X':Nat->Nat->Rat:=λi j=>if i=t then y j else X i j-X i t*y j
 have hX:∀(c:Nat->Rat)(j:Nat),sm (λl=>X' l j*c l) (t+1)=sm (λl=>X l j*c l) t-y j*sm (λl=>X l t*c l) t+y j*c t:=λc j=>by
  show sm (λl=>X' l j*c l) t+X' t j*c t=_;have e:sm (λl=>X' l j*c l) t=sm (λl=>1*(X l j*c l)+(- y j)*(X l t*c l)) t:=sm_congr λk hk=>by
   show(if k=t then y j else X k j-X k t*y j)*c k=_;rw[Zd (by lia)]
   grind
  rw[e,sm_lin];show _+(if t=t then y j else _)*c t=_;rw[Zc rfl]
  grind
 refine⟨X',hp,?_,λi hi j=>?_,λi hi j=>?_,λi hi j=>?_⟩
 ·rw[<-Gh (n:=t) (M:=A) λl=>X l t,CC]
  ·have e:El.dt t (upd A t λi=>A i t-sm (λl=>X l t*A i l) t)=El.dt t A:=wB λi hi k hk=>by unfold upd;rw[Zd (by lia)]
   rw[e,<-C.dt];unfold upd;rw[Zc rfl];show M t t=(A t t-sm (λl=>X l t*A t l) t)*d;rw[hsd,hs]
   grind
  ·intro i hi;unfold upd;rw[Zc rfl];show A i t-sm (λl=>X l t*A i l) t=0;rw[C.so i hi t]
   grind
 ·rw[hX];by_cases c:i=t
  ·subst c;have:=hy j
   grind
  ·rw[C.so i (by lia) j,C.so i (by lia) t]
   grind
 ·show nextM t d M i j=_*(if i=t then y j else X i j-X i t*y j);unfold nextM;have hj:=C.lo t (am _) j;have:=hy j;by_cases c:i=t
  ·rw[Zc c,Zc c,hj,hs]
   grind
  ·rw[Zd c,Zd c,C.up i (by lia) j,C.up i (by lia) t,hj,hs]
   grind
 ·rw[hX];unfold nextM;have hj:=C.lo t (am _) j;have:=hy j;rw[Zd (by lia),C.lo i (by lia) j,C.lo i (by lia) t,hj,hs]
  grind
def Cl.whole(C:Cl A t d M X)(hA:∀i j,isI (A i j)):isI d/\∀i j,isI (M i j):=by
 have hd:isI d:=by rw[C.dt];exact Fu hA
 have up:∀i,i<t->∀j,isI (d*X i j):=λi hi j=>by
  have e:=cramer (n:=t) (M:=A) (p:=i) hi (λl=>X l j) (λk=>A k j) λk hk=>(C.so k hk j).symm;rw[<-C.dt] at e;have:d*X i j=El.dt t (upd A i λk=>A k j):=by rw[e];grind
  rw[this];refine Fu λk l=>?_;unfold upd;split
  ·exact hA _ _
  ·exact hA _ _
 refine⟨hd,λi j=>?_⟩;by_cases c:i<t
 ·rw[C.up i c j];exact up i c j
 ·rw[C.lo i (by lia) j];have e:d*(A i j-sm (λl=>X l j*A i l) t)=d*A i j-sm (λl=>(d*X l j)*A i l) t:=by
   have:sm (λl=>(d*X l j)*A i l) t=d*sm (λl=>X l j*A i l) t:=by rw[<-sm_mul];exact sm_congr λk _=>by grind
   rw[this]
   grind
  rw[e];exact(hd.mul (hA i j)).sub (Ft λk hk=>(up k hk j).mul (hA i k))
def gs(n:Nat)(G:Nat->Bool)(S:Nat->Nat->Rat)(j:Nat):Rat:=sm (λi=>if G i=true then S i j else 0) n
structure Zm(n t:Nat)(S:Nat->Nat->Rat):Prop where
 off:∀i j,t<=i->i<n->t<=j->j<n->i≠j->S i j<=0
 col:∀G:Nat->Bool,(∀i,G i=true->t<=i)->∀j,j<n->G j=true->0<=gs n G S j
 grp:∀G:Nat->Bool,(∀i,G i=true->t<=i/\i<n)->(∃j,G j=true)->∃j,G j=true/\0<gs n G S j
def DX(h:∀i,i<n->G i=true->S i j=T i j):gs n G S j=gs n G T j:=sm_congr λi hi=>by
 show(if G i=true then S i j else 0)=if G i=true then T i j else 0
 split
 ·exact h i hi (by assumption)
 ·rfl
def Zm.congr(h:Zm n t S)(e:∀i j,t<=i->i<n->T i j=S i j):Zm n t T:=by
 refine⟨λi j a b c d f=>by rw[e i j a b];exact h.off i j a b c d f,λG hG j hj gj=>?_,λG hG hx=>?_⟩
 ·rw[DX λi hi gi=>e i j (hG i gi) hi];exact h.col G hG j hj gj
 ·obtain⟨j,gj,p⟩:=h.grp G hG hx;exact⟨j,gj,by rw[DX λi hi gi=>e i j (hG i gi).1 hi];exact p⟩
def Zm.piv(h:Zm n t S)(ht:t<n):0<S t t:=by
 obtain⟨j,gj,p⟩:=h.grp (λi=>decide (i=t)) (λi z=>by have:=Zf z;lia) ⟨t,Zg rfl⟩;have:=Zf gj;subst this;have e:gs n (λi=>decide (i=j)) S j=S j j:=by
  unfold gs;rw[sm_one (p:=j) ht]
  ·simp
  ·intro k _ z;simp[z]
 rw[e] at p;exact p
def yS(t:Nat)(S:Nat->Nat->Rat):Nat->Nat->Rat:=λi j=>S i j-S i t*(S t j/S t t)
def Kb(ht:t<n)(hG:G t=false)(j):gs n (λi=>G i||decide (i=t)) S j=gs n G S j+S t j:=by
 unfold gs;have e:sm (λi=>if decide (i=t)=true then S t j else 0) n=S t j:=by
  rw[sm_one (p:=t) ht]
  ·simp
  ·intro k _ z;simp[z]
 rw[show sm (λi=>if G i=true then S i j else 0) n+S t j=1*sm (λi=>if G i=true then S i j else 0) n+1*sm (λi=>if decide (i=t)=true then S t j else 0) n by rw[e];grind,<-sm_lin];refine sm_congr λi _=>?_;by_cases c:i=t
 ·subst c;simp[hG];grind
 ·simp[c];grind
def Ga(j):gs n G (yS t S) j=gs n G S j-gs n G S t*(S t j/S t t):=by unfold gs;generalize hq:S t j/S t t=q;rw[show sm (λi=>if G i=true then S i j else 0) n-sm (λi=>if G i=true then S i t else 0) n*q=1*sm (λi=>if G i=true then S i j else 0) n+(-q)*sm (λi=>if G i=true then S i t else 0) n by grind,<-sm_lin];refine sm_congr λi _=>?_;unfold yS;rw[hq];split<;>grind
def np{a b:Rat}(ha:a<=0)(hb:b<=0):0<=a*b:=by
 have:=bL (a:=-a) (b:=-b) (by grind) (by grind)
 grind
def OD{a b:Rat}(ha:a<=0)(hb:0<b):a/b<=0:=by
 have h1:0<=b⁻¹:=kL (Rat.inv_pos.mpr hb);have:=bL (a:=-a) (b:=b⁻¹) (by grind) h1;rw[Rat.div_def]
 grind
def Jm{a b:Rat}(ha:a<0)(hb:0<b):a/b<0:=by
 have:=iw (a:=-a) (b:=b⁻¹) (by grind) (Rat.inv_pos.mpr hb);rw[Rat.div_def]
 grind
def Zm.next{n t:Nat}{S:Nat->Nat->Rat}(h:Zm n t S)(ht:t<n):Zm n (t+1) (yS t S):=by
 have pv:=h.piv ht;have q0:∀j,t+1<=j->j<n->S t j/S t t<=0:=λj h1 h2=>OD (h.off t j (am _) ht (by lia) h2 (by lia)) pv;have main:∀G:Nat->Bool,(∀i,G i=true->t+1<=i)->∀j,gs n G (yS t S) j=gs n (λi=>G i||decide (i=t)) S j-gs n (λi=>G i||decide (i=t)) S t*(S t j/S t t):=λG hG j=>by
  have gt:G t=false:=by
   cases c:G t with
   |false=>rfl
   |true=>have:=hG t c;lia
  rw[Ga,Kb ht gt,Kb ht gt];have:S t t*(S t j/S t t)=S t j:=by grind
  grind
 have inG:∀G:Nat->Bool,(∀i,G i=true->t+1<=i)->∀i,(G i||decide (i=t))=true->t<=i:=λG hG i z=>by
  rcases(dA _ _).mp z with z|z
  ·have:=hG i z;lia
  ·have:=Zf z;lia
 have sg0:∀G:Nat->Bool,(∀i,G i=true->t+1<=i)->0<=gs n (λi=>G i||decide (i=t)) S t:=λG hG=>h.col _ (inG G hG) t ht (by simp);have ge:∀G:Nat->Bool,(∀i,G i=true->t+1<=i)->∀j,j<n->G j=true->gs n (λi=>G i||decide (i=t)) S j<=gs n G (yS t S) j:=λG hG j hj gj=>by
  rw[main G hG];have:=bL (a:=gs n (λi=>G i||decide (i=t)) S t) (b:=-(S t j/S t t)) (sg0 G hG) (by have:=q0 j (hG j gj) hj;grind)
  grind
 refine⟨λi j a b c d f=>?_,λG hG j hj gj=>?_,λG hG hx=>?_⟩
 ·have h1:=h.off i j (by lia) b (by lia) d f;have h2:=np (h.off i t (by lia) b (am _) ht (by lia)) (q0 j c d);unfold yS
  grind
 ·have h1:=h.col (λi=>G i||decide (i=t)) (inG G hG) j hj (by simp[gj]);have h2:=ge G hG j hj gj
  grind
 ·have Se:=λi z=>(hG i z).1;obtain⟨j,gj,p⟩:=h.grp (λi=>G i||decide (i=t)) (λi z=>⟨inG G Se i z,by
   rcases(dA _ _).mp z with z|z
   ·exact(hG i z).2
   ·have:=Zf z;lia⟩) (by obtain⟨j,gj⟩:=hx;exact⟨j,by simp[gj]⟩)
  rcases(dA _ _).mp gj with gj|gj
  ·refine⟨j,gj,?_⟩;have:=ge G Se j (hG j gj).2 gj
   grind
  ·have:=Zf gj;subst this;by_cases c:∃k,G k=true/\S j k<0
   ·obtain⟨k,gk,nk⟩:=c;refine⟨k,gk,?_⟩;rw[main G Se];have h1:=h.col (λi=>G i||decide (i=j)) (inG G Se) k (hG k gk).2 (by simp[gk]);have h2:=iw (a:=gs n (λi=>G i||decide (i=j)) S j) (b:=-(S j k/S j j)) p (by have:=Jm nk pv;grind)
    grind
   ·obtain⟨k,gk,pk⟩:=h.grp G (λi z=>⟨by have:=Se i z;lia,(hG i z).2⟩) hx;refine⟨k,gk,?_⟩;have h0:S j k=0:=by
     have h1:=h.off j k (am _) ht (by have:=Se k gk;lia) (hG k gk).2 (by have:=Se k gk;lia);have h2:¬S j k<0:=λz=>c ⟨k,gk,z⟩
     grind
    rw[Ga,h0];have:(0:Rat)/S j j=0:=by grind
    rw[this]
    grind
def bm(A:Nat->Nat->Rat):Nat->Rat×(Nat->Nat->Rat)
 |0=>(1,A)
 |t+1=>((bm A t).2 t t,nextM t (bm A t).1 (bm A t).2)
theorem run(h:Zm n 0 A):∀t,t<=n->(∃X,Cl A t (bm A t).1 (bm A t).2 X)/\0<(bm A t).1/\Zm n t λi j=>(bm A t).2 i j/(bm A t).1
 |0,_=>⟨⟨_,Cl.zero A⟩,(by decide:(0:Rat)<1),h.congr λi j _ _=>by show A i j/1=A i j;grind⟩
 |t+1,ht=>by
  obtain⟨⟨X,C⟩,dp,Zj⟩:=run h t (by lia);have pv:=Zj.piv (by lia);have d0:(bm A t).1≠0:=λz=>by rw[z] at dp;exact absurd dp (by decide)
  have pp:0<(bm A t).2 t t:=by
   have:=iw dp pv;have e:(bm A t).1*((bm A t).2 t t/(bm A t).1)=(bm A t).2 t t:=by grind
   rw[e] at this;exact this
  have p0:(bm A t).2 t t≠0:=λz=>by rw[z] at pp;exact absurd pp (by decide)
  refine⟨C.next p0,pp,(Zj.next (by lia)).congr λi j hi _=>?_⟩;show nextM t (bm A t).1 (bm A t).2 i j/(bm A t).2 t t=yS t _ i j;unfold nextM yS;rw[Zd (by lia)]
  grind
end El
namespace My
open PySem L2 Fra
def qR(h:M[i]?=Za row)(k:row[j]?=Za x):at2 M i j=x:=by unfold at2;rw[h];show(row[j]?).getD 0=x;rw[k];rfl
def MI(hn:M.length=n)(hw:∀row∈M,row.length=w)(ht:t<n)(htw:t<w)(hi:i<n)(hj:j<w):at2 (nxt t d M) i j=if i=t then at2 M t j else(at2 M t t*at2 M i j-at2 M i t*at2 M t j)/d:=by
 have get:∀k,k<n->∃row,M[k]?=Za row/\row.length=w:=λk hk=>by have e:M[k]?=Za (M[k]'(by lia)):=aw (by lia);exact⟨_,e,hw _ (b5 _)⟩
 obtain⟨row,hr,rl⟩:=get i hi;obtain⟨Pr,hb,bl⟩:=get t ht;obtain⟨x,hx⟩:∃x,row[j]?=Za x:=⟨_,aw (by lia)⟩;obtain⟨r,hrt⟩:∃r,row[t]?=Za r:=⟨_,aw (by lia)⟩;obtain⟨y,hy⟩:∃y,Pr[j]?=Za y:=⟨_,aw (by lia)⟩;rw[qR hb hy,qR hr hx,qR hr hrt];have e:(nxt t d M)[i]?=Za (if i=t then row else clr (at2 M t t) ((row[t]?).getD 0) d row ((M[t]?).getD [])):=by unfold nxt;rw[List.getElem?_mapIdx,hr];rfl
 by_cases c:i=t
 ·rw[Zc c] at e ⊢;subst c;rw[hr] at hb;cases hb;rw[hx] at hy;cases hy;exact qR e hx
 ·rw[Zd c] at e ⊢;rw[hb,hrt] at e;refine qR e ?_;show(kF (λx y=>(at2 M t t*x-r*y)/d) row Pr)[j]?=_;rw[List.getElem?_zipWith,hx,hy]
def LN(t)(d)(M):(nxt t d M).length=M.length:=by unfold nxt;rw[List.length_mapIdx]
def nxt_w(hw:∀row∈M,row.length=w)(ht:t<M.length):∀row∈nxt t d M,row.length=w:=by
 intro row hr;unfold nxt at hr;obtain⟨i,hi,e⟩:=List.mem_mapIdx.mp hr;have h1:=hw _ (b5 hi);have e2:M[t]?=Za M[t]:=aw ht;have h2:=hw _ (b5 ht);rw[<-e];split
 ·exact h1
 ·rw[e2];unfold clr;rw[List.length_zipWith];show min _ (M[t]).length=w;lia
theorem Kr(hn:rows.length=n)(hw:∀row∈rows,row.length=w)(Ug:n<=w)(Zj:El.Zm n 0 λi j=>((at2 rows i j:Int):Rat)):∀t,t<=n->(bmL rows t).2.length=n/\(∀row∈(bmL rows t).2,row.length=w)/\(((bmL rows t).1:Int):Rat)=(El.bm (λi j=>((at2 rows i j:Int):Rat)) t).1/\∀i j,i<n->j<w->((at2 (bmL rows t).2 i j:Int):Rat)=(El.bm (λi j=>((at2 rows i j:Int):Rat)) t).2 i j
 |0,_=>⟨hn,hw,rfl,λ_ _ _ _=>rfl⟩
 |t+1,ht=>by
  obtain⟨h1,h2,h3,h4⟩:=Kr hn hw Ug Zj t (by lia);obtain⟨⟨X,C⟩,dp,_⟩:=El.run Zj t (by lia);obtain⟨⟨X',C'⟩,_,_⟩:=El.run Zj (t+1) ht;refine⟨(LN _ _ _).trans h1,nxt_w h2 (by lia),h4 t t (by lia) (by lia),λi j hi hj=>?_⟩;show((at2 (nxt t (bmL rows t).1 (bmL rows t).2) i j:Int):Rat)=El.nextM t _ _ i j;rw[MI h1 h2 (by lia) (by lia) hi hj];obtain⟨z,hz⟩:=(C'.whole λi j=>⟨_,rfl⟩).2 i j;have hz:El.nextM t _ _ i j=(z:Rat):=hz;unfold El.nextM at hz ⊢;by_cases c:i=t
  ·rw[Zc c] at hz ⊢;rw[Zc c];exact h4 t j (by lia) hj
  ·rw[Zd c] at hz ⊢;rw[Zd c,hz];rw[<-h4 t t (by lia) (by lia),<-h4 i j hi hj,<-h4 i t hi (by lia),<-h4 t j (by lia) hj,<-h3] at hz;rw[<-h3] at dp;have d0:(((bmL rows t).1:Int):Rat)≠0:=λq=>by rw[q] at dp;exact absurd dp (by decide)
   generalize (bmL rows t).1=d at *;generalize at2 (bmL rows t).2 t t=p at *;generalize at2 (bmL rows t).2 i j=x at *;generalize at2 (bmL rows t).2 i t=r at *;generalize at2 (bmL rows t).2 t j=y at *;have e:((p*x-r*y:Int):Rat)=((d*z:Int):Rat):=by
    rw[ia,cL,cL,cL]
    grind
   have e:p*x-r*y=d*z:=Rat.intCast_inj.mp e;have dz:d≠0:=λq=>d0 (by rw[q];rfl);rw[e,cD _ dz]
theorem um(hl)(g):∀(ns:List Str),(∀n∈ns,e (Za (.str n)::Za (frP (mD hl n).2)::cap) s=.ok (g n) s)->mF mX e cap (ns.map λn=>tG (mD hl n)) s=.ok (ns.map g) s
 |[],_=>rfl
 |n::ns,h=>by
  have ih:=um hl g ns λm hm=>h m (ae _ hm);have h0:=h n ai;rw[ao];have ep:tG (mD hl n)=.tup [.str n,frP (mD hl n).2]:=by unfold tG;rw[E2]
  rw[ep];unfold mF;show(match mX (Za (.str n)::Za (frP (mD hl n).2)::cap) s with
   |.ok true s1=>match e (Za (.str n)::Za (frP (mD hl n).2)::cap) s1 with
    |.ok v s2=>match mF mX e cap (ns.map λn=>tG (mD hl n)) s2 with
     |.ok vs s3=>Out.ok (v::vs) s3
     |_=>.bad
    |_=>.bad
   |.ok false s1=>mF mX e cap (ns.map λn=>tG (mD hl n)) s1
   |_=>.bad)=_
  simp only[mX,h0,ih];rfl
theorem yD:∀U:List Str,toVs (U.map PV.str)=Za (U.map V.str)
 |[]=>rfl
 |x::r=>by rw[ao];unfold toVs;rw[yD r];rfl
def Hr(n:Str)(U:List Str):inV (.str n) (U.map V.str)=decide (n∈U):=by
 unfold inV;rw[gX,bZ,de,decide_eq_true_iff];constructor
 ·rintro⟨x,hx,e⟩
  have e:(x==n)=true:=e;rw[<-eq_of_beq e];exact hx
 ·intro h;exact⟨n,h,beq_self_eq_true n⟩
def in_LS(n:Str)(V:List Str)(s:Sto):fIn (.str n) (LS V) s=.ok (.bl (decide (n∈V))) s:=by simp[fIn,sX,dcOf,toV,lsOf,yD,JB,Hr]
theorem Gy(g):∀ns:List Str,zA (ns.map λn=>PV.bl (g n))=Za (ns.map g)
 |[]=>rfl
 |n::ns=>by rw[ao];unfold zA;rw[Gy g ns];rfl
def inG(L:List Ent)(G:List Str)(h:Str):Bool:=(own L h).all λn=>decide (n∈G)
def L7(a)(H:Ho L N)(hb:T.get nb=Za (.book pp L))(hh:mv L h=true):oa a [.ref nb,.str h,LS G] T=.ok (.bl (inG L G h)) T:=by
 obtain⟨e,fe,oe⟩:∃e,mI L h=Za e/\own L h=srt (e.held.map (·.1)):=by have:=hh;unfold mv at this;obtain⟨e,he⟩:=dB.mp this;exact⟨e,he,by unfold own;rw[he]⟩
 have hl:=(H.ow h e fe).1;have sh:oj a [.ref nb,.str h] T=.ok (qK e.held) T:=by simp only[oj,mM,hb];rw[Zc (H.sm h (H.hn h hh)).nm,fe];exact Zc hl
 refine mC ?_;unfold rH;have c:=um (s:=T) (cap:=[Za (LS G)]) (e:=x2 (xVar 0) (xVar 2) fIn) e.held (λn=>.bl (decide (n∈G))) (srt (e.held.map (·.1))) λn _=>(me (lI rfl) (lI rfl)).trans (in_LS n G T);have it:xIter (xBM 2 (oj a) (xVar 0) (xCons (xVar 1) xNil)) [Za (.ref nb),Za (.str h),Za (LS G)] T=.ok ((srt (e.held.map (·.1))).map λn=>tG (mD e.held n)) T:=nc ((qr (lI rfl) hb (lJ (lI rfl) rfl) rfl).trans sh);have cc:oP (xIter (xBM 2 (oj a) (xVar 0) (xCons (xVar 1) xNil))) [2] mX (x2 (xVar 0) (xVar 2) fIn) [Za (.ref nb),Za (.str h),Za (LS G)] T=.ok (.lst ((srt (e.held.map (·.1))).map λn=>PV.bl (decide (n∈G)))) T:=by unfold oP;rw[it];show(if((srt (e.held.map (·.1))).map λn=>tG (mD e.held n)).length<=100000 then _ else _)=_;rw[Zc (by rw[ac,(lZ _).length_eq,ac];lia)];show(mF mX _ [Za (LS G)] _ T).bind _=_;rw[c];rfl
 refine nr ((ym (lJ cc rfl)).trans ?_);unfold fAll;show(match zA ((srt (e.held.map (·.1))).map λn=>PV.bl (decide (n∈G))) with
  |some bs=>Out.ok (PV.bl (bs.all id)) T
  |none=>.bad)=_
 rw[Gy (λn=>decide (n∈G))];unfold inG;rw[oe];show Out.ok (PV.bl (((srt (e.held.map (·.1))).map λn=>decide (n∈G)).all id)) T=_;rw[kI];rfl
end My
namespace El
def ab(x:Rat):Rat:=if x<0 then -x else x
def ab_nn(x):0<=ab x:=by unfold ab;split<;>grind
def OP(x y):ab (x+y)<=ab x+ab y:=by unfold ab;split<;>split<;>split<;>grind
def ab_mul(x y):ab (x*y)=ab x*ab y:=by
 unfold ab;by_cases hx:x<0<;>by_cases hy:y<0
 ·have:=iw (a:=-x) (b:=-y) (by grind) (by grind);rw[Zd (by grind),Zc hx,Zc hy];grind
 ·have:=bL (a:=-x) (b:=y) (by grind) (by grind);rw[Zc hx,Zd hy];split<;>grind
 ·have:=bL (a:=x) (b:=-y) (by grind) (by grind);rw[Zd hx,Zc hy];split<;>grind
 ·have:=bL (a:=x) (b:=y) (by grind) (by grind);rw[Zd hx,Zd hy,Zd (by grind)]
def ab_sg(j):ab (sg j)=1:=by unfold sg;split<;>decide
def pr(f:Nat->Rat):Nat->Rat
 |0=>1
 |n+1=>pr f n*f n
theorem KB:∀{n:Nat},(∀k,k<n->0<=f k)->0<=pr f n
 |0,_=>by show(0:Rat)<=1;decide
 |n+1,h=>bL (KB λk hk=>h k (by lia)) (h n (by lia))
theorem pr_congr:∀{n:Nat},(∀k,k<n->f k=g k)->pr f n=pr g n
 |0,_=>rfl
 |n+1,h=>by unfold pr;rw[pr_congr λk hk=>h k (by lia),h n (by lia)]
def KH{a b c d:Rat}(ha:0<=a)(hd:0<=d)(h1:a<=b)(h2:c<=d):a*c<=b*d:=by
 have e1:=bL (a:=a) (b:=d-c) ha (by grind);have e2:=bL (a:=b-a) (b:=d) (by grind) hd
 grind
theorem pr_mono{f g:Nat->Rat}:∀{n:Nat},(∀k,k<n->0<=f k/\f k<=g k)->pr f n<=pr g n
 |0,_=>by show(1:Rat)<=1;grind
 |n+1,h=>by have ih:=pr_mono (f:=f) (g:=g) (n:=n) λk hk=>h k (by lia);have hn:=h n (by lia);have p0:0<=pr f n:=KB λk hk=>(h k (by lia)).1;exact KH p0 (by grind) ih hn.2
theorem sm_mono:∀{n:Nat},(∀k,k<n->f k<=g k)->sm f n<=sm g n
 |0,_=>by show(0:Rat)<=0;grind
 |n+1,h=>by
  have ih:=sm_mono (f:=f) (g:=g) (n:=n) λk hk=>h k (by lia);have:=h n (by lia);unfold sm
  grind
theorem Nr(f):∀n:Nat,ab (sm f n)<=sm (λk=>ab (f k)) n
 |0=>by show ab 0<=0;decide
 |n+1=>by
  have ih:=Nr f n;have:=OP (sm f n) (f n);show ab (sm f n+f n)<=sm (λk=>ab (f k)) n+ab (f n)
  grind
theorem Dt{a b:Nat->Rat}(ha:∀k,0<=a k)(hb:∀k,0<=b k):∀n:Nat,sm (λj=>a j*pr (λk=>b (skip j k)) n) (n+1)<=pr (λk=>a k+b k) (n+1)
 |0=>by
  show(0:Rat)+a 0*1<=1*(a 0+b 0);have:=hb 0
  grind
 |n+1=>by
  have ih:=Dt ha hb n;show sm (λj=>a j*pr (λk=>b (skip j k)) (n+1)) (n+1)+a (n+1)*pr (λk=>b (skip (n+1) k)) (n+1)<=pr (λk=>a k+b k) (n+1)*(a (n+1)+b (n+1));have e1:sm (λj=>a j*pr (λk=>b (skip j k)) (n+1)) (n+1)=b (n+1)*sm (λj=>a j*pr (λk=>b (skip j k)) n) (n+1):=by
   rw[<-sm_mul];refine sm_congr λj hj=>?_;show a j*(pr (λk=>b (skip j k)) n*b (skip j n))=_;rw[show skip j n=n+1 by unfold skip;split<;>lia]
   grind
  have e2:pr (λk=>b (skip (n+1) k)) (n+1)=pr b (n+1):=pr_congr λk hk=>by rw[show skip (n+1) k=k by unfold skip;split<;>lia]
  have e3:pr b (n+1)<=pr (λk=>a k+b k) (n+1):=pr_mono λk _=>⟨hb k,by have:=ha k;grind⟩;rw[e1,e2];have f1:=bL (a:=b (n+1)) (b:=pr (λk=>a k+b k) (n+1)-sm (λj=>a j*pr (λk=>b (skip j k)) n) (n+1)) (hb _) (by grind);have f2:=bL (a:=a (n+1)) (b:=pr (λk=>a k+b k) (n+1)-pr b (n+1)) (ha _) (by grind)
  grind
theorem dt_le:∀(n:Nat)(M:Nat->Nat->Rat),ab (dt n M)<=pr (λj=>sm (λi=>ab (M i j)) n) n
 |0,M=>by show ab 1<=1;decide
 |n+1,M=>by
  have h1:ab (dt (n+1) M)<=sm (λj=>ab (M 0 j)*pr (λk=>sm (λi=>ab (M (i+1) (skip j k))) n) n) (n+1):=by
   have:=Nr (λj=>sg j*M 0 j*dt n (λi k=>M (i+1) (skip j k))) (n+1);refine cI this (sm_mono λj _=>?_);rw[ab_mul,ab_mul,ab_sg];have ih:=dt_le n λi k=>M (i+1) (skip j k);have f:=bL (a:=ab (M 0 j)) (b:=pr (λk=>sm (λi=>ab (M (i+1) (skip j k))) n) n-ab (dt n λi k=>M (i+1) (skip j k))) (ab_nn _) (by grind)
   grind
  have sn:∀(f:Nat->Rat)(n:Nat),(∀k,0<=f k)->0<=sm f n:=λf n h=>by
   induction n with
   |zero=>show(0:Rat)<=0;grind
   |succ n ih=>show 0<=sm f n+f n;have:=h n;grind
  have h2:=Dt (a:=λj=>ab (M 0 j)) (b:=λj=>sm (λi=>ab (M (i+1) j)) n) (λ_=>ab_nn _) (λj=>sn _ _ λ_=>ab_nn _) n;have sh:∀(f:Nat->Rat)(n:Nat),sm f (n+1)=f 0+sm (λi=>f (i+1)) n:=λf n=>by
   induction n with
   |zero=>show 0+f 0=f 0+0;grind
   |succ n ih=>show sm f (n+1)+f (n+1)=f 0+(sm (λi=>f (i+1)) n+f (n+1));rw[ih];grind
  have e:pr (λj=>sm (λi=>ab (M i j)) (n+1)) (n+1)=pr (λk=>ab (M 0 k)+sm (λi=>ab (M (i+1) k)) n) (n+1):=pr_congr λk _=>sh (λi=>ab (M i k)) n;rw[e];exact cI h1 h2
def Cl.low(C:Cl A t d M X)(hi:t<=i):M i j=El.dt (t+1) λr c=>A (if r=t then i else r) (if c=t then j else c):=by
 have lt:∀r,r<t->(if r=t then i else r)=r:=λr h=>Zd (by lia);have lj:∀c,c<t->(if c=t then j else c)=c:=λc h=>Zd (by lia);rw[<-Gh (n:=t) (M:=λr c=>A (if r=t then i else r) (if c=t then j else c)) λl=>X l j];have es:∀r,sm (λl=>X l j*A (if r=t then i else r) (if l=t then j else l)) t=sm (λl=>X l j*A (if r=t then i else r) l) t:=λr=>sm_congr λl hl=>by rw[lj l hl]
 rw[CC]
 ·have e1:El.dt t (upd (λr c=>A (if r=t then i else r) (if c=t then j else c)) t λr=>A (if r=t then i else r) (if t=t then j else t)-sm (λl=>X l j*A (if r=t then i else r) (if l=t then j else l)) t)=El.dt t A:=wB λr hr c hc=>by unfold upd;rw[Zd (by lia)];show A (if r=t then i else r) (if c=t then j else c)=A r c;rw[lt r hr,lj c hc]
  rw[e1,<-C.dt];unfold upd;rw[Zc rfl];show _=(A (if t=t then i else t) (if t=t then j else t)-sm (λl=>X l j*A (if t=t then i else t) (if l=t then j else l)) t)*d;rw[es,Zc rfl,Zc rfl,C.lo i hi j]
  grind
 ·intro r hr;unfold upd;rw[Zc rfl];show A (if r=t then i else r) (if t=t then j else t)-sm (λl=>X l j*A (if r=t then i else r) (if l=t then j else l)) t=0;rw[es,lt r hr,Zc rfl,C.so r hr j]
  grind
def Cl.upp(C:Cl A t d M X)(hi:i<t):M i j=El.dt t (upd A i λk=>A k j):=by
 have e:=cramer (n:=t) (M:=A) (p:=i) hi (λl=>X l j) (λk=>A k j) λk hk=>(C.so k hk j).symm;rw[e,<-C.dt,C.up i hi j]
 grind
theorem sm_nn(h:∀k,0<=f k):∀n,0<=sm f n
 |0=>by show(0:Rat)<=0;grind
 |n+1=>by have:=sm_nn h n;have:=h n;show 0<=sm f n+f n;grind
theorem HK(h:∀k,0<=f k):∀{n:Nat},t<=n->sm f t<=sm f n
 |0,ht=>by
  have:t=0:=by lia
  subst this
  grind
 |n+1,ht=>by
  by_cases c:t=n+1
  ·subst c;grind
  ·have:=HK h (t:=t) (n:=n) (by lia);have:=h n;show sm f t<=sm f n+f n
   grind
theorem xH(h:∀k,0<=f k)(hi:t<=i):∀{n:Nat},i<n->sm f t+f i<=sm f n
 |0,hn=>absurd hn (by lia)
 |n+1,hn=>by
  show sm f t+f i<=sm f n+f n;by_cases c:i=n
  ·subst c;have:=HK h hi
   grind
  ·have:=xH h hi (n:=n) (by lia);have:=h n
   grind
theorem FT(h:∀c,1<=B c):∀t,1<=pr B t
 |0=>by show(1:Rat)<=1;grind
 |t+1=>by
  have h1:=FT h t;have h2:=h t;have:=KH (a:=1) (b:=pr B t) (c:=1) (d:=B t) (by decide) (by grind) h1 h2;show 1<=pr B t*B t
  grind
theorem FS(h:∀c,1<=B c)(i j):∀t,pr (λc=>if c=i then B j else B c) t<=pr B t*B j
 |0=>by have:=h j;show(1:Rat)<=1*B j;grind
 |t+1=>by
  show pr (λc=>if c=i then B j else B c) t*(if t=i then B j else B t)<=pr B t*B t*B j;by_cases c:t=i
  ·have e:pr (λc=>if c=i then B j else B c) t=pr B t:=pr_congr λk hk=>Zd (by lia);rw[e,Zc c];have h1:=FT h t;have h2:=h t;have h3:=h j;have h4:0<=pr B t*B j:=bL (by grind) (by grind);have:=bL (a:=pr B t*B j) (b:=B t-1) h4 (by grind)
   grind
  ·rw[Zd c];have:=FS h i j t;have h2:=h t;have:=bL (a:=B t) (b:=pr B t*B j-pr (λc=>if c=i then B j else B c) t) (by grind) (by grind)
   grind
def Cl.le(C:Cl A t d M X)(ht:t<=n)(h1:∀c,1<=B c)(hB:∀c,sm (λr=>ab (A r c)) n<=B c)(hi:i<n)(j):ab (M i j)<=pr B t*B j:=by
 by_cases c:i<t
 ·rw[C.upp c];refine cI (dt_le _ _) (cI (pr_mono (g:=λc=>if c=i then B j else B c) λk _=>⟨sm_nn (λ_=>ab_nn _) _,?_⟩) (FS h1 i j t));show sm (λr=>ab (if k=i then A r j else A r k)) t<=if k=i then B j else B k
  split
  ·exact cI (HK (λ_=>ab_nn _) ht) (hB j)
  ·exact cI (HK (λ_=>ab_nn _) ht) (hB k)
 ·rw[C.low (by lia)];refine cI (dt_le _ _) ?_;have col:∀k,sm (λr=>ab (A (if r=t then i else r) k)) (t+1)<=B k:=λk=>by show sm (λr=>ab (A (if r=t then i else r) k)) t+ab (A (if t=t then i else t) k)<=B k;rw[sm_congr (g:=λr=>ab (A r k)) λr hr=>by rw[Zd (by lia)],Zc rfl];exact cI (xH (f:=λr=>ab (A r k)) (λ_=>ab_nn _) (by lia) hi) (hB k)
  show pr (λc=>sm (λr=>ab (A (if r=t then i else r) (if c=t then j else c))) (t+1)) t*sm (λr=>ab (A (if r=t then i else r) (if t=t then j else t))) (t+1)<=pr B t*B j;refine KH (KB λk _=>sm_nn (λ_=>ab_nn _) _) (by have:=h1 j;grind) (pr_mono λk hk=>⟨sm_nn (λ_=>ab_nn _) _,?_⟩) ?_
  ·rw[Zd (show ¬k=t by lia)];exact col k
  ·rw[Zc rfl];exact col j
end El
namespace My
open PySem L2 Fra
def GH(h:l.Perm m):mw l=mw m:=by
 induction h with
 |nil=>rfl
 |cons x _ ih=>show x+_=x+_;rw[ih]
 |swap x y l=>show y+(x+mw l)=x+(y+mw l);grind
 |trans _ _ a b=>exact a.trans b
def m8(x)(l):mw (x::l)=x+mw l:=rfl
theorem tO:∀{l:List α},(∀x∈l,p x=false->f x=0)->mw ((l.filter p).map f)=mw (l.map f)
 |[],_=>rfl
 |x::l,h=>by
  have ih:=tO (f:=f) (p:=p) (l:=l) λy hy=>h y (ae _ hy);rw[ao,m8,<-ih];cases c:p x with
  |true=>rw[List.filter_cons_of_pos c,ao,m8]
  |false =>
   rw[List.filter_cons_of_neg (by rw[c];decide),h x ai c,kJ]
def mJ{α:Type}{f g:α->Rat}{l:List α}(h:∀x∈l,f x=g x):mw (l.map f)=mw (l.map g):=by rw[aQ h]
def wn{U W:List Str}{g:Str->Rat}(hU:U.Nodup)(hW:W.Nodup)(h:∀x∈U,x∉W->g x=0):mw (U.map g)=mw (W.map λx=>if x∈U then g x else 0):=by have e1:mw ((U.filter λx=>decide (x∈W)).map g)=mw (U.map g):=tO λx hx c=>h x hx (of_decide_eq_false c);have e2:mw ((W.filter λx=>decide (x∈U)).map λx=>if x∈U then g x else 0)=mw (W.map λx=>if x∈U then g x else 0):=tO λx hx c=>Zd (of_decide_eq_false c);rw[<-e1,<-e2];have e3:mw ((W.filter λx=>decide (x∈U)).map λx=>if x∈U then g x else 0)=mw ((W.filter λx=>decide (x∈U)).map g):=mJ λx hx=>Zc (Zf (bK.mp hx).2);rw[e3];refine GH (List.Perm.map _ ((jN (hU.filter _) (hW.filter _)).mpr λx=>?_));rw[bK,bK,decide_eq_true_iff,decide_eq_true_iff];exact⟨λz=>⟨z.2,z.1⟩,λz=>⟨z.2,z.1⟩⟩
theorem yE:∀{l:List α},(∀x∈l,f x<=g x)->mw (l.map f)<=mw (l.map g)
 |[],_=>iy
 |x::l,h=>by
  have:=yE (f:=f) (g:=g) (l:=l) λy hy=>h y (ae _ hy);have:=h x ai;rw[ao,ao,m8,m8]
  grind
theorem FJ:∀{l:List α},(∀x∈l,f x<=g x)->(∃x∈l,f x<g x)->mw (l.map f)<mw (l.map g)
 |[],_,⟨_,z,_⟩=>nomatch z
 |x::l,h,⟨y,hy,k⟩=>by
  have a1:=yE (f:=f) (g:=g) (l:=l) λy hy=>h y (ae _ hy);have a2:=h x ai;rw[ao,ao,m8,m8];rcases af.mp hy with e|hy
  ·subst e;grind
  ·have a3:=FJ (f:=f) (g:=g) (l:=l) (λy hy=>h y (ae _ hy)) ⟨y,hy,k⟩
   grind
theorem qd(c)(f:α->Rat):∀l:List α,mw (l.map λx=>c*f x)=c*mw (l.map f)
 |[]=>(kK c).symm
 |x::l=>by rw[ao,ao,m8,m8,qd c f l];grind
theorem ux(f g:α->Rat):∀l:List α,mw (l.map λx=>f x+g x)=mw (l.map f)+mw (l.map g)
 |[]=>(fX 0).symm
 |x::l=>by rw[ao,ao,ao,m8,m8,m8,ux f g l];grind
def AW{α:Type}{f:α->Rat}{l:List α}(h:∀x∈l,f x=0):mw (l.map f)=0:=by
 induction l with
 |nil=>rfl
 |cons x l ih =>
  rw[ao,m8,h x ai,ih λy hy=>h y (ae _ hy)];exact fX 0
def K6(f:α->Rat)(l:List α):El.sm (λi=>((l[i]?).map f).getD 0) l.length=mw (l.map f):=by
 have:∀(k:Nat),k<=l.length->El.sm (λi=>((l[i]?).map f).getD 0) k=mw ((l.take k).map f):=λk=>by
  induction k with
  |zero=>intro _;rfl
  |succ k ih =>
   intro hk;show El.sm _ k+_=_;rw[ih (by lia),dC,aB,zF];have e:l[k]?=Za l[k]:=aw (by lia);show _+((l[k]?).map f).getD 0=_;rw[e];show _+f l[k]=_+(f l[k]+0);rw[fX]
 have h:=this l.length (am _);rw[fB] at h;exact h
theorem AX{α β:Type}(f:α->β->Rat)(l:List α):∀m:List β,mw (l.map λx=>mw (m.map λy=>f x y))=mw (m.map λy=>mw (l.map λx=>f x y))
 |[]=>AW λ_ _=>rfl
 |y::m=>by show mw (l.map λx=>f x y+mw (m.map λy=>f x y))=mw (l.map λx=>f x y)+mw (m.map λy=>mw (l.map λx=>f x y));rw[ux,AX f l m]
inductive Cts:Nat->List Ent->Prop
 |nil {c:Nat}:Cts c []
 |cons {c1 c2 c:Nat}{e:Ent}{L:List Ent}:(∃hz,HR c1 e.held hz)->Cts c2 L->c1+c2<=c->Cts c (e::L)
theorem Prs.cts:∀{c:Nat}{L:List Ent}{M:List Md},Prs N c L M->Cts c L
 |_,_,_,.nil=>.nil
 |_,_,_,.cons h r q=>.cons h.hm.r r.cts q
theorem Prs.tb:∀{c:Nat}{L:List Ent}{M:List Md},Prs N c L M->∀e∈L,Bt 100 e.th
 |_,_,_,.nil,_,z=>nomatch z
 |_,_,_,.cons h r q,e,z=>(af.mp z).elim (λz=>z▸h.tb.1) (r.tb e)
theorem Cts.mem:∀{c:Nat}{L:List Ent},Cts c L->∀e∈L,∃k hz,HR k e.held hz/\k<=c
 |_,_,.nil,_,z=>nomatch z
 |_,_,.cons (c1:=c1) ⟨hz,h⟩ r q,e,z=>by
  rcases af.mp z with z|z
  ·subst z;exact⟨c1,hz,h,by lia⟩
  ·obtain⟨k,hz,h,b⟩:=r.mem e z;exact⟨k,hz,h,by lia⟩
structure Gd(L:List Ent)(N:List Str)(c:Nat):Prop where
 ho:Ho L N
 nd:(L.map (·.nm)).Nodup
 ct:Cts c L
 tb:∀e∈L,Bt 200 e.th
 l8:L.length<=8
 c40:c<=41
def uE(h:mI L n=Za e):e∈L/\e.nm=n:=by unfold mI at h;have k:=eQ h;exact⟨eI h,Zf k⟩
def shr(L:List Ent)(h x:Str):Rat:=match mI L h with
 |some e=>rv (l7 e.held x)
 |none=>0
def MV(h1:0<=q.1)(h2:0<q.2):0<=rv q:=by unfold rv;rw[iR h2];exact h1
def NM(h1:0<q.1)(h2:0<q.2):0<rv q:=by
 have:=MV (bA h1) h2;have z:rv q≠0:=λz=>by
  have k:=JQ q;rw[z] at k;have n:0<=rv (-q.1,q.2):=by rw[k];grind
  unfold rv at n;rw[iR h2] at n;have n:0<=-q.1:=n;lia
 grind
section
variable{L:List Ent}{N:List Str}{c:Nat}
def Gd.hr(g:Gd L N c)(f:mI L h=Za e):∃k hz,HR k e.held hz/\k<=c:=g.ct.mem e (uE f).1
def Gd.ent(g:Gd L N c)(hh:mv L h=true):∃e,mI L h=Za e/\own L h=srt (e.held.map (·.1))/\∀x,shr L h x=rv (l7 e.held x):=by have:=hh;unfold mv at this;obtain⟨e,he⟩:=dB.mp this;exact⟨e,he,by unfold own;rw[he],λx=>by unfold shr;rw[he]⟩
theorem Gd.nn(g:Gd L N c)(h x):0<=shr L h x:=by
 by_cases hh:mv L h=true
 ·obtain⟨e,f,_,s⟩:=g.ent hh;obtain⟨k,hz,R,_⟩:=g.hr f;rw[s];exact MV (R.fr x).nn (R.fr x).low.1
 ·have:mI L h=none:=by
   unfold mv at hh;cases c:mI L h with
   |none=>rfl
   |some e=>rw[c] at hh;exact absurd rfl hh
  unfold shr;rw[this];exact iy
def Gd.pos(g:Gd L N c)(hx:x∈own L h):0<shr L h x:=by
 by_cases hh:mv L h=true
 ·obtain⟨e,f,o,s⟩:=g.ent hh;obtain⟨k,hz,R,_⟩:=g.hr f;rw[o,(lZ _).mem_iff] at hx;rw[s];exact NM ((R.nm x).mp hx) (R.fr x).low.1
 ·rw[J2 (by simpa using hh)] at hx;cases hx
def Gd.zero(g:Gd L N c)(hx:x∉own L h):shr L h x=0:=by
 by_cases hh:mv L h=true
 ·obtain⟨e,f,o,s⟩:=g.ent hh;rw[o,(lZ _).mem_iff] at hx;rw[s,ve hx];exact Rat.zero_divInt 1
 ·unfold shr;have:mI L h=none:=by
   unfold mv at hh;cases c:mI L h with
   |none=>rfl
   |some e=>rw[c] at hh;exact absurd rfl hh
  rw[this]
def Gd.ond(g:Gd L N c)(h):(own L h).Nodup:=by
 by_cases hh:mv L h=true
 ·obtain⟨e,f,o,s⟩:=g.ent hh;obtain⟨k,hz,R,_⟩:=g.hr f;rw[o];exact(lZ _).nodup_iff.mpr R.n1
 ·rw[J2 (by simpa using hh)];exact .nil
theorem Gd.one(g:Gd L N c)(hh:mv L h=true):mw ((own L h).map (shr L h))=1:=by
 obtain⟨e,f,o,s⟩:=g.ent hh;obtain⟨k,hz,R,_⟩:=g.hr f;have e1:=R.one;unfold HY at e1;have e2:mw ((hz.map (·.1)).map λn=>rv (l7 hz n))=mw ((hz.map (·.1)).map (shr L h)):=mJ λx _=>by rw[s,R.q]
 rw[e2,wn R.n2 (g.ond h) (λx _ z=>g.zero z)] at e1;rw[<-e1];refine mJ λx hx=>?_;rw[Zc];refine R.had ?_;rw[<-R.q,<-R.nm];rw[o,(lZ _).mem_iff] at hx;exact hx
def NoG(L:List Ent):Prop:=∀G:List Str,G≠[]->(∀h∈G,mv L h=true)->∃h∈G,∃x∈own L h,x∉G
def nth(U:List Str)(i:Nat):Str:=(U[i]?).getD cC
def nW(h:i<U.length):U[i]?=Za (nth U i)/\nth U i∈U:=by have e:U[i]?=Za U[i]:=aw h;unfold nth;rw[e];exact⟨rfl,b5 h⟩
def yR(nd:U.Nodup)(hi:i<U.length)(hj:j<U.length)(h:nth U i=nth U j):i=j:=by have e1:=(nW hi).1;have e2:=(nW hj).1;rw[<-h] at e2;exact(List.getElem?_inj hi nd).mp (e1.trans e2.symm)
def mA(L:List Ent)(U:List Str)(i j:Nat):Rat:=(if i=j then 1 else 0)-shr L (nth U j) (nth U i)
def CO(f:Str->Rat):El.sm (λi=>f (nth U i)) U.length=mw (U.map f):=by rw[<-K6];refine El.sm_congr λi hi=>?_;rw[(nW hi).1];rfl
abbrev gl(U:List Str)(G:Nat->Bool):List Str:=((bF U.length).filter G).map (nth U)
theorem Gd.gs(g:Gd L N c)(nd:U.Nodup)(hj:j<U.length)(Gj:G j=true):El.gs U.length G (mA L U) j=1-mw (U.map λx=>if x∈gl U G then shr L (nth U j) x else 0):=by
 unfold El.gs;have mem:∀i,i<U.length->(nth U i∈gl U G↔G i=true):=λi hi=>by
  constructor
  ·intro z;obtain⟨k,hk,e⟩:=aj.mp z;obtain⟨k1,k2⟩:=bK.mp hk;rw[<-yR nd (cH.mp k1) hi e];exact k2
  ·exact λz=>aj.mpr ⟨i,bK.mpr ⟨cH.mpr hi,z⟩,rfl⟩
 have e:El.sm (λi=>if G i=true then mA L U i j else 0) U.length=El.sm (λi=>1*(if i=j then 1 else 0)+(-1)*(if nth U i∈gl U G then shr L (nth U j) (nth U i) else 0)) U.length:=by
  refine El.sm_congr λi hi=>?_;have m:=mem i hi;by_cases q:G i=true
  ·rw[Zc q,Zc (m.mpr q)];unfold mA
   grind
  ·rw[Zd q,Zd (λz=>q (m.mp z)),Zd (λz=>q (by rw[z];exact Gj))]
   grind
 rw[e,El.sm_lin,El.sm_one hj (λk _ hk=>Zd hk),Zc rfl,CO (λx=>if x∈gl U G then shr L (nth U j) x else 0)]
 grind
def Gd.zm(g:Gd L N c)(ng:NoG L)(nd:U.Nodup)(hU:∀x∈U,mv L x=true):El.Zm U.length 0 (mA L U):=by
 have key:∀(G:Nat->Bool)(j:Nat),j<U.length->G j=true->(0<=El.gs U.length G (mA L U) j/\((∃x∈own L (nth U j),x∉gl U G)->0<El.gs U.length G (mA L U) j)):=λG j hj Gj=>by
  rw[g.gs nd hj Gj];generalize gl U G=V;have hh:=hU _ (nW hj).2;have o:=g.one hh;generalize nth U j=h at *;have sw:=wn (g:=λx=>if x∈V then shr L h x else 0) nd (g.ond h) (λx _ z=>by show(if x∈V then shr L h x else 0)=0;rw[g.zero z];split<;>rfl);rw[sw];have le:∀x∈own L h,(if x∈U then(if x∈V then shr L h x else 0) else 0)<=shr L h x:=λx _=>by
   have:=g.nn h x;split
   ·split
    ·exact iy
    ·exact this
   ·exact this
  refine⟨?_,λ⟨x,hx,hV⟩=>?_⟩
  ·have:=yE le;rw[o] at this
   grind
  ·have:=FJ le ⟨x,hx,by rw[Zd hV];have:=g.pos hx;split<;>exact this⟩;rw[o] at this
   grind
 refine⟨λi j _ hi _ hj Po=>?_,λG _ j hj Gj=>(key G j hj Gj).1,λG hG hx=>?_⟩
 ·unfold mA;rw[Zd Po];have:=g.nn (nth U j) (nth U i)
  grind
 ·obtain⟨j0,hj0⟩:=hx;have hm:∀x∈gl U G,∃j,j<U.length/\G j=true/\nth U j=x:=λx hx=>by obtain⟨k,hk,e⟩:=aj.mp hx;obtain⟨k1,k2⟩:=bK.mp hk;exact⟨k,cH.mp k1,k2,e⟩
  obtain⟨h,hh,x,hx,hxV⟩:=ng (gl U G) (lF (aj.mpr ⟨j0,bK.mpr ⟨cH.mpr (hG j0 hj0).2,hj0⟩,rfl⟩)) (λh hh=>by obtain⟨j,hj,_,e⟩:=hm h hh;rw[<-e];exact hU _ (nW hj).2)
  obtain⟨j,hj,Gj,e⟩:=hm h hh;exact⟨j,Gj,(key G j hj Gj).2 ⟨x,by rw[e];exact hx,hxV⟩⟩
def Oz(hp:p<n):El.dt n (El.upd M p λ_=>0)=0:=by
 have:=El.dt_lin (n:=n) (M:=M) (p:=p) 0 0 (λ_=>0) (λ_=>0) hp;have e:(λ(i:Nat)=>(0:Rat)*(λ_=>0) i+0*(λ_=>0) i)=λ_=>0:=by funext i;grind
 rw[e] at this;rw[this]
 grind
def Gd.uniq(g:Gd L N c)(ng:NoG L){U:List Str}(nd:U.Nodup)(hU:∀x∈U,mv L x=true){v:Str->Rat}(h:∀x∈U,v x=mw (U.map λl=>shr L l x*v l)):∀x∈U,v x=0:=by
 obtain⟨⟨X,C⟩,dp,_⟩:=El.run (g.zm ng nd hU) U.length (am _);rw[C.dt] at dp;intro x hx;obtain⟨p,hp⟩:=b7.mp hx;have Pn:p<U.length:=(aS.mp hp).1;have cr:=El.cramer (M:=mA L U) Pn (λl=>v (nth U l)) (λ_=>0) λi hi=>by
  have hxi:=h (nth U i) (nW hi).2;have e:El.sm (λl=>v (nth U l)*mA L U i l) U.length=El.sm (λl=>1*(if l=i then v (nth U l) else 0)+(-1)*(λy=>shr L y (nth U i)*v y) (nth U l)) U.length:=El.sm_congr λl hl=>by
   unfold mA;by_cases q:i=l
   ·subst q;rw[Zc rfl,Zc rfl];grind
   ·rw[Zd q,Zd (λz=>q z.symm)];grind
  rw[e,El.sm_lin,El.sm_one hi (λk _ hk=>Zd hk),Zc rfl,CO (λy=>shr L y (nth U i)*v y),<-hxi]
  grind
 rw[Oz Pn] at cr;have e:nth U p=x:=by unfold nth;rw[hp];rfl
 have cr:(0:Rat)=v (nth U p)*El.dt U.length (mA L U):=cr;rw[e] at cr;have d0:El.dt U.length (mA L U)≠0:=λz=>by rw[z] at dp;exact absurd dp (by decide)
 grind
end
theorem xw:∀U V:List Str,bY (U.map fw) (V.map fw)=decide (U=V)
 |[],[]=>by simp[bY]
 |[],y::V=>by simp[bY]
 |x::U,[]=>by simp[bY]
 |x::U,y::V=>by
  rw[ao,ao];unfold bY bu;rw[xw U V,bZ,cx,decide_eq_true_iff,decide_eq_true_iff];constructor
  ·intro⟨h1,h2⟩;rw[eq_of_beq h1,h2]
  ·intro h;cases h;exact⟨beq_self_eq_true _,rfl⟩
def eq_LS{U V:List Str}{s:Sto}(hU:∀x∈U,bi x=true)(hV:∀x∈V,bi x=true):fEq (LS U) (LS V) s=.ok (.bl (decide (U=V))) s:=by have e1:PV.data s 12 (LS U)=Za (.list (U.map fw)):=zn s 10 hU;have e2:PV.data s 12 (LS V)=Za (.list (V.map fw)):=zn s 10 hV;show fEqN false _ _ _=_;unfold fEqN;rw[e1,e2];show Out.ok (PV.bl (bu (.list _) (.list _))) s=_;unfold bu;rw[xw]
def Nc{U V:List Str}{s:Sto}(hU:∀x∈U,bi x=true)(hV:∀x∈V,bi x=true):fNe (LS U) (LS V) s=.ok (.bl (!decide (U=V))) s:=by have e1:PV.data s 12 (LS U)=Za (.list (U.map fw)):=zn s 10 hU;have e2:PV.data s 12 (LS V)=Za (.list (V.map fw)):=zn s 10 hV;show fEqN true _ _ _=_;unfold fEqN;rw[e1,e2];show Out.ok (PV.bl !(bu (.list _) (.list _))) s=_;unfold bu;rw[xw]
theorem rV{e:XE}{cap:En}{s:Sto}(g:Str->PV):∀(X:List Str),(∀x∈X,e (Za (.str x)::cap) s=.ok (g x) s)->ny mX e cap (X.map .str) s=.ok (X.map g) s
 |[],_=>rfl
 |x::X,h=>by rw[ao,oO];simp only[mX,h x ai,rV g X λy hy=>h y (ae _ hy),ao]
def xy{e:XE}{cap:En}{s:Sto}(g:Str->Int)(X:List Str)(h:∀x∈X,e (Za (.str x)::cap) s=.ok (.int (g x)) s):ny mX e cap (X.map .str) s=.ok ((X.map g).map .int) s:=(rV (λx=>.int (g x)) X h).trans (by rw[aA];rfl)
structure WG(L:List Ent)(G0 G:List Str):Prop where
 sl:G.Sublist G0
 cl:∀h∈G,∀x∈own L h,x∈G
 mx:∀V:List Str,(∀h∈V,h∈G0)->(∀h∈V,∀x∈own L h,x∈V)->∀h∈V,h∈G
def inG_iff:inG L G h=true↔∀x∈own L h,x∈G:=by unfold inG;rw[dg];exact⟨λz x hx=>Zf (z x hx),λz x hx=>Zg (z x hx)⟩
def GD(h:mS c b n Z s=.rt v s'):vW c b Z s=.rt v s':=(AN h (by intro z;cases z)).trans rfl
section
variable{T:Sto}{nb:Nat}{pp N:List Str}{L:List Ent}{c:Nat}
def wwalk(a:Adr)(H:Ho L N)(hb:T.get nb=Za (.book pp L)):∀(k:Nat)(G:List Str)(u2:Option PV),G.length<=k->k<=100->(∀h∈G,mv L h=true)->∃G',mS (xTr (xC (.bl true))) (mz a) (k+1) [Za (.ref nb),Za (LS G),u2] T=.rt (LS G') T/\WG L G G':=by
 intro k;induction k with
 |zero =>
  intro G u2 hk _ hG;have:G=[]:=cW.mp (by omega);subst this;refine⟨[],rfl,⟨jV _,(λ_ z=>nomatch z),λV hV _ h hh=>hV h hh⟩⟩
 |succ k ih =>
  intro G u2 hk hk1 hG;have so:∀x∈G,bi x=true:=λx hx=>HJ (H.sm x (H.hn x (hG x hx)));have c1:=rW (s:=T) (cap:=[Za (.ref nb),Za (LS G)]) (c:=xTr (xCall 3 (oa a) (xCons (xVar 1) (xCons (xVar 0) (xCons (xVar 2) xNil))))) (e:=xVar 0) (λq=>match q with|.str x=>inG L G x|_=>false) (λq=>q) (G.map .str) (λq hq=>by obtain⟨x,hx,rfl⟩:=aj.mp hq;exact rM (lY (lJ (lI rfl) (lJ (lI rfl) (lJ (lI rfl) rfl))) rfl (L7 a H hb (hG x hx)))) (λq hq _=>lI rfl)
  have e1:(((G.map PV.str).filter λq=>match q with|.str x=>inG L G x|_=>false).map λq=>q)=(G.filter (inG L G)).map PV.str:=by rw[List.map_id',fN];rfl
  rw[e1] at c1;have hl:(G.map PV.str).length<=100000:=by rw[ac];omega
  have bd:∀o:SO,xSeq (xIf (xTr (x2 (xVar 2) (xVar 1) fEq)) (xRet (xVar 1)) xEnd) (xSet 1 (xVar 2)) [Za (.ref nb),Za (LS G),Za (LS (G.filter (inG L G)))] T=o->mz a [Za (.ref nb),Za (LS G),u2] T=o:=λo ho=>by unfold mz;exact lT (mf (pF (l:=G.map .str) (s1:=T) (nc (lI rfl)) hl c1)) ho
  have eq:=eq_LS (s:=T) (U:=G.filter (inG L G)) (V:=G) (λx hx=>so x (bK.mp hx).1) so;by_cases z:G.filter (inG L G)=G
  ·rw[Zg z] at eq;refine⟨G,?_,⟨jV _,λh hh=>?_,λV hV _ h hh=>hV h hh⟩⟩
   ·unfold mS;show(match mz a [Za (.ref nb),Za (LS G),u2] T with
     |.nx ρ' s'=>mS (xTr (xC (.bl true))) (mz a) (k+1) ρ' s'
     |.ct ρ' s'=>mS (xTr (xC (.bl true))) (mz a) (k+1) ρ' s'
     |.bk ρ' s'=>.nx ρ' s'
     |o=>o)=_
    rw[bd (.rt (LS G) T) (CP ((AI (s1:=T) (rM ((me (lI rfl) (lI rfl)).trans eq))).trans (nr (lI rfl))))]
   ·rw[<-z] at hh;exact inG_iff.mp (bK.mp hh).2
  ·rw[Zh z] at eq;have lt:(G.filter (inG L G)).length<G.length:=by
    have:=fA (inG L G) G;by_cases q:(G.filter (inG L G)).length=G.length
    ·exact absurd (List.Sublist.eq_of_length lh q) z
    ·omega
   obtain⟨G',e,W⟩:=ih (G.filter (inG L G)) (Za (LS (G.filter (inG L G)))) (by omega) (by omega) (λh hh=>hG h (bK.mp hh).1);refine⟨G',?_,⟨W.sl.trans lh,W.cl,λV hV cV h hh=>W.mx V (λy hy=>bK.mpr ⟨hV y hy,inG_iff.mpr λx hx=>hV x (cV y hy x hx)⟩) cV h hh⟩⟩;rw[mS];show(match mz a [Za (.ref nb),Za (LS G),u2] T with
    |.nx ρ' s'=>mS (xTr (xC (.bl true))) (mz a) (k+1) ρ' s'
    |.ct ρ' s'=>mS (xTr (xC (.bl true))) (mz a) (k+1) ρ' s'
    |.bk ρ' s'=>.nx ρ' s'
    |o=>o)=_
   rw[bd (.nx [Za (.ref nb),Za (LS (G.filter (inG L G))),Za (LS (G.filter (inG L G)))] T) (lT ((x6 (s1:=T) (rM ((me (lI rfl) (lI rfl)).trans eq))).trans rfl) (mf (lI rfl)))];exact e
abbrev hsL(L:List Ent):List Str:=srt (L.map (·.nm))
def hsL_mem{L}:h∈hsL L↔mv L h=true:=by rw[(lZ _).mem_iff,pS]
def oo{L}:(hsL L).length=L.length:=by rw[(lZ _).length_eq,ac]
def Dp(a)(H:Ho L N)(hl:L.length<=64)(hb:T.get nb=Za (.book pp L)):∃G,oA a [.ref nb] T=.ok (LS G) T/\WG L (hsL L) G:=by obtain⟨G,e,W⟩:=wwalk a H hb (hsL L).length (hsL L) Zb (am _) (by rw[oo];omega) (λh hh=>hsL_mem.mp hh);refine⟨G,mC ?_,W⟩;unfold vf;refine lT (mf (v:=LS (hsL L)) (s':=T) ((qr (vs:=[]) (s2:=T) (lI rfl) hb rfl rfl).trans ?_)) (GD e);unfold nl mM;simp only[hb]
def WG.noG{L}(W:WG L (hsL L) []):NoG L:=by
 intro G hG hh;refine fU λz=>?_;cases G with
 |nil=>exact hG rfl
 |cons g G =>
  have:=W.mx (g::G) (λh Q5=>hsL_mem.mpr (hh h Q5)) (λh h1 x hx=>fU λq=>z ⟨h,h1,x,hx,q⟩) g ai;cases this
def WG.nil{L}(W:WG L (hsL L) G)(ng:NoG L):G=[]:=by refine fU λz=>?_;obtain⟨h,h1,x,h2,h3⟩:=ng G z λh hh=>hsL_mem.mp (W.sl.subset hh);exact h3 (W.cl h h1 x h2)
def LO(a:Adr)(H:Ho L N)(hl:L.length<=64)(ng:NoG L)(hb:T.get nb=Za (.book pp L)):nK a [.ref nb] T=.ok .non T:=by obtain⟨G,e,W⟩:=Dp a H hl hb;have:=W.nil ng;subst this;refine zQ (Z:=[Za (.ref nb),Za (LS [])]) ?_;unfold o9;refine lT (mf (lY (lJ (lI rfl) rfl) rfl e)) ((x6 (s1:=T) (rM ((me (lI rfl) (CU rfl)).trans ?_))).trans rfl);exact Nc (U:=[]) (V:=[]) (λ_ z=>nomatch z) (λ_ z=>nomatch z)
end
def nmD(ns:List Str)(g:Str->PV):List (Key×PV):=ns.map λn=>(ag n,g n)
def F0(h:x∈ns):qz (nmD ns g) (ag x)=Za (g x):=by
 unfold qz nmD;induction ns with
 |nil=>cases h
 |cons n ns ih =>
  rw[ao,bG];by_cases e:n=x
  ·subst e;rw[show decide ((ag n:Key)=ag n)=true from Zg rfl];rfl
  ·rw[show decide ((ag n:Key)=ag x)=false from Zh λz=>e (du z)];exact ih ((af.mp h).resolve_left λz=>e z.symm)
def Of(h:x∉ns):qz (nmD ns g) (ag x)=none:=by refine AS λz=>h ?_;obtain⟨kv,hk,e⟩:=aj.mp z;obtain⟨n,hn,rfl⟩:=aj.mp hk;exact du e▸hn
theorem Bu:∀(ns:List Str)(Pc:List (Key×PV)),ns.Nodup->(∀n∈ns,(ag n:Key)∉Pc.map (·.1))->AL Pc (ns.map λn=>.tup [.str n,g n])=Za (Pc++nmD ns g)
 |[],Pc,_,_=>by simp[AL,nmD]
 |n::ns,Pc,nd,h=>by
  obtain⟨n1,n2⟩:=ar.mp nd;have e:yO Pc (ag n) (g n)=Pc++[(ag n,g n)]:=by unfold yO;rw[Zd];intro z;obtain⟨kv,h1,h2⟩:=de.mp z;exact h n ai (aj.mpr ⟨kv,h1,Zf h2⟩)
  have ih:=Bu (g:=g) ns (Pc++[(ag n,g n)]) n2 λm hm z=>by
   rw[aB,aP] at z;rcases z with z|z
   ·exact h m (ae _ hm) z
   ·have:(ag m:Key)=ag n:=by simpa using z
    exact n1 (du this▸hm)
  show AL (yO Pc (ag n) (g n)) (ns.map λn=>.tup [.str n,g n])=_;rw[e,ih,ja];rfl
def FA(nd:ns.Nodup):AK [.lst (ns.map λn=>.tup [.str n,g n])] s=.ok (.dct (nmD ns g)) s:=by have:=Bu (g:=g) ns [] nd (λ_ _ z=>nomatch z);simp only[AK,lsOf,this,g8]
def HN(h:x∈ns):fIx (.dct (nmD ns g)) (.str x) s=.ok (g x) s:=by simp[fIx,lsOf,dcOf,kyOf,F0 h]
def pcn(l:Hl):Nat:=((srt (l.map (·.1))).map λn=>(l7 l n).2.toNat).foldl fK 1
def pc(l:Hl)(x:Str):Int:=(l7 l x).1*((pcn l:Int)/(l7 l x).2)
theorem D7{D:Nat}:∀(bs:List Nat)(p:Nat),0<p->p∣D->(∀b∈bs,0<b/\b∣D)->0<bs.foldl fK p/\p∣bs.foldl fK p/\bs.foldl fK p∣D/\∀b∈bs,b∣bs.foldl fK p
 |[],p,h0,hd,_=>⟨h0,Nat.dvd_refl _,hd,λ_ z=>nomatch z⟩
 |b::bs,p,h0,hd,hb=>by
  obtain⟨b0,bd⟩:=hb b ai;obtain⟨a1,a2,a3,a4⟩:=D7 bs (fK p b) (Nat.lcm_pos h0 b0) (Nat.lcm_dvd hd bd) λx hx=>hb x (ae _ hx);refine⟨a1,Nat.dvd_trans (Nat.dvd_lcm_left p b) a2,a3,λx hx=>?_⟩;rcases af.mp hx with e|hx
  ·subst e;exact Nat.dvd_trans (Nat.dvd_lcm_right p x) a2
  ·exact a4 x hx
def Ja(p b:Nat):(p:Int)*((b:Int)/((aF (p:Int) (b:Int):Nat):Int))=(fK p b:Nat):=by rw[show aF (p:Int) (b:Int)=Nat.gcd p b from rfl,<-Int.natCast_ediv,<-Int.natCast_mul];unfold fK;rw[Nat.mul_div_assoc _ (Nat.gcd_dvd_right p b)]
section
variable{k:Nat}{l hz:Hl}
def HR.den(R:HR k l hz):∃D:Nat,0<D/\Bt (97*k+1) (D:Int)/\∀x,(l7 l x).2.toNat∣D:=by
 obtain⟨D,U,d0,db,on⟩:=R.dv;refine⟨D.toNat,by lia,by rw[eL (by lia)];exact db,λx=>?_⟩;have h:=(on x).dvd;rw[<-R.q] at h;have b0:=(R.fr x).low.1;have:(((l7 l x).2.toNat:Nat):Int)∣(D.toNat:Int):=by rw[eL (by lia),eL (by lia)];exact h
 exact eY.mp this
def HR.pieces(R:HR k l hz):0<pcn l/\Bt (97*k+1) (pcn l:Int)/\∀x,(l7 l x).2∣(pcn l:Int):=by
 obtain⟨D,d0,db,dv⟩:=R.den;obtain⟨a1,a2,a3,a4⟩:=D7 (D:=D) ((srt (l.map (·.1))).map λn=>(l7 l n).2.toNat) 1 (by decide) (Nat.one_dvd _) λb hb=>by obtain⟨n,hn,rfl⟩:=aj.mp hb;exact⟨by have:=(R.fr n).low.1;lia,dv n⟩
 refine⟨a1,db.dvd (by lia) (eY.mpr a3),λx=>?_⟩;by_cases hx:x∈l.map (·.1)
 ·have:=a4 (l7 l x).2.toNat (aj.mpr ⟨x,(lZ _).mem_iff.mpr hx,rfl⟩);have:=eY.mpr this;rw[eL (bA (R.fr x).low.1)] at this;exact this
 ·rw[ve hx];exact Int.one_dvd _
def HR.pc_val(R:HR k l hz)(x):((pc l x:Int):Rat)=(pcn l:Int)*rv (l7 l x):=by
 obtain⟨a1,a2,a3⟩:=R.pieces;obtain⟨m,hm⟩:=a3 x;have b0:=(R.fr x).low.1;unfold pc rv;rw[hm,cD _ (by lia),gB,cL,cL];have:(((l7 l x).2:Int):Rat)≠0:=λz=>by have:=gP.mp z;lia
 grind
def HR.pc_nn(R:HR k l hz)(x):0<=pc l x:=by unfold pc;exact iG (R.fr x).nn (Int.ediv_nonneg (by lia) (bA (R.fr x).low.1))
def OJ(a)(s)(R:HR k l hz)(hk:k<=41)(hl:l.length<64):HV a [qK l] s=.ok (.dct (nmD (srt (l.map (·.1))) λx=>.int (pc l x))) s:=by
 obtain⟨D,d0,db,dv⟩:=R.den;have sh:∀x,Bt 9000 (l7 l x).2/\0<(l7 l x).2/\Bt 9000 (l7 l x).1:=λx=>⟨(R.fr x).bb.mono (by lia),(R.fr x).low.1,(R.fr x).top.mono (by lia)⟩;have bD:∀p:Nat,0<p->p∣D->Bt 9000 (p:Int):=λp h0 hp=>(db.dvd (by lia) (eY.mpr hp)).mono (by lia);have lp:∀(ns:List Str)(p:Nat)(u2 u3:Option PV),0<p->p∣D->∃v2 v3,nF (mU (yTup 2 (yCons (yName 2) (yCons (yName 3) yNil))) (wY a)) (ns.map λn=>tG (mD l n)) [Za (qK l),Za (.int (p:Nat)),u2,u3] s=.nx [Za (qK l),Za (.int (((ns.map λn=>(l7 l n).2.toNat).foldl fK p:Nat):Int)),v2,v3] s:=by
  intro ns;induction ns with
  |nil=>exact λp u2 u3 _ _=>⟨u2,u3,rfl⟩
  |cons n ns ih =>
   intro p u2 u3 p0 pd;obtain⟨s1,s2,s3⟩:=sh n;have eb:((l7 l n).2.toNat:Int)=(l7 l n).2:=eL (by lia);have ld:=Nat.lcm_dvd pd (dv n);have l0:0<fK p (l7 l n).2.toNat:=Nat.lcm_pos p0 (by lia);obtain⟨v2,v3,e⟩:=ih (fK p (l7 l n).2.toNat) (Za (.str n)) (Za (frP (l7 l n))) l0 ld;refine⟨v2,v3,?_⟩;rw[ao,ao,List.foldl_cons];unfold nF;have gp:0<aF (p:Int) (l7 l n).2:=bH _ (by lia);have gb:Bt 9000 ((aF (p:Int) (l7 l n).2:Nat):Int):=s1.dvd (by lia) (cB ..);have bd:mU (yTup 2 (yCons (yName 2) (yCons (yName 3) yNil))) (wY a) (tG (mD l n)) [Za (qK l),Za (.int (p:Nat)),u2,u3] s=.nx [Za (qK l),Za (.int ((fK p (l7 l n).2.toNat:Nat):Int)),Za (.str n),Za (frP (l7 l n))] s:=by rw[Ht];show wY a [Za (qK l),Za (.int (p:Nat)),Za (.str n),Za (frP (l7 l n))] s=_;unfold wY;have st:=Ja p (l7 l n).2.toNat;rw[eb] at st;rw[<-st];refine mf (oS (lI rfl) (Aw ((me (lI rfl) rfl).trans ix1) (lY (lJ (lI rfl) (lJ ((me (lI rfl) rfl).trans ix1) rfl)) rfl (show mO a [.int (p:Nat),.int (l7 l n).2] s=.ok (.int ((aF (p:Int) (l7 l n).2:Nat):Int)) s from Zc s2)) ⟨by lia,gb⟩) (rG (bD p p0 pd) s1.div))
   rw[bd];exact e
 obtain⟨v2,v3,e⟩:=lp (srt (l.map (·.1))) 1 Zb Zb (by decide) (Nat.one_dvd _);obtain⟨a1,a2,a3⟩:=R.pieces;refine mC ?_;unfold Nj;refine lT (mf (v:=.int 1) (s':=s) rfl) ?_;refine lT (rA (nc (lI rfl)) e) ?_;have c:=um (s:=s) (cap:=[Za (.int (pcn l:Nat))]) (e:=xTup (xCons (xVar 0) (xCons (x2 (x2 (xVar 1) (xC (.int 0)) fIx) (x2 (xVar 2) (x2 (xVar 1) (xC (.int 1)) fIx) fDiv) fMul) xNil))) l (λn=>.tup [.str n,.int (pc l n)]) (srt (l.map (·.1))) λn _=>by obtain⟨s1,s2,s3⟩:=sh n;rw[show(mD l n).2=l7 l n from rfl];exact oQ (lJ (lI rfl) (lJ (oS ((me (lI rfl) rfl).trans ix0) (Aw (lI rfl) ((me (lI rfl) rfl).trans ix1) ⟨s2,s1⟩) (rG s3 (a2.mono (by lia)).div)) rfl))
 refine nr ((ym (lJ (v:=.lst ((srt (l.map (·.1))).map λn=>.tup [.str n,.int (pc l n)])) (s1:=s) ?_ rfl)).trans (FA ((lZ _).nodup_iff.mpr R.n1)));unfold oP;rw[nc (l:=(srt (l.map (·.1))).map λn=>tG (mD l n)) (s1:=s) (lI rfl)];show(if((srt (l.map (·.1))).map λn=>tG (mD l n)).length<=100000 then _ else _)=_;rw[Zc (by rw[ac,(lZ _).length_eq,ac];lia)];show(mF mX _ [Za (.int (pcn l:Nat))] _ s).bind _=_;rw[c];rfl
end
structure Gr(T T':Sto):Prop where
 nx:T.nx<=T'.nx
 fr:∀k,k<T.nx->T'.get k=T.get k
def Gr.refl(T):Gr T T:=⟨am _,λ_ _=>rfl⟩
theorem Gr.trans(h:Gr A B)(k:Gr B C):Gr A C:=⟨aI h.nx k.nx,λj hj=>(k.fr j (ay hj h.nx)).trans (h.fr j hj)⟩
theorem Gr.add(T)(c):Gr T (T.add c):=⟨fL _,λk hk=>by rw[mE,Zd (by lia)]⟩
theorem By(f):∀(l:List PV),(∀q∈l,∀s,Gr T s->∃s',e (Za q::cap) s=.ok (f q) s'/\Gr T s')->∀s,Gr T s->∃s',ny mX e cap l s=.ok (l.map f) s'/\Gr T s'
 |[],_,s,g=>⟨s,rfl,g⟩
 |q::l,h,s,g=>by obtain⟨s1,e1,g1⟩:=h q ai s g;obtain⟨s2,e2,g2⟩:=By f l (λq hq=>h q (ae _ hq)) s1 g1;refine⟨s2,?_,g2⟩;rw[oO];simp only[mX,e1,e2,ao]
def pl(L:List Ent)(h:Str):Hl:=match mI L h with
 |some e=>e.held
 |none=>[]
def cv(L:List Ent)(h:Str):PV:=.dct (nmD (own L h) λx=>.int (pc (pl L h) x))
def av(L:List Ent):PV:=.dct (nmD (hsL L) (cv L))
theorem rQ(f:α->Int):∀l:List α,(((l.map f).sum:Int):Rat)=mw (l.map λx=>((f x:Int):Rat))
 |[]=>rfl
 |x::l=>by rw[ao,iM,fP,rQ f l];rfl
def Ke(hx:bi x=true)(hy:bi y=true):fEq (.str x) (.str y) s=.ok (.bl (decide (x=y))) s:=by
 have e:∀x,bi x=true->PV.data s 12 (.str x)=Za (.str x):=λx h=>by unfold PV.data;rw[Zc h]
 show fEqN false _ _ _=_;unfold fEqN;rw[e x hx,e y hy];show Out.ok (PV.bl (bu (.str x) (.str y))) s=_;unfold bu
 congr 2
def Gc(h1:f Z s=.ok (.dct l) s)(h2:g Z s=.ok (.str w) s)(h3:h Z s=.ok z s):xGet f g h Z s=.ok ((qz l (ag w)).getD z) s:=by unfold xGet;rw[h1];simp only[Out.bind,dcOf];rw[h2];simp only[h3,kyOf]
section
variable{T:Sto}{nb:Nat}{pp N:List Str}{L:List Ent}{c:Nat}
theorem Gd.held(g:Gd L N c)(hh:mv L h=true):∃e k hz,mI L h=Za e/\pl L h=e.held/\own L h=srt ((pl L h).map (·.1))/\HR k (My.pl L h) hz/\k<=c/\(∀x,shr L h x=rv (l7 (My.pl L h) x))/\e∈L/\e.nm=h:=by
 obtain⟨e,f,o,s⟩:=g.ent hh;obtain⟨k,hz,R,kc⟩:=g.hr f;have ep:My.pl L h=e.held:=by unfold My.pl;rw[f]
 exact⟨e,k,hz,f,ep,by rw[ep];exact o,by rw[ep];exact R,kc,λx=>by rw[ep];exact s x,(uE f).1,(uE f).2⟩
def Gd.hnd(g:Gd L N c):(hsL L).Nodup:=(lZ _).nodup_iff.mpr g.nd
def Gd.hok(g:Gd L N c)(hh:h∈hsL L):bi h=true:=HJ (g.ho.sm h (g.ho.hn h (hsL_mem.mp hh)))
def Ko(g:Gd L N c)(h x):(qz (nmD (own L h) λx=>.int (pc (pl L h) x)) (ag x)).getD (.int 0)=.int (pc (pl L h) x):=by
 by_cases hx:x∈own L h
 ·rw[F0 hx];rfl
 ·rw[Of hx];show PV.int 0=_;have:x∉(pl L h).map (·.1):=λz=>hx (by
   unfold own;unfold pl at z;cases e:mI L h with
   |none=>rw[e] at z;cases z
   |some e'=>rw[e] at z;exact(lZ _).mem_iff.mpr z)
  unfold pc;rw[ve this];show PV.int 0=PV.int (0*_);rw[jf]
def Gd.pc_sum(g:Gd L N c)(hh:mv L h=true):((own L h).map (pc (My.pl L h))).sum=(pcn (My.pl L h):Int):=by
 obtain⟨e,k,hz,f,ep,o,R,kc,sv,_⟩:=g.held hh;refine Rat.intCast_inj.mp ?_;rw[rQ];have:mw ((own L h).map λx=>((pc (My.pl L h) x:Int):Rat))=mw ((own L h).map λx=>((pcn (My.pl L h):Int):Rat)*shr L h x):=mJ λx _=>by rw[R.pc_val,sv]
 rw[this,qd,g.one hh,Rat.mul_one]
def Fd(a)(g:Gd L N c)(hb:T.get nb=Za (.book pp L)):xG a [.ref nb] T=.ok (av L) T:=by
 refine mC ?_;unfold Br;have c1:=rV (s:=T) (cap:=[Za (.ref nb)]) (e:=xTup (xCons (xVar 0) (xCons (xCall 1 (HV a) (xCons (xBM 2 (oj a) (xVar 1) (xCons (xVar 0) xNil)) xNil)) xNil))) (λh=>.tup [.str h,cv L h]) (hsL L) (λh hh=>by
  have hh:=hsL_mem.mp hh;obtain⟨e,k,hz,f,ep,o,R,kc,sv,_⟩:=g.held hh;have hl:=(g.ho.ow h e f).1;have sh:oj a [.ref nb,.str h] T=.ok (qK (pl L h)) T:=by simp only[oj,mM,hb];rw[Zc (g.ho.sm h (g.ho.hn h hh)).nm,f,ep];exact Zc hl
  have ct:=OJ a T R (by have:=g.c40;lia) (by rw[ep];exact hl);rw[<-o] at ct;exact oQ (lJ (lI rfl) (lJ (lY (lJ ((qr (lI rfl) hb (lJ (lI rfl) rfl) rfl).trans sh) rfl) rfl ct) rfl)))
 refine nr ((ym (lJ (pF (l:=(hsL L).map .str) (s1:=T) (nc ((qr (vs:=[]) (s2:=T) (lI rfl) hb rfl rfl).trans ?_)) (by rw[ac,oo];have:=g.l8;lia) c1) rfl)).trans (FA g.hnd));unfold nl mM;simp only[hb]
def owr(L:List Ent)(h:Str):List Int:=(hsL L).map λo=>(if o=h then(pcn (pl L h):Int) else 0)-pc (pl L o) h
def unr(L:List Ent)(h:Str):List Int:=(hsL L).map λo=>if o=h then 1 else 0
def GW(a)(g:Gd L N c)(hh:h∈hsL L)(T):zX a [.str h,LS (hsL L),av L] T=.ok (.ref T.nx) (T.add (.lst ((owr L h).map .int))):=by
 refine mC ?_;unfold D5;have l8:(hsL L).length<=8:=by rw[oo];exact g.l8
 have c1:=xy (s:=T) (cap:=[Za (.str h),Za (av L)]) (e:=x1 (xGet (x2 (xVar 2) (xVar 0) fIx) (xVar 1) (xC (.int 0))) fNeg) (λo=>-pc (pl L o) h) (hsL L) (λo ho=>by
  have e1:xGet (x2 (xVar 2) (xVar 0) fIx) (xVar 1) (xC (.int 0)) [Za (.str o),Za (.str h),Za (av L)] T=.ok (.int (pc (pl L o) h)) T:=by rw[Gc ((me (lI rfl) (lI rfl)).trans (HN ho)) (lI rfl) rfl,Ko g]
  unfold x1;rw[e1];rfl)
 have cc:yf (xIter (xVar 1)) [0,2] mX (x1 (xGet (x2 (xVar 2) (xVar 0) fIx) (xVar 1) (xC (.int 0))) fNeg) [Za (.str h),Za (LS (hsL L)),Za (av L),Zb] T=.ok (.ref T.nx) (T.add (.lst (((hsL L).map λo=>-pc (pl L o) h).map PV.int))):=by unfold yf;rw[nc (l:=(hsL L).map .str) (s1:=T) (lI rfl)];show(if((hsL L).map PV.str).length<=100000 then _ else _)=_;rw[Zc (by rw[ac];lia)];show(ny mX _ [Za (.str h),Za (av L)] _ T).bind _=_;rw[c1];rfl
 refine lT (mf cc) ?_;generalize hT:T.add (.lst (((hsL L).map λo=>-pc (pl L o) h).map PV.int))=T1;have g1:T1.get T.nx=Za (.lst (((hsL L).map λo=>-pc (pl L o) h).map PV.int)):=by rw[<-hT,mE,Zc rfl]
 obtain⟨i,hi⟩:∃i,(hsL L).findIdx? (λz=>decide (z=h))=Za i:=by
  cases e:(hsL L).findIdx? (λz=>decide (z=h)) with
  |some i=>exact⟨i,rfl⟩
  |none=>exact absurd (Zg rfl) (by rw[List.findIdx?_eq_none_iff] at e;rw[e h hh];decide)
 obtain⟨il,ie,_⟩:=iW.mp hi;have ie:(hsL L)[i]=h:=Zf ie;have ix:zY (xVar 1) (xCons (xVar 0) xNil) [Za (.str h),Za (LS (hsL L)),Za (av L),Za (.ref T.nx)] T1=.ok (.int (i:Nat)) T1:=by unfold zY;rw[lI (i:=1) (v:=LS (hsL L)) rfl,uI];have ca:xCons (xVar 0) xNil [Za (.str h),Za (LS (hsL L)),Za (av L),Za (.ref T.nx)] T1=.ok [.str h] T1:=lJ (lI (i:=0) (v:=.str h) rfl) rfl;simp only[ca,uI,vq,hi];rw[Zc (by lia)]
 have sv:Eo (x2 (xVar 2) (xVar 0) fIx) [Za (.str h),Za (LS (hsL L)),Za (av L),Za (.ref T.nx)] T1=.ok (.int (pcn (pl L h):Nat)) T1:=by
  unfold Eo;have e2:(nmD (own L h) λx=>PV.int (pc (pl L h) x)).map (λkv:Key×PV=>kv.2)=((own L h).map (pc (pl L h))).map PV.int:=by unfold nmD;rw[aA,aA];rfl
  rw[(me (lI (i:=2) (v:=av L) rfl) (lI (i:=0) (v:=.str h) rfl)).trans (HN hh),uI];show(match tH ((nmD (own L h) λx=>PV.int (pc (pl L h) x)).map λkv:Key×PV=>kv.2) with
    |some is=>Out.ok (PV.int is.sum) T1
    |none=>.bad)=_
  rw[e2,vB];simp only[g.pc_sum (hsL_mem.mp hh)]
 refine lT (ρ':=[Za (.str h),Za (LS (hsL L)),Za (av L),Za (.ref T.nx)]) (s':=T.add (.lst ((owr L h).map .int))) ?_ (nr (lI rfl));show HF (xVar 3) (zY (xVar 1) (xCons (xVar 0) xNil)) (Eo (x2 (xVar 2) (xVar 0) fIx)) [Za (.str h),Za (LS (hsL L)),Za (av L),Za (.ref T.nx)] T1=_;unfold HF;rw[lI (i:=3) (v:=.ref T.nx) rfl];simp only[Out.so];rw[ix];simp only[Out.so,g1,Int.toNat_natCast];rw[Zc (by lia)];have gi:(((hsL L).map λo=>-pc (pl L o) h).map PV.int)[i]?=Za (.int (-pc (pl L h) h)):=by rw[aD,aD,aw il,ie];rfl
 rw[gi];simp only[sv,g1];rw[Zc (by rw[ac,ac];exact il)];have row:(((hsL L).map λo=>-pc (pl L o) h).map PV.int).set i (.int (-pc (pl L h) h+(pcn (pl L h):Nat)))=(owr L h).map .int:=by
  refine i9 λj=>?_;rw[List.getElem?_set];unfold owr;by_cases q:i=j
  ·subst q;rw[Zc rfl,Zc (by rw[ac,ac];exact il),aD,aD,aw il,ie];show Za (PV.int (-pc (pl L h) h+(pcn (pl L h):Nat)))=Za (PV.int ((if h=h then(pcn (pl L h):Int) else 0)-pc (pl L h) h));rw[Zc rfl]
   congr 2
   lia
  ·rw[Zd q,aD,aD,aD,aD];cases e:(hsL L)[j]? with
   |none=>rfl
   |some o =>
    have:o≠h:=λz=>q ((List.getElem?_inj il g.hnd).mp (by rw[e,z,aw il,ie]));show Za (PV.int (-pc (pl L o) h))=Za (PV.int ((if o=h then(pcn (pl L h):Int) else 0)-pc (pl L o) h));rw[Zd this]
    congr 2
    lia
 rw[row,<-hT,yL]
def JA(a)(g:Gd L N c)(hh:h∈hsL L)(T):qW a [.str h,LS (hsL L),av L] T=.ok (LI (owr L h++unr L h)) (T.add (.lst ((owr L h).map .int))):=by
 have l8:(hsL L).length<=8:=by rw[oo];exact g.l8
 refine mC ?_;unfold xL;generalize hT:T.add (.lst ((owr L h).map .int))=T1;have g1:T1.get T.nx=Za (.lst ((owr L h).map .int)):=by rw[<-hT,mE,Zc rfl]
 have ow:=GW a g hh T;rw[hT] at ow;have c1:=xy (s:=T1) (cap:=[Za (.str h)]) (e:=xIfe (xTr (x2 (xVar 0) (xVar 1) fEq)) (xC (.int 1)) (xC (.int 0))) (λo=>if o=h then 1 else 0) (hsL L) (λo ho=>by
  have e1:xTr (x2 (xVar 0) (xVar 1) fEq) [Za (.str o),Za (.str h)] T1=.ok (decide (o=h)) T1:=rM ((me (lI rfl) (lI rfl)).trans (Ke (g.hok ho) (g.hok hh)));unfold xIfe;rw[e1];by_cases z:o=h
  ·rw[Zg z];show Out.ok (PV.int 1) T1=Out.ok (PV.int (if o=h then 1 else 0)) T1;rw[Zc z]
  ·rw[Zh z];show Out.ok (PV.int 0) T1=Out.ok (PV.int (if o=h then 1 else 0)) T1;rw[Zd z])
 change ny _ _ _ _ _=.ok ((unr L h).map .int) T1 at c1
 refine nr ((me (lY (lJ (lI rfl) (lJ (lI rfl) (lJ (lI rfl) rfl))) rfl ow) (pF (l:=(hsL L).map .str) (s1:=T1) (nc (lI rfl)) (by rw[ac];lia) c1)).trans ?_);have lo:(owr L h).length<=8:=by unfold owr;rw[ac];exact l8
 have lu:(unr L h).length<=8:=by unfold unr;rw[ac];exact l8
 simp only[fAdd,lsOf,g1];rw[Zc (by rw[ac,ac];lia),<-aB]
end
end My
namespace El
def Zm.scale(h:Zm n 0 S)(q:Nat->Rat)(hq:∀j,j<n->0<q j)(e:∀i j,i<n->j<n->T i j=q j*S i j):Zm n 0 T:=by
 have gse:∀G j,j<n->gs n G T j=q j*gs n G S j:=λG j hj=>by
  unfold gs;rw[<-sm_mul];refine sm_congr λi hi=>?_;split
  ·exact e i j hi hj
  ·exact(kK _).symm
 refine⟨λi j _ hi _ hj Po=>?_,λG hG j hj Gj=>?_,λG hG hx=>?_⟩
 ·rw[e i j hi hj];have:=h.off i j (aX _) hi (aX _) hj Po;have:=bL (a:=q j) (b:=-S i j) (kL (hq j hj)) (by grind)
  grind
 ·rw[gse G j hj];exact bL (kL (hq j hj)) (h.col G hG j hj Gj)
 ·obtain⟨j,Gj,p⟩:=h.grp G hG hx;have hj:=(hG j Gj).2;exact⟨j,Gj,by rw[gse G j hj];exact iw (hq j hj) p⟩
def ab_int(z:Int):ab (z:Rat)=((z.natAbs:Nat):Rat):=by
 unfold ab;split
 ·rename_i h;have:z<0:=fk.mp h;rw[<-Rat.intCast_neg,<-cJ]
  congr 1
  lia
 ·rename_i h;have:¬z<0:=λq=>h (fk.mpr q);rw[<-cJ]
  congr 1
  lia
end El
namespace My
open PySem L2 Fra
def oM:List Nat->Nat
 |[]=>1
 |x::l=>x*oM l
theorem xp:∀l m:List Nat,oM (l++m)=oM l*oM m
 |[],m=>(Nat.one_mul _).symm
 |x::l,m=>by show x*oM (l++m)=x*oM l*oM m;rw[xp l m,kl]
def EH(h:l.Perm m):oM l=oM m:=by
 induction h with
 |nil=>rfl
 |cons x _ ih=>show x*_=x*_;rw[ih]
 |swap x y l=>show y*(x*oM l)=x*(y*oM l);rw[<-kl,<-kl,kP y]
 |trans _ _ a b=>exact a.trans b
theorem FU(f:Str->Nat):∀k,k<=U.length->El.pr (λi=>((f (nth U i):Nat):Rat)) k=((oM ((U.take k).map f):Nat):Rat)
 |0,_=>rfl
 |k+1,hk=>by show El.pr _ k*_=_;rw[FU f k (by lia),dC,(nW (U:=U) (i:=k) (by lia)).1,aB,xp,jx];show _*((f (nth U k):Nat):Rat)=_*(((f (nth U k))*1:Nat):Rat);rw[Nat.mul_one]
theorem Cts.prod:∀{c:Nat}{L:List Ent},Cts c L->oM (L.map λe=>2*pcn e.held)<=2^(97*c+2*L.length)
 |_,_,.nil=>Nat.one_le_two_pow
 |_,_,.cons (c1:=c1) (c2:=c2) (c:=c) (e:=e) (L:=L) ⟨hz,R⟩ r q=>by
  have ih:=r.prod;obtain⟨_,b,_⟩:=R.pieces;have b:pcn e.held<2^(97*c1+1):=b;show 2*pcn e.held*oM (L.map λe=>2*pcn e.held)<=_;have h1:2*pcn e.held<=2^(97*c1+2):=by rw[show 97*c1+2=97*c1+1+1 from rfl,f6];lia
  refine aI (Nat.mul_le_mul h1 ih) ?_;rw[<-ju];refine cj (by decide) ?_;rw[bc];lia
section
variable{T:Sto}{nb:Nat}{pp N:List Str}{L:List Ent}{c:Nat}
abbrev mY(L:List Ent):List (List Int):=(hsL L).map λh=>owr L h++unr L h
def qn(L:List Ent)(j:Nat):Nat:=pcn (pl L (nth (hsL L) j))
def DH(hi:i<(hsL L).length):(mY L)[i]?=Za (owr L (nth (hsL L) i)++unr L (nth (hsL L) i)):=by rw[aD,(nW hi).1];rfl
def FP(hi:i<(hsL L).length)(hj:j<(hsL L).length):at2 (mY L) i j=(if nth (hsL L) j=nth (hsL L) i then(pcn (pl L (nth (hsL L) i)):Int) else 0)-pc (pl L (nth (hsL L) j)) (nth (hsL L) i):=by
 refine qR (DH hi) ?_;have hl:(owr L (nth (hsL L) i)).length=(hsL L).length:=by unfold owr;rw[ac]
 rw[dw (by lia)];unfold owr;rw[aD,(nW hj).1];rfl
def FQ(hi:i<(hsL L).length)(hj:j<(hsL L).length):at2 (mY L) i ((hsL L).length+j)=if nth (hsL L) j=nth (hsL L) i then 1 else 0:=by
 refine qR (DH hi) ?_;have hl:(owr L (nth (hsL L) i)).length=(hsL L).length:=by unfold owr;rw[ac]
 rw[dk (by lia),hl,kD];unfold unr;rw[aD,(nW hj).1];rfl
def Iu(hj:2*(hsL L).length<=j):at2 (mY L) i j=0:=by
 unfold at2;rw[aD];cases e:(hsL L)[i]? with
 |none=>rfl
 |some h =>
  show((owr L h++unr L h)[j]?).getD 0=0;rw[cM]
  ·rfl
  ·rw[aM];unfold owr unr;rw[ac,ac];lia
def Gd.mul(g:Gd L N c)(hi:i<(hsL L).length)(hj:j<(hsL L).length):((at2 (mY L) i j:Int):Rat)=(qn L j:Rat)*mA L (hsL L) i j:=by
 rw[FP hi hj];obtain⟨e,k,hz,f,ep,o,R,kc,sv,_⟩:=g.held (hsL_mem.mp (nW hj).2);have pv:=R.pc_val (nth (hsL L) i);rw[<-sv] at pv;unfold mA qn;rw[ia,pv,cJ];by_cases q:i=j
 ·subst q;rw[Zc rfl,Zc rfl,cJ]
  grind
 ·rw[Zd q,Zd λz=>q (yR g.hnd hj hi z).symm];show((0:Int):Rat)-_=_;have:((0:Int):Rat)=0:=rfl
  grind
def Gd.qpos(g:Gd L N c)(hj:j<(hsL L).length):1<=qn L j:=by obtain⟨e,k,hz,f,ep,o,R,kc,sv,_⟩:=g.held (hsL_mem.mp (nW hj).2);exact R.pieces.1
def Gd.zmr(g:Gd L N c)(ng:NoG L):El.Zm (hsL L).length 0 λi j=>((at2 (mY L) i j:Int):Rat) :=
 (g.zm ng g.hnd λx hx=>hsL_mem.mp hx).scale (λj=>(qn L j:Rat)) (λj hj=>by
  have:=g.qpos hj;have h:((0:Nat):Rat)<((qn L j:Nat):Rat):=by rw[<-cJ,<-cJ];exact fk.mpr (by lia)
  exact h) λi j hi hj=>g.mul hi hj
def bC(L:List Ent)(j:Nat):Nat:=if j<(hsL L).length then 2*qn L j else 1
def Gd.sub1(g:Gd L N c)(hh:mv L h=true):mw ((hsL L).map (shr L h))<=1:=by
 rw[wn g.hnd (g.ond h) (λx _ z=>g.zero z),<-g.one hh];refine yE λx _=>?_;have:=g.nn h x;split
 ·exact iy
 ·exact this
def Gd.col(g:Gd L N c)(j):El.sm (λr=>El.ab ((at2 (mY L) r j:Int):Rat)) (hsL L).length<=(bC L j:Rat):=by
 unfold bC;by_cases hj:j<(hsL L).length
 ·rw[Zc hj];have hh:=hsL_mem.mp (nW hj).2;have q0:(0:Rat)<=(qn L j:Rat):=by have:((0:Nat):Rat)<=(qn L j:Rat):=cy.mpr (aX _);exact this
  have e:El.sm (λr=>El.ab ((at2 (mY L) r j:Int):Rat)) (hsL L).length<=El.sm (λr=>(qn L j:Rat)*(1*(if r=j then 1 else 0)+1*shr L (nth (hsL L) j) (nth (hsL L) r))) (hsL L).length:=El.sm_mono λr hr=>by
   rw[g.mul hr hj,El.ab_mul];have a1:El.ab (qn L j:Rat)=(qn L j:Rat):=by unfold El.ab;rw[Zd];grind
   rw[a1];refine dP ?_ q0;unfold mA;have:=g.nn (nth (hsL L) j) (nth (hsL L) r);unfold El.ab;split<;>grind
  refine cI e ?_;rw[El.sm_mul,El.sm_lin,El.sm_one hj (λk _ hk=>Zd hk),Zc rfl,CO (λx=>shr L (nth (hsL L) j) x)];have s1:=g.sub1 hh;have:(((2*qn L j:Nat):Nat):Rat)=(qn L j:Rat)*2:=by rw[kP,jx];rfl
  rw[this];refine dP ?_ q0
  grind
 ·rw[Zd hj];show _<=(1:Rat);by_cases h2:j<2*(hsL L).length
  ·obtain⟨k,rfl⟩:∃k,j=(hsL L).length+k:=⟨j-(hsL L).length,by lia⟩;have hk:k<(hsL L).length:=by lia
   have e:El.sm (λr=>El.ab ((at2 (mY L) r ((hsL L).length+k):Int):Rat)) (hsL L).length=El.sm (λr=>if r=k then 1 else 0) (hsL L).length:=El.sm_congr λr hr=>by
    rw[FQ hr hk];by_cases q:r=k
    ·subst q;rw[Zc rfl,Zc rfl];rfl
    ·rw[Zd q,Zd λz=>q (yR g.hnd hk hr z).symm];rfl
   rw[e,El.sm_one hk (λk _ hk=>Zd hk),Zc rfl];exact iy
  ·rw[El.sm_zero λr hr=>by rw[Iu (by lia)];rfl];decide
def Gd.bC1(g:Gd L N c)(j):1<=bC L j:=by
 unfold bC;split
 ·rename_i h;have:=g.qpos h;lia
 ·exact am _
def Gd.bCle(g:Gd L N c)(j):bC L j<=2^3980:=by
 unfold bC;split
 ·rename_i h;obtain⟨e,k,hz,f,ep,o,R,kc,sv,_⟩:=g.held (hsL_mem.mp (nW h).2);have b:pcn (pl L (nth (hsL L) j))<2^(97*k+1):=R.pieces.2.1;have c4:=g.c40;have:2^(97*k+1)<=2^3979:=cj (by decide) (by lia);have e2:2^3980=2^3979*2:=f6 ..;unfold qn;rw[e2];generalize 2^3979=m at *;lia
 ·exact Nat.one_le_two_pow
theorem Gd.prod(g:Gd L N c)(ht:t<=(hsL L).length):El.pr (λj=>(bC L j:Rat)) t<=((2^3993:Nat):Rat):=by
 have e0:∀k,k<=(hsL L).length->El.pr (λj=>(bC L j:Rat)) k=((oM (((hsL L).take k).map λh=>2*pcn (pl L h)):Nat):Rat):=λk hk=>by rw[<-FU (U:=hsL L) (λh=>2*pcn (pl L h)) k hk];refine El.pr_congr λj hj=>?_;unfold bC qn;rw[Zc (by lia)]
 have VR:oM ((hsL L).map λh=>2*pcn (pl L h))<=2^3993:=by
  have p1:oM ((hsL L).map λh=>2*pcn (pl L h))=oM ((L.map (·.nm)).map λh=>2*pcn (pl L h)):=EH ((lZ _).map _);have p2:(L.map (·.nm)).map (λh=>2*pcn (pl L h))=L.map λe=>2*pcn e.held:=by
   rw[aA];refine aQ λe he=>?_;show 2*pcn (pl L e.nm)=_;obtain⟨A,B,rfl⟩:=List.append_of_mem he;have hn:e.nm∉A.map (·.nm):=λz=>by have:=g.nd;rw[aB,ao] at this;exact(bN.mp this).2.2 _ z _ ai rfl
   unfold pl;rw[wA hn]
  rw[p1,p2];refine aI g.ct.prod (cj (by decide) ?_);have:=g.c40;have:=g.l8;lia
 rw[e0 t ht];refine cy.mpr (aI ?_ VR);have sp:oM ((hsL L).map λh=>2*pcn (pl L h))=oM (((hsL L).take t).map λh=>2*pcn (pl L h))*oM (((hsL L).drop t).map λh=>2*pcn (pl L h)):=by rw[<-xp,<-aB,ii]
 rw[sp];refine Nat.le_mul_of_pos_right _ ?_;have pos:∀l:List Str,(∀h∈l,h∈hsL L)->0<oM (l.map λh=>2*pcn (pl L h)):=λl=>by
  induction l with
  |nil=>exact λ_=>Nat.one_pos
  |cons h l ih =>
   intro hl;obtain⟨e,k,hz,f,ep,o,R,kc,sv,_⟩:=g.held (hsL_mem.mp (hl h ai));have p:=R.pieces.1;have i:=ih λy hy=>hl y (ae _ hy);show 0<2*pcn (pl L h)*oM (l.map λh=>2*pcn (pl L h));exact lg (lg (by decide) p) i
 exact pos _ λh hh=>kU hh
def Ld:(owr L h++unr L h).length=2*(hsL L).length:=by rw[aM];unfold owr unr;rw[ac,ac];lia
def Gd.bm(g:Gd L N c)(ng:NoG L):=Kr (rows:=mY L) (n:=(hsL L).length) (w:=2*(hsL L).length) (by rw[ac]) (λrow hr=>by obtain⟨h,_,rfl⟩:=aj.mp hr;exact Ld) (by lia) (g.zmr ng)
def Gd.big(g:Gd L N c)(ng:NoG L)(ht:t<=(hsL L).length)(hi:i<(hsL L).length)(hj:j<2*(hsL L).length):Bt 7980 (at2 (bmL (mY L) t).2 i j):=by
 obtain⟨h1,h2,h3,h4⟩:=g.bm ng t ht;obtain⟨⟨X,C⟩,dp,_⟩:=El.run (g.zmr ng) t ht;have le:=C.le ht (B:=λj=>(bC L j:Rat)) (λj=>by have:((1:Nat):Rat)<=(bC L j:Rat):=cy.mpr (g.bC1 j);exact this) (λj=>g.col j) hi j
 rw[<-h4 i j hi hj,El.ab_int] at le;have nn:(0:Rat)<=(bC L j:Rat):=by have:((0:Nat):Rat)<=(bC L j:Rat):=cy.mpr (aX _);exact this
 have p1:=g.prod ht;have p2:(bC L j:Rat)<=((2^3980:Nat):Rat):=cy.mpr (g.bCle j);have p0:(0:Rat)<=((2^3993:Nat):Rat):=by have:((0:Nat):Rat)<=((2^3993:Nat):Rat):=cy.mpr (aX _);exact this
 have U3:El.pr (λj=>(bC L j:Rat)) t*(bC L j:Rat)<=((2^3993:Nat):Rat)*((2^3980:Nat):Rat):=by have a1:=dP p1 nn;have a2:=dP p2 p0;refine cI ?_ a2;rw[Rat.mul_comm,Rat.mul_comm (((2^3993:Nat):Rat))];exact a1
 have Sq:=cI le U3;rw[<-jx] at Sq;have Sq:=cy.mp Sq;unfold Bt;refine aZ Sq ?_;rw[<-ju];exact iC (by decide) (by decide)
def Gd.rows(g:Gd L N c)(ng:NoG L):∀t,t<=(hsL L).length->Rows (hsL L).length (2*(hsL L).length) (bmL (mY L) t):=by
 intro t ht;obtain⟨h1,h2,h3,h4⟩:=g.bm ng t ht;obtain⟨⟨X,C⟩,dp,_⟩:=El.run (g.zmr ng) t ht;refine⟨h1,h2,λrow hr x hx=>?_,?_,?_⟩
 ·obtain⟨i,hi⟩:=b7.mp hr;obtain⟨j,hj⟩:=b7.mp hx;have il:=(aS.mp hi).1;have jl:=(aS.mp hj).1;rw[h2 row hr] at jl;rw[h1] at il;rw[<-qR hi hj];exact(g.big ng ht il jl).mono (by decide)
 ·rw[<-h3] at dp;exact fk.mp dp
 ·cases t with
  |zero=>exact bt1 (by decide)
  |succ t=>exact(g.big ng (t:=t) (by lia) (i:=t) (j:=t) (by lia) (by lia)).mono (by decide)
def Gd.dle(g:Gd L N c)(ng:NoG L):Bt 3994 (bmL (mY L) (hsL L).length).1:=by obtain⟨h1,h2,h3,h4⟩:=g.bm ng (hsL L).length (am _);obtain⟨⟨X,C⟩,dp,_⟩:=El.run (g.zmr ng) (hsL L).length (am _);have le:=El.dt_le (hsL L).length λi j=>((at2 (mY L) i j:Int):Rat);rw[<-C.dt,<-h3,El.ab_int] at le;have U3:=cI le (cI (El.pr_mono λj _=>⟨El.sm_nn (λ_=>El.ab_nn _) _,g.col j⟩) (g.prod (am _)));have Sq:=cy.mp U3;exact aZ Sq (iC (by decide) (by decide))
def ixh(L:List Ent)(h:Str):Nat:=(hsL L).idxOf h
def wb(hh:h∈hsL L):ixh L h<(hsL L).length:=List.idxOf_lt_length_iff.mpr hh
def wS(hh:h∈hsL L):nth (hsL L) (ixh L h)=h:=by have e:=(nW (wb hh)).1;rw[aw (wb hh)] at e;exact(aO e).symm.trans (List.getElem_idxOf _)
def y8(g:Gd L N c)(hi:i<(hsL L).length):ixh L (nth (hsL L) i)=i:=yR g.hnd (wb (nW hi).2) hi (wS (nW hi).2)
structure Slv(L:List Ent)(d:Int)(z:Str->Str->Int):Prop where
 d0:0<d
 db:Bt 9000 d
 dd:Bt 3994 d
 zb:∀l∈hsL L,∀k∈hsL L,Bt 7980 (z l k)
 eq:∀h∈hsL L,∀k∈hsL L,((pcn (pl L h):Nat):Rat)*((z h k:Int):Rat)=(if h=k then(d:Rat) else 0)+mw ((hsL L).map λl=>((pc (pl L l) h:Int):Rat)*((z l k:Int):Rat))
def Gd.solve(g:Gd L N c)(ng:NoG L)(a):∃d z,Slv L d z/\∀s,wG a [LL (mY L)] s=.ok (.tup [LL ((hsL L).map λl=>(hsL L).map λk=>z l k),.int d]) s:=by
 have R:=g.rows ng;have l8:(hsL L).length<=8:=by rw[oo];exact g.l8
 obtain⟨h1,h2,h3,h4⟩:=g.bm ng (hsL L).length (am _);obtain⟨⟨X,C⟩,dp,_⟩:=El.run (g.zmr ng) (hsL L).length (am _);have RN:=R (hsL L).length (am _);refine⟨(bmL (mY L) (hsL L).length).1,λl k=>at2 (bmL (mY L) (hsL L).length).2 (ixh L l) ((hsL L).length+ixh L k),⟨RN.d.1,RN.d.2,g.dle ng,λl hl k hk=>g.big ng (am _) (wb hl) (by have:=wb hk;lia),λh hh k hk=>?_⟩,λs=>?_⟩
 ·have ih:=wb hh;have ik:=wb hk;have so:=C.so _ ih ((hsL L).length+ixh L k);have up:∀l,l<(hsL L).length->((at2 (bmL (mY L) (hsL L).length).2 l ((hsL L).length+ixh L k):Int):Rat)=(((bmL (mY L) (hsL L).length).1:Int):Rat)*X l ((hsL L).length+ixh L k):=λl hl=>by rw[h4 l _ hl (by lia),C.up l hl,h3]
  generalize (bmL (mY L) (hsL L).length).1=d at *;have rhs:((at2 (mY L) (ixh L h) ((hsL L).length+ixh L k):Int):Rat)=if h=k then 1 else 0:=by
   rw[FQ ih ik,wS hh,wS hk];by_cases q:h=k
   ·rw[Zc q,Zc q.symm];rfl
   ·rw[Zd q,Zd λz=>q z.symm];rfl
  rw[rhs] at so;have e1:El.sm (λl=>((at2 (bmL (mY L) (hsL L).length).2 l ((hsL L).length+ixh L k):Int):Rat)*((at2 (mY L) (ixh L h) l:Int):Rat)) (hsL L).length=(d:Rat)*if h=k then 1 else 0:=by
   rw[<-so,<-El.sm_mul];refine El.sm_congr λl hl=>?_;rw[up l hl]
   grind
  have e2:El.sm (λl=>((at2 (bmL (mY L) (hsL L).length).2 l ((hsL L).length+ixh L k):Int):Rat)*((at2 (mY L) (ixh L h) l:Int):Rat)) (hsL L).length=El.sm (λl=>1*(if l=ixh L h then((pcn (pl L h):Nat):Rat)*((at2 (bmL (mY L) (hsL L).length).2 l ((hsL L).length+ixh L k):Int):Rat) else 0)+(-1)*(λy=>((pc (pl L y) h:Int):Rat)*((at2 (bmL (mY L) (hsL L).length).2 (ixh L y) ((hsL L).length+ixh L k):Int):Rat)) (nth (hsL L) l)) (hsL L).length:=El.sm_congr λl hl=>by
   rw[FP ih hl,wS hh];simp only[y8 g hl];by_cases q:l=ixh L h
   ·subst q;rw[Zc rfl,wS hh,Zc rfl,ia,cJ]
    grind
   ·rw[Zd q,Zd λz=>q (by rw[<-z,y8 g hl])];have:((0-pc (pl L (nth (hsL L) l)) h:Int):Rat)=-((pc (pl L (nth (hsL L) l)) h:Int):Rat):=by rw[<-Rat.intCast_neg];congr 1;lia
    rw[this]
    grind
  rw[e2,El.sm_lin,El.sm_one ih (λk _ hk=>Zd hk),Zc rfl,CO (λy=>((pc (pl L y) h:Int):Rat)*((at2 (bmL (mY L) (hsL L).length).2 (ixh L y) ((hsL L).length+ixh L k):Int):Rat))] at e1;have:(d:Rat)*(if h=k then 1 else 0)=if h=k then(d:Rat) else 0:=by split<;>grind
  rw[this] at e1
  grind
 ·rw[GJ a s (n:=(hsL L).length) (w:=2*(hsL L).length) (by lia) (by lia) (by lia) R]
  congr 4
  have row:∀i,i<(hsL L).length->((bmL (mY L) (hsL L).length).2[i]?).map (·.drop (hsL L).length)=Za ((hsL L).map λk=>at2 (bmL (mY L) (hsL L).length).2 i ((hsL L).length+ixh L k)):=λi hi=>by
   have e:(bmL (mY L) (hsL L).length).2[i]?=Za ((bmL (mY L) (hsL L).length).2[i]'(by lia)):=aw (by lia);have rl:=h2 _ (b5 (show i<(bmL (mY L) (hsL L).length).2.length by lia));generalize (bmL (mY L) (hsL L).length).2[i]'(by lia)=row at e rl;rw[e];show Za (row.drop (hsL L).length)=_
   congr 1
   refine i9 λj=>?_;rw[List.getElem?_drop,aD];by_cases hj:j<(hsL L).length
   ·rw[(nW hj).1];obtain⟨x,hx⟩:∃x,row[(hsL L).length+j]?=Za x:=⟨_,aw (by lia)⟩;rw[hx];show Za x=Za (at2 _ i ((hsL L).length+ixh L (nth (hsL L) j)));rw[y8 g hj,qR e hx]
   ·rw[cM (by lia),cM (by lia)];rfl
  refine i9 λi=>?_;rw[aD,aD];by_cases hi:i<(hsL L).length
  ·rw[row i hi,(nW hi).1];show Za _=Za ((hsL L).map λk=>at2 _ (ixh L (nth (hsL L) i)) _);rw[y8 g hi]
  ·rw[cM (by lia),cM (by lia)];rfl
end
section
variable{κ:Type}[DecidableEq κ]
def Dr(l)(k k':κ)(p):tj (Cs l k p) k'=if k'=k then Za p else tj l k':=by
 have vc:∀(kv:κ×PV)(l:List (κ×PV)),tj (kv::l) k'=if kv.1=k' then Za kv.2 else tj l k':=λkv l=>by
  unfold tj;rw[bG];by_cases e:kv.1=k'
  ·rw[Zg e,Zc e];rfl
  ·rw[Zh e,Zd e]
 unfold Cs;by_cases an:(l.any λkv=>decide (kv.1=k))=true
 ·rw[Zc an];induction l with
  |nil=>cases an
  |cons kv l ih =>
   rw[ao,vc,vc];by_cases e:kv.1=k
   ·rw[Zc e];by_cases q:k'=k
    ·rw[Zc (show kv.1=k' by rw[e,q]),Zc q]
    ·rw[Zd (show ¬kv.1=k' by rw[e];exact λz=>q z.symm),Zd q,Zd (show ¬kv.1=k' by rw[e];exact λz=>q z.symm)];by_cases SE:(l.any λkv=>decide (kv.1=k))=true
     ·rw[ih SE,Zd q]
     ·have:l.map (λkv=>if kv.1=k then(kv.1,p) else kv)=l:=by
       conv=>rhs;rw[<-jo l]
       refine aQ λx hx=>?_;rw[Zd λz=>SE (de.mpr ⟨x,hx,Zg z⟩)];rfl
      rw[this]
   ·rw[Zd e];have SE:(l.any λkv=>decide (kv.1=k))=true:=by rw[cQ,Zh e,kh] at an;exact an
    rw[ih SE];by_cases q:kv.1=k'
    ·rw[Zc q,Zc q,Zd λz=>e (q.trans z)]
    ·rw[Zd q,Zd q]
 ·rw[Zd an];induction l with
  |nil =>
   show tj [(k,p)] k'=_;rw[vc];by_cases q:k'=k
   ·rw[Zc q.symm,Zc q]
   ·rw[Zd λz=>q z.symm,Zd q]
  |cons kv l ih =>
   have e:kv.1≠k:=λz=>an (by rw[cQ,Zg z];rfl);have SE:¬(l.any λkv=>decide (kv.1=k))=true:=λz=>an (by rw[cQ,z,Bool.or_true]);rw[List.cons_append,vc,vc,ih SE];by_cases q:kv.1=k'
   ·rw[Zc q,Zc q,Zd λz=>e (q.trans z)]
   ·rw[Zd q,Zd q]
def Iy(l)(k:κ)(p):(Cs l k p).length<=l.length+1:=by
 unfold Cs;split
 ·rw[ac];lia
 ·rw[aM];exact am _
end
theorem FF(f g:α->PV):∀l:List α,uw (l.map f) (l.map g)=l.map λx=>.tup [f x,g x]
 |[]=>rfl
 |x::l=>by rw[ao,ao,ao];show PV.tup [f x,g x]::uw (l.map f) (l.map g)=_;rw[FF f g l]
def tp(L:List Ent)(d:Int)(z:Str->Str->Int)(x h:Str):Int:=(if x=h then d else 0)+((hsL L).map λl=>pc (pl L l) x*z l h).sum
abbrev zL(L:List Ent)(z:Str->Str->Int):PV:=LL ((hsL L).map λl=>(hsL L).map λk=>z l k)
section
variable{T:Sto}{nb k j:Nat}{pp N X:List Str}{L:List Ent}{c:Nat}{d:Int}{z:Str->Str->Int}
def wE(L:List Ent)(d:Int)(z:Str->Str->Int)(k nb:Nat)(u5 u6 u7 u8 u9 Pg:Option PV):En:=[Za (.ref k),Za (.ref nb),Za (LS (hsL L)),Za (av L),Za (.tup [zL L z,.int d]),u5,u6,u7,u8,u9,Pg]
def Gd.pcb(g:Gd L N c)(hh:h∈hsL L)(x):Bt 12000 (pc (pl L h) x):=by obtain⟨e,k,hz,f,ep,o,R,kc,sv,_⟩:=g.held (hsL_mem.mp hh);have:=((R.fr x).top).mul ((R.pieces.2.1).div (d:=(l7 (pl L h) x).2));have c4:=g.c40;exact this.mono (by lia)
theorem FH(a)(g:Gd L N c)(S:Slv L d z)(hi:(hsL L)[i]?=Za h)(s):∀(ns:List Str)(t:Int)(u9 Pg:Option PV),(∀l∈ns,l∈hsL L)->∃v9 QA,nF (mU (yTup 2 (yCons (yName 9) (yCons (yName 10) yNil))) (oy a)) (ns.map λl=>.tup [.str l,LI ((hsL L).map λk=>z l k)]) (wE L d z k nb (Za (.int (i:Nat))) (Za (.str h)) (Za (.str x)) (Za (.int t)) u9 Pg) s=.nx (wE L d z k nb (Za (.int (i:Nat))) (Za (.str h)) (Za (.str x)) (Za (.int (t+(ns.map λl=>pc (pl L l) x*z l h).sum))) v9 QA) s
 |[],t,u9,Pg,_=>⟨u9,Pg,by rw[cP,cP,List.sum_nil,Int.add_zero];rfl⟩
 |l::ns,t,u9,Pg,hn=>by
  have hl:=hn l ai;have hh:h∈hsL L:=dD hi;obtain⟨v9,QA,e⟩:=FH a g S (x:=x) hi s ns (t+pc (pl L l) x*z l h) (Za (.str l)) (Za (LI ((hsL L).map λk=>z l k))) λy hy=>hn y (ae _ hy);refine⟨v9,QA,?_⟩;rw[ao,ao,iM,<-Int.add_assoc];unfold nF;have bd:mU (yTup 2 (yCons (yName 9) (yCons (yName 10) yNil))) (oy a) (.tup [.str l,LI ((hsL L).map λk=>z l k)]) (wE L d z k nb (Za (.int (i:Nat))) (Za (.str h)) (Za (.str x)) (Za (.int t)) u9 Pg) s=.nx (wE L d z k nb (Za (.int (i:Nat))) (Za (.str h)) (Za (.str x)) (Za (.int (t+pc (pl L l) x*z l h))) (Za (.str l)) (Za (LI ((hsL L).map λk=>z l k)))) s:=by
   show oy a (wE L d z k nb (Za (.int (i:Nat))) (Za (.str h)) (Za (.str x)) (Za (.int t)) (Za (.str l)) (Za (LI ((hsL L).map λk=>z l k)))) s=_;unfold oy;have e1:xGet (x2 (xVar 3) (xVar 9) fIx) (xVar 7) (xC (.int 0)) (wE L d z k nb (Za (.int (i:Nat))) (Za (.str h)) (Za (.str x)) (Za (.int t)) (Za (.str l)) (Za (LI ((hsL L).map λk=>z l k)))) s=.ok (.int (pc (pl L l) x)) s:=by rw[Gc ((me (lI rfl) (lI rfl)).trans (HN hl)) (lI rfl) rfl,Ko g]
   have e2:=oS e1 ((me (lI (i:=10) rfl) (lI (i:=5) rfl)).trans (CV (t:=s) (l:=(hsL L).map λk=>z l k) (i:=i) (x:=z l h) (by rw[aD,hi];rfl))) (.inl ⟨(g.pcb hl x).mono (by decide),(S.zb l hl h hh).mono (by decide)⟩);unfold MQ;show((x2 (xGet (x2 (xVar 3) (xVar 9) fIx) (xVar 7) (xC (.int 0))) (x2 (xVar 10) (xVar 5) fIx) fMul _ s).so _)=_;rw[e2];rfl
  rw[bd];exact e
structure Wob(a:Adr)(T:Sto)(k j:Nat)(L:List Ent)(X:List Str)(d:Int)(z:Str->Str->Int):Prop where
 ob:T.get k=Za (.obj a.HALF [("bottom",.int d),("top_of",.ref j)])
 dc:∃D,T.get j=Za (.dtt D)/\∀x∈X,∀h∈hsL L,tj D [ag x,ag h]=Za (.int (tp L d z x h))
def yj(h:f Z s=.ok (.ref n) s1)(hg:s1.get n=Za (.obj C fs))(hv:tj fs nm=Za p):Ck C nm f Z s=.ok p s1:=by unfold Ck;rw[h];simp only[Out.bind,hg,if_true,hv]
def Lj(h1:v Z s=.ok q s)(h2:f Z s=.ok (.ref n) s)(h3:fa Z s=.ok vs s)(hg:s.get n=Za (.dtt l))(hk:AG vs=Za ks)(hv:vs.length<=100000)(hl:l.length<100000):HE f fa v Z s=.nx Z (s.set n (.dtt (Cs l ks q))):=by unfold HE;rw[h1];simp only[Out.so];rw[h2];simp only[h3,hg,hk];rw[Zc ⟨hv,hl⟩]
def KW(a:Adr)(g:Gd L N c)(S:Slv L d z){h x:Str}{i j:Nat}(hi:(hsL L)[i]?=Za h)(hx:bi x=true){s:Sto}{D:List (List Key×PV)}(ob:s.get k=Za (.obj a.HALF [("bottom",.int d),("top_of",.ref j)]))(hd:s.get j=Za (.dtt D))(hl:D.length<100000)(u7 u8 u9 Pg:Option PV) :
  ∃v8 v9 QA,mU (yName 7) (nN a) (.str x) (wE L d z k nb (Za (.int (i:Nat))) (Za (.str h)) u7 u8 u9 Pg) s=.nx (wE L d z k nb (Za (.int (i:Nat))) (Za (.str h)) (Za (.str x)) v8 v9 QA) (s.set j (.dtt (Cs D [ag x,ag h] (.int (tp L d z x h))))):=by
 have hh:h∈hsL L:=dD hi;obtain⟨v9,QA,e⟩:=FH (k:=k) (nb:=nb) a g S (x:=x) hi s (hsL L) (if x=h then d else 0) u9 Pg λ_ z=>z;refine⟨Za (.int (tp L d z x h)),v9,QA,(pV (i:=7)).trans ?_⟩;show nN a (wE L d z k nb (Za (.int (i:Nat))) (Za (.str h)) (Za (.str x)) u8 u9 Pg) s=_;unfold nN;refine lT (mf (v:=.int (if x=h then d else 0)) (s':=s) ?_) ?_
 ·have e1:xTr (x2 (xVar 7) (xVar 6) fEq) (wE L d z k nb (Za (.int (i:Nat))) (Za (.str h)) (Za (.str x)) u8 u9 Pg) s=.ok (decide (x=h)) s:=rM ((me (lI rfl) (lI rfl)).trans (Ke hx (g.hok hh)));unfold xIfe;rw[e1,uI];by_cases q:x=h
  ·rw[Zg q,Zc q,Zc rfl];exact yj (lI rfl) ob rfl
  ·rw[Zh q,Zd q,Zd (by decide)];rfl
 ·refine lT (rA (l:=(hsL L).map λl=>.tup [.str l,LI ((hsL L).map λk=>z l k)]) (s1:=s) ?_ e) ?_
  ·unfold HW;rw[lJ (lI (i:=2) (v:=LS (hsL L)) rfl) (lJ ((me (lI (i:=4) (v:=.tup [zL L z,.int d]) rfl) rfl).trans (show fIx (.tup [zL L z,.int d]) (.int 0) s=.ok (zL L z) s from rfl)) rfl)];show Out.ok (uw ((hsL L).map .str) (((hsL L).map λl=>(hsL L).map λk=>z l k).map LI)) s=_;rw[aA,FF];rfl
  ·refine(Lj (ks:=[ag x,ag h]) (lI rfl) (yj (lI rfl) ob rfl) (lJ (lI rfl) (lJ (lI rfl) rfl)) hd rfl (dY rfl) hl).trans ?_;rfl
theorem FG(a)(g:Gd L N c)(S:Slv L d z){i j}(hi:(hsL L)[i]?=Za h)(Sw:k≠j):∀(xs:List Str)(s:Sto)(D:List (List Key×PV))(u7 u8 u9 Pg:Option PV),(∀x∈xs,bi x=true)->s.get k=Za (.obj a.HALF [("bottom",.int d),("top_of",.ref j)])->s.get j=Za (.dtt D)->D.length+xs.length<100000 ->
  ∃D' v7 v8 v9 QA,nF (mU (yName 7) (nN a)) (xs.map .str) (wE L d z k nb (Za (.int (i:Nat))) (Za (.str h)) u7 u8 u9 Pg) s=.nx (wE L d z k nb (Za (.int (i:Nat))) (Za (.str h)) v7 v8 v9 QA) (s.set j (.dtt D'))/\D'.length<=D.length+xs.length/\(∀x∈xs,tj D' [ag x,ag h]=Za (.int (tp L d z x h)))/\∀x h',tj D [ag x,ag h']=Za (.int (tp L d z x h'))->tj D' [ag x,ag h']=Za (.int (tp L d z x h'))
 |[],s,D,u7,u8,u9,Pg,_,_,hd,_=>⟨D,u7,u8,u9,Pg,by
   rw[zG _ _ _ hd];rfl,am _,(λ_ z=>nomatch z),λ_ _ h=>h⟩
 |x::xs,s,D,u7,u8,u9,Pg,hx,ob,hd,hl=>by
  rw[bc] at hl;obtain⟨v8,v9,QA,e1⟩:=KW (k:=k) (nb:=nb) a g S hi (hx x ai) ob hd (by lia) u7 u8 u9 Pg;have len:=Iy D [ag x,ag h] (.int (tp L d z x h));obtain⟨D',w7,w8,w9,w10,e2,l2,a2,k2⟩:=FG a g S hi Sw xs (s.set j (.dtt (Cs D [ag x,ag h] (.int (tp L d z x h))))) _ (Za (.str x)) v8 v9 QA (λy hy=>hx y (ae _ hy)) (by rw[lS _ _ Sw];exact ob) (nT hd) (by lia);have old:∀y h',tj D [ag y,ag h']=Za (.int (tp L d z y h'))->tj (Cs D [ag x,ag h] (.int (tp L d z x h))) [ag y,ag h']=Za (.int (tp L d z y h')):=λy h' hy=>by
   rw[Dr];split
   ·rename_i q;have q1:(ag y:Key)=ag x:=(eg q).1;have q2:(ag h':Key)=ag h:=(eg (eg q).2).1;rw[du q1,du q2]
   ·exact hy
  refine⟨D',w7,w8,w9,w10,?_,by rw[bc];lia,λy hy=>?_,λy h' hy=>k2 y h' (old y h' hy)⟩
  ·rw[ao];unfold nF;rw[e1];show nF (mU (yName 7) (nN a)) (xs.map .str) _ _=_;rw[e2,rD]
  ·rcases af.mp hy with q|hy
   ·rw[q];exact k2 x h (by rw[Dr,Zc rfl])
   ·exact a2 y hy
def FN(h1:v Z s=.ok p s1)(h2:f Z s1=.ok (.ref n) s1)(hg:s1.get n=Za (.obj C fs))(hl:fs.length<1000):Ep C nm f v Z s=.nx Z (s1.set n (.obj C (AF nm p fs))):=by unfold Ep;rw[h1];simp only[Out.so];rw[h2];simp only[hg];exact Zc ⟨trivial,hl⟩
structure Pp(pp N:List Str):Prop where
 sub:∀x∈pp,x∈N
 le:pp.length<=64
def KU(a)(g:Gd L N c)(ng:NoG L)(P:Pp pp N)(hb:T.get nb=Za (.book pp L))(Qv:nb<T.nx)(hk:T.get k=Za (.obj a.HALF []))(hkT:k<T.nx)(hkb:nb≠k) :
  ∃d z j T',Slv L d z/\oU a [.ref k,.ref nb] T=.ok .non T'/\Wob a T' k j L (srt pp++hsL L) d z/\T.nx<=T'.nx/\T.nx<=j/\∀i,i<T.nx->i≠k->T'.get i=T.get i:=by
 obtain⟨d,z,S,es⟩:=g.solve ng a;have l8:(hsL L).length<=8:=by rw[oo];exact g.l8
 have hso:nl a [.ref nb] T=.ok (LS (hsL L)) T:=by unfold nl mM;simp only[hb]
 obtain⟨s1,c1,G1⟩:=By (T:=T) (cap:=[Za (LS (hsL L)),Za (av L)]) (e:=xCall 3 (qW a) (xCons (xVar 0) (xCons (xVar 1) (xCons (xVar 2) xNil)))) (λq=>match q with|.str h=>LI (owr L h++unr L h)|q=>q) ((hsL L).map .str) (λq hq s gs=>by obtain⟨h,hh,rfl⟩:=aj.mp hq;exact⟨_,lY (lJ (lI rfl) (lJ (lI rfl) (lJ (lI rfl) rfl))) rfl (JA a g hh s),gs.trans (Gr.add _ _)⟩) T (Gr.refl T)
 have e1:(((hsL L).map PV.str).map λq=>match q with|.str h=>LI (owr L h++unr L h)|q=>q)=(mY L).map LI:=by rw[aA,aA];rfl
 rw[e1] at c1;have ob1:s1.get k=Za (.obj a.HALF []):=(G1.fr k hkT).trans hk;have n1:=G1.nx;generalize Rg:s1.set k (.obj a.HALF (AF "bottom" (.int d) []))=s2;have PX:s2.nx=s1.nx:=by rw[<-Rg];rfl
 have ob2:s2.get k=Za (.obj a.HALF [("bottom",.int d)]):=by rw[<-Rg];exact nT ob1
 have fr2:∀i,i<T.nx->i≠k->s2.get i=T.get i:=λi h1 h2=>by rw[<-Rg,lS _ _ h2];exact G1.fr i h1
 generalize hs3:(s2.add (.dtt [])).set k (.obj a.HALF (AF "top_of" (.ref s2.nx) [("bottom",.int d)]))=s3;have gk:(s2.add (.dtt [])).get k=Za (.obj a.HALF [("bottom",.int d)]):=by rw[mE,Zd (by lia)];exact ob2
 have ob3:s3.get k=Za (.obj a.HALF [("bottom",.int d),("top_of",.ref s2.nx)]):=by rw[<-hs3];exact nT gk
 have VU:s3.get s2.nx=Za (.dtt []):=by rw[<-hs3,lS _ _ (by lia),mE,Zc rfl]
 have nx3:s3.nx=s2.nx+1:=by rw[<-hs3];rfl
 have TK:∀i,i<T.nx->i≠k->s3.get i=T.get i:=λi h1 h2=>by rw[<-hs3,lS _ _ h2,mE,Zd (by lia)];exact fr2 i h1 h2
 have Sw:k≠s2.nx:=by lia
 have hX:∀x∈srt pp++hsL L,bi x=true:=λx hx=>by
  rcases aP.mp hx with hx|hx
  ·exact HJ (g.ho.sm x (P.sub x ((lZ _).mem_iff.mp hx)))
  ·exact g.hok hx
 have lX:(srt pp++hsL L).length<=72:=by rw[aM,(lZ _).length_eq];have:=P.le;lia
 obtain⟨ρ4,s4,lp,D4,u5,u6,u7,u8,u9,Pg,rfl,rfl,l4,v4⟩:=F5 (body:=mU (yTup 2 (yCons (yName 5) (yCons (yName 6) yNil))) (pM a)) (qU 0 ((hsL L).map .str))
  (λi Z s=>∃D u5 u6 u7 u8 u9 Pg,Z=wE L d z k nb u5 u6 u7 u8 u9 Pg/\s=s3.set s2.nx (.dtt D)/\D.length<=72*i/\∀x∈srt pp++hsL L,∀i',i'<i->∀h,(hsL L)[i']?=Za h->tj D [ag x,ag h]=Za (.int (tp L d z x h)))
  (λi q Z s hq hI=>by
   obtain⟨D,u5,u6,u7,u8,u9,Pg,rfl,rfl,lD,vD⟩:=hI;rw[xx,aD,ft] at hq;obtain⟨h,hi⟩:∃h,(hsL L)[i]?=Za h:=by
    cases e:(hsL L)[i]? with
    |none=>rw[e] at hq;cases hq
    |some h=>exact⟨h,rfl⟩
   rw[hi] at hq;cases hq;have il:i<(hsL L).length:=(aS.mp hi).1;have obk:(s3.set s2.nx (.dtt D)).get k=Za (.obj a.HALF [("bottom",.int d),("top_of",.ref s2.nx)]):=by rw[lS _ _ Sw];exact ob3
   obtain⟨D',v7,v8,v9,QA,e,lD',a1,a2⟩:=FG (k:=k) (nb:=nb) a g S hi Sw (srt pp++hsL L) (s3.set s2.nx (.dtt D)) D u7 u8 u9 Pg hX obk (nT VU) (by lia);refine⟨_,_,?_,D',Za (.int (i:Nat)),Za (.str h),v7,v8,v9,QA,rfl,rfl,by lia,λx hx i' R5 h' Q5=>?_⟩
   ·show pM a (wE L d z k nb (Za (.int (i:Nat))) (Za (.str h)) u7 u8 u9 Pg) (s3.set s2.nx (.dtt D))=_;unfold pM;rw[rD] at e;have bk:(s3.set s2.nx (.dtt D)).get nb=Za (.book pp L):=by rw[lS _ _ (by lia)];exact(TK nb Qv hkb).trans hb
    refine rA (l:=(srt pp++hsL L).map .str) (s1:=s3.set s2.nx (.dtt D)) (nc ((me ((qr (vs:=[]) (s2:=s3.set s2.nx (.dtt D)) (lI rfl) bk rfl rfl).trans (show oX a [.ref nb] (s3.set s2.nx (.dtt D))=.ok (LS (srt pp)) (s3.set s2.nx (.dtt D)) by unfold oX mM;simp only[bk])) (lI rfl)).trans ?_)) e;simp only[fAdd,lsOf];rw[Zc (by rw[ac,ac,<-aM];lia),<-aB]
   ·by_cases q:i'=i
    ·subst q;rw[hi] at Q5;cases Q5;exact a1 x hx
    ·exact a2 x h' (vD x hx i' (by lia) h' Q5)) (Z:=wE L d z k nb Zb Zb Zb Zb Zb Zb) (s:=s3.set s2.nx (.dtt [])) ⟨[],Zb,Zb,Zb,Zb,Zb,Zb,rfl,rfl,aX _,λ_ _ _ h=>absurd h (by lia)⟩
 rw[zG _ _ _ VU] at lp;refine⟨d,z,s2.nx,s3.set s2.nx (.dtt D4),S,zQ (Z:=wE L d z k nb u5 u6 u7 u8 u9 Pg) ?_,⟨by rw[lS _ _ Sw];exact ob3,D4,nT VU,λx hx h hh=>?_⟩,by show T.nx<=s3.nx;lia,by lia,λi h1 h2=>?_⟩
 ·unfold xO;refine lT (vF (lY (lJ (lI rfl) rfl) rfl (LO a g.ho (by have:=g.l8;lia) ng hb))) ?_;refine lT (mf ((qr (vs:=[]) (s2:=T) (lI rfl) hb rfl rfl).trans hso)) ?_;refine lT (mf (lY (lJ (lI rfl) rfl) rfl (Fd a g hb))) ?_;refine lT (mf (lY (lJ (pF (l:=(hsL L).map .str) (s1:=T) (nc (lI rfl)) (by rw[ac];lia) c1) rfl) rfl (es s1))) ?_;refine lT (s':=s2) ((FN (s1:=s1) (p:=.int d) ((me (lI (v:=.tup [zL L z,.int d]) rfl) rfl).trans rfl) (lI rfl) ob1 (by decide)).trans (by rw[Rg])) ?_;refine lT (s':=s3) ((FN (s1:=s2.add (.dtt [])) (p:=.ref s2.nx) rfl (lI rfl) gk (Nat.lt_of_sub_eq_succ rfl)).trans (by rw[hs3])) ?_;refine rA (l:=qU 0 ((hsL L).map .str)) (s1:=s3) ?_ lp;unfold wj;rw[lJ (lI (i:=2) (v:=LS (hsL L)) rfl) rfl];rfl
 ·obtain⟨i,hi⟩:=b7.mp hh;refine v4 x hx i ?_ h hi;rw[rT,ac];exact(aS.mp hi).1
 ·rw[lS _ _ (by lia)];exact TK i h1 h2
def frR(q:Rat):PV:=frP (q.num,(q.den:Int))
def LR(q:Rat):Low (q.num,(q.den:Int)):=⟨by have:=q.den_pos;show(0:Int)<q.den;lia,by unfold Cop;show Nat.gcd q.num.natAbs q.den=1;exact q.reduced⟩
def yN(hb:0<b):red (t,b)=((cX t b).num,((cX t b).den:Int)):=by
 obtain⟨l,e⟩:=tD (q:=(t,b)) hb;have l0:=l.1;refine yX l (LR _) ?_;have h:=gg (cX t b);have d0:=(cX t b).den_pos;generalize (cX t b).num=n at *;generalize (cX t b).den=m at *;have h:n*b=t*(m:Int):=(ki (by lia) (by lia)).mp h;have e:(red (t,b)).1*b=t*(red (t,b)).2:=e;generalize red (t,b)=r at *;show r.1*(m:Int)=n*r.2;refine ei (a:=b) (by lia) ?_
 calc r.1*(m:Int)*b=(r.1*b)*m:=by rw[aU,br (m:Int),<-aU]
  _=t*r.2*m:=by rw[e]
  _=(t*m)*r.2:=by rw[aU,br r.2,<-aU]
  _=n*b*r.2:=by rw[h]
  _=n*r.2*b:=by rw[aU,br b,<-aU]
def Bj(a)(s)(hb:0<b)(bb:Bt 9000 b):uK a [.int t,.int b] s=.ok (frR (cX t b)) s:=by refine mC ?_;unfold D6;have gp:0<aF t b:=bH _ (by lia);have gb:Bt 9000 ((aF t b:Nat):Int):=bb.dvd (by lia) (cB ..);refine lT (mf (lY (lJ (lI rfl) (lJ (lI rfl) rfl)) rfl (show mO a [.int t,.int b] s=.ok (.int ((aF t b:Nat):Int)) s from Zc hb))) ?_;refine(nr (oQ (lJ (Aw (lI rfl) (lI rfl) ⟨by lia,gb⟩) (lJ (Aw (lI rfl) (lI rfl) ⟨by lia,gb⟩) rfl)))).trans ?_;unfold frR;rw[<-yN hb];rfl
def nZ(L:List Ent)(h:Str):Int:=match mI L h with
 |some e=>e.th
 |none=>0
def thV(L:List Ent):PV:=.dct (nmD (hsL L) λh=>.int (nZ L h))
def uX(a)(g:Gd L N c)(hb:T.get nb=Za (.book pp L)):qw a [.ref nb] T=.ok (thV L) T:=by
 refine mC ?_;unfold vS;have c1:=rV (s:=T) (cap:=[Za (.ref nb)]) (e:=xTup (xCons (xVar 0) (xCons (x2 (xBM 2 (Ks a) (xVar 1) (xCons (xVar 0) xNil)) (xC (.int 0)) fIx) xNil))) (λh=>.tup [.str h,.int (nZ L h)]) (hsL L) (λh hh=>by
  have hh:=hsL_mem.mp hh;obtain⟨e,f,_⟩:=g.ent hh;have of:Ks a [.ref nb,.str h] T=.ok (.tup [.int e.th,.int e.mr,.int e.ls]) T:=by simp only[Ks,mM,hb];rw[Zc (g.ho.sm h (g.ho.hn h hh)).nm,f]
  have et:nZ L h=e.th:=by unfold nZ;rw[f]
  show _=Out.ok (PV.tup [PV.str h,PV.int (nZ L h)]) T;rw[et];exact oQ (lJ (lI rfl) (lJ ((me ((qr (lI rfl) hb (lJ (lI rfl) rfl) rfl).trans of) rfl).trans rfl) rfl)))
 refine nr ((ym (lJ (pF (l:=(hsL L).map .str) (s1:=T) (nc ((qr (vs:=[]) (s2:=T) (lI rfl) hb rfl rfl).trans ?_)) (by rw[ac,oo];have:=g.l8;lia) c1) rfl)).trans (FA g.hnd));unfold nl mM;simp only[hb]
theorem CN{k}:∀(l:List Int),(∀x∈l,Bt k x)->Bt (k+l.length) l.sum
 |[],_=>by
  show(0:Int).natAbs<2^_;exact cq _
 |x::l,h=>by rw[iM,bc,<-km];exact((h x ai).mono (by lia)).add (CN l λy hy=>h y (ae _ hy))
def tp_bt(g:Gd L N c)(S:Slv L d z)(x)(hh:h∈hsL L):Bt 19995 (tp L d z x h):=by
 have l8:(hsL L).length<=8:=by rw[oo];exact g.l8
 have h1:=CN (k:=19980) ((hsL L).map λl=>pc (pl L l) x*z l h) λy hy=>by obtain⟨l,hl,rfl⟩:=aj.mp hy;exact(g.pcb hl x).mul (S.zb l hl h hh)
 rw[ac] at h1;unfold tp;refine Bt.mono (k:=19990+1) (Bt.add ?_ (h1.mono (by lia))) (by decide);split
 ·exact S.db.mono (by decide)
 ·show(0:Int).natAbs<2^_;exact cq _
def tpb(L:List Ent)(d:Int)(z:Str->Str->Int)(x:Str):Int:=((hsL L).map λh=>tp L d z x h*nZ L h).sum
def J7(h2:f Z s=.ok (.ref n) s)(h3:fa Z s=.ok vs s)(hg:s.get n=Za (.dtt l))(hk:AG vs=Za ks)(hv:vs.length<=100000)(hq:tj l ks=Za q):JC f fa Z s=.ok q s:=by unfold JC;rw[h2];simp only[Out.bind];rw[h3];simp only[hg,hk];rw[Zc hv,hq]
def Gd.thb(g:Gd L N c)(h):Bt 200 (nZ L h):=by
 unfold nZ;cases e:mI L h with
 |none=>show(0:Int).natAbs<2^_;exact cq _
 |some e'=>exact g.tb e' (uE e).1
def GF(a)(g:Gd L N c)(S:Slv L d z)(W:Wob a T k j L X d z)(hx:x∈X):pP a [.ref k,.str x,thV L] T=.ok (.int (tpb L d z x)) T:=by
 obtain⟨D,hD,vD⟩:=W.dc;refine mC ?_;unfold vh;have c1:=xy (s:=T) (cap:=[Za (thV L),Za (.ref k),Za (.str x)]) (e:=x2 (JC (Ck a.HALF "top_of" (xVar 2)) (xCons (xVar 3) (xCons (xVar 0) xNil))) (x2 (xVar 1) (xVar 0) fIx) fMul) (λh=>tp L d z x h*nZ L h) (hsL L) (λh hh=>by exact oS (J7 (ks:=[ag x,ag h]) (yj (lI rfl) W.ob rfl) (lJ (lI rfl) (lJ (lI rfl) rfl)) hD rfl (dY rfl) (vD x hx h hh)) ((me (lI rfl) (lI rfl)).trans (HN hh)) (.inl ⟨(tp_bt g S x hh).mono (by decide),(g.thb h).mono (by decide)⟩))
 refine nr ((ym (lJ (pF (l:=(hsL L).map .str) (s1:=T) ?_ (by rw[ac,oo];have:=g.l8;lia) c1) rfl)).trans ?_)
 ·unfold xIterD;rw[lI (i:=2) (v:=thV L) rfl];show Out.ok ((nmD (hsL L) λh=>.int (nZ L h)).map λkv:Key×PV=>Ng kv.1) T=_;unfold nmD;rw[aA];rfl
 ·simp only[Nn,lsOf,vB];rfl
def pW(X:List Str)(w:Str->Rat):PV:=.lst (X.map λx=>.tup [.str x,frR (w x)])
def wv(L:List Ent)(d:Int)(z:Str->Str->Int)(x:Str):Rat:=cX (tpb L d z x) d
def KF{C:ak}{nm:Str}{n:Nat}{D:XF}{f:XE}{fa:XA}{Z:En}{s s1 s2:Sto}{k:Nat}{fs:List (Str×PV)}{vs:List PV}{o:Out PV}(h1:f Z s=.ok (.ref k) s1)(hg:s1.get k=Za (.obj C fs))(hv:tj fs nm=Zb)(h2:fa Z s1=.ok vs s2)(hn:vs.length+1=n)(h3:D (.ref k::vs) s2=o):xOM C nm n D f fa Z s=o:=by unfold xOM;rw[h1];simp only[Out.bind,hg];rw[Zc ⟨trivial,hv⟩,h2];simp only[hn,if_true];exact h3
def BL(a)(g:Gd L N c)(S:Slv L d z)(W:Wob a T k j L X d z)(hY:∀y∈Y,y∈X)(hl:Y.length<=1000):pQ a [.ref k,LS Y,thV L] T=.ok (pW Y (wv L d z)) T:=by
 refine mC ?_;unfold vi;have c1:=rV (s:=T) (cap:=[Za (thV L),Za (.ref k)]) (e:=xTup (xCons (xVar 0) (xCons (xCall 2 (uK a) (xCons (xOM a.HALF "top_by" 3 (pP a) (xVar 2) (xCons (xVar 0) (xCons (xVar 1) xNil))) (xCons (Ck a.HALF "bottom" (xVar 2)) xNil))) xNil))) (λx=>.tup [.str x,frR (wv L d z x)]) Y (λx hx=>by exact oQ (lJ (lI rfl) (lJ (lY (lJ (KF (lI rfl) W.ob rfl (lJ (lI rfl) (lJ (lI rfl) rfl)) rfl (GF a g S W (hY x hx))) (lJ (yj (lI rfl) W.ob rfl) rfl)) rfl (Bj a T S.d0 S.db)) rfl)))
 exact nr (pF (l:=Y.map .str) (s1:=T) (nc (lI rfl)) (by rw[ac];lia) c1)
def Sol(L:List Ent)(t:Str->Rat)(w:Str->Rat):Prop:=∀x,w x=t x+mw ((hsL L).map λl=>shr L l x*w l)
theorem Sol.uniq(g:Gd L N c)(ng:NoG L)(h:Sol L t w)(h':Sol L t w')(x):w x=w' x:=by
 have hs:∀l∈hsL L,w l-w' l=0:=g.uniq ng g.hnd (λx hx=>hsL_mem.mp hx) (v:=λx=>w x-w' x) λy _=>by
  have e:mw ((hsL L).map λl=>shr L l y*(w l-w' l))=mw ((hsL L).map λl=>shr L l y*w l+(-1)*(shr L l y*w' l)):=mJ λl _=>by grind
  rw[e,ux,qd];have a1:=h y;have a2:=h' y
  grind
 have e:mw ((hsL L).map λl=>shr L l x*w l)=mw ((hsL L).map λl=>shr L l x*w' l):=mJ λl hl=>by have:=hs l hl;grind
 rw[h x,h' x,e]
def Slv.tp_house(g:Gd L N c)(S:Slv L d z){h k}(hh:h∈hsL L)(hk:k∈hsL L):((tp L d z h k:Int):Rat)=((pcn (pl L h):Nat):Rat)*((z h k:Int):Rat):=by
 rw[S.eq h hh k hk];unfold tp;rw[fP,rQ]
 congr 1
 ·split<;>rfl
 ·exact mJ λl _=>cL ..
def Slv.tp_eq(g:Gd L N c)(S:Slv L d z)(x){k}(hk:k∈hsL L):((tp L d z x k:Int):Rat)=(if x=k then(d:Rat) else 0)+mw ((hsL L).map λl=>shr L l x*((tp L d z l k:Int):Rat)):=by
 have e:mw ((hsL L).map λl=>shr L l x*((tp L d z l k:Int):Rat))=mw ((hsL L).map λl=>((pc (pl L l) x*z l k:Int):Rat)):=mJ λl hl=>by
  obtain⟨e,m,hz,f,ep,o,R,kc,sv,_⟩:=g.held (hsL_mem.mp hl);rw[S.tp_house g hl hk,cL,R.pc_val,sv,cJ]
  grind
 rw[e];unfold tp;rw[fP,rQ]
 congr 1
 split<;>rfl
def K0(hh:h∉hsL L):nZ L h=0:=by
 unfold nZ;cases e:mI L h with
 |none=>rfl
 |some e'=>exact absurd (hsL_mem.mpr (by unfold mv;rw[e];rfl)) hh
def Slv.sol(g:Gd L N c)(S:Slv L d z):Sol L (λx=>((nZ L x:Int):Rat)) (wv L d z):=by
 intro x;have d0:((d:Int):Rat)≠0:=λq=>by have:=gP.mp q;have:=S.d0;lia
 have wd:∀y,wv L d z y*(d:Rat)=mw ((hsL L).map λh=>((tp L d z y h:Int):Rat)*((nZ L h:Int):Rat)):=λy=>by
  unfold wv tpb;rw[gB,rQ];have:mw ((hsL L).map λh=>((tp L d z y h*nZ L h:Int):Rat))=mw ((hsL L).map λh=>((tp L d z y h:Int):Rat)*((nZ L h:Int):Rat)):=mJ λh _=>cL ..;rw[this]
  grind
 have e1:mw ((hsL L).map λh=>((tp L d z x h:Int):Rat)*((nZ L h:Int):Rat))=mw ((hsL L).map λh=>(if x=h then(d:Rat)*((nZ L h:Int):Rat) else 0)+mw ((hsL L).map λl=>shr L l x*(((tp L d z l h:Int):Rat)*((nZ L h:Int):Rat)))):=mJ λh hh=>by
  rw[S.tp_eq g x hh];have:mw ((hsL L).map λl=>shr L l x*(((tp L d z l h:Int):Rat)*((nZ L h:Int):Rat)))=mw ((hsL L).map λl=>((nZ L h:Int):Rat)*(shr L l x*((tp L d z l h:Int):Rat))):=mJ λl _=>by grind
  rw[this,qd];split<;>grind
 have e2:mw ((hsL L).map λh=>if x=h then(d:Rat)*((nZ L h:Int):Rat) else 0)=(d:Rat)*((nZ L x:Int):Rat):=by
  by_cases hx:x∈hsL L
  ·rw[wn (g:=λh=>if x=h then(d:Rat)*((nZ L h:Int):Rat) else 0) g.hnd (W:=[x]) (by simp) (λy _ hy=>Zd λz=>hy (by rw[z];simp))];show(if x∈hsL L then(if x=x then(d:Rat)*((nZ L x:Int):Rat) else 0) else 0)+0=_;rw[Zc hx,Zc rfl,fX]
  ·rw[AW λy hy=>Zd λq:x=y=>hx (by rw[q];exact hy),K0 hx];show(0:Rat)=(d:Rat)*0;rw[kK]
 have e3:mw ((hsL L).map λh=>mw ((hsL L).map λl=>shr L l x*(((tp L d z l h:Int):Rat)*((nZ L h:Int):Rat))))=(d:Rat)*mw ((hsL L).map λl=>shr L l x*wv L d z l):=by
  rw[AX,<-qd];refine mJ λl _=>?_;rw[qd,<-wd l]
  grind
 have e4:=wd x;rw[e1,ux,e2,e3] at e4;show wv L d z x=((nZ L x:Int):Rat)+_
 grind
def KI{C:ak}{n:Nat}{D:XF}{fa:XA}{Z:En}{s s1 s2:Sto}{vs:List PV}(h1:fa Z s=.ok vs s1)(hn:vs.length+1=n)(h2:D (.ref s1.nx::vs) (s1.add (.obj C []))=.ok .non s2):xMk C n D fa Z s=.ok (.ref s1.nx) s2:=by unfold xMk;rw[h1];simp only[Out.bind,hn,if_true,h2]
def Cy(a)(g:Gd L N c)(ng:NoG L)(P:Pp pp N)(hb:T.get nb=Za (.book pp L))(Qv:nb<T.nx):∃d z j T',Slv L d z/\oU a [.ref T.nx,.ref nb] (T.add (.obj a.HALF []))=.ok .non T'/\Wob a T' T.nx j L (srt pp++hsL L) d z/\Gr T T':=by
 have hb1:(T.add (.obj a.HALF [])).get nb=Za (.book pp L):=by rw[mE,Zd (by lia)];exact hb
 obtain⟨d,z,j,T',S,e,W,n1,n2,fr⟩:=KU (k:=T.nx) a g ng P hb1 (cA Qv) (by rw[mE,Zc rfl]) (bT _) (by lia);have n1:T.nx+1<=T'.nx:=n1;refine⟨d,z,j,T',S,e,W,by lia,λi hi=>?_⟩;rw[fr i (cA hi) (by lia),mE,Zd (by lia)]
def uL(a:Adr)(g:Gd L N c)(ng:NoG L)(P:Pp pp N)(hb:T.get nb=Za (.book pp L))(Qv:nb<T.nx):∃w T',sj a [.ref nb] T=.ok (pW (hsL L) w) T'/\Sol L (λx=>((nZ L x:Int):Rat)) w/\Gr T T':=by obtain⟨d,z,j,T',S,e,W,G⟩:=Cy a g ng P hb Qv;have QN:T'.get nb=Za (.book pp L):=(G.fr nb Qv).trans hb;refine⟨wv L d z,T',mC ?_,S.sol g,G⟩;unfold D2;refine nr (KF (KI (lJ (lI rfl) rfl) rfl e) W.ob rfl (lJ ((qr (vs:=[]) (s2:=T') (lI rfl) QN rfl rfl).trans (show nl a [.ref nb] T'=.ok (LS (hsL L)) T' by unfold nl mM;simp only[QN])) (lJ (lY (lJ (lI rfl) rfl) rfl (uX a g QN)) rfl)) rfl (BL a g S W (λy hy=>aH _ hy) (by rw[oo];have:=g.l8;lia)))
def ww(a:Adr)(g:Gd L N c)(ng:NoG L)(P:Pp pp N)(hb:T.get nb=Za (.book pp L))(Qv:nb<T.nx):∃w T',vn a [.ref nb] T=.ok (pW (srt pp) w) T'/\Sol L (λx=>((nZ L x:Int):Rat)) w/\Gr T T':=by obtain⟨d,z,j,T',S,e,W,G⟩:=Cy a g ng P hb Qv;have QN:T'.get nb=Za (.book pp L):=(G.fr nb Qv).trans hb;refine⟨wv L d z,T',mC ?_,S.sol g,G⟩;unfold Ge;refine nr (KF (KI (lJ (lI rfl) rfl) rfl e) W.ob rfl (lJ ((qr (vs:=[]) (s2:=T') (lI rfl) QN rfl rfl).trans (show oX a [.ref nb] T'=.ok (LS (srt pp)) T' by unfold oX mM;simp only[QN])) (lJ (lY (lJ (lI rfl) rfl) rfl (uX a g QN)) rfl)) rfl (BL a g S W (λy hy=>bU _ hy) (by rw[(lZ _).length_eq];have:=P.le;lia)))
end
structure KeepS(g:Ent->Ent):Prop where
 nm:∀e,(g e).nm=e.nm
 hl:∀e,(g e).held=e.held
section
variable{T:Sto}{nb:Nat}{pp N:List Str}{L:List Ent}{c:Nat}{g:Ent->Ent}{h:Str}
def Ba(K:KeepS g):(mW L h g).map (·.nm)=L.map (·.nm):=by
 unfold mW;rw[aA];refine aQ λe _=>?_;show(if e.nm=h then g e else e).nm=e.nm;split
 ·exact K.nm e
 ·rfl
def uD(K:KeepS g)(n):mI (mW L h g) n=(mI L n).map λe=>if e.nm=h then g e else e:=by
 unfold mI mW;rw[fc];have e:((λe:Ent=>decide (e.nm=n))∘λx:Ent=>if x.nm=h then g x else x)=λe:Ent=>decide (e.nm=n):=by
  funext x
  show decide ((if x.nm=h then g x else x).nm=n)=_;split
  ·rw[K.nm]
  ·rfl
 rw[e]
def Cn(K:KeepS g):hsL (mW L h g)=hsL L:=by unfold hsL;rw[Ba K]
def K9(K:KeepS g)(n):own (mW L h g) n=own L n:=by
 unfold own;rw[uD K];cases mI L n with
 |none=>rfl
 |some e =>
  show srt ((if e.nm=h then g e else e).held.map (·.1))=_;split
  ·rw[K.hl]
  ·rfl
def K8(K:KeepS g)(n x):shr (mW L h g) n x=shr L n x:=by
 unfold shr;rw[uD K];cases mI L n with
 |none=>rfl
 |some e =>
  show rv (l7 (if e.nm=h then g e else e).held x)=_;split
  ·rw[K.hl]
  ·rfl
def Co(K:KeepS g)(n):mv (mW L h g) n=mv L n:=by unfold mv;rw[uD K,cS]
def NoG.set(K:KeepS g)(ng:NoG L):NoG (mW L h g):=λG hG hh=>by obtain⟨y,hy,x,hx,q⟩:=ng G hG λy hy=>(Co K y)▸hh y hy;exact⟨y,hy,x,by rw[K9 K];exact hx,q⟩
def Ho.set(K:KeepS g)(H:Ho L N):Ho (mW L h g) N:=by
 refine⟨λn e f=>?_,H.sm,H.le,λn hn=>H.hn n ((Co K n)▸hn)⟩;rw[uD K] at f;cases f':mI L n with
 |none=>rw[f'] at f;cases f
 |some e' =>
  rw[f'] at f;have f:(if e'.nm=h then g e' else e')=e:=aO f;have:e.held=e'.held:=by
   rw[<-f];split
   ·exact K.hl e'
   ·rfl
  rw[this];exact H.ow n e' f'
theorem Cts.set(K:KeepS g):∀{c:Nat}{L:List Ent},Cts c L->Cts c (mW L h g)
 |_,_,.nil=>.nil
 |_,_,.cons (e:=e) ⟨hz,R⟩ r q=>.cons (e:=if e.nm=h then g e else e) ⟨hz,by
   split
   ·rw[K.hl];exact R
   ·exact R⟩ (Cts.set K r) q
theorem Gd.set(K:KeepS g)(G:Gd L N c)(tb:∀e∈L,e.nm=h->Bt 200 (g e).th):Gd (mW L h g) N c:=by
 refine⟨G.ho.set K,by rw[Ba K];exact G.nd,G.ct.set K,λe he=>?_,by unfold mW;rw[ac];exact G.l8,G.c40⟩;unfold mW at he;obtain⟨x,hx,rfl⟩:=aj.mp he;split
 ·rename_i q;exact tb x hx q
 ·exact G.tb x hx
def vy(v):KeepS λe=>{ e with th:=v }:=⟨λ_=>rfl,λ_=>rfl⟩
def Ny(K:KeepS g)(n):nZ (mW L h g) n=match mI L n with
  |some e=>if e.nm=h then(g e).th else e.th
  |none=>0:=by
 unfold nZ;rw[uD K];cases mI L n with
 |none=>rfl
 |some e =>
  show(if e.nm=h then g e else e).th=if e.nm=h then(g e).th else e.th
  split<;>rfl
def Ku(v)(hh:mv L h=true)(n):nZ (mW L h λe=>{ e with th:=v }) n=if n=h then v else nZ L n:=by
 rw[Ny (vy v)];unfold nZ;cases f:mI L n with
 |none =>
  rw[Zd];intro z;rw[z] at f;unfold mv at hh;rw[f] at hh;cases hh
 |some e =>
  have:=(uE f).2;show(if e.nm=h then v else e.th)=_;rw[this]
def AV(a)(hb:T.get nb=Za (.book pp L))(hh:mv L h=true)(hs:Nm h)(v):su a [.ref nb,.str h,.int v] T=.ok .non (T.set nb (.book pp (mW L h λe=>{ e with th:=v }))):=by simp[su,KQ,mM,hb,hs,hh]
def Sol.set(K:KeepS g):Sol (mW L h g) t w↔Sol L t w:=by unfold Sol;rw[Cn K];simp only[K8 K]
end
def Kz{t b:Int}{k m:Nat}(hb:0<b)(ht:Bt k t)(hB:Bt m b):Bt k (cX t b).num/\Bt m ((cX t b).den:Int):=by have e:=yN (t:=t) hb;have e1:=congrArg Prod.fst e;have e2:=congrArg Prod.snd e;simp only at e1 e2;rw[<-e1,<-e2];unfold red;exact⟨ht.div,hB.div⟩
def Kl(q:Rat):(0:Int)<q.den:=by have:=q.den_pos;lia
def Ao{k m:Nat}{i j:Int}(h:Bt k i)(g:Bt m j)(hk:k<=20000)(hm:m<=20000):oF i j:=.inl ⟨h.mono hk,g.mono hm⟩
def ixt0{s:Sto}{u v:PV}:fIx (.tup [u,v]) (.int 0) s=.ok u s:=rfl
def ixt1{s:Sto}{u v:PV}:fIx (.tup [u,v]) (.int 1) s=.ok v s:=rfl
def FR(n:Int)(q:Rat):cX (n*q.num) (q.den:Int)=(n:Rat)*q:=by
 have k:=gg q;rw[gB] at k ⊢;rw[cL];generalize ((q.num:Int):Rat)=x at *;generalize (((q.den:Nat):Int):Rat)=y at *;rw[<-k];clear k
 grind
def Ih(a:Adr)(s:Sto){n:Int}{q:Rat}(hn:Bt 20 n)(h1:Bt 13000 q.num)(h2:Bt 4000 (q.den:Int)):sQ a [.tup [.int n,.int 1],frR q] s=.ok (frR ((n:Rat)*q)) s:=by have d0:=Kl q;have m:=wT a s (n*q.num) (1*(q.den:Int)) (by lia) (by rw[li];exact h2.mono (by decide));rw[yN (by lia),li,FR n q] at m;have b1:oF n q.num:=Ao hn h1 (by decide) (by decide);have b2:oF 1 (q.den:Int):=Ao (k:=2) (bt1 (by decide)) h2 (by decide) (by decide);refine mC ?_;unfold vT;refine nr (lY (vs:=[.int (n*q.num),.int (1*(q.den:Int))]) (s1:=s) (lJ (oS ((me (lI rfl) rfl).trans ixt0) ((me (lI rfl) rfl).trans ix0) b1) (lJ (oS ((me (lI rfl) rfl).trans ixt1) ((me (lI rfl) rfl).trans ix1) b2) rfl)) rfl ?_);rw[li];exact m
def bt0'{k:Nat}:Bt k 0:=cq k
def Lg(p q:Rat):cX (p.num*(q.den:Int)+q.num*(p.den:Int)) ((p.den:Int)*(q.den:Int))=p+q:=by have d1:=Kl p;have d2:=Kl q;rw[<-kT _ _ (by lia) (by lia),gg,gg]
def Ds(a:Adr)(s:Sto){p q:Rat}(p1:Bt 13000 p.num)(p2:Bt 4500 (p.den:Int))(q1:Bt 13000 q.num)(q2:Bt 4500 (q.den:Int))(u0 u3:Option PV):mU (yName 3) (qt a) (frR q) [u0,Za (.int p.num),Za (.int (p.den:Int)),u3] s=.nx [u0,Za (.int (p+q).num),Za (.int ((p+q).den:Int)),Za (frR q)] s:=by have pq:=bI (Kl p) (Kl q);have m:=wT a s (p.num*(q.den:Int)+q.num*(p.den:Int)) ((p.den:Int)*(q.den:Int)) pq (p2.mul q2);rw[yN pq,Lg] at m;have b1:oF p.num (q.den:Int):=Ao p1 q2 (by decide) (by decide);have b2:oF q.num (p.den:Int):=Ao q1 p2 (by decide) (by decide);have b3:oF (p.den:Int) (q.den:Int):=Ao p2 q2 (by decide) (by decide);clear p1 p2 q1 q2;refine(pV (i:=3)).trans ?_;show qt a [u0,Za (.int p.num),Za (.int (p.den:Int)),Za (frR q)] s=_;unfold qt;exact Nq (lY (vs:=[.int (p.num*(q.den:Int)+q.num*(p.den:Int)),.int ((p.den:Int)*(q.den:Int))]) (s1:=s) (lJ (vk (oS (lI rfl) ((me (lI rfl) rfl).trans ix1) b1) (oS ((me (lI rfl) rfl).trans ix0) (lI rfl) b2)) (lJ (oS (lI rfl) ((me (lI rfl) rfl).trans ix1) b3) rfl)) rfl m)
def NF(a:Adr)(s:Sto){p q:Rat}(p1:Bt 13000 p.num)(p2:Bt 4500 (p.den:Int))(q1:Bt 13000 q.num)(q2:Bt 4500 (q.den:Int)):vI a [.lst [frR p,frR q]] s=.ok (frR (p+q)) s:=by
 refine mC ?_;unfold zc;have z0:(0:Rat)+p=p:=kJ p;have s1:=Ds a s (p:=0) (q:=p) bt0' (bt1 (by decide)) p1 p2 (Za (.lst [frR p,frR q])) Zb;rw[z0] at s1;have s2:=Ds a s (p:=p) (q:=q) p1 p2 q1 q2 (Za (.lst [frR p,frR q])) (Za (frR p));refine lT (ρ':=[Za (.lst [frR p,frR q]),Za (.int (0:Rat).num),Za (.int ((0:Rat).den:Int)),Zb]) (s':=s) (Nq (oQ (lJ rfl (lJ rfl rfl)))) ?_;refine lT (rA (l:=[frR p,frR q]) (s1:=s) (nc (lI rfl)) (ρ':=[Za (.lst [frR p,frR q]),Za (.int (p+q).num),Za (.int ((p+q).den:Int)),Za (frR q)]) (s':=s) ?_) ?_
 ·unfold nF;rw[s1];show nF _ [frR q] _ s=_;unfold nF;rw[s2];rfl
 ·exact nr (oQ (lJ (lI rfl) (lJ (lI rfl) rfl)))
section
variable{T:Sto}{nb k j:Nat}{pp N X:List Str}{L:List Ent}{c:Nat}{d:Int}{z:Str->Str->Int}
def Gd.pcb2(g:Gd L N c){h:Str}(hh:h∈hsL L)(x:Str):Bt 4030 (pc (pl L h) x):=by
 obtain⟨e,k,hz,f,ep,o,R,kc,sv,_⟩:=g.held (hsL_mem.mp hh);obtain⟨p0,pb,pd⟩:=R.pieces;obtain⟨m,hm⟩:=pd x;have F:=R.fr x;have c4:=g.c40;have m0:0<=m:=by
  by_cases z:0<=m
  ·exact z
  ·have:=Int.mul_neg_of_pos_of_neg F.low.1 (show m<0 by lia);lia
 have pc0:pc (pl L h) x=(l7 (pl L h) x).1*m:=by unfold pc;rw[hm,cD _ (by have:=F.low.1;lia)]
 have le:pc (pl L h) x<=((2^k:Nat):Int)*(pcn (pl L h):Int):=by rw[pc0,hm,<-aU];exact aV F.le m0
 have nn:=R.pc_nn x;have b2:Bt (k+1) ((2^k:Nat):Int):=by unfold Bt;rw[gn,f6];have:=cq k;lia
 have bb:Bt 4030 (((2^k:Nat):Int)*(pcn (pl L h):Int)):=(b2.mul pb).mono (by lia);unfold Bt at *;lia
def JH(g:Gd L N c)(S:Slv L d z)(x:Str){h:Str}(hh:h∈hsL L):Bt 12030 (tp L d z x h):=by
 have l8:(hsL L).length<=8:=by rw[oo];exact g.l8
 have h1:=CN (k:=12010) ((hsL L).map λl=>pc (pl L l) x*z l h) λy hy=>by obtain⟨l,hl,rfl⟩:=aj.mp hy;exact(g.pcb2 hl x).mul (S.zb l hl h hh)
 rw[ac] at h1;unfold tp;refine Bt.mono (k:=12020+1) (Bt.add ?_ (h1.mono (by lia))) (by decide);split
 ·exact S.db.mono (by decide)
 ·show(0:Int).natAbs<2^_;exact cq _
def wv_b(g:Gd L N c)(S:Slv L d z)(x:Str):Bt 12300 (wv L d z x).num/\Bt 4000 ((wv L d z x).den:Int):=by
 have l8:(hsL L).length<=8:=by rw[oo];exact g.l8
 have h1:=CN (k:=12230) ((hsL L).map λh=>tp L d z x h*nZ L h) λy hy=>by obtain⟨h,hh,rfl⟩:=aj.mp hy;exact(JH g S x hh).mul (g.thb h)
 rw[ac] at h1;exact Kz S.d0 (h1.mono (by lia)) (S.dd.mono (by decide))
def wy(L:List Ent)(d:Int)(z:Str->Str->Int)(x h:Str):Rat:=cX (tp L d z x h) d
def wy_b(g:Gd L N c)(S:Slv L d z)(x:Str){h:Str}(hh:h∈hsL L):Bt 12300 (wy L d z x h).num/\Bt 4000 ((wy L d z x h).den:Int):=Kz S.d0 ((JH g S x hh).mono (by decide)) (S.dd.mono (by decide))
def Fg(g:Gd L N c)(S:Slv L d z){h:Str}(hh:h∈hsL L):Sol L (λx=>if x=h then 1 else 0) (λx=>wy L d z x h):=by
 intro x;have d0:((d:Int):Rat)≠0:=λq=>by have:=gP.mp q;have:=S.d0;lia
 have wd:∀y,wy L d z y h*(d:Rat)=((tp L d z y h:Int):Rat):=λy=>by
  unfold wy;rw[gB]
  grind
 have e:=S.tp_eq g x hh;have e2:mw ((hsL L).map λl=>shr L l x*((tp L d z l h:Int):Rat))=(d:Rat)*mw ((hsL L).map λl=>shr L l x*wy L d z l h):=by rw[<-qd];exact mJ λl _=>by rw[<-wd l];grind
 rw[e2,<-wd x] at e;show wy L d z x h=(if x=h then 1 else 0)+_;split at e
 ·rename_i q;rw[Zc q];grind
 ·rename_i q;rw[Zd q];grind
def Ev(a:Adr)(g:Gd L N c)(ng:NoG L)(P:Pp pp N)(hb:T.get nb=Za (.book pp L))(Qv:nb<T.nx){x h:Str}(hx:x∈srt pp++hsL L)(hh:h∈hsL L):∃d z T',Slv L d z/\xF a [.ref nb,.str x,.str h] T=.ok (frR (wy L d z x h)) T'/\Gr T T':=by
 obtain⟨d,z,j,T',S,e,W,G⟩:=Cy a g ng P hb Qv;obtain⟨D,hD,vD⟩:=W.dc;have QN:T'.get nb=Za (.book pp L):=(G.fr nb Qv).trans hb;have Rm:=hsL_mem.mp hh;have smx:Sm x:=by
  rcases aP.mp hx with q|q
  ·exact g.ho.sm x (P.sub x ((lZ _).mem_iff.mp q))
  ·exact g.ho.sm x (g.ho.hn x (hsL_mem.mp q))
 have nh:oB a [.ref nb,.str x] T'=.ok .non T':=by
  have i:(oH pp x||mv L x)=true:=by
   rw[dA,wx];rcases aP.mp hx with q|q
   ·exact .inl ((lZ _).mem_iff.mp q)
   ·exact .inr (hsL_mem.mp q)
  simp only[oB,mM,QN];rw[Zc smx.nm,Zc i]
 refine⟨d,z,T',S,mC ?_,G⟩;unfold Bp;refine lT (mf (KI (lJ (lI rfl) rfl) rfl e)) ?_;refine lT (vF ((qr (lI rfl) QN (lJ (lI rfl) rfl) rfl).trans nh)) ?_;refine lT (vF ((qr (lI rfl) QN (lJ (lI rfl) rfl) rfl).trans (IQ a QN Rm (g.ho.sm h (g.ho.hn h Rm)).nm))) ?_;exact nr (lY (lJ (J7 (ks:=[ag x,ag h]) (yj (lI rfl) W.ob rfl) (lJ (lI rfl) (lJ (lI rfl) rfl)) hD rfl (dY rfl) (vD x hx h hh)) (lJ (yj (lI rfl) W.ob rfl) rfl)) rfl (Bj a T' S.d0 S.db))
end
def EK(h1:f Z s=.ok false s1)(h2:g Z s1=.ok b s2):xOr f g Z s=.ok b s2:=by unfold xOr;rw[h1];exact h2
def NY(h1:f Z s=.ok true s1):xOr f g Z s=.ok true s1:=by unfold xOr;rw[h1];rfl
def MJ(h1:f Z s=.ok (.bl true) s1)(h2:g Z s1=o):xAndV f g Z s=o:=by unfold xAndV;rw[h1];exact h2
def asg3(h:f Z s=.ok (.tup [u,v,w]) s'):xAsg f (yTup 3 (yCons (yName i) (yCons (yName j) (yCons (yName k) yNil)))) Z s=.nx (((Z.set i (Za u)).set j (Za v)).set k (Za w)) s':=by unfold xAsg;rw[h];rfl
def dtR(q:Rat):jQ:=.tuple [.int q.num,.int (q.den:Int)]
def Jp(h:bi x=true):PV.data s (k+3) (.tup [.str x,frR q])=Za (.tuple [.str x,dtR q]):=by
 have e1:PV.data s (k+2) (.str x)=Za (.str x):=by unfold PV.data;rw[Zc h]
 have e2:PV.data s (k+2) (frR q)=Za (dtR q):=rfl;unfold PV.data;simp[vP,e1,e2]
theorem uP{s:Sto}{k:Nat}{w:Str->Rat}:∀{X:List Str},(∀x∈X,bi x=true)->vP (PV.data s (k+3)) (X.map λx=>.tup [.str x,frR (w x)])=Za (X.map λx=>.tuple [.str x,dtR (w x)])
 |[],_=>rfl
 |x::X,h=>by rw[ao];unfold vP;rw[Jp (h x ai),uP λy hy=>h y (ae _ hy)];rfl
def Mc(x):bu (.str x) (.str x)=true:=by unfold bu;exact beq_self_eq_true x
def Me(q):bu (dtR q) (dtR q)=true:=by unfold dtR;simp[bu,bY]
def CY(x)(q):bu (.tuple [.str x,dtR q]) (.tuple [.str x,dtR q])=true:=by rw[bu,bY,bY,bY,Mc,Me];rfl
theorem pY{α:Type}{f:α->jQ}(h:∀x,bu (f x) (f x)=true):∀l:List α,bY (l.map f) (l.map f)=true
 |[]=>by simp[bY]
 |x::l=>by rw[ao,bY,h,pY h l];rfl
def pH(h:∀x∈X,w x=w' x):pW X w=pW X w':=by unfold pW;rw[aQ λx hx=>by rw[h x hx]]
def Gg{s:Sto}{X:List Str}{w:Str->Rat}(h:∀x∈X,bi x=true):fEq (pW X w) (pW X w) s=.ok (.bl true) s:=by
 have e:PV.data s 12 (pW X w)=Za (.list (X.map λx=>.tuple [.str x,dtR (w x)])):=by unfold pW PV.data;rw[uP (k:=8) h];rfl
 show fEqN false _ _ _=_;unfold fEqN;rw[e];show Out.ok (PV.bl (bu (.list _) (.list _))) s=_;rw[bu,pY λx=>CY x (w x)]
structure Ls(T:Sto)(p nb:Nat)(pp:List Str)(L:List Ent)(Zj:List (Nat×Cell)):Prop where
 pu:IsPurse T p
 bk:T.get nb=Za (.book pp L)
 ne:p≠nb
 lp:p<T.nx
 lb:nb<T.nx
 zz:∀z∈Zj,T.get z.1=Za z.2/\z.1≠p/\z.1≠nb/\z.1<T.nx
section
variable{T T':Sto}{p nb:Nat}{pp:List Str}{L L':List Ent}{Zj:List (Nat×Cell)}
def Ls.gr(h:Ls T p nb pp L Zj)(g:Gr T T'):Ls T' p nb pp L Zj :=
 ⟨let⟨x,y,e⟩:=h.pu;⟨x,y,(g.fr p h.lp).trans e⟩,(g.fr nb h.lb).trans h.bk,h.ne,ay h.lp g.nx,ay h.lb g.nx,λz hz=>let⟨a,b,c,d⟩:=h.zz z hz;⟨(g.fr _ d).trans a,b,c,ay d g.nx⟩⟩
theorem Ls.pst(h:Ls T p nb pp L Zj)(x y):Ls (T.set p (.lst [.int x,.int y])) p nb pp L Zj :=
 ⟨h.pu.pst x y,(lS _ _ (bX h.ne)).trans h.bk,h.ne,h.lp,h.lb,λz hz=>let⟨a,b,c,d⟩:=h.zz z hz;⟨(lS _ _ b).trans a,b,c,d⟩⟩
theorem Ls.book(h:Ls T p nb pp L Zj)(L'):Ls (T.set nb (.book pp L')) p nb pp L' Zj :=
 ⟨let⟨x,y,e⟩:=h.pu;⟨x,y,(lS _ _ h.ne).trans e⟩,nT h.bk,h.ne,h.lp,h.lb,λz hz=>let⟨a,b,c,d⟩:=h.zz z hz;⟨(lS _ _ c).trans a,b,c,d⟩⟩
def Ls.more(h:Ls T p nb pp L Zj)(hc:T.get k=Za c)(h1:k≠p)(h2:k≠nb)(h3:k<T.nx):Ls T p nb pp L ((k,c)::Zj) :=
 ⟨h.pu,h.bk,h.ne,h.lp,h.lb,λz hz=>(af.mp hz).elim (λe=>by rw[e];exact⟨hc,h1,h2,h3⟩) (h.zz z)⟩
end
section
variable{s t:Sto}{p nb nd:Nat}{N:List Str}{c:Nat}{pp:List Str}{L:List Ent}{M:List Md}
def Prs.at_(P:Prs N c L M)(h:n∈L.map (·.nm)):∃e m k,mI L n=Za e/\m∈M/\qz (M.map mdP) (ag n)=Za (.lst [.ref m.cell,.tup [.int m.th,.int m.mr,.int m.ls]])/\MRel N k e m:=by obtain⟨A,e,B,A',m,B',k1,k2,k3,e1,e2,e3,e4,e5,e6,e7,_⟩:=P.cut (P.names▸h);subst e3;refine⟨e,m,k2,?_,by rw[e2];simp,by rw[e2];exact J6 e4,e6⟩;rw[e1,<-e6.nm];exact wA (by rw[e5.names,e6.nm];exact e4)
def Bst.ho(B:Bst s t p nb nd N c pp L M)(WN:Wds N)(hn:∀n∈L.map (·.nm),n∈N)(hl:N.length<64):Ho L N:=by refine⟨λn e fe=>?_,WN.sm,hl,λn h=>hn n ((pS _ _).mp h)⟩;have hn:n∈L.map (·.nm):=(pS _ _).mp (by unfold mv;rw[fe];rfl);obtain⟨e',m,k,f,hm,_,R⟩:=B.w.pr.at_ hn;rw[fe] at f;cases f;have:e.held.length=m.hl.length:=R.hm.len.symm;have l2:=Nd R.hm.nd R.ow;rw[ac] at l2;exact⟨by lia,λx hx=>R.ow x ((R.hm.mem x).mpr hx)⟩
def Bst.gd(B:Bst s t p nb nd (pp++hs) c pp L M)(WN:Wds (pp++hs))(hL:L.map (·.nm)=hs)(hp:pp.length<=6)(hh:hs.length<=8)(hc:c<=40):Gd L (pp++hs) c/\Pp pp (pp++hs):=by
 have Nl:(pp++hs).length<64:=by rw[aM];lia
 refine⟨⟨B.ho WN (λn hn=>aH _ (hL▸hn)) Nl,by rw[hL];exact(bN.mp WN.nd).2.1,B.w.pr.cts,λe he=>(B.w.pr.tb e he).mono (by decide),?_,by lia⟩,λx hx=>bU _ hx,by lia⟩;have:=congrArg cg hL;rw[ac] at this;lia
end
section
variable{T:Sto}{nb k j:Nat}{pp N X:List Str}{L:List Ent}{c:Nat}{d:Int}{z:Str->Str->Int}{h:Str}
def HC{f:XE}{fa:XA}{Z:En}{s s2:Sto}{n:Nat}{l l':List PV}{w:PV}(h1:f Z s=.ok (.ref n) s)(hg:s.get n=Za (.lst l'))(h2:fa Z s=.ok [w] s2)(R7:s2.get n=Za (.lst l))(hl:l.length<100000):xAppend f fa Z s=.ok .non (s2.set n (.lst (l++[w]))):=by unfold xAppend;rw[h1];simp only[Out.bind,hg];rw[h2];simp only[R7];rw[Zc hl]
def Oh{n:Int}{q:Rat}(hn:Bt 20 n)(h1:Bt 12300 q.num)(h2:Bt 4000 (q.den:Int)):Bt 13000 ((n:Rat)*q).num/\Bt 4500 (((n:Rat)*q).den:Int):=by have r:=Kz (Kl q) (hn.mul h1) h2;rw[FR] at r;exact⟨r.1.mono (by decide),r.2.mono (by decide)⟩
theorem Bh(a:Adr)(g:Gd L N c)(ng:NoG L)(P:Pp pp N)(S:Slv L d z)(hh:h∈hsL L){n:Int}(hn:Bt 20 n){w:Str->Rat}(c0:Nat)(hc:nb<c0)(u0:PV):∀(Y:List Str)(done:List PV)(s:Sto)(u5 u6:Option PV),(∀x∈Y,x∈srt pp++hsL L)->(∀x∈Y,Bt 12300 (w x).num/\Bt 4000 ((w x).den:Int))->c0<s.nx->s.get nb=Za (.book pp L)->s.get c0=Za (.lst done)->done.length+Y.length<1000 ->
  ∃s' v5 v6,nF (mU (yTup 2 (yCons (yName 5) (yCons (yName 6) yNil))) (ou a)) (Y.map λx=>.tup [.str x,frR (w x)]) [Za u0,Za (.ref nb),Za (.str h),Za (.int n),Za (.ref c0),u5,u6] s=.nx [Za u0,Za (.ref nb),Za (.str h),Za (.int n),Za (.ref c0),v5,v6] s'/\s'.get c0=Za (.lst (done++Y.map λx=>.tup [.str x,frR (w x+n*wy L d z x h)]))/\s.nx<=s'.nx/\∀k,k<c0->s'.get k=s.get k
 |[],done,s,u5,u6,_,_,_,_,hd,_=>⟨s,u5,u6,rfl,by rw[cP,cK];exact hd,am _,λ_ _=>rfl⟩
 |x::Y,done,s,u5,u6,hY,hb,hx,bk,hd,hl=>by
  rw[bc] at hl;obtain⟨b1,b2⟩:=hb x ai;obtain⟨d',z',s1,S',e1,G1⟩:=Ev a g ng P bk (by lia) (hY x ai) hh;have same:wy L d' z' x h=wy L d z x h:=Sol.uniq g ng (Fg g S' hh) (Fg g S hh) x;rw[same] at e1;obtain⟨w1,w2⟩:=wy_b g S x hh;obtain⟨m1,m2⟩:=Oh hn w1 w2;have t1:=Ih a s1 hn (w1.mono (by decide)) w2;have t2:=NF a s1 (b1.mono (by decide)) (b2.mono (by decide)) m1 m2;have Qx:s1.get c0=Za (.lst done):=(G1.fr c0 hx).trans hd;have n1:=G1.nx;obtain⟨s',v5,v6,e,q1,q2,q3⟩:=Bh a g ng P S hh hn (w:=w) c0 hc u0 Y (done++[.tup [.str x,frR (w x+n*wy L d z x h)]]) (s1.set c0 (.lst (done++[.tup [.str x,frR (w x+n*wy L d z x h)]]))) (Za (.str x)) (Za (frR (w x))) (λy hy=>hY y (ae _ hy)) (λy hy=>hb y (ae _ hy)) (ay hx n1) (by rw[lS _ _ (by lia)];exact(G1.fr nb (by lia)).trans bk) (nT Qx) (by rw[aM];show done.length+1+Y.length<1000;lia);have q2:s1.nx<=s'.nx:=q2;refine⟨s',v5,v6,?_,by rw[q1,ja];rfl,by lia,λk hk=>?_⟩
  ·rw[ao];unfold nF;have bd:mU (yTup 2 (yCons (yName 5) (yCons (yName 6) yNil))) (ou a) (.tup [.str x,frR (w x)]) [Za u0,Za (.ref nb),Za (.str h),Za (.int n),Za (.ref c0),u5,u6] s=.nx [Za u0,Za (.ref nb),Za (.str h),Za (.int n),Za (.ref c0),Za (.str x),Za (frR (w x))] (s1.set c0 (.lst (done++[.tup [.str x,frR (w x+n*wy L d z x h)]]))):=by show ou a [Za u0,Za (.ref nb),Za (.str h),Za (.int n),Za (.ref c0),Za (.str x),Za (frR (w x))] s=_;unfold ou;exact vF (HC (lI rfl) hd (lJ (oQ (lJ (lI rfl) (lJ (lY (lJ (CU (lJ (lI rfl) (lJ (lY (lJ (oQ (lJ (lI rfl) (lJ rfl rfl))) (lJ (lY (lJ (lI rfl) (lJ (lI rfl) (lJ (lI rfl) rfl))) rfl e1) rfl)) rfl t1) rfl))) rfl) rfl t2) rfl))) rfl) Qx (by lia))
   rw[bd];exact e
  ·rw[q3 k hk,lS _ _ (by lia)];exact G1.fr k (by lia)
def F3(a:Adr)(g:Gd L N c)(ng:NoG L)(P:Pp pp N)(S:Slv L d z)(hb:T.get nb=Za (.book pp L))(Qv:nb<T.nx)(hh:h∈hsL L){n:Int}(hn:Bt 20 n){w:Str->Rat}{Y:List Str}(hY:∀x∈Y,x∈srt pp++hsL L)(hw:∀x∈Y,Bt 12300 (w x).num/\Bt 4000 ((w x).den:Int))(hl:Y.length<1000):∃T',qY a [pW Y w,.ref nb,.str h,.int n] T=.ok (pW Y λx=>w x+n*wy L d z x h) T'/\Gr T T':=by
 obtain⟨s',v5,v6,e,q1,q2,q3⟩:=Bh (c:=c) a g ng P S hh hn (w:=w) T.nx Qv (pW Y w) Y [] (T.add (.lst [])) Zb Zb hY hw (bT _) (by rw[mE,Zd (by lia)];exact hb) (by rw[mE,Zc rfl]) (by simpa using hl);have q2:T.nx+1<=s'.nx:=q2;refine⟨s'.del T.nx,mC ?_,⟨by show T.nx<=s'.nx;lia,λk hk=>?_⟩⟩
 ·unfold xM;refine lT (mf (v:=.ref T.nx) (s':=T.add (.lst [])) rfl) ?_;refine lT (rA (l:=Y.map λx=>.tup [.str x,frR (w x)]) (s1:=T.add (.lst [])) (nc (lI rfl)) e) (nr ?_);unfold xFrz;rw[lI (i:=4) (v:=.ref T.nx) rfl];show frz1 (.ref T.nx) s'=_;unfold frz1;simp only[q1];rfl
 ·have:(s'.del T.nx).get k=s'.get k:=uh (by lia);rw[this,q3 k hk,mE,Zd (by lia)]
def Im{t w v:Str->Rat}(n:Rat)(s:Sol L t w)(s':Sol L (λx=>if x=h then 1 else 0) v):Sol L (λx=>t x+if x=h then n else 0) (λx=>w x+n*v x):=λx=>by
 have e:mw ((hsL L).map λl=>shr L l x*(w l+n*v l))=mw ((hsL L).map λl=>shr L l x*w l+n*(shr L l x*v l)):=mJ λl _=>by grind
 show w x+n*v x=_;rw[e,ux,qd];have a1:=s x;have a2:=s' x;have a2:v x=(if x=h then 1 else 0)+_:=a2;show _=(t x+if x=h then n else 0)+_;by_cases q:x=h
 ·rw[Zc q] at a2 ⊢;grind
 ·rw[Zd q] at a2 ⊢;grind
def yU{s:Sto}{X:List Str}{w:Str->Rat}(h:∀x∈X,bi x=true):fNe (pW X w) (pW X w) s=.ok (.bl false) s:=by
 have e:PV.data s 12 (pW X w)=Za (.list (X.map λx=>.tuple [.str x,dtR (w x)])):=by unfold pW PV.data;rw[uP (k:=8) h];rfl
 show fEqN true _ _ _=_;unfold fEqN;rw[e];show Out.ok (PV.bl !(bu (.list _) (.list _))) s=_;rw[bu,pY λx=>CY x (w x)];rfl
def IR{s:Sto}{X Y:List Str}{w v:Str->Rat}(h:∀x∈X,bi x=true)(h':∀x∈Y,bi x=true):fNe (.tup [pW X w,pW Y v]) (.tup [pW X w,pW Y v]) s=.ok (.bl false) s:=by
 have e:∀{X:List Str}{w:Str->Rat},(∀x∈X,bi x=true)->PV.data s 11 (pW X w)=Za (.list (X.map λx=>.tuple [.str x,dtR (w x)])):=λh=>by unfold pW PV.data;rw[uP (k:=7) h];rfl
 have e2:PV.data s 12 (.tup [pW X w,pW Y v])=Za (.tuple [.list (X.map λx=>.tuple [.str x,dtR (w x)]),.list (Y.map λx=>.tuple [.str x,dtR (v x)])]):=by unfold PV.data;simp only[vP,e h,e h',jt]
 show fEqN true _ _ _=_;unfold fEqN;rw[e2];show Out.ok (PV.bl !(bu (.tuple _) (.tuple _))) s=_;rw[bu,bY,bY,bY,bu,bu,pY λx=>CY x (w x),pY λx=>CY x (v x)];rfl
end
section
variable{T:Sto}{p nb nd:Nat}{pp N:List Str}{L:List Ent}{c:Nat}{Zj:List (Nat×Cell)}{M:List Md}
def E9(a)(h:Ls T p nb pp L Zj)(hm:(nd,.dct (M.map mdP))∈Zj)(h0:M≠[])(hl:M.length<64)(r1:Z[1]?=Za (Za (.ref p)))(r4:Z[4]?=Za (Za (.ref nd))) :
  ∃w x y,w∈M.map (·.nm)/\x2 (xB (xCons (xVar 4) xNil) ms) (xCall 2 (lV a) (xCons (xVar 1) (xCons (xB (xCons (xVar 4) xNil) fLen) xNil))) fIx Z T=.ok (.str w) (T.set p (.lst [.int x,.int y])):=by
 have g:=(h.zz _ hm).1;have l0:0<M.length:=fS.mpr h0;obtain⟨r,x,y,q0,q1,e⟩:=qN a T p (M.length:Nat) h.pu (by lia) (oi (by lia) (by lia));obtain⟨w,hw,QE⟩:=Ej (ws:=srt (M.map (·.nm))) (r:=r) q0 (by rw[(lZ _).length_eq,ac];exact q1);refine⟨w,x,y,(lZ _).mem_iff.mp hw,?_⟩;have e1:xB (xCons (xVar 4) xNil) ms Z T=.ok (.lst ((srt (M.map (·.nm))).map .str)) T:=(ym (lJ (lI r4) rfl)).trans (vt g (F7 M) (by rw[ac];exact hl));have e2:xB (xCons (xVar 4) xNil) fLen Z T=.ok (.int (M.length:Nat)) T:=(ym (lJ (lI r4) rfl)).trans (by have g:T.get nd=Za (.dct (M.map mdP)):=g;simp[fLen,lsOf,dcOf,g])
 exact(me e1 (lY (lJ (lI r1) (lJ e2 rfl)) rfl e)).trans (yi QE)
def Nf(h:Ls T p nb pp L Zj)(hm:(nd,.dct (M.map mdP))∈Zj){n:Str}{m:Md}(hv:qz (M.map mdP) (ag n)=Za (.lst [.ref m.cell,.tup [.int m.th,.int m.mr,.int m.ls]])){Z:En}(r4:Z[4]?=Za (Za (.ref nd)))(r5:Z[5]?=Za (Za (.str n))) :
  x2 (x2 (x2 (xVar 4) (xVar 5) fIx) (xC (.int 1)) fIx) (xC (.int 0)) fIx Z T=.ok (.int m.th) T:=by
 have e1:x2 (xVar 4) (xVar 5) fIx Z T=.ok (.lst [.ref m.cell,.tup [.int m.th,.int m.mr,.int m.ls]]) T:=(me (lI r4) (lI r5)).trans (Fs (h.zz _ hm).1 hv);exact(me ((me e1 rfl).trans rfl) rfl).trans rfl
end
def kE(u0:PV)(p nb nd:Nat)(P:List Str)(r:En):En:=Za u0::Za (.ref p)::Za (.ref nb)::Za (LS P)::Za (.ref nd)::r
abbrev n7:En:=[Zb,Zb,Zb,Zb,Zb,Zb,Zb]
def Ol(a)(l)(hl:l.length<=63)(hw:Att.WtOk l):∃s',AM a [.seq (l.map .int)] ⟨0,[]⟩=.ok (.bl true) s':=by
 obtain⟨x0,y0,e0⟩:=Iz a ⟨0,[]⟩ l hl hw;have hP:IsPurse ((⟨0,[]⟩:Sto).add (.lst [.int x0,.int y0])) 0:=⟨x0,y0,rfl⟩;have nx1:((⟨0,[]⟩:Sto).add (.lst [.int x0,.int y0])).nx=1:=rfl;generalize (⟨0,[]⟩:Sto).add (.lst [.int x0,.int y0])=s1 at *;obtain⟨t,nb,nd,pp,hs,c,L,M,e1,B,hL,WN,p1,p3,h6,c28⟩:=Jy a s1 0 (by lia) hP 6 (by decide);obtain⟨G,PP⟩:=B.gd WN hL (by lia) (by lia) (by lia);generalize PV.seq (l.map .int)=u at *;have lt:=B.w.lt;have ml:M.length=L.length:=by have:=congrArg cg B.w.pr.names;simpa using this.symm
 have l8:=G.l8;have W0:Ls (t.add (.dct [])) 0 nb pp L [(nd,.dct (M.map mdP))] :=
  Ls.gr (T:=t) ⟨B.w.pu,B.w.bk,B.w.i1,lt.1,lt.2.1,λz hz=>by rw[aq.mp hz];exact⟨B.w.md,bX B.w.i2,bX B.w.i3,lt.2.2.1⟩⟩ (Gr.add _ _)
 have eD:x2 (xVar 4) xNewD AJ (kE u 0 nb nd (srt pp) n7) t=.ok (.bl (M.map mdP).isEmpty) (t.add (.dct [])):=by
  refine(me (lI rfl) (show xNewD _ t=.ok (.ref t.nx) (t.add (.dct [])) from rfl)).trans ?_;have g1:(t.add (.dct [])).get nd=Za (.dct (M.map mdP)):=(W0.zz _ ai).1;have g2:(t.add (.dct [])).get t.nx=Za (.dct []):=by rw[mE,Zc rfl]
  unfold AJ;simp only[dcOf,g1,g2]
 have Pq:∀(s':Sto)(v:PV),E6 a [Za u,Zb,Zb,Zb,Zb,Zb,Zb,Zb,Zb,Zb,Zb,Zb] ⟨0,[]⟩=.rt v s'->AM a [u] ⟨0,[]⟩=.ok v s':=λs' v h=>mC h;have head:∀(o:SO)(g:XS),g (kE u 0 nb nd (srt pp) n7) t=o->xSeq (xSet 1 (xCall 1 (oh a) (xCons (xVar 0) xNil))) (xSeq (xAsg (xCall 2 (qy a) (xCons (xVar 1) (xCons (xC (.int 6)) xNil))) (yTup 3 (yCons (yName 2) (yCons (yName 3) (yCons (yName 4) yNil))))) g) [Za u,Zb,Zb,Zb,Zb,Zb,Zb,Zb,Zb,Zb,Zb,Zb] ⟨0,[]⟩=o:=λo g h =>
  lT (mf (lY (lJ (lI rfl) rfl) rfl e0)) (lT (asg3 (lY (lJ (lI rfl) (lJ rfl rfl)) rfl e1)) h)
 by_cases hM:M=[]
 ·refine⟨t.add (.dct []),Pq _ _ ?_⟩;unfold E6;exact head _ _ (CP ((AI (s1:=t.add (.dct [])) (NY (rM (eD.trans (by rw[hM];rfl))))).trans rfl))
 have eD':x2 (xVar 4) xNewD AJ (kE u 0 nb nd (srt pp) n7) t=.ok (.bl false) (t.add (.dct [])):=eD.trans (by
  cases M with
  |nil=>exact absurd rfl hM
  |cons m M=>rfl)
 obtain⟨Gw,eG,WGw⟩:=Dp a G.ho (by lia) W0.bk;have sG:∀x∈Gw,bi x=true:=λx hx=>G.hok (WGw.sl.subset hx);have eW:xTr (x2 (xCall 1 (oA a) (xCons (xVar 2) xNil)) (xLst xNil) fNe) (kE u 0 nb nd (srt pp) n7) (t.add (.dct []))=.ok (!decide (Gw=[])) (t.add (.dct [])):=rM ((me (lY (lJ (lI rfl) rfl) rfl eG) (CU rfl)).trans (Nc (V:=[]) sG λ_ z=>nomatch z));by_cases hG:Gw=[]
 case neg =>
  refine⟨t.add (.dct []),Pq _ _ ?_⟩;unfold E6;exact head _ _ (CP ((AI (s1:=t.add (.dct [])) (EK (rM eD') (eW.trans (by rw[Zh hG];rfl)))).trans rfl))
 subst hG;have ng:=WGw.noG;generalize t.add (.dct [])=t0 at *;obtain⟨d,z,S,_⟩:=G.solve ng a;obtain⟨h,xa,ya,hh,e2⟩:=E9 a W0 ai hM (by lia) (Z:=kE u 0 nb nd (srt pp) n7) rfl rfl;have W1:=W0.pst xa ya;generalize t0.set 0 (.lst [.int xa,.int ya])=t1 at *;have Q5:h∈L.map (·.nm):=B.w.pr.names▸hh;have Rm:mv L h=true:=(pS _ _).mpr Q5;have Vu:h∈hsL L:=hsL_mem.mpr Rm;obtain⟨e,m,k,fe,hm,hv,R⟩:=B.w.pr.at_ Q5;have smh:=G.ho.sm h (G.ho.hn h Rm);obtain⟨r,xb,yb,r0,r1,e3⟩:=qN a t1 0 2001 W1.pu (by decide) (oi (by decide) (by decide));have W2:=W1.pst xb yb;generalize t1.set 0 (.lst [.int xb,.int yb])=t2 at *;have RP:Bt 20 (r-1000):=by
  unfold Bt;have:(2:Nat)^20=1048576:=by decide
  rw[this];lia
 generalize hn:r-1000=n at *;obtain⟨w,t3,e4,sw,G3⟩:=uL a G ng PP W2.bk W2.lb;have W3:=W2.gr G3;obtain⟨w2,t4,e5,TX,G4⟩:=ww a G ng PP W3.bk W3.lb;have W4:=W3.gr G4;have bw:∀v:Str->Rat,Sol L (λx=>((nZ L x:Int):Rat)) v->∀x,Bt 12300 (v x).num/\Bt 4000 ((v x).den:Int):=λv s x=>by rw[Sol.uniq G ng s (S.sol G) x];exact wv_b G S x
 have e6:AD a [.ref nb] t4=.ok (.ref t4.nx) (t4.add (.book pp L)):=by unfold AD mM;simp only[W4.bk]
 have W5:=(W4.gr (Gr.add _ (.book pp L))).more (k:=t4.nx) (c:=.book pp L) (by rw[mE,Zc rfl]) (by have:=W4.lp;lia) (by have:=W4.lb;lia) (bT _);generalize t4.add (.book pp L)=t5 at *;generalize t4.nx=tw at *;have l64:(srt pp).length<1000:=by rw[(lZ _).length_eq];lia
 obtain⟨t6,e7,G6⟩:=F3 a G ng PP S W5.bk W5.lb Vu RP (w:=w) (Y:=hsL L) (λx hx=>aH _ hx) (λx _=>bw w sw x) (by rw[oo];lia);have W6:=W5.gr G6;obtain⟨t7,e8,G7⟩:=F3 a G ng PP S W6.bk W6.lb Vu RP (w:=w2) (Y:=srt pp) (λx hx=>bU _ hx) (λx _=>bw w2 TX x) l64;have W7:=W6.gr G7;have tbm:Bt 100 m.th:=by rw[<-R.th];exact R.tb.1
 have bv:Bt 200 (m.th+n):=((tbm.add (RP.mono (by decide))).mono (by decide));have GG:=G.set (h:=h) (vy (m.th+n)) (λ_ _ _=>bv);have UW:=ng.set (h:=h) (vy (m.th+n));have e9:=AV a W7.bk Rm smh.nm (m.th+n);have W8:=W7.book (mW L h λe=>{ e with th:=m.th+n });have hs6:hsL (mW L h λe=>{ e with th:=m.th+n })=hsL L:=Cn (vy _);have thm:nZ L h=m.th:=by unfold nZ;rw[fe];exact R.th
 have due:∀v v',Sol L (λx=>((nZ L x:Int):Rat)) v->Sol (mW L h λe=>{ e with th:=m.th+n }) (λx=>((nZ (mW L h λe=>{ e with th:=m.th+n }) x:Int):Rat)) v'->∀x,v' x=v x+n*wy L d z x h:=λv v' s s' x=>by
  refine Sol.uniq (w':=λx=>v x+(n:Rat)*wy L d z x h) G ng ((Sol.set (vy _)).mp s') ?_ x;have k:=Im (n:Rat) s (Fg G S Vu);have e:(λx=>((nZ L x:Int):Rat)+if x=h then(n:Rat) else 0)=λx=>((nZ (mW L h λe=>{ e with th:=m.th+n }) x:Int):Rat):=by
   funext y
   rw[Ku _ Rm];by_cases q:y=h
   ·rw[Zc q,Zc q,q,thm,fP]
   ·rw[Zd q,Zd q,fX]
  rw[e] at k;exact k
 have hh6:mv (mW L h λe=>{ e with th:=m.th+n }) h=true:=by rw[Co (vy _)];exact Rm
 have SL:∀t w,Sol (mW (mW L h λe=>{ e with th:=m.th+n }) h λe=>{ e with th:=m.th }) t w↔Sol L t w:=λt w=>by rw[Sol.set (vy _),Sol.set (vy _)]
 have th9:∀x,nZ (mW (mW L h λe=>{ e with th:=m.th+n }) h λe=>{ e with th:=m.th }) x=nZ L x:=λx=>by
  rw[Ku _ hh6,Ku _ Rm];by_cases q:x=h
  ·rw[Zc q,q,thm]
  ·rw[Zd q,Zd q]
 generalize mW L h (λe=>{ e with th:=m.th+n })=L6 at *;generalize t7.set nb (.book pp L6)=t8 at *;obtain⟨w',t9,e10,sw',G9⟩:=uL a GG UW PP W8.bk W8.lb;have W9:=W8.gr G9;obtain⟨w2',t10,e11,UJ,G10⟩:=ww a GG UW PP W9.bk W9.lb;have W10:=W9.gr G10;rw[hs6,pH λx _=>due w w' sw sw' x] at e10;rw[pH λx _=>due w2 w2' TX UJ x] at e11;obtain⟨bt,_,_,lt2⟩:=W10.zz _ ai;obtain⟨w3,t11,e12,sw3,G11⟩:=uL a G ng PP bt lt2;have W11:=W10.gr G11;obtain⟨bt2,_,_,lt3⟩:=W11.zz _ ai;obtain⟨w4,t12,e13,sw4,G12⟩:=ww a G ng PP bt2 lt3;have Uy:=W11.gr G12;rw[pH λx _=>Sol.uniq G ng sw3 sw x] at e12;rw[pH λx _=>Sol.uniq G ng sw4 TX x] at e13;have e14:=AV a Uy.bk hh6 smh.nm m.th;have Wa:=Uy.book (mW L6 h λe=>{ e with th:=m.th });have G13:=GG.set (h:=h) (vy m.th) (λ_ _ _=>tbm.mono (by decide));have S7:=UW.set (h:=h) (vy m.th);have Vh:hsL (mW L6 h λe=>{ e with th:=m.th })=hsL L:=by rw[Cn (vy _)];exact hs6
 generalize mW L6 h (λe=>{ e with th:=m.th })=L9 at *;generalize t12.set nb (.book pp L9)=t13 at *;obtain⟨w5,t14,e15,sw5,G14⟩:=uL a G13 S7 PP Wa.bk Wa.lb;have W14:=Wa.gr G14;obtain⟨w6,t15,e16,sw6,G15⟩:=ww a G13 S7 PP W14.bk W14.lb;simp only[th9] at sw5 sw6;rw[Vh,pH λx _=>Sol.uniq G ng ((SL _ _).mp sw5) sw x] at e15;rw[pH λx _=>Sol.uniq G ng ((SL _ _).mp sw6) TX x] at e16;have okX:∀x∈hsL L,bi x=true:=λx hx=>G.hok hx;have T9:∀x∈srt pp,bi x=true:=λx hx=>HJ (G.ho.sm x (PP.sub x ((lZ _).mem_iff.mp hx)));generalize Ur:(λx=>w x+(n:Rat)*wy L d z x h)=w7 at *;generalize VL:(λx=>w2 x+(n:Rat)*wy L d z x h)=w8 at *;have hZ:((nd,.dct (M.map mdP)):Nat×Cell)∈[(tw,Cell.book pp L),(nd,.dct (M.map mdP))]:=ae _ ai;have ls:∀{X:List Str}{v:Str->Rat}{s:Sto},fList [pW X v] s=.ok (pW X v) s:=rfl;refine⟨t15,Pq _ _ ?_⟩;unfold E6;refine head _ _ ?_;refine lT ((x6 (s1:=t0) (EK (rM eD') (eW.trans (by rfl)))).trans rfl) ?_;refine lT (mf e2) ?_;refine lT (mf (JK (lY (lJ (lI rfl) (lJ rfl rfl)) rfl e3) rfl |>.trans (by rw[hn]))) ?_;refine lT (mf (lY (lJ (lI rfl) rfl) rfl e4)) ?_;refine lT (mf (lY (lJ (lI rfl) rfl) rfl e5)) ?_;refine lT (mf (oQ (lJ ((ym (lJ (lI rfl) rfl)).trans ls) (lJ ((ym (lJ (lI rfl) rfl)).trans ls) rfl)))) ?_;refine lT (mf ((qr (vs:=[]) (s2:=t4) (lI rfl) W4.bk rfl rfl).trans e6)) ?_;refine lT (mf (oQ (lJ (lY (lJ (lI rfl) (lJ (lI rfl) (lJ (lI rfl) (lJ (lI rfl) rfl)))) rfl e7) (lJ (lY (lJ (lI rfl) (lJ (lI rfl) (lJ (lI rfl) (lJ (lI rfl) rfl)))) rfl e8) rfl)))) ?_;refine lT (vF ((qr (lI rfl) W7.bk (lJ (lI rfl) (lJ (vk (Nf W7 hZ hv rfl rfl) (lI rfl)) rfl)) rfl).trans e9)) ?_;show xSeq _ _ (kE u 0 nb nd (srt pp) [Za (.str h),Za (.int n),Za (pW (hsL L) w),Za (pW (srt pp) w2),Za (.tup [pW (hsL L) w,pW (srt pp) w2]),Za (.ref tw),Za (.tup [pW (hsL L) w7,pW (srt pp) w8])]) t8=_;have x0:∀{A B:PV}{i:Nat}{Z:En}{s:Sto},Z[i]?=Za (Za (.tup [A,B]))->x2 (xVar i) (xC (.int 0)) fIx Z s=.ok A s:=λh=>(me (lI h) rfl).trans ixt0;have PF:∀{A B:PV}{i:Nat}{Z:En}{s:Sto},Z[i]?=Za (Za (.tup [A,B]))->x2 (xVar i) (xC (.int 1)) fIx Z s=.ok B s:=λh=>(me (lI h) rfl).trans ixt1;refine lT ((x6 (s1:=t10) (EK (s1:=t9) (rM ((me (lY (lJ (lI rfl) rfl) rfl e10) (x0 rfl)).trans (yU okX))) (EK (s1:=t10) (rM ((me (lY (lJ (lI rfl) rfl) rfl e11) (PF rfl)).trans (yU T9))) (rM ((me (oQ (lJ (lI rfl) (lJ (lI rfl) rfl))) (lI rfl)).trans (IR okX T9)))))).trans rfl) ?_;refine lT ((x6 (s1:=t12) (EK (s1:=t11) (rM ((me (lY (lJ (lI rfl) rfl) rfl e12) (x0 rfl)).trans (yU okX))) (rM ((me (lY (lJ (lI rfl) rfl) rfl e13) (PF rfl)).trans (yU T9))))).trans rfl) ?_;refine lT (vF ((qr (lI rfl) Uy.bk (lJ (lI rfl) (lJ (Nf Uy hZ hv rfl rfl) rfl)) rfl).trans e14)) ?_;exact nr (MJ ((me (lY (lJ (lI rfl) rfl) rfl e15) (x0 rfl)).trans (Gg okX)) ((me (lY (lJ (lI rfl) rfl) rfl e16) (PF rfl)).trans (Gg T9)))
def LX{K}{a}{H}{c}{ns}{Q}{E}(hl:ns.length<=63)(hw:Att.WtOk ns)(ht:bR K ba "rules"=Za Zb)(hO:MO H)(hS:SqL K H c (ns.map V.int))(k:∀v H',v=.bl true->Q v H'):spD K a.Book 1 (AM a) [.ref c] H Q E:=by
 obtain⟨s',e⟩:=Ol a ns hl hw;have S0:SR K a.Book H ⟨λ_=>c,λ_=>[],[]⟩ ⟨0,[]⟩:=by refine⟨gc,(by intro n hn;cases hn),(by intro q hq;cases hq),(by intro n hn;cases hn),(by intro n hn;cases hn),(by intro z hz;cases hz),λP q t=>?_⟩;obtain⟨x,hx,c',h1,h2⟩:=t;simp only[Em,aq] at hx;subst hx;unfold PySem.W.tabIn at h1;rw[ht] at h1;cases h1
 have R0:∀(l:List Int),Reps K H ⟨λ_=>c,λ_=>[],[]⟩ ⟨0,[]⟩ (l.map V.int) (l.map PV.int):=λl=>by
  induction l with
  |nil=>exact .nil
  |cons x r ih=>exact .cons .int ih
 have pu:Pur (⟨λ_=>c,λ_=>[],[]⟩:Mp) ⟨0,[]⟩ c:=⟨(by intro z;cases z),by intro n hn;cases hn⟩;have hr:Rep K H ⟨λ_=>c,λ_=>[],[]⟩ ⟨0,[]⟩ (.ref c) (.seq (ns.map .int)):=by
  refine .seq ?_ (R0 ns);rcases hS with(h|h)|h
  ·rcases hO c with z|⟨o,xs,z⟩
   ·rw[z] at h;cases h
   ·rw[z] at h;cases h
  ·exact .inl ⟨h,pu⟩
  ·exact .inr h
 refine⟨rfl,[.seq (ns.map .int)],⟨0,[]⟩,_,.cons hr .nil,S0,?_⟩;rw[e];intro u H' m' _ _ r;cases r;exact k _ _ rfl
open PyProof.Rows
structure Gw(K:aa)(C:ak):Prop where
 n:bR K ba "Ways"=Za (Za (.ref C))
 p:d8 K C cC=true
 h:eS K C=true
 o:f9 K C=true
 s:aW K (.ref C) "__setattr__"=Za (Za (.builtin "object.__setattr__"))
 m:fE K C=true
 k:cF K (.ref C)=true
 a:aW K (.ref C) "bottom"=Za Zb
 b:aW K (.ref C) "top_of"=Za Zb
def all_mk{l:gC}{w}{K}{h}{mg}{fa}(X:K.In h)(G:h.Ns ba mg)(hfa:mg "law"=Za (.ref fa)){Qz BK WY}(x0z:Gx K "OwnError")(x1z:Gx K "NoName")(x2z:Gx K "Twice")(x3z:Gx K "TooMany")(x4z:Gx K "NoHolder")(x5z:Gx K "NoHouse")(x6z:Gx K "NoLoss")(x7z:Gx K "NoShare")(Rb:bR K ba "Whole"=Za (Za (.ref Qz)))(cb:Gb K BK)(cw:Gw K WY)(c0z:Gt K "ZERO" 0 1)(c1z:Gt K "ONE" 1 1)(u0z:Gi K "LONGEST_NAME" 8)(u1z:Gi K "MOST_PERSONS" 6)(u2z:Gi K "MOST_HOUSES" 8)(z0z:Gz K "len")(z1z:Gz K "range")(z2z:Gz K "all")(z3z:Gz K "int")(z4z:Gz K "abs")(z5z:Gz K "sorted")(z6z:Gz K "tuple")(z7z:Gz K "list")(z8z:Gz K "str")(z9z:Gz K "bool")(UD:Gz K "isinstance")(UC:Gz K "ValueError")(UB:Gz K "any")(UA:Gz K "set")(Uz:Gz K "max")(Q7:Gz K "dict")(RH:Gz K "enumerate")(SG:Gz K "sum")(SF:Gz K "zip")(j0:Gf K "is_name" uN)(j1:Gf K "need_loss" tR)(j2:Gf K "common_divisor" pC)(j3:Gf K "plus" Fm)(j4:Gf K "minus" Cq)(j5:Gf K "is_above" vv)(j6:Gm K BK "__init__" "Book.__init__" uc)(j7:Gm K BK "is_house" "Book.is_house" p7)(j8:Gm K BK "is_holder" "Book.is_holder" pE)(j9:Gm K BK "need_house" "Book.need_house" oY)(j10:Gm K BK "need_holder" "Book.need_holder" oG)(j11:Gm K BK "need_new_name" "Book.need_new_name" nV)(j12:Gm K BK "person" "Book.person" rh)(j13:Gm K BK "house" "Book.house" sI)(j14:Gm K BK "sale" "Book.sale" ua)(j15:Gm K BK "persons" "Book.persons" qB)(j16:Gm K BK "houses" "Book.houses" rj)(j17:Gm K BK "of" "Book.of" xn)(j18:Gm K BK "shares" "Book.shares" pK)(j19:Gm K BK "twin" "Book.twin" tZ)(j20:Gm K BK "things" "Book.things" rg)(j21:Gf K "_law_mixed" sF)(j22:Gf K "_law_purse" sC)(j23:Gf K "_law_draw" tX)(j24:Gf K "_law_divisor" qA)(j25:Gf K "_law_made" tW)(j26:Gf K "_law_names" sD)(j27:Gf K "_law_number" rb)(j28:Gf K "_law_part" tU)(j29:Gf K "_law_sold" tT)(j30:Gf K "_law_built" sH)(j31:Gf K "lowest" zK)(j32:Gf K "cleared" xl)(j33:Gf K "solved" zI)(j34:Gf K "is_held_within" pB)(j35:Gf K "whole_group" ra)(j36:Gf K "need_no_whole_group" nI)(j37:Gf K "cut" Ky)(j38:Gf K "all_cut" xm)(j39:Gf K "owning" zJ)(j40:Gf K "agreement" tS)(j41:Gm K WY "__init__" "Ways.__init__" tY)(j42:Gm K WY "top_by" "Ways.top_by" rc)(j43:Gm K WY "all_by" "Ways.all_by" re)(j44:Gf K "own_things" sA)(j45:Gf K "worths" zH)(j46:Gf K "parts" Cp)(j47:Gf K "through" xk)(j48:Gf K "_law_sum" vw)(j49:Gf K "_law_times" sB)(j50:Gf K "_law_more" tV)(j51:Gf K "law" Kx)(zr:Gz K "rules")
  :∃(a:Adr)(fd:cz),bR K ba "rules"=Za Zb/\(∀(s:ax)(v:ah),jG s fd ⟨[v],[]⟩ [("_law_script",v)])/\∀base:bx,K.In base->base.Ns ba mg->FnOk l.prog w K mg base (CXo l.prog w) 11 fa fd ["_law_script"] (spD K a.Book 1 (AM a)):=by
 have g:=λ{x v}=>@jC _ _ _ x v X G;obtain⟨Qn,n0,e0⟩:=x0z;obtain⟨QZ,n1,e1⟩:=x1z;obtain⟨Rr,n2,e2⟩:=x2z;obtain⟨QF,n3,e3⟩:=x3z;obtain⟨Qo,n4,e4⟩:=x4z;obtain⟨QH,n5,e5⟩:=x5z;obtain⟨Q0,n6,e6⟩:=x6z;obtain⟨QG,n7,e7⟩:=x7z;obtain⟨o0,_,_,_,_,_,p0,l0⟩:=c0z;obtain⟨o1,_,_,_,_,_,p1,l1⟩:=c1z;obtain⟨t0,y0⟩:=u0z;obtain⟨t1,y1⟩:=u1z;obtain⟨t2,y2⟩:=u2z;obtain⟨f,fd,n,U⟩:=j51;cases hfa.symm.trans (g n);let a:Adr:=⟨Qn,QZ,Rr,QF,Qo,QH,Q0,QG,BK,Qz,BK,o0,o1,WY,t0,t1,t2,λ_ _=>false⟩;have T:Txt K mg a:=⟨z0z.at_ X G,z1z.at_ X G,z2z.at_ X G,z3z.at_ X G,z4z.at_ X G,z5z.at_ X G,z6z.at_ X G,z7z.at_ X G,z8z.at_ X G,z9z.at_ X G,UD.at_ X G,UC.at_ X G,UB.at_ X G,UA.at_ X G,Uz.at_ X G,g n0,g n1,g n2,g n3,g n4,g n5,g n6,g n7,g Rb,e0,e1,e2,e3,e4,e5,e6,e7,g y0,g y1,g y2,g p0,g p1,
  ⟨_,_,_,l0,rfl,rfl,(show 2<=aJ by decide),.cons ⟨_,rfl⟩ (.cons ⟨_,rfl⟩ .nil)⟩,⟨_,_,_,l1,rfl,rfl,(show 2<=aJ by decide),.cons ⟨_,rfl⟩ (.cons ⟨_,rfl⟩ .nil)⟩,⟨cb.p,cb.h,cb.o,cb.s⟩,cb.a,cb.b,cb.c,cb.d,cb.e⟩
 refine⟨a,fd,zr.z,λs v=>?_,λbase _ _=>?_⟩
 ·obtain⟨_,_,_,_,_,_,_,_,_,rfl,_,_⟩:=U.ex;exact .of_eq rfl
 have Y:Yz K mg a:=⟨T,_,X,G⟩;have WW:Wy K mg a:=⟨⟨cw.p,cw.h,cw.o,cw.s⟩,cw.a,cw.b,g cw.n,cw.m,cw.k⟩;have N:=λ{x st k ps sp}=>@Gf.fn l.prog w K mg base _ x st ps sp k X G;have M:=λ{x q st k ps sp}=>@Gm.mt l.prog w K mg base x q st BK ps sp k T.cl;have r0:=N j0 λU=>EQ U T  ;have r1:=N j1 λU=>BX U T  ;have r2:=N j2 λU=>N9 U T  ;have d2:=Fn.imp r2 (K4 (K:=K) (a:=a));have r3:=N j3 λU=>LJ U T  r2;have r4:=N j4 λU=>IK U T  r3;have r5:=N j5 λU=>IM U T  ;have k0:=j6.bk (P:=l.prog) (w:=w) (base:=base) X G cb λU=>LK U T;have r7:=M j7 λU=>De U T  ;have r8:=M j8 λU=>BY U T  r7;have r9:=M j9 λU=>Ah U T  r7;have d9:=Mt.imp r9 (yn (a:=a));have Rt:=M j10 λU=>yx U T  r8;have d10:=Mt.imp Rt (xU (a:=a));have SQ:=M j11 λU=>Dd U T  r0 r8;have So:=M j12 λU=>G8 U T  SQ;have V3:=Mt.imp So (Ey (a:=a));have TZ:=M j13 λU=>IL U T  SQ Rt r1;have V2:=Mt.imp TZ (GI (a:=a));have r14:=M j14 λU=>LH U T  r9 Rt r5 r4 r3;have V1:=Mt.imp r14 (Il (a:=a));have r15:=M j15 λU=>EO U T  ;have d15:=Mt.imp r15 (C7 (a:=a));have r16:=M j16 λU=>Hc U T  ;have TN:=Mt.imp r16 (Ez (a:=a));have r17:=M j17 λU=>ok_of U T  r9;have d17:=Mt.imp r17 (NH (a:=a));have r18:=M j18 λU=>G5 U T  r9;have d18:=Mt.imp r18 (Ex (a:=a));have r19:=M j19 λU=>LG U T  (Q7.at_ X G) k0 r16;have d19:=Mt.imp r19 (Ik (a:=a));have r20:=M j20 λU=>GZ U T  r9;have d20:=Mt.imp r20 (Ew (a:=a));have d21:sO l.prog w K mg base a:=Al Y j21  ;have d22:sM l.prog w K mg base a:=Aj Y j22  d21;have RF:nC l.prog w K mg base a:=Cd Y j23  ;have V0:qE l.prog w K mg base a:=xX Y j24  ;have Uw:oT l.prog w K mg base a:=Cc Y j25  V0;have d26:sN l.prog w K mg base a:=Ak Y j26 (RH.at_ X G) RF;have d27:rB l.prog w K mg base a:=yy Y j27  RF;have d28:ut l.prog w K mg base a:=Ca Y j28  RF Uw;have d29:ur l.prog w K mg base a:=B9 Y j29  d28 V1 Uw RF;have d30:sP l.prog w K mg base a:=Am Y j30  RF d26 k0 V3 V2 d27 d29;have d31:wF l.prog w K mg base a:=Hb Y j31  d2;have d32:xD l.prog w K mg base a:=ES Y j32 (SF.at_ X G) ;have d33:zV l.prog w K mg base a:=G2 Y j33 (RH.at_ X G) d32;have VZ:pG l.prog w K mg base a:=vL Y j34  d18;have d35:pN l.prog w K mg base a:=yw Y j35  TN VZ;have d36:nJ l.prog w K mg base a:=rS Y j36  d35;have d37:KP l.prog w K mg base a:=Oa Y j37 (Q7.at_ X G) d2;have d38:xE l.prog w K mg base a:=ET Y j38 (Q7.at_ X G) d37 TN d18;have d39:zW l.prog w K mg base a:=Ha Y j39 (SG.at_ X G) ;have d40:uq l.prog w K mg base a:=BZ Y j40  d39;have VY:pZ l.prog w K mg base a:=Ce Y WW j41 (RH.at_ X G) (SF.at_ X G) d36 TN d38 d33 d40 d15;have d42:rC l.prog w K mg base a:=yz Y WW j42 (SG.at_ X G) ;have d43:pO l.prog w K mg base a:=yA Y WW j43  d31 d42;have d44:qu l.prog w K mg base a:=Ag Y j44 (Q7.at_ X G) TN d17;have d45:zU l.prog w K mg base a:=GY Y j45  d43 TN d44 VY;have d46:CM l.prog w K mg base a:=IJ Y j46  d43 d15 d44 VY;have d47:xA l.prog w K mg base a:=EM Y j47 WW  VY d10 d9 d31;have d48:vH l.prog w K mg base a:=Df Y j48  Uw;have d49:sL l.prog w K mg base a:=Ai Y j49  Uw;have d50:uu l.prog w K mg base a:=Cb Y j50  d48 d49 d47;exact N8 T U  d22 d30 d45 d46 d19 d20 RF d50 d35
def JM(K:aa):Sp:=λvs H Q E=>∃(c:ak)(ns:List Int),vs=[.ref c]/\ns.length<=63/\Att.WtOk ns/\MO H/\SqL K H c (ns.map V.int)/\(∀v H',v=.bl true->Q v H')
def Oy{K}{a}(ht:bR K ba "rules"=Za Zb)(vs)(H)(Q)(E)(h:JM K vs H Q E):spD K a.Book 1 (AM a) vs H Q E:=by obtain⟨c,ns,rfl,hl,hw,hO,hS,k⟩:=h;exact LX hl hw ht hO hS k
def walk{l:gC}{q}{P4}{XP}{YP}{d:DefRec}{K:Params->aa}(hn:l.most=Za 63)(Tw:d.params.defaults=[])(hY:∀(w:a6)(h:bx),YP w h->(K w.params).In h)(F:∀(w:a6)(mg:Str->Option ah)(fa:ak)(h:bx),(K w.params).In h->h.Ns ba mg->mg d.name=Za (.ref fa) ->
   ∃(a:Adr)(fd:cz),bR (K w.params) ba "rules"=Za Zb/\(∀(s:ax)(u:ah),jG s fd ⟨[u],[]⟩ [("_law_script",u)])/\∀base:bx,(K w.params).In base->base.Ns ba mg->FnOk l.prog w (K w.params) mg base (CXo l.prog w) 11 fa fd ["_law_script"] (spD (K w.params) a.Book 1 (AM a))) :
  k7 q P4 XP YP l.row.toRowW d [] (λf vs=>kY f vs) :=
 L2.walk_ofW (n:=63) (k:=11) (x:="_law_script") (CX:=λw=>CXo l.prog w) (sp:=λw=>JM (K w.params)) hn (by decide) Tw ⟨rfl,by decide,by decide⟩ hY
  (λw mg fa h X G hm=>let⟨a,fd,h0,h1,h2⟩:=F w mg fa h X G hm;⟨fd,h1,λbase b1 b2=>(h2 base b1 b2).imp (Oy h0)⟩)
  (λ_ _ c ns hl hw hO hS=>⟨c,ns,rfl,hl,hw,hO,hS,λ_ _ e=>e⟩) λ_ _ _ _ _ z=>by
  obtain⟨_,_,_,_,_,_,_,_,_,_,_,_,_,z⟩:=z;exact z
end My
namespace PySem.W.Fast
noncomputable def q0:Unit:=Classical.choice ⟨()⟩
def tw3974195632459373704:=q0
def tw15738912647888487372:=q0
def tw9299465400908681227:=q0
def tw11241195335645518295:=q0
def tw5708667015682937079:=q0
def tw890473679696564145:=q0
def tw10438046715317542428:=q0
def tw10866206672769963077:=q0
def tw796514098819199988:=q0
def tw10237366449596816619:=q0
def tw13864806109224352019:=q0
def tw14999264016815010339:=q0
def tw15866148096661666956:=q0
def tw15140306257753593470:=q0
def tw8490907292467762663:=q0
def tw9251871893634304575:=q0
def tw15810828280800370197:=q0
def tw16452001376551877667:=q0
def tw4567458518911132393:=q0
def tw13338845318981406955:=q0
def tw17673644890332121739:=q0
def tw12841434601462545352:=q0
def tw9122993860449247699:=q0
def tw6217203899120682146:=q0
def tw542229676742632874:=q0
def tw1763856990717135653:=q0
def tw11528415355736480315:=q0
def tw1578150392939811511:=q0
def tw15480734253862505729:=q0
def tw13811259138098009955:=q0
def tw7883272377466390452:=q0
def tw3354073732700971122:=q0
def tw479440406679235288:=q0
def tw2719730096057021525:=q0
def tw13847543717099273300:=q0
def tw3974847541634457976:=q0
def tw9316447840814634768:=q0
def tw316577049485958669:=q0
def tw1619450743035387096:=q0
def tw7787944410035183816:=q0
def tw16268477427905098136:=q0
def tw6303300407791867376:=q0
def tw1154428290257230313:=q0
def tw9181351122643513305:=q0
def tw3854933278290258907:=q0
def tw14434819791284096746:=q0
def tw1614921349252930392:=q0
def tw17593069079766506022:=q0
def tw12535522791021617835:=q0
def tw5223113530975430775:=q0
def tw4047695192554152109:=q0
def tw16775742121346992204:=q0
def tw1093667273267710752:=q0
def tw13599570560443472550:=q0
def tw4932049487910190106:=q0
def tw15342831211752923520:=q0
def tw5440205017096281268:=q0
def tw6657905010493795526:=q0
def tw17203388550204590885:=q0
def tw11556576621282872100:=q0
def tw7397669258192250134:=q0
def tw13267449590940160916:=q0
def tw3555139330109793260:=q0
def tw11323394433754379676:=q0
def tw5597545520646324068:=q0
def tw15399796361770037561:=q0
def tw6478070471013436801:=q0
def tw15009383289110904128:=q0
def tw16863402114656897625:=q0
def tw4512371720111583226:=q0
def tw4670615509611678214:=q0
def tw16278872894808187896:=q0
def tw16948553238783977134:=q0
def tw8913256570253333464:=q0
def tw13583665326999980966:=q0
def tw14059765554883606373:=q0
def tw2871221791275488951:=q0
def tw10959275788824296198:=q0
def tw8056521380515364248:=q0
def tw8169001803287376153:=q0
def tw7539566402079417456:=q0
def tw3820064265965309086:=q0
def tw4084877745198516491:=q0
def tw9569259281262454391:=q0
def tw3127099023968512851:=q0
def tw2764280438475334198:=q0
def tw5451111688869637393:=q0
def tw1565696370572458599:=q0
def tw3502196114373182797:=q0
def tw1529120392692598366:=q0
def tw6631673272127568211:=q0
def tw6093268377006011151:=q0
def tw7638103042315000495:=q0
def tw697963990936818862:=q0
def tw13122075103748509382:=q0
def tw5927209975143761616:=q0
def tw6284309106521260291:=q0
def tw4381821640936107562:=q0
def tw11568494173106359354:=q0
def tw8772187812457808457:=q0
def tw3278495277219269315:=q0
def tw1755349564390181171:=q0
def tw16243214282866054285:=q0
def tw13189398408604931596:=q0
def tw12355721566004687494:=q0
def tw7003401522663090344:=q0
def tw9137495196954571647:=q0
def tw13177304362311008486:=q0
def tw3833211163040219979:=q0
def tw2136211177492465235:=q0
def tw8431256979380111258:=q0
def tw10643272962883727763:=q0
def tw6264919557714430789:=q0
def tw14671661348518028129:=q0
def tw15784218769792383833:=q0
def tw18021497274280535590:=q0
def tw9026661280535668980:=q0
def tw8159544012247806302:=q0
def tw16620444222256193719:=q0
def tw6501992935679832500:=q0
def tw228756871714395608:=q0
def tw3822048684292380958:=q0
def tw16758541181175180100:=q0
def tw4538461220942903595:=q0
def tw12966863316025081175:=q0
def tw12763508197866398570:=q0
def tw11979366111308237314:=q0
def tw5108719388537395722:=q0
def tw114599754201630720:=q0
def tw2277424994568575579:=q0
def tw12651502709544246926:=q0
def tw3154510927010084005:=q0
def tw12596022193041232174:=q0
def tw11365674700537513910:=q0
def tw5208652479007968520:=q0
def tw7306414400360963362:=q0
def tw1222198447355238802:=q0
def tw17275891001985954080:=q0
def tw9526402168432733567:=q0
def tw4174724017910142168:=q0
def tw14593187621082341213:=q0
def tw480940642466384600:=q0
def tw326535133759953651:=q0
def tw10347164472455911852:=q0
def tw18225536043159068477:=q0
def tw13141258957435164091:=q0
def tw610925417400510172:=q0
def tw6476434295872525224:=q0
def tw15684496171966981191:=q0
def tw17891629525061538513:=q0
def tw1338433679099436822:=q0
def tw8861684386378863762:=q0
def tw3926205225758731663:=q0
def tw16952253458699750548:=q0
def tw4007796464071985811:=q0
def tw13560768976815126614:=q0
def tw9006377812128911567:=q0
def tw9244236166180840040:=q0
def tw7455812996992647309:=q0
end PySem.W.Fast
open PySem.W
set_option maxRecDepth 100000 in
set_option maxHeartbeats 0 in
theorem PySem.Challenge.cw_wholeowners_k14_whole_one_thing_more_holds : PySem.Challenge.rw_wholeowners_k14_whole_one_thing_more.Holds := by
 w_on;o_law;k_head;(case hw=>w_witness2)
 k_fill
 refine My.walk (l:=PySem.Challenge.rw_wholeowners_k14_whole_one_thing_more) rfl rfl (λw h Y=>PySem.W.kIn_of Y) ?F
 case F =>
  intro w mg fa h KX G Tn;apply My.all_mk KX G Tn
  all_goals first
   |(apply L2.gf<;>k_is)
   |(apply L2.gm<;>k_is)
   |(apply L2.gx;(focus k_is);(focus k_exc);all_goals k_is)
   |(apply L2.gt<;>k_is)
   |(apply L2.gi;k_is)
   |(apply L2.Gz.mk;k_is)
   |(apply L2.Gb.mk<;>k_is)
   |(apply My.Gw.mk<;>k_is)
   |k_is

